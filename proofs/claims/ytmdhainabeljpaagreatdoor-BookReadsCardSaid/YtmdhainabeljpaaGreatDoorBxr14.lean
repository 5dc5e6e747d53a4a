/- Texts put together:RQ,RK,QI,QJ,UG,UH,UI,UJ,UL,TM,UM,UN,UO,UP,UQ,UR,US,UT,NA. -/
import Derived.Sort.BigQuietIn
import Derived.Shelf.Spec.SlicesInsertGrow
import Derived.ArgAppend
import Derived.Test.YtmdhainabeljpaaGreatDoorBxr13
set_option linter.unusedVariables false
set_option maxRecDepth 100000
set_option maxHeartbeats 16000000
namespace Go.Proofs.YtmdhainabeljpaaGreatDoor
abbrev jit:=@Array.getD_eq_getD_getElem?
abbrev jke:=@Array.getElem?_replicate
end Go.Proofs.YtmdhainabeljpaaGreatDoor
namespace Go.Proofs.YtmdhainabeljpaaGreatDoor
open Go.RowKit
def jhq(ops:Array Oper):Bool:=ops.all fun o=>match o.op with | .defer _=>false | _=>true
theorem jc3{ops:Array Oper}(h:jhq ops=true){i:Nat}{o:Oper}(ho:ops[i]?=some o):∀c,o.op ≠ .defer c:=by
 intro c e
 have hm:=Array.mem_of_getElem? ho
 have:=(Array.all_eq_true_iff_forall_mem.1 h) o hm
 simp[e]at this
theorem jaB{n l:Nat}{P:Program}{o:Oper}{a:Act}{w:World}{next:Act->World->Prop}{Q:Exit->Act->World->Prop}(h:∀c,o.op ≠ .defer c)
  (g:o.wpIn Fence.wide n P a w next Q):o.wpIn (Fence.wide.inRound l) n P a w next Q:=by
 refine⟨g.1,?_⟩
 have g2:=g.2
 rw[Oper.semAt_eq _ _ _ h]at g2 ⊢
 generalize (execOp a.eval o).run P w=r at g2 ⊢
 cases r with
 | ok x w'=>cases x<;>exact g2
 | halt x w'=>cases x<;>exact g2
theorem yB{n l:Nat}{P:Program}{md:Region.Mode}{ops:Array Oper}{Q:Exit->Act->World->Prop}(h:jhq ops=true):∀(fuel:Nat) (listed:Array Bool) (a:Act) (w:World),
  wpAnyIn Fence.wide n P md ops Q fuel listed a w->wpAnyIn (Fence.wide.inRound l) n P md ops Q fuel listed a w
 | 0,_,_,_,g=>g
 | fuel+1,listed,a,w,g=>by
  refine⟨g.1,fun i hi => ?_⟩
  have g2:=g.2 i hi
  unfold wpOpIn at g2 ⊢
  cases ho:ops[i]? with
  | none=>rw[ho]at g2;exact yB h fuel _ _ _ g2
  | some o =>
  rw[ho]at g2
  simp only at g2 ⊢
  split at g2
  ·rename_i hw
   rw[if_pos hw]
   exact jaB (jc3 h ho) (opIn_mono (fun a w=>yB h fuel _ a w) g2)
  rename_i hw
  rw[if_neg hw]
  exact⟨g2.1,yB h fuel _ _ _ g2.2⟩
where
 opIn_mono {n:Nat} {P:Program} {o:Oper} {a:Act} {w:World} {K K':Act->World->Prop} {Q:Exit->Act->World->Prop} (h:∀a w,K a w->K' a w) (g:o.wpIn Fence.wide n P a w K Q):o.wpIn Fence.wide n P a w K' Q:=by
  refine⟨g.1,?_⟩
  have g2:=g.2
  generalize (Oper.semAt Fence.wide.round a.eval o).run P w=r at g2 ⊢
  cases r with
  | ok x w' =>
   cases x with
   | enter f args=>exact⟨g2.1,g2.2.mono fun e w hh=>by cases e<;>first | exact h _ _ hh | exact hh⟩
   | row f args=>exact⟨g2.1,fun c cs hr=>by obtain⟨v,w',hv,hs⟩:=g2.2 c cs hr;exact⟨v,w',h _ _ hv,hs⟩⟩
   | round l f t x y=>exact⟨g2.1,g2.2.mono fun e w hh=>by cases e<;>first | exact h _ _ hh | exact hh⟩
   | value v=>exact h _ _ g2
   | skip=>exact h _ _ g2
   | defer d=>exact h _ _ g2
   | _=>exact g2
  | halt x w'=>cases x<;>exact g2
theorem jbS{n:Nat}{P:Program}{row:String}{args:Array Value}{w:World}{R:Value->World->Prop}(h:Rows P row args w R):RowsIn Fence.wide n P row args w R:=by
 intro c cs _
 obtain⟨v,w',r,s⟩:=h c cs
 exact⟨v,w',r,stepsIn_wide.2 s⟩
theorem jb0{n:Nat}{P:Program}{o:Oper}{a:Act}{w:World}{K:Act->World->Prop}{Q:Exit->Act->World->Prop}(h:∀c,o.op ≠ .defer c)(g:o.wp P a w K Q):o.wpIn Fence.wide n P a w K Q:=by
 refine⟨fun _ _=>trivial,?_⟩
 unfold Oper.wp at g
 rw[Oper.semAt_eq _ _ _ h]
 generalize (execOp a.eval o).run P w=r at g ⊢
 cases r with
 | ok x w' =>
  cases x with
  | enter f args=>exact⟨fun q=>by simp[Fence.wide]at q,callsIn_wide.2 g⟩
  | row f args=>exact⟨fun q=>by simp[Fence.wide]at q,jbS g⟩
  | round l f t x y=>exact g.elim
  | value v=>exact g
  | skip=>exact g
  | defer d=>exact g
  | _=>exact g
 | halt x w'=>cases x<;>exact g
theorem Ql{n:Nat}{P:Program}{md:Region.Mode}{ops:Array Oper}{Q:Exit->Act->World->Prop}(h:jhq ops=true)(hno:¬LetsOut Q):∀(fuel:Nat) (listed:Array Bool) (a:Act) (w:World),
  wpAny P md ops Q fuel listed a w->wpAnyIn Fence.wide n P md ops Q fuel listed a w
 | 0,_,_,_,g=>g
 | fuel+1,listed,a,w,g=>by
  refine⟨g.1,fun i hi => ?_⟩
  have g2:=g.2 i hi
  unfold wpOpIn
  unfold wpOp at g2
  cases ho:ops[i]? with
  | none=>rw[ho]at g2;exact Ql h hno fuel _ _ _ g2
  | some o =>
  rw[ho]at g2
  simp only at g2 ⊢
  split at g2
  ·rename_i hw
   rw[if_pos hw]
   exact jb0 (jc3 h ho) (Oper.wp_mono (fun a w=>Ql h hno fuel _ a w) (g2.resolve_right fun q=>hno q.2))
  rename_i hw
  rw[if_neg hw]
  exact⟨fun _ _=>trivial,Ql h hno fuel _ _ _ g2⟩
theorem Qt{n r:Nat}{P:Program}{id:Nat}{ops:Array Oper}{Q:Exit->Act->World->Prop}{a:Act}{w:World}(hd:jhq ops=true)(hno:¬LetsOut Q)(hm:P.follows .mixedOrders=true)(h:wpAny P .any ops Q ops.size (Array.replicate ops.size false) a w.drew):
  (Code.region id ops true).wpIn (Fence.wide.inRound r) n P Q a w :=
 wpIn_region_any hm (yB hd _ _ _ _ (Ql hd hno _ _ _ _ h))
end Go.Proofs.YtmdhainabeljpaaGreatDoor
namespace Go.Proofs.YtmdhainabeljpaaGreatDoor
open Go.RowKit Go.Shelf
def zN:Array Oper:=#[{dst:=some 106,op:=Op.buildSlice 38 0 #[],type:=38,pos := "ref.go:71",after:=#[],guard:=none},{dst:=some 107,op:=Op.fieldAddr 98 (Operand.tmp 9) 2,type:=0,pos := "ref.go:71",after:=#[],guard:=none},{dst:=some 108,op:=Op.load 38 (Operand.tmp 107),type:=38,pos := "ref.go:71",after:=#[{on:=1,ground:=Ground.data}],guard:=none},{dst:=some 109,op:=Op.call {callee:=Callee.builtin Builtin.append,args:=#[Operand.tmp 106,Operand.tmp 108],argTypes:=#[38,38]},type:=38,pos := "ref.go:71",after:=#[{on:=0,ground:=Ground.data},{on:=2,ground:=Ground.data}],guard:=none},{dst:=some 110,op:=Op.load 71 (Operand.tmp 13),type:=71,pos := "ref.go:71",after:=#[],guard:=none},{dst:=some 111,op:=Op.buildSlice 38 1 #[(0,Operand.tmp 110)],type:=38,pos := "ref.go:71",after:=#[{on:=4,ground:=Ground.data}],guard:=none},{dst:=some 112,op:=Op.call {callee:=Callee.builtin Builtin.append,args:=#[Operand.tmp 109,Operand.tmp 111],argTypes:=#[38,38]},type:=38,pos := "ref.go:71",after:=#[{on:=3,ground:=Ground.data},{on:=5,ground:=Ground.data},{on:=3,ground:=Ground.chain}],guard:=none},{dst:=some 113,op:=Op.fieldAddr 98 (Operand.tmp 9) 2,type:=0,pos := "ref.go:71",after:=#[{on:=0,ground:=Ground.phase},{on:=1,ground:=Ground.phase},{on:=2,ground:=Ground.phase},{on:=3,ground:=Ground.phase},{on:=4,ground:=Ground.phase},{on:=5,ground:=Ground.phase},{on:=6,ground:=Ground.phase}],guard:=none},{dst:=none,op:=Op.store 38 (Operand.tmp 113) (Operand.tmp 112),type:=0,pos := "ref.go:71",after:=#[{on:=7,ground:=Ground.data},{on:=6,ground:=Ground.data},{on:=6,ground:=Ground.chain},{on:=0,ground:=Ground.phase},{on:=1,ground:=Ground.phase},{on:=2,ground:=Ground.phase},{on:=3,ground:=Ground.phase},{on:=4,ground:=Ground.phase},{on:=5,ground:=Ground.phase},{on:=6,ground:=Ground.phase}],guard:=none}]
theorem jcS:∀b0 b1 b2 b3 b4 b5 b6 b7 b8:Bool,Region.ready .any zN #[b0,b1,b2,b3,b4,b5,b6,b7,b8]=[]->b8=true:=by decide +kernel
theorem jhG{a:Act}{i:Nat}{v:Value}(h:a.tmps[i]?=some v):a.eval (.tmp i)=v:=by
 show a.tmps.getD i undef=v
 rw[jit,h];rfl
theorem jfA{a:Act}{d:Nat}{v:Value}(hd:d<a.tmps.size)(j:Nat):(a.put (some d) v).tmps[j]?=if j=d then some v else a.tmps[j]?:=by
 show(a.tmps.setIfInBounds d v)[j]?=_
 rw[jiM]
 by_cases h:d=j
 ·subst h;simp[hd]
 rw[if_neg h,if_neg (jjB h)]
theorem zQ(a:Act)(d:Nat)(v:Value):(a.put (some d) v).tmps.size=a.tmps.size:=by show(a.tmps.setIfInBounds d v).size=_;simp
theorem Ud{o:Oper}{a:Act}{w:World}{K:Act->World->Prop}{Q:Exit->Act->World->Prop}(ho:o.op=Op.buildSlice 38 0 #[])(hK:K (a.put o.dst (.slice (some ⟨w.heap.size,0,none⟩) 0 0)) (w.alloc (.cells #[] 71))):Oper.wp Tryz.prog o a w K Q:=by
 unfold Oper.wp
 have e:(execOp a.eval o).run Tryz.prog w=.ok (.value (.slice (some ⟨w.heap.size,0,none⟩) 0 0)) (w.alloc (.cells #[] 71)):=by
  simp only[execOp,ho]
  kernel_rfl
 rw[e];exact hK
theorem Uc{o:Oper}{a:Act}{w:World}{K:Act->World->Prop}{Q:Exit->Act->World->Prop}{x:Operand}{s t:ByteArray}(ho:o.op=Op.buildSlice 38 1 #[(0,x)])(hx:a.eval x=.agg #[.string s,.string t])(hK:K (a.put o.dst (.slice (some ⟨w.heap.size,0,none⟩) 1 1)) (w.alloc (.cells #[.string s,.string t] 71))):Oper.wp Tryz.prog o a w K Q:=by
 unfold Oper.wp
 have e:(execOp a.eval o).run Tryz.prog w=.ok (.value (.slice (some ⟨w.heap.size,0,none⟩) 1 1)) (w.alloc (.cells #[.string s,.string t] 71)):=by
  simp only[execOp,ho]
  rw[show(Array.map (fun(p:Nat×Operand)=>match p with | (i,x)=>(i,a.eval x)) #[((0:Nat),x)])=#[((0:Nat),Value.agg #[.string s,.string t])] from by rw[<- hx];simp]
  kernel_rfl
 rw[e];exact hK
theorem JQ{o:Oper}{a:Act}{w:World}{K:Act->World->Prop}{Q:Exit->Act->World->Prop}{x:Operand}{b:Nat}(ho:o.op=Op.fieldAddr 98 x 2)(hx:a.eval x=.pointer (some ⟨b,0,none⟩))(hK:K (a.put o.dst (.pointer (some ⟨b,2,none⟩))) w):Oper.wp Tryz.prog o a w K Q:=by
 unfold Oper.wp
 have e:(execOp a.eval o).run Tryz.prog w=.ok (.value (.pointer (some ⟨b,2,none⟩))) w:=by
  simp only[execOp,ho,hx]
  simp[go_sem,Result.andThen]
 rw[e];exact hK
theorem Xv{o:Oper}{a:Act}{w:World}{K:Act->World->Prop}{Q:Exit->Act->World->Prop}{x:Operand}{p:Addr}{v:Value}(ho:o.op=Op.load 38 x)(hx:a.eval x=.pointer (some p))(hc:w.cell? p=some v)(hK:K (a.put o.dst v) w):Oper.wp Tryz.prog o a w K Q:=by
 unfold Oper.wp
 have e:(execOp a.eval o).run Tryz.prog w=.ok (.value v) w:=by
  simp only[execOp,ho,hx]
  simp[go_sem,Result.andThen,hc]
 rw[e];exact hK
theorem Xu{o:Oper}{a:Act}{w:World}{K:Act->World->Prop}{Q:Exit->Act->World->Prop}{x:Operand}{b:Nat}{u v:Value}(ho:o.op=Op.load 71 x)(hx:a.eval x=.pointer (some ⟨b,0,none⟩))(hc:w.cell? ⟨b,0,none⟩=some u)(hd:w.cell? ⟨b,1,none⟩=some v)(hK:K (a.put o.dst (.agg #[u,v])) w):Oper.wp Tryz.prog o a w K Q:=by
 unfold Oper.wp
 have e:(execOp a.eval o).run Tryz.prog w=.ok (.value (.agg #[u,v])) w:=by
  simp only[execOp,ho,hx]
  simp[go_sem,Result.andThen,hc,hd]
 rw[e];exact hK
theorem Vf{o:Oper}{a:Act}{w:World}{K:Act->World->Prop}{Q:Exit->Act->World->Prop}{x y:Operand}{p:Addr}{u:Value}{g:Option Addr}{n c:Nat}(ho:o.op=Op.store 38 x y)(hx:a.eval x=.pointer (some p))(hy:a.eval y=.slice g n c)(hc:w.cell? p=some u)(hf:w.frozen? p=false)(hK:K (a.put o.dst undef) (w.setCell p (.slice g n c))):Oper.wp Tryz.prog o a w K Q:=by
 unfold Oper.wp
 have e:(execOp a.eval o).run Tryz.prog w=.ok .skip (w.setCell p (.slice g n c)):=by
  simp only[execOp,ho,hx,hy]
  simp[go_sem,Result.andThen,hc,hf]
 rw[e];exact hK
def fl(l:Array Bool)(j:Nat):Bool:=l.getD j false
theorem jcG{l:Array Bool}{i:Nat}(hi:i<l.size)(j:Nat):fl (l.setIfInBounds i true) j=if j=i then true else fl l j:=by
 unfold fl
 rw[jit,jit,jiM]
 by_cases h:i=j
 ·subst h;simp[hi]
 rw[if_neg h,if_neg (jjB h)]
theorem zF{Q:Exit->Act->World->Prop}{K:Act->World->Prop}{a:Act}{w:World}{i:Nat}{o:Oper}(ho:zN[i]?=some o)(hg:o.guard=none)(h:Oper.wp Tryz.prog o a w K Q):wpOp Tryz.prog zN Q i K a w:=by
 unfold wpOp
 rw[ho]
 show(if Region.wanted o (yielded zN a.tmps)=true then _ else _)
 rw[if_pos (by simp[Region.wanted,hg])]
 exact .inl h
theorem Zv{o:Oper}{a:Act}{w:World}{K:Act->World->Prop}{Q:Exit->Act->World->Prop}{s x:Operand}{p:Addr}(ho:o.op=Op.call {callee:=Callee.builtin Builtin.append,args:=#[s,x],argTypes:=#[38,38]})(hs:a.eval s=.slice (some p) 0 0)(hx:a.eval x=.slice none 0 0)(hK:K (a.put o.dst (.slice (some p) 0 0)) w):Oper.wp Tryz.prog o a w K Q:=by
 have hb:∀ty,(Builtin.append_ #[38,38] ty #[.slice (some p) 0 0,.slice none 0 0]).run Tryz.prog w=.ok (.slice (some p) 0 0) w:=fun ty=>by kernel_rfl
 unfold Oper.wp
 simp[execOp,ho,resolve,invoke,builtin,hs,hx,hb,Result.andThen]
 exact hK
theorem xu{o:Oper}{a:Act}{w:World}{K:Act->World->Prop}{Q:Exit->Act->World->Prop}{s x:Operand}(hg:o.guard=none)(ho:o.op=Op.call {callee:=Callee.builtin Builtin.append,args:=#[s,x],argTypes:=#[38,38]})
  (v:Value) (n:Nat) (xs:List Value) (hs:a.eval s=v) (hown:w.ownsRow 0 71 2 v n xs)
  (ad:Addr) (m c:Nat) (news:List Value) (hx:a.eval x=.slice (some ad) m c) (hl:news.length=m*2) (hnews:∀j u,news[j]?=some u->w.cell? (ad.add j)=some u) (h1:∀u∈news,u.oneCell'=true)
  (hn:n+m<=1000000)
  (hK:∀v' w',w'.ownsRow 0 71 2 v' (n+m) (xs++news)->w.grownBy w' v.ownBlock->(v'.ownBlock=v.ownBlock\/v'.ownBlock=some w.heap.size)->K (a.put o.dst v') w'):Oper.wp Tryz.prog o a w K Q:=by
 obtain⟨i0,hi,hz0,hz1,hz2⟩:=info_parts Va
 have h:=qd (P:=Tryz.prog) (ops:=zN) (o:=o) (a:=a) (w:=w) (K:=K) (Q:=Q) (E:=True) hg s x 38 ho 71 i0 _ 2 32 Tryz.underlying38 hi hz0 hz1 hz2 rfl (by decide) v n xs hs hown ad m c news hx hl hnews h1 (by unfold maxLen;omega) (by omega) hK
 rwa [if_pos (by simp[Region.wanted,hg])]at h
theorem Vy{w:World}{lo n a b:Nat}{e:TypeId}{size:Nat}{v:Value}{xs:List Value}(ho:w.ownsRow 0 e size v n xs)(hbk:v.ownBlock=some a\/v.ownBlock=some b)(ha:lo<=a)(hb:lo<=b):∃g c,v=.slice (some ⟨g,0,none⟩) n c/\lo<=g/\w.ownsRow lo e size (.slice (some ⟨g,0,none⟩) n c) n xs:=by
 rcases ho.2 with ⟨rfl,_⟩|⟨g,cap,cur,rfl,h0,rest⟩
 ·rcases hbk with h|h<;>cases h
 have hg:lo<=g:=by
  rcases hbk with h|h
  ·have h2:g=a:=jh9 h
   omega
  have h2:g=b:=jh9 h
  omega
 exact⟨g,cap,rfl,hg,ho.1,.inr ⟨g,cap,cur,rfl,hg,rest⟩⟩
theorem QP(w:World)(e:TypeId)(size:Nat):(w.alloc (.cells #[] e)).ownsRow 0 e size (.slice (some ⟨w.heap.size,0,none⟩) 0 0) 0 [] :=
 ⟨by simp,.inr ⟨_,0,#[],rfl,jii _,jd.new w e #[],jh6 _,jii _,by simp,by simp⟩⟩
theorem Vw(w:World)(o:Obj):Below w.heap.size w (w.alloc o):=(jh8 _ _).alloc (jh6 _) o
theorem Un{w:World}{b:Nat}{t:TypeId}{x y:Value}(h:jd w b t #[x,y]):∀j u,[x,y][j]?=some u->w.cell? ((⟨b,0,none⟩:Addr).add j)=some u:=by
 intro j u hj
 have ea:(⟨b,0,none⟩:Addr).add j=⟨b,j,none⟩:=by unfold Addr.add;split<;>simp_all
 rw[ea,h.cell j];simpa using hj
abbrev sl(g n c:Nat):Value:=.slice (some ⟨g,0,none⟩) n c
structure Reg(a0:Act)(W3:World)(nb n:Nat)(fv:Value)(cf:List Value)(x y:ByteArray)(l:Array Bool)(a:Act)(w:World):Prop where
 dfr:a.defers=a0.defers
 sz:a.tmps.size=a0.tmps.size
 frm:∀j,(j<106\/113<j)->a.tmps[j]?=a0.tmps[j]?
 bel:fl l 8=false->Below W3.heap.size W3 w
 s0:fl l 0=true->∃B,a.tmps[106]?=some (sl B 0 0)/\(fl l 3=false->W3.heap.size<=B/\w.ownsRow 0 71 2 (sl B 0 0) 0 []/\(fl l 5=true->∀B5,a.tmps[111]?=some (sl B5 1 1)->B5≠B))
 s1:fl l 1=true->a.tmps[107]?=some (.pointer (some ⟨nb,2,none⟩))
 s2:fl l 2=true->a.tmps[108]?=some fv
 s3:fl l 3=true->fl l 0=true/\fl l 2=true/\∃g c,a.tmps[109]?=some (sl g n c)/\(fl l 6=false->w.ownsRow W3.heap.size 71 2 (sl g n c) n cf)
 s4:fl l 4=true->a.tmps[110]?=some (.agg #[.string x,.string y])
 s5:fl l 5=true->fl l 4=true/\∃B5,a.tmps[111]?=some (sl B5 1 1)/\(fl l 6=false->W3.heap.size<=B5/\jd w B5 71 #[.string x,.string y])
 s6:fl l 6=true->fl l 3=true/\fl l 5=true/\∃g c,a.tmps[112]?=some (sl g (n+1) c)/\(fl l 8=false->w.ownsRow W3.heap.size 71 2 (sl g (n+1) c) (n+1) (cf++[.string x,.string y]))
 s7:fl l 7=true->a.tmps[113]?=some (.pointer (some ⟨nb,2,none⟩))
 s8:fl l 8=true->fl l 6=true/\∃w2 g c,Below W3.heap.size W3 w2/\w2.ownsRow W3.heap.size 71 2 (sl g (n+1) c) (n+1) (cf++[.string x,.string y])/\w=w2.setCell ⟨nb,2,none⟩ (sl g (n+1) c)
theorem Xe{w:World}{lo B:Nat}(h:w.ownsRow 0 71 2 (sl B 0 0) 0 [])(hB:lo<=B):w.ownsRow lo 71 2 (sl B 0 0) 0 []:=by
 refine⟨h.1,?_⟩
 rcases h.2 with ⟨e,_⟩|⟨g,cap,cur,e,_,rest⟩
 ·cases e
 cases e
 exact .inr ⟨B,0,cur,rfl,hB,rest⟩
theorem jhA{a:Act}{d:Nat}{v:Value}(hd:d<a.tmps.size):∀j,(a.put (some d) v).tmps[j]?=if j=d then some v else a.tmps[j]?:=jfA hd
theorem Xb(a0:Act)(W3:World)(nb fb n:Nat)(fv:Value)(cf:List Value)(x y:ByteArray)(Q:Exit->Act->World->Prop)(k0 k1:Value)
  (h9:a0.tmps[9]?=some (.pointer (some ⟨nb,0,none⟩))) (h13:a0.tmps[13]?=some (.pointer (some ⟨fb,0,none⟩))) (hsz:114<=a0.tmps.size)
  (hVB:jd W3 nb 98 #[k0,k1,fv]) (hFB:jd W3 fb 71 #[.string x,.string y])
  (hrow:W3.ownsRow 0 71 2 fv n cf) (h1:∀u∈cf,u.oneCell'=true) (hn:n<=100000)
  (hQ:∀a w2 g c,a.defers=a0.defers->a.tmps.size=a0.tmps.size->(∀j,(j<106\/113<j)->a.tmps[j]?=a0.tmps[j]?)->Below W3.heap.size W3 w2->w2.ownsRow W3.heap.size 71 2 (sl g (n+1) c) (n+1) (cf++[.string x,.string y])->Q .normal a (w2.setCell ⟨nb,2,none⟩ (sl g (n+1) c))) :
  (Code.region 29 zN true).wp Tryz.prog Q a0 W3:=by
 refine Jv (by kernel_rfl) (Reg a0 W3 nb n fv cf x y) ?start ?step ?done
 case start =>
  have z:∀j,fl (Array.replicate zN.size false) j=false:=by
   intro j
   unfold fl
   rw[jit,jke]
   split<;>rfl
  exact⟨rfl,rfl,fun _ _=>rfl,fun _=>(jh8 _ _).drew,(fun h=>by rw[z]at h;cases h),(fun h=>by rw[z]at h;cases h),(fun h=>by rw[z]at h;cases h),(fun h=>by rw[z]at h;cases h),(fun h=>by rw[z]at h;cases h),(fun h=>by rw[z]at h;cases h),(fun h=>by rw[z]at h;cases h),(fun h=>by rw[z]at h;cases h),(fun h=>by rw[z]at h;cases h)⟩
 case done =>
  intro l a w I hl hr
  have h8:fl l 8=true:=by
   have hl9:l.size=9:=hl
   have e:l=#[l[0],l[1],l[2],l[3],l[4],l[5],l[6],l[7],l[8]]:=by
    apply Array.ext
    ·simp[hl9]
    intro i h1 h2
    rw[hl9]at h1
    rcases(by omega:i=0\/i=1\/i=2\/i=3\/i=4\/i=5\/i=6\/i=7\/i=8) with rfl|rfl|rfl|rfl|rfl|rfl|rfl|rfl|rfl<;>rfl
   rw[e]at hr
   have:=jcS _ _ _ _ _ _ _ _ _ hr
   unfold fl
   rw[jit,jiQ (by omega)]
   exact this
  obtain⟨_,w2,g,c,b,o,rfl⟩:=I.s8 h8
  exact hQ a w2 g c I.dfr I.sz I.frm b o
 case step =>
 intro l i o a w I hl ho hli he
 have hl9:l.size=9:=hl
 have hi:i<9:=by
  rcases jir i 9 with h|h
  ·exact h
  rw[jiI (by exact h)]at ho;cases ho
 have hil:i<l.size:=by omega
 have FL:=fun j=>jcG hil j
 have TM:=fun d v (hd:d<114)=>jhA (a:=a) (d:=d) (v:=v) (by rw[I.sz];omega)
 have hfi:fl l i=false:=by
  unfold fl
  rw[jit,jiQ hil]at hli ⊢
  exact hli
 have dep:∀e∈o.after,Region.binds .any e=true->fl l e.on=true:=he
 have ev:∀j v,a.tmps[j]?=some v->a.eval (.tmp j)=v:=fun j v h=>jhG h
 have e9:=ev 9 _ ((I.frm 9 (by omega)).trans h9)
 have e13:=ev 13 _ ((I.frm 13 (by omega)).trans h13)
 have FX:∀k,k≠i->fl (l.setIfInBounds i true) k=fl l k:=fun k h=>by rw[FL,if_neg h]
 have FI:fl (l.setIfInBounds i true) i=true:=by rw[FL,if_pos rfl]
 have TX:∀d v,d<114->∀j,j≠d->(a.put (some d) v).tmps[j]?=a.tmps[j]?:=fun d v hd j h=>by rw[TM _ _ hd,if_neg h]
 have TI:∀d v,d<114->(a.put (some d) v).tmps[d]?=some v:=fun d v hd=>by rw[TM _ _ hd,if_pos rfl]
 rcases(by omega:i=0\/i=1\/i=2\/i=3\/i=4\/i=5\/i=6\/i=7\/i=8) with rfl|rfl|rfl|rfl|rfl|rfl|rfl|rfl|rfl
 ·have ho2:some _=some o:=ho
  obtain rfl:=jh9 ho2
  have n3:fl l 3=false:=by
   cases h:fl l 3 with
   | false=>rfl
   | true=>exact absurd ((I.s3 h).1) (by rw[hfi];decide)
  have n6:fl l 6=false:=by
   cases h:fl l 6 with
   | false=>rfl
   | true=>exact absurd ((I.s3 (I.s6 h).1).1) (by rw[hfi];decide)
  have n8:fl l 8=false:=by
   cases h:fl l 8 with
   | false=>rfl
   | true=>exact absurd ((I.s3 (I.s6 (I.s8 h).1).1).1) (by rw[hfi];decide)
  have bl:=I.bel n8
  have al:=Vw w (.cells #[] 71)
  refine zF ho rfl (Ud rfl ?_)
  show Reg a0 W3 nb n fv cf x y (l.setIfInBounds 0 true) (a.put (some 106) (sl w.heap.size 0 0)) (w.alloc (.cells #[] 71))
  have f1:=FX 1 (by decide)
  have f2:=FX 2 (by decide)
  have f3:=FX 3 (by decide)
  have f4:=FX 4 (by decide)
  have f5:=FX 5 (by decide)
  have f6:=FX 6 (by decide)
  have f7:=FX 7 (by decide)
  have f8:=FX 8 (by decide)
  have t106:=TI 106 (sl w.heap.size 0 0) (by decide)
  have TV:=TX 106 (sl w.heap.size 0 0) (by decide)
  have t107:=TV 107 (by decide)
  have t108:=TV 108 (by decide)
  have t110:=TV 110 (by decide)
  have t111:=TV 111 (by decide)
  have t113:=TV 113 (by decide)
  exact⟨I.dfr,(zQ _ _ _).trans I.sz,fun j hj=>by rw[TM _ _ (by decide),if_neg (by omega)];exact I.frm j hj,(fun _=>bl.trans (al.mono bl.size)),(fun _=>⟨w.heap.size,t106,by rw[f3,f5,t111];exact fun _=>⟨bl.size,QP w _ 2,fun h5 B5 hB5=>by obtain⟨_,B6,e6,h6⟩:=I.s5 h5;rw[e6]at hB5;cases hB5;have:=(h6 n6).2.lt;omega⟩⟩),(by rw[f1,t107];exact I.s1),(by rw[f2,t108];exact I.s2),(by rw[f3,n3];exact fun h=>by cases h),(by rw[f4,t110];exact I.s4),(by rw[f5,f4,t111,f6];exact fun h=>(by obtain⟨q4,B6,e6,h6⟩:=I.s5 h;exact⟨q4,B6,e6,fun q=>⟨(h6 q).1,jb (h6 q).2 al (h6 q).2.lt⟩⟩)),(by rw[f6,n6];exact fun h=>by cases h),(by rw[f7,t113];exact I.s7),(by rw[f8,n8];exact fun h=>by cases h)⟩
 ·have ho2:some _=some o:=ho
  obtain rfl:=jh9 ho2
  refine zF ho rfl (JQ rfl e9 ?_)
  show Reg a0 W3 nb n fv cf x y (l.setIfInBounds 1 true) (a.put (some 107) (.pointer (some ⟨nb,2,none⟩))) w
  have f0:=FX 0 (by decide)
  have f2:=FX 2 (by decide)
  have f3:=FX 3 (by decide)
  have f4:=FX 4 (by decide)
  have f5:=FX 5 (by decide)
  have f6:=FX 6 (by decide)
  have f7:=FX 7 (by decide)
  have f8:=FX 8 (by decide)
  have TV:=TX 107 (.pointer (some ⟨nb,2,none⟩)) (by decide)
  have t106:=TV 106 (by decide)
  have t107:=TI 107 (.pointer (some ⟨nb,2,none⟩)) (by decide)
  have t108:=TV 108 (by decide)
  have t109:=TV 109 (by decide)
  have t110:=TV 110 (by decide)
  have t111:=TV 111 (by decide)
  have t112:=TV 112 (by decide)
  have t113:=TV 113 (by decide)
  exact⟨I.dfr,(zQ _ _ _).trans I.sz,fun j hj=>by rw[TM _ _ (by decide),if_neg (by omega)];exact I.frm j hj,(by rw[f8];exact I.bel),(by rw[f0,f3,f5,t106,t111];exact I.s0),(fun _=>t107),(by rw[f2,t108];exact I.s2),(by rw[f3,f0,f2,t109,f6];exact I.s3),(by rw[f4,t110];exact I.s4),(by rw[f5,f4,t111,f6];exact I.s5),(by rw[f6,f3,f5,t112,f8];exact I.s6),(by rw[f7,t113];exact I.s7),(by rw[f8,f6];exact I.s8)⟩
 ·have ho2:some _=some o:=ho
  obtain rfl:=jh9 ho2
  have d1:fl l 1=true:=dep ⟨1,Ground.data⟩ (by simp[zN]) rfl
  have n8:fl l 8=false:=by
   cases h:fl l 8 with
   | false=>rfl
   | true=>exact absurd ((I.s3 (I.s6 (I.s8 h).1).1).2.1) (by rw[hfi];decide)
  have bl:=I.bel n8
  refine zF ho rfl (Xv rfl (ev 107 _ (I.s1 d1)) ((bl.cell (p:=⟨nb,2,none⟩) hVB.lt).trans (hVB.cell 2)) ?_)
  show Reg a0 W3 nb n fv cf x y (l.setIfInBounds 2 true) (a.put (some 108) fv) w
  have f0:=FX 0 (by decide)
  have f1:=FX 1 (by decide)
  have f2:=FI
  have f3:=FX 3 (by decide)
  have f4:=FX 4 (by decide)
  have f5:=FX 5 (by decide)
  have f6:=FX 6 (by decide)
  have f7:=FX 7 (by decide)
  have f8:=FX 8 (by decide)
  have TV:=TX 108 fv (by decide)
  have t106:=TV 106 (by decide)
  have t107:=TV 107 (by decide)
  have t108:=TI 108 fv (by decide)
  have t109:=TV 109 (by decide)
  have t110:=TV 110 (by decide)
  have t111:=TV 111 (by decide)
  have t112:=TV 112 (by decide)
  have t113:=TV 113 (by decide)
  exact⟨I.dfr,(zQ _ _ _).trans I.sz,fun j hj=>by rw[TM _ _ (by decide),if_neg (by omega)];exact I.frm j hj,(by rw[f8];exact I.bel),(by rw[f0,f3,f5,t106,t111];exact I.s0),(by rw[f1,t107];exact I.s1),(fun _=>t108),(by rw[f3,f0,t109,f6];exact fun h=>(by obtain⟨q0,_,q⟩:=I.s3 h;exact⟨q0,f2,q⟩)),(by rw[f4,t110];exact I.s4),(by rw[f5,f4,t111,f6];exact I.s5),(by rw[f6,f3,f5,t112,f8];exact I.s6),(by rw[f7,t113];exact I.s7),(by rw[f8,f6];exact I.s8)⟩
 ·have ho2:some _=some o:=ho
  obtain rfl:=jh9 ho2
  have d0:fl l 0=true:=dep ⟨0,Ground.data⟩ (by simp[zN]) rfl
  have d2:fl l 2=true:=dep ⟨2,Ground.data⟩ (by simp[zN]) rfl
  have n6:fl l 6=false:=by
   cases h:fl l 6 with
   | false=>rfl
   | true=>exact absurd ((I.s6 h).1) (by rw[hfi];decide)
  have n8:fl l 8=false:=by
   cases h:fl l 8 with
   | false=>rfl
   | true=>exact absurd ((I.s6 (I.s8 h).1).1) (by rw[hfi];decide)
  have bl:=I.bel n8
  obtain⟨B,eB,hr⟩:=I.s0 d0
  obtain⟨q1,q2,q3⟩:=hr hfi
  have e6:=ev 106 _ eB
  have e8:=ev 108 _ (I.s2 d2)
  rcases jiY hrow with ⟨hfv,hn0⟩|⟨g,cap,hfv⟩
  ·obtain rfl:n=0:=hn0
   have hcf:cf=[]:=List.length_eq_zero_iff.1 (by have:=hrow.1;omega)
   refine zF ho rfl (Zv rfl e6 (by rw[e8,hfv]) ?_)
   show Reg a0 W3 nb 0 fv cf x y (l.setIfInBounds 3 true) (a.put (some 109) (sl B 0 0)) w
   have f0:fl (l.setIfInBounds 3 true) 0=fl l 0:=by rw[FL,if_neg (by decide)]
   have f1:fl (l.setIfInBounds 3 true) 1=fl l 1:=by rw[FL,if_neg (by decide)]
   have f2:fl (l.setIfInBounds 3 true) 2=fl l 2:=by rw[FL,if_neg (by decide)]
   have f3:fl (l.setIfInBounds 3 true) 3=true:=by rw[FL,if_pos rfl]
   have f4:fl (l.setIfInBounds 3 true) 4=fl l 4:=by rw[FL,if_neg (by decide)]
   have f5:fl (l.setIfInBounds 3 true) 5=fl l 5:=by rw[FL,if_neg (by decide)]
   have f6:fl (l.setIfInBounds 3 true) 6=fl l 6:=by rw[FL,if_neg (by decide)]
   have f7:fl (l.setIfInBounds 3 true) 7=fl l 7:=by rw[FL,if_neg (by decide)]
   have f8:fl (l.setIfInBounds 3 true) 8=fl l 8:=by rw[FL,if_neg (by decide)]
   have t106:(a.put (some 109) (sl B 0 0)).tmps[106]?=a.tmps[106]?:=by rw[TM _ _ (by decide),if_neg (by decide)]
   have t107:(a.put (some 109) (sl B 0 0)).tmps[107]?=a.tmps[107]?:=by rw[TM _ _ (by decide),if_neg (by decide)]
   have t108:(a.put (some 109) (sl B 0 0)).tmps[108]?=a.tmps[108]?:=by rw[TM _ _ (by decide),if_neg (by decide)]
   have t109:(a.put (some 109) (sl B 0 0)).tmps[109]?=some (sl B 0 0):=by rw[TM _ _ (by decide),if_pos rfl]
   have t110:(a.put (some 109) (sl B 0 0)).tmps[110]?=a.tmps[110]?:=by rw[TM _ _ (by decide),if_neg (by decide)]
   have t111:(a.put (some 109) (sl B 0 0)).tmps[111]?=a.tmps[111]?:=by rw[TM _ _ (by decide),if_neg (by decide)]
   have t112:(a.put (some 109) (sl B 0 0)).tmps[112]?=a.tmps[112]?:=by rw[TM _ _ (by decide),if_neg (by decide)]
   have t113:(a.put (some 109) (sl B 0 0)).tmps[113]?=a.tmps[113]?:=by rw[TM _ _ (by decide),if_neg (by decide)]
   exact⟨I.dfr,(zQ _ _ _).trans I.sz,fun j hj=>by rw[TM _ _ (by decide),if_neg (by omega)];exact I.frm j hj,(by rw[f8];exact I.bel),(by rw[f0,t106];exact fun _=>⟨B,eB,fun h=>by rw[f3]at h;cases h⟩),(by rw[f1,t107];exact I.s1),(by rw[f2,t108];exact I.s2),(fun _=>⟨by rw[f0];exact d0,by rw[f2];exact d2,B,0,t109,fun _=>by rw[hcf];exact Xe q2 q1⟩),(by rw[f4,t110];exact I.s4),(by rw[f5,f4,t111,f6];exact I.s5),(by rw[f6,n6];exact fun h=>by cases h),(by rw[f7,t113];exact I.s7),(by rw[f8,n8];exact fun h=>by cases h)⟩
  refine zF ho rfl (xu rfl rfl (sl B 0 0) 0 [] e6 q2 ⟨g,0,none⟩ n cap cf (by rw[e8,hfv]) hrow.1 ?hc h1 (by omega) ?_)
  case hc =>
   intro j u hj
   have hjl:j<n*2:=by
    rw[<- hrow.1]
    rcases jir j cf.length with q|q
    ·exact q
    rw[jis q]at hj;cases hj
   have ea:(⟨g,0,none⟩:Addr).add j=⟨g,j,none⟩:=by unfold Addr.add;split<;>simp_all
   have hr2:=hrow
   rw[hfv]at hr2
   rw[ea,bl.cell (p:=⟨g,j,none⟩) (hr2.lt g rfl).2,jin hr2 j hjl];exact hj
  intro v' w' o1 gr bk
  obtain⟨g1,c1,rfl,lo1,own1⟩:=Vy (lo:=W3.heap.size) o1 bk q1 bl.size
  rw[jiH,ji4]at own1
  rw[jiH]
  show Reg a0 W3 nb n fv cf x y (l.setIfInBounds 3 true) (a.put (some 109) (sl g1 n c1)) w'
  have f0:fl (l.setIfInBounds 3 true) 0=fl l 0:=by rw[FL,if_neg (by decide)]
  have f1:fl (l.setIfInBounds 3 true) 1=fl l 1:=by rw[FL,if_neg (by decide)]
  have f2:fl (l.setIfInBounds 3 true) 2=fl l 2:=by rw[FL,if_neg (by decide)]
  have f3:fl (l.setIfInBounds 3 true) 3=true:=by rw[FL,if_pos rfl]
  have f4:fl (l.setIfInBounds 3 true) 4=fl l 4:=by rw[FL,if_neg (by decide)]
  have f5:fl (l.setIfInBounds 3 true) 5=fl l 5:=by rw[FL,if_neg (by decide)]
  have f6:fl (l.setIfInBounds 3 true) 6=fl l 6:=by rw[FL,if_neg (by decide)]
  have f7:fl (l.setIfInBounds 3 true) 7=fl l 7:=by rw[FL,if_neg (by decide)]
  have f8:fl (l.setIfInBounds 3 true) 8=fl l 8:=by rw[FL,if_neg (by decide)]
  have t106:(a.put (some 109) (sl g1 n c1)).tmps[106]?=a.tmps[106]?:=by rw[TM _ _ (by decide),if_neg (by decide)]
  have t107:(a.put (some 109) (sl g1 n c1)).tmps[107]?=a.tmps[107]?:=by rw[TM _ _ (by decide),if_neg (by decide)]
  have t108:(a.put (some 109) (sl g1 n c1)).tmps[108]?=a.tmps[108]?:=by rw[TM _ _ (by decide),if_neg (by decide)]
  have t109:(a.put (some 109) (sl g1 n c1)).tmps[109]?=some (sl g1 n c1):=by rw[TM _ _ (by decide),if_pos rfl]
  have t110:(a.put (some 109) (sl g1 n c1)).tmps[110]?=a.tmps[110]?:=by rw[TM _ _ (by decide),if_neg (by decide)]
  have t111:(a.put (some 109) (sl g1 n c1)).tmps[111]?=a.tmps[111]?:=by rw[TM _ _ (by decide),if_neg (by decide)]
  have t112:(a.put (some 109) (sl g1 n c1)).tmps[112]?=a.tmps[112]?:=by rw[TM _ _ (by decide),if_neg (by decide)]
  have t113:(a.put (some 109) (sl g1 n c1)).tmps[113]?=a.tmps[113]?:=by rw[TM _ _ (by decide),if_neg (by decide)]
  exact⟨I.dfr,(zQ _ _ _).trans I.sz,fun j hj=>by rw[TM _ _ (by decide),if_neg (by omega)];exact I.frm j hj,(fun _=>bl.grown gr bl.size (fun k hk=>by cases hk;exact q1)),(by rw[f0,t106];exact fun _=>⟨B,eB,fun h=>by rw[f3]at h;cases h⟩),(by rw[f1,t107];exact I.s1),(by rw[f2,t108];exact I.s2),(fun _=>⟨by rw[f0];exact d0,by rw[f2];exact d2,g1,c1,t109,fun _=>own1⟩),(by rw[f4,t110];exact I.s4),(by rw[f5,f4,t111,f6];exact fun h=>(by obtain⟨q4,B6,e7,h6⟩:=I.s5 h;exact⟨q4,B6,e7,fun q=>⟨(h6 q).1,jd.grown (h6 q).2 gr (fun e=>q3 h B6 e7 (jh9 e))⟩⟩)),(by rw[f6,n6];exact fun h=>by cases h),(by rw[f7,t113];exact I.s7),(by rw[f8,n8];exact fun h=>by cases h)⟩
 ·have ho2:some _=some o:=ho
  obtain rfl:=jh9 ho2
  have n8:fl l 8=false:=by
   cases h:fl l 8 with
   | false=>rfl
   | true=>exact absurd ((I.s5 (I.s6 (I.s8 h).1).2.1).1) (by rw[hfi];decide)
  have bl:=I.bel n8
  refine zF ho rfl (Xu rfl e13 ((bl.cell (p:=⟨fb,0,none⟩) hFB.lt).trans (hFB.cell 0)) ((bl.cell (p:=⟨fb,1,none⟩) hFB.lt).trans (hFB.cell 1)) ?_)
  show Reg a0 W3 nb n fv cf x y (l.setIfInBounds 4 true) (a.put (some 110) (.agg #[.string x,.string y])) w
  have f0:=FX 0 (by decide)
  have f1:=FX 1 (by decide)
  have f2:=FX 2 (by decide)
  have f3:=FX 3 (by decide)
  have f4:=FI
  have f5:=FX 5 (by decide)
  have f6:=FX 6 (by decide)
  have f7:=FX 7 (by decide)
  have f8:=FX 8 (by decide)
  have TV:=TX 110 (.agg #[.string x,.string y]) (by decide)
  have t106:=TV 106 (by decide)
  have t107:=TV 107 (by decide)
  have t108:=TV 108 (by decide)
  have t109:=TV 109 (by decide)
  have t110:=TI 110 (.agg #[.string x,.string y]) (by decide)
  have t111:=TV 111 (by decide)
  have t112:=TV 112 (by decide)
  have t113:=TV 113 (by decide)
  exact⟨I.dfr,(zQ _ _ _).trans I.sz,fun j hj=>by rw[TM _ _ (by decide),if_neg (by omega)];exact I.frm j hj,(by rw[f8];exact I.bel),(by rw[f0,f3,f5,t106,t111];exact I.s0),(by rw[f1,t107];exact I.s1),(by rw[f2,t108];exact I.s2),(by rw[f3,f0,f2,t109,f6];exact I.s3),(fun _=>t110),(by rw[f5,t111,f6];exact fun h=>(by obtain⟨_,q⟩:=I.s5 h;exact⟨f4,q⟩)),(by rw[f6,f3,f5,t112,f8];exact I.s6),(by rw[f7,t113];exact I.s7),(by rw[f8,f6];exact I.s8)⟩
 ·have ho2:some _=some o:=ho
  obtain rfl:=jh9 ho2
  have d4:fl l 4=true:=dep ⟨4,Ground.data⟩ (by simp[zN]) rfl
  have n6:fl l 6=false:=by
   cases h:fl l 6 with
   | false=>rfl
   | true=>exact absurd ((I.s6 h).2.1) (by rw[hfi];decide)
  have n8:fl l 8=false:=by
   cases h:fl l 8 with
   | false=>rfl
   | true=>exact absurd ((I.s6 (I.s8 h).1).2.1) (by rw[hfi];decide)
  have bl:=I.bel n8
  have al:=Vw w (.cells #[.string x,.string y] 71)
  refine zF ho rfl (Uc rfl (ev 110 _ (I.s4 d4)) ?_)
  show Reg a0 W3 nb n fv cf x y (l.setIfInBounds 5 true) (a.put (some 111) (sl w.heap.size 1 1)) (w.alloc (.cells #[.string x,.string y] 71))
  have f0:=FX 0 (by decide)
  have f1:=FX 1 (by decide)
  have f2:=FX 2 (by decide)
  have f3:=FX 3 (by decide)
  have f4:=FX 4 (by decide)
  have f6:=FX 6 (by decide)
  have f7:=FX 7 (by decide)
  have f8:=FX 8 (by decide)
  have TV:=TX 111 (sl w.heap.size 1 1) (by decide)
  have t106:=TV 106 (by decide)
  have t107:=TV 107 (by decide)
  have t108:=TV 108 (by decide)
  have t109:=TV 109 (by decide)
  have t110:=TV 110 (by decide)
  have t111:=TI 111 (sl w.heap.size 1 1) (by decide)
  have t113:=TV 113 (by decide)
  exact⟨I.dfr,(zQ _ _ _).trans I.sz,fun j hj=>by rw[TM _ _ (by decide),if_neg (by omega)];exact I.frm j hj,(fun _=>bl.trans (al.mono bl.size)),(by rw[f0,f3,t106,t111];exact fun h=>(by obtain⟨B,e,hr⟩:=I.s0 h;exact⟨B,e,fun h3=>(by obtain⟨q1,q2,q3⟩:=hr h3;exact⟨q1,zu q2 al (jh6 _),fun _ B5 hB5=>by cases hB5;have:=(q2.lt B rfl).2;omega⟩)⟩)),(by rw[f1,t107];exact I.s1),(by rw[f2,t108];exact I.s2),(by rw[f3,f0,f2,t109,f6];exact fun h=>(by obtain⟨q0,q2,g,c,e,hr⟩:=I.s3 h;exact⟨q0,q2,g,c,e,fun h6=>zu (hr h6) al (jh6 _)⟩)),(by rw[f4,t110];exact I.s4),(fun _=>⟨by rw[f4];exact d4,w.heap.size,t111,fun _=>⟨bl.size,jd.new _ _ _⟩⟩),(by rw[f6,n6];exact fun h=>by cases h),(by rw[f7,t113];exact I.s7),(by rw[f8,n8];exact fun h=>by cases h)⟩
 ·have ho2:some _=some o:=ho
  obtain rfl:=jh9 ho2
  have d3:fl l 3=true:=dep ⟨3,Ground.data⟩ (by simp[zN]) rfl
  have d5:fl l 5=true:=dep ⟨5,Ground.data⟩ (by simp[zN]) rfl
  have n8:fl l 8=false:=by
   cases h:fl l 8 with
   | false=>rfl
   | true=>exact absurd ((I.s8 h).1) (by rw[hfi];decide)
  have bl:=I.bel n8
  obtain⟨d0,d2,g1,c1,e1,ho1⟩:=I.s3 d3
  have own1:=ho1 hfi
  obtain⟨d4,B5,e5,h5⟩:=I.s5 d5
  obtain⟨l5,cB5⟩:=h5 hfi
  refine zF ho rfl (xu rfl rfl (sl g1 n c1) n cf (ev 109 _ e1) (zd own1 (jii _)) ⟨B5,0,none⟩ 1 1 [.string x,.string y] (ev 111 _ e5) rfl (Un cB5) (by intro u hu;simp at hu;rcases hu with rfl | rfl<;>rfl) (by omega) ?_)
  intro v' w' o2 gr bk
  obtain⟨g2,c2,rfl,lo2,own2⟩:=Vy (lo:=W3.heap.size) o2 bk (own1.lt g1 rfl).1 bl.size
  show Reg a0 W3 nb n fv cf x y (l.setIfInBounds 6 true) (a.put (some 112) (sl g2 (n+1) c2)) w'
  have f0:=FX 0 (by decide)
  have f1:=FX 1 (by decide)
  have f2:=FX 2 (by decide)
  have f3:=FX 3 (by decide)
  have f4:=FX 4 (by decide)
  have f5:=FX 5 (by decide)
  have f6:=FI
  have f7:=FX 7 (by decide)
  have f8:=FX 8 (by decide)
  have TV:=TX 112 (sl g2 (n+1) c2) (by decide)
  have t106:=TV 106 (by decide)
  have t107:=TV 107 (by decide)
  have t108:=TV 108 (by decide)
  have t109:=TV 109 (by decide)
  have t110:=TV 110 (by decide)
  have t111:=TV 111 (by decide)
  have t112:=TI 112 (sl g2 (n+1) c2) (by decide)
  have t113:=TV 113 (by decide)
  exact⟨I.dfr,(zQ _ _ _).trans I.sz,fun j hj=>by rw[TM _ _ (by decide),if_neg (by omega)];exact I.frm j hj,(fun _=>bl.grown gr bl.size (fun k hk=>by cases hk;exact(own1.lt g1 rfl).1)),(by rw[f0,t106,f3,d3];exact fun h=>(by obtain⟨B,e,_⟩:=I.s0 h;exact⟨B,e,fun q=>by cases q⟩)),(by rw[f1,t107];exact I.s1),(by rw[f2,t108];exact I.s2),(by rw[f3,f0,f2,t109];exact fun _=>⟨d0,d2,g1,c1,e1,fun q=>by rw[f6]at q;cases q⟩),(by rw[f4,t110];exact I.s4),(by rw[f5,f4,t111];exact fun _=>⟨d4,B5,e5,fun q=>by rw[f6]at q;cases q⟩),(fun _=>⟨by rw[f3];exact d3,by rw[f5];exact d5,g2,c2,t112,fun _=>own2⟩),(by rw[f7,t113];exact I.s7),(by rw[f8,n8];exact fun h=>by cases h)⟩
 ·have ho2:some _=some o:=ho
  obtain rfl:=jh9 ho2
  refine zF ho rfl (JQ rfl e9 ?_)
  show Reg a0 W3 nb n fv cf x y (l.setIfInBounds 7 true) (a.put (some 113) (.pointer (some ⟨nb,2,none⟩))) w
  have f0:=FX 0 (by decide)
  have f1:=FX 1 (by decide)
  have f2:=FX 2 (by decide)
  have f3:=FX 3 (by decide)
  have f4:=FX 4 (by decide)
  have f5:=FX 5 (by decide)
  have f6:=FX 6 (by decide)
  have f8:=FX 8 (by decide)
  have TV:=TX 113 (.pointer (some ⟨nb,2,none⟩)) (by decide)
  have t106:=TV 106 (by decide)
  have t107:=TV 107 (by decide)
  have t108:=TV 108 (by decide)
  have t109:=TV 109 (by decide)
  have t110:=TV 110 (by decide)
  have t111:=TV 111 (by decide)
  have t112:=TV 112 (by decide)
  have t113:=TI 113 (.pointer (some ⟨nb,2,none⟩)) (by decide)
  exact⟨I.dfr,(zQ _ _ _).trans I.sz,fun j hj=>by rw[TM _ _ (by decide),if_neg (by omega)];exact I.frm j hj,(by rw[f8];exact I.bel),(by rw[f0,f3,f5,t106,t111];exact I.s0),(by rw[f1,t107];exact I.s1),(by rw[f2,t108];exact I.s2),(by rw[f3,f0,f2,t109,f6];exact I.s3),(by rw[f4,t110];exact I.s4),(by rw[f5,f4,t111,f6];exact I.s5),(by rw[f6,f3,f5,t112,f8];exact I.s6),(fun _=>t113),(by rw[f8,f6];exact I.s8)⟩
 have ho2:some _=some o:=ho
 obtain rfl:=jh9 ho2
 have d7:fl l 7=true:=dep ⟨7,Ground.data⟩ (by simp[zN]) rfl
 have d6:fl l 6=true:=dep ⟨6,Ground.data⟩ (by simp[zN]) rfl
 have bl:=I.bel hfi
 obtain⟨d3,d5,g2,c2,e2,ho2'⟩:=I.s6 d6
 have own2:=ho2' hfi
 have hv:=jb hVB bl hVB.lt
 refine zF ho rfl (Vf rfl (ev 113 _ (I.s7 d7)) (ev 112 _ e2) (hv.cell 2) (hv.frozen 2) ?_)
 show Reg a0 W3 nb n fv cf x y (l.setIfInBounds 8 true) a (w.setCell ⟨nb,2,none⟩ (sl g2 (n+1) c2))
 have f0:=FX 0 (by decide)
 have f1:=FX 1 (by decide)
 have f2:=FX 2 (by decide)
 have f3:=FX 3 (by decide)
 have f4:=FX 4 (by decide)
 have f5:=FX 5 (by decide)
 have f6:=FX 6 (by decide)
 have f7:=FX 7 (by decide)
 have f8:=FI
 exact⟨I.dfr,I.sz,I.frm,(by rw[f8];exact fun h=>by cases h),(by rw[f0,f3,d3];exact fun h=>(by obtain⟨B,e,_⟩:=I.s0 h;exact⟨B,e,fun q=>by cases q⟩)),(by rw[f1];exact I.s1),(by rw[f2];exact I.s2),(by rw[f3,f0,f2,f6,d6];exact fun h=>(by obtain⟨q0,q2,g,c,e,_⟩:=I.s3 h;exact⟨q0,q2,g,c,e,fun q=>by cases q⟩)),(by rw[f4];exact I.s4),(by rw[f5,f4,f6,d6];exact fun h=>(by obtain⟨q4,B6,e7,_⟩:=I.s5 h;exact⟨q4,B6,e7,fun q=>by cases q⟩)),(by rw[f6,f3,f5,f8];exact fun _=>⟨d3,d5,g2,c2,e2,fun q=>by cases q⟩),(by rw[f7];exact I.s7),(fun _=>⟨by rw[f6];exact d6,w,g2,c2,bl,own2,rfl⟩)⟩
theorem Uf(t0 t:Array Value)(hs:t.size=t0.size)(h:∀j,(j<106\/113<j)->t[j]?=t0[j]?):
  ∃x0 x1 x2 x3 x4 x5 x6 x7,t=(((((((t0.setIfInBounds 106 x0).setIfInBounds 107 x1).setIfInBounds 108 x2).setIfInBounds 109 x3).setIfInBounds 110 x4).setIfInBounds 111 x5).setIfInBounds 112 x6).setIfInBounds 113 x7:=by
 refine⟨t.getD 106 undef,t.getD 107 undef,t.getD 108 undef,t.getD 109 undef,t.getD 110 undef,t.getD 111 undef,t.getD 112 undef,t.getD 113 undef,?_⟩
 apply jjU
 intro j
 simp only[jiM,jkd]
 by_cases hj:j<106\/113<j
 ·rw[h j hj]
  rw[if_neg (by omega),if_neg (by omega),if_neg (by omega),if_neg (by omega),if_neg (by omega),if_neg (by omega),if_neg (by omega),if_neg (by omega)]
 have key:∀k:Nat,t[k]?=if k<t0.size then some (t[k]?.getD undef) else none:=by
  intro k
  rw[<- hs]
  by_cases hk:k<t.size
  ·rw[if_pos hk,jiQ hk];rfl
  rw[if_neg hk,jiI (by omega)]
 rcases(by omega:j=106\/j=107\/j=108\/j=109\/j=110\/j=111\/j=112\/j=113) with rfl|rfl|rfl|rfl|rfl|rfl|rfl|rfl<;>(simp;exact key _)
theorem region29x(a0:Act)(W3:World)(nb fb n:Nat)(fv:Value)(cf:List Value)(x y:ByteArray)(Q:Exit->Act->World->Prop)(k0 k1:Value)
  (h9:a0.tmps[9]?=some (.pointer (some ⟨nb,0,none⟩))) (h13:a0.tmps[13]?=some (.pointer (some ⟨fb,0,none⟩))) (hsz:114<=a0.tmps.size)
  (hVB:jd W3 nb 98 #[k0,k1,fv]) (hFB:jd W3 fb 71 #[.string x,.string y])
  (hrow:W3.ownsRow 0 71 2 fv n cf) (h1:∀u∈cf,u.oneCell'=true) (hn:n<=100000)
  (hQ:∀x0 x1 x2 x3 x4 x5 x6 x7 w2 g c,Below W3.heap.size W3 w2->w2.ownsRow W3.heap.size 71 2 (sl g (n+1) c) (n+1) (cf++[.string x,.string y])->Q .normal {tmps:=(((((((a0.tmps.setIfInBounds 106 x0).setIfInBounds 107 x1).setIfInBounds 108 x2).setIfInBounds 109 x3).setIfInBounds 110 x4).setIfInBounds 111 x5).setIfInBounds 112 x6).setIfInBounds 113 x7,defers:=a0.defers} (w2.setCell ⟨nb,2,none⟩ (sl g (n+1) c))) :
  (Code.region 29 zN true).wp Tryz.prog Q a0 W3:=by
 refine Xb a0 W3 nb fb n fv cf x y Q k0 k1 h9 h13 hsz hVB hFB hrow h1 hn ?_
 intro a w2 g c d1 d2 d3 b o
 have hx:=Uf a0.tmps a.tmps d2 d3
 have ha:a={tmps:=a.tmps,defers:=a0.defers}:=by rw[<- d1]
 rw[ha]
 generalize a.tmps=tm at *
 refine hx.elim fun x0 hx=>hx.elim fun x1 hx=>hx.elim fun x2 hx=>hx.elim fun x3 hx=>hx.elim fun x4 hx=>hx.elim fun x5 hx=>hx.elim fun x6 hx=>hx.elim fun x7 e => ?_
 rw[e]
 exact hQ x0 x1 x2 x3 x4 x5 x6 x7 w2 g c b o
end Go.Proofs.YtmdhainabeljpaaGreatDoor
namespace Go.Proofs.YtmdhainabeljpaaGreatDoor
open Go.RowKit Go.Shelf
attribute [local go_sem] jil
end Go.Proofs.YtmdhainabeljpaaGreatDoor
namespace Go.Proofs.YtmdhainabeljpaaGreatDoor
open Go.RowKit Go.Shelf
end Go.Proofs.YtmdhainabeljpaaGreatDoor
namespace Go.Proofs.YtmdhainabeljpaaGreatDoor
open Go.RowKit Go.Shelf Go.Lib
theorem jP{P:Program}{w:World}{ops:Array Oper}{rest:List Oper}{o:Oper}{a:Act}{Q:Exit->Act->World->Prop}(hgd:o.guard=none)(s x:Operand)(t:TypeId)
  (hop:o.op=Op.call {callee:=Callee.builtin Builtin.append,args:=#[s,x],argTypes:=#[t,t]}) (base:Nat)
  (e:TypeId) (i:TypeInfo) (z:Value) (size bytes:Nat) (ht:P.underlying t=some (.slice e)) (hi:P.info? e=some i) (hz:i.zero=some z)
  (hsize:i.size=size) (hby:i.bytes=bytes) (hzs:z.cells.size=size) (hsz:0<size)
  (v:Value) (n:Nat) (xs:List Value) (hs:a.eval s=v) (hown:w.ownsRow base e size v n xs)
  (ad:Addr) (m c:Nat) (news:List Value) (hx:a.eval x=.slice (some ad) m c) (hl:news.length=m*size) (hnews:∀j u,news[j]?=some u->w.cell? (ad.add j)=some u) (h1:∀u∈news,u.oneCell'=true)
  (h63:n+m<=maxLen) (hbytes:(n+m)*bytes<=140737488355328) (hb:base<=w.heap.size)
  (h:∀v' w',w'.ownsRow base e size v' (n+m) (xs++news)->w.grownBy w' v.ownBlock->Hid (v'.ownBlock=v.ownBlock\/v'.ownBlock=some w.heap.size)->wpList P ops Q rest (a.put o.dst v') w'):wpList P ops Q (o::rest) a w:=by
 refine wpList_plain hgd fun K hK => ?_
 obtain⟨v',w',hr,h2,h3,h4,h5⟩:=run_append_own_at (P:=P) w base t o.type e i z size bytes ht hi hz hsize hby hzs hsz v n xs hown ad m c news hl hnews h1 h63 hbytes hb
 unfold Oper.wp
 simp[execOp,hop,resolve,invoke,builtin,hs,hx,hr,Result.andThen]
 exact hK _ _ (h v' w' h2 h3 h5)
theorem xR(Z:Array Value)(k:Nat):(Builtin.zeroCells Z k).size=k*Z.size:=by simp[Builtin.zeroCells]
end Go.Proofs.YtmdhainabeljpaaGreatDoor
namespace Go.Proofs.YtmdhainabeljpaaGreatDoor
open Go.RowKit Go.Shelf
attribute [local go_sem] jil qL
end Go.Proofs.YtmdhainabeljpaaGreatDoor
namespace Go.Proofs.YtmdhainabeljpaaGreatDoor
open Go.RowKit Go.Shelf
theorem jfD{w w':World}{t:List UInt8}{e:Ending}{a n:Nat}(h:Zd w t e w')(hp:za t=.error (a,n)):Below w.heap.size w w'/\∃v,e=.returned (.tuple #[.slice none 0 0,v])/\jz w.heap.size w' v a n:=by
 obtain⟨h1,h2⟩:=h
 rw[hp]at h2
 exact⟨h1,h2⟩
theorem jdJ{w w':World}{t:List UInt8}{e:Ending}{its:List It}(h:Zd w t e w')(hp:za t=.ok its):Below w.heap.size w w'/\∃v,e=.returned (.tuple #[v,.nilIface])/\Its w' v its/\jhn w' v its:=by
 obtain⟨h1,h2⟩:=h
 rw[hp]at h2
 exact⟨h1,h2⟩
theorem Its.empty(w:World)(A:Option Addr)(cap:Nat):Its w (.slice A 0 cap) []:=⟨A,cap,rfl,jii _,fun i it h=>by simp at h⟩
end Go.Proofs.YtmdhainabeljpaaGreatDoor
namespace Go.Proofs.YtmdhainabeljpaaGreatDoor
open Go.RowKit Go.Shelf
attribute [local go_sem] jil qL
def yR(lo:Nat)(w:World)(u:Value)(a:Int)(n:Nat):Prop:=n<=11/\((u=Zy n/\a = -9)\/∃k:Nat,jz lo w u k n/\a=k/\n≠0)
theorem yR.of{lo:Nat}{w:World}{u:Value}{fs:List Fld}(h:jbn lo w u fs):yR lo w u (Jo fs) (Ju fs):=by
 unfold jbn at h
 unfold Jo
 refine⟨jc1 fs,?_⟩
 split at h
 ·rename_i hb
  rw[if_pos hb];exact .inl ⟨h,rfl⟩
 rename_i hb
 rw[if_neg hb]
 have h2:Ju fs=foldN fs:=by
  unfold jgq at hb
  unfold Ju
  rw[if_neg (fun e=>hb (.inl e)),if_neg (fun e=>hb (.inr (.inl e)))]
 refine .inr ⟨_,by rw[h2];exact h,rfl,fun e=>hb (.inr (.inr (by omega)))⟩
theorem yR.none(lo:Nat)(w:World):yR lo w .nilIface (-9) 0:=⟨by decide,.inl ⟨rfl,rfl⟩⟩
theorem yR.err(lo:Nat)(w:World)(n:Nat)(h:n<=11):yR lo w (Zy n) (-9) n:=⟨h,.inl ⟨rfl,rfl⟩⟩
theorem jgN{lo:Nat}{w:World}{u:Value}{a:Int}{n:Nat}(h:yR lo w u a n):Calls Tryz.prog 8 #[u] w fun e w'=>e=.returned (.int .i64 (n:Nat))/\w=w':=by
 obtain⟨hn,⟨rfl,rfl⟩|⟨k,hf,rfl,h0⟩⟩:=h
 ·exact jfF n (by omega) w
 exact jb3 hf h0 (by omega)
theorem jhW{lo:Nat}{w:World}{u:Value}{a:Int}{n:Nat}(h:yR lo w u a n):Calls Tryz.prog 9 #[u] w fun e w'=>e=.returned (.int .i64 a)/\w=w':=by
 obtain⟨hn,⟨rfl,rfl⟩|⟨k,hf,rfl,h0⟩⟩:=h
 ·rcases jjF n with rfl|hp
  ·rw[qL];exact jhi w
  rw[zk n hp];exact jhj _ w
 exact jeJ hf
theorem yR.below{lo:Nat}{w w':World}{u:Value}{a:Int}{n N:Nat}(h:yR lo w u a n)(hb:Below N w w')(hN:w.heap.size<=N):yR lo w' u a n:=by
 obtain⟨hn,h|⟨k,hf,h⟩⟩:=h
 ·exact⟨hn,.inl h⟩
 exact⟨hn,.inr ⟨k,hf.below hb hN,h⟩⟩
structure jhP(fs:List Fld):Prop where
 len:fs.length<=1000
 each:∀f∈fs,f.1.length<=100000/\f.2.length<=100000
theorem jx{W:World}{lo n b:Nat}{t u:TypeId}{sz:Nat}{v:Value}{xs:List Value}{cs:Array Value}(h:W.ownsRow lo t sz v n xs)(hc:jd W b u cs)(ht:t≠u):v.ownBlock≠some b:=by
 intro e
 rcases h.2 with ⟨q,_⟩|⟨g,cap,cur,q,_,hg,_⟩
 ·rw[q]at e;cases e
 rw[q]at e
 have:g=b:=jh9 e
 subst this
 have:=hg.symm.trans hc
 injection this with this
 injection this with _ h2 _
 exact ht h2
theorem zq{W:World}{lo lo' n m:Nat}{t u:TypeId}{sz sz':Nat}{v x:Value}{xs ys:List Value}(h:W.ownsRow lo t sz v n xs)(g:W.ownsRow lo' u sz' x m ys)(ht:t≠u):∀b,v.ownBlock=some b->x.ownBlock≠some b:=by
 intro b hb
 rcases h.2 with ⟨q,_⟩|⟨g',cap,cur,q,_,hg,_⟩
 ·rw[q]at hb;cases hb
 rw[q]at hb
 obtain rfl:g'=b:=jh9 hb
 exact jx g hg (fun e=>ht e.symm)
end Go.Proofs.YtmdhainabeljpaaGreatDoor
namespace Go.Proofs.YtmdhainabeljpaaGreatDoor
open Go.RowKit Go.Shelf
end Go.Proofs.YtmdhainabeljpaaGreatDoor
namespace Go.Proofs.YtmdhainabeljpaaGreatDoor
open Go.RowKit Go.Shelf
attribute [local go_sem] jil
end Go.Proofs.YtmdhainabeljpaaGreatDoor
