/- Texts put together:UG,UH,UI. -/
import Derived.Shelf.Spec.SlicesInsertGrow
import Derived.ArgAppend
import Derived.Test.YtimfhnfcmhmjcaaGreatDoorBgr10
set_option linter.unusedVariables false
set_option maxRecDepth 100000
set_option maxHeartbeats 16000000
namespace Go.Proofs.YtimfhnfcmhmjcaaGreatDoor
abbrev ji0:=@List.getElem?_take
abbrev ji1:=@Array.getElem?_eq_none
abbrev ji8:=@Array.getElem?_setIfInBounds
abbrev jju:=@Array.getD_eq_getD_getElem?
abbrev jjG:=@List.ext_getElem?
abbrev jj1:=@Array.getElem?_toList
end Go.Proofs.YtimfhnfcmhmjcaaGreatDoor
namespace Go.Proofs.YtimfhnfcmhmjcaaGreatDoor
open Go.RowKit Go.Shelf
attribute [local go_sem] jit
theorem jfp{fn:Func}{p:Tmp}(h:fn.results=#[.cell p 104])(tmps:Array Value)(w:World)(b:Nat)(cur:Array Value)(hp:tmps.getD p undef=.pointer (some ⟨b,0,none⟩))
  (hc:ja w b 104 cur) (hz:cur.size=2):(results fn tmps).run Tryz.prog w=.ok (.agg cur) w:=by
 have L:=run_loadVar_row (P:=Tryz.prog) w b 104 104 cur (0,0) _ hc Tryz.underlying104 rfl (by rw[hz];kernel_rfl)
 rw[qL h,hp]
 show(loadVar _ _).run _ _=_
 exact L
theorem Kb(p:Pr)(w:World)(h:xk w p.2 p.1.1.fields)(hn:p.1.1.fields.length<=1000000):
  Calls Tryz.prog 48 #[Xt p] w fun e w'=>∃x,e=.returned (.agg #[.int .i64 p.1.2,x])/\w'.ownsRow w.heap.size 155 2 x p.1.1.fields.length (js p.1.1.fields)/\Below w.heap.size w w':=by
 obtain⟨⟨⟨kd,raw,fs⟩,num⟩,fv⟩:=p
 dsimp only at h hn ⊢
 obtain⟨fa,fc,rfl⟩:=h.form
 unfold Xt
 dsimp only
 generalize B raw=rw_ at *
 have hb2:Below w.heap.size w ((w.alloc (.cells #[.int .i64 kd,.string rw_,.slice fa fs.length fc,.int .i64 num] 113)).alloc (.cells #[.int .i64 0,.slice none 0 0] 104)):=((jil _ w).alloc (jij _) _).alloc (by simp) _
 have BX:=jii ((ja.new w 113 #[.int .i64 kd,.string rw_,.slice fa fs.length fc,.int .i64 num]).alloc (.cells #[.int .i64 0,.slice none 0 0] 104))
 have BR:=jii (ja.new (w.alloc (.cells #[.int .i64 kd,.string rw_,.slice fa fs.length fc,.int .i64 num] 113)) 104 #[.int .i64 0,.slice none 0 0])
 go_enter Tryz.func48,Tryz.ntmps48
 go_wp2_with fail
 obtain⟨w1,hw1⟩:∃w1,w1=((w.alloc (.cells #[.int .i64 kd,.string rw_,.slice fa fs.length fc,.int .i64 num] 113)).alloc (.cells #[.int .i64 0,.slice none 0 0] 104)):=⟨_,rfl⟩
 have hz1:w1.heap.size=w.heap.size+2:=by rw[hw1];simp
 rw[<- hw1]at hb2 BX BR ⊢
 clear hw1
 have hf1:=h.below hb2 (jij _)
 have CL:=jii (fun(W:World) (hB:Below w1.heap.size w1 W)=>vB fs (.slice fa fs.length fc) W (hf1.1.below hB (jij _)) hf1.2 hn)
 rw[jiB]at BR
 have HS:=jii (show ∀W,Below w1.heap.size w1 W->(Below w1.heap.size w1 W/\W.cell? ⟨w.heap.size,2,none⟩=some (.slice fa fs.length fc)/\W.cell? ⟨w.heap.size,3,none⟩=some (.int .i64 num)/\W.cell? ⟨w.heap.size+1,0,none⟩=some (.int .i64 0)/\W.cell? ⟨w.heap.size+1,1,none⟩=some (.slice none 0 0)/\W.frozen? ⟨w.heap.size+1,0,none⟩=false/\W.frozen? ⟨w.heap.size+1,1,none⟩=false) from fun W hB =>
  have hX:=jb BX.out hB (by omega)
  have hY:=jb BR.out hB (by omega)
  ⟨hB,hX.cell 2,hX.cell 3,hY.cell 0,hY.cell 1,hY.frozen 0,hY.frozen 1⟩)
 clear h hf1
 obtain⟨_,q2,q3,r0,r1,s0,s1⟩:=HS.out w1 (jil _ _)
 have HB2:=jii hb2
 go_region_law (first | (go_simp;go_at_call 83;refine(CL.out _ (jil _ _).drew).mono ?_;rintro e w5 ⟨x,rfl,hx,hb5⟩;obtain⟨xa,xc,rfl,_⟩:=je hx;obtain⟨_,q2',q3',r0',r1',s0',s1'⟩:=HS.out w5 ((jil _ w1).drew.trans hb5)))
 all_goals go_wp2_with fail
 all_goals
  have hdz:w1.drew.heap.size=w.heap.size+2:=hz1
  have hz5:=hb5.size
  have R2:=jb BR.out ((jil _ w1).drew.trans hb5) (by omega)
  have RE:=(R2.set 0 (.int .i64 num)).set 1 (.slice xa fs.length xc)
  have e2:((#[Value.int .i64 0,Value.slice none 0 0].setIfInBounds 0 (.int .i64 num)).setIfInBounds 1 (.slice xa fs.length xc))=#[.int .i64 num,.slice xa fs.length xc]:=by simp[List.setIfInBounds_toArray,List.set]
  rw[e2]at RE
  have hne:∀k,k<w.heap.size+2->(Value.slice xa fs.length xc).ownBlock≠some k:=fun k hk e=>by
   have:=(hx.lt k e).1
   omega
  refine bodyPost_ret (jfp rfl _ _ (w.heap.size+1) _ rfl RE rfl) rfl ?_
  refine⟨_,rfl,jC (base:=w1.drew.heap.size) (jv (p:=⟨w.heap.size+1,1,none⟩) (jv (p:=⟨w.heap.size+1,0,none⟩) hx (hne (w.heap.size+1) (by omega)) _) (hne (w.heap.size+1) (by omega)) _) (by omega),?_⟩
  exact((HB2.out.drew.trans (hb5.mono (show w.heap.size<=w1.drew.heap.size by omega))).setCell (p:=⟨w.heap.size+1,0,none⟩) (by show w.heap.size<=w.heap.size+1;omega) _).setCell (p:=⟨w.heap.size+1,1,none⟩) (by show w.heap.size<=w.heap.size+1;omega) _
def XS:Array Oper:=#[{dst:=some 11,op:=Op.load 48 (Operand.tmp 3),type:=48,pos := "list.go:96",after:=#[],guard:=none},{dst:=some 12,op:=Op.load 113 (Operand.tmp 5),type:=113,pos := "list.go:96",after:=#[],guard:=none},
 {dst:=some 13,op:=Op.call {callee:=Callee.value (Operand.func 48),args:=#[Operand.tmp 12],argTypes:=#[113]},type:=104,pos := "list.go:96",after:=#[{on:=1,ground:=Ground.data}],guard:=none},
 {dst:=some 14,op:=Op.buildSlice 48 1 #[(0,Operand.tmp 13)],type:=48,pos := "list.go:96",after:=#[{on:=2,ground:=Ground.data}],guard:=none},
 {dst:=some 15,op:=Op.call {callee:=Callee.builtin Builtin.append,args:=#[Operand.tmp 11,Operand.tmp 14],argTypes:=#[48,48]},type:=48,pos := "list.go:96",after:=#[{on:=0,ground:=Ground.data},{on:=3,ground:=Ground.data},{on:=2,ground:=Ground.chain}],guard:=none},
 {dst:=none,op:=Op.store 48 (Operand.tmp 3) (Operand.tmp 15),type:=0,pos := "list.go:96",after:=#[{on:=4,ground:=Ground.data},{on:=4,ground:=Ground.chain},{on:=0,ground:=Ground.phase},{on:=1,ground:=Ground.phase},{on:=2,ground:=Ground.phase},{on:=3,ground:=Ground.phase},{on:=4,ground:=Ground.phase}],guard:=none}]
theorem jhL:∀b0 b1 b2 b3 b4 b5:Bool,Region.ready .any XS #[b0,b1,b2,b3,b4,b5]=[]->b5=true:=by decide +kernel
theorem jfJ:(Tryz.prog.info? 104).map (fun i=>(i.zero,i.size,i.bytes))=some (some (.agg #[.int .i64 0,.slice none 0 0]),2,32):=by kernel_rfl
theorem evS{a:Act}{i:Nat}{v:Value}(h:a.tmps[i]?=some v):a.eval (.tmp i)=v:=by
 show a.tmps.getD i undef=v
 rw[jju,h];rfl
theorem jh0{a:Act}{d:Nat}{v:Value}(hd:d<a.tmps.size)(j:Nat):(a.put (some d) v).tmps[j]?=if j=d then some v else a.tmps[j]?:=by
 show(a.tmps.setIfInBounds d v)[j]?=_
 rw[ji8]
 by_cases h:d=j
 ·subst h;simp[hd]
 rw[if_neg h,if_neg (jkn h)]
theorem yj(a:Act)(d:Nat)(v:Value):(a.put (some d) v).tmps.size=a.tmps.size:=by show(a.tmps.setIfInBounds d v).size=_;simp
def jf2(c:Nat)(z:Bool):Array Bool:=#[z,decide (0<c),decide (1<c),decide (2<c),decide (3<c),decide (4<c)]
def jaG(W0:World)(sb lo n:Nat)(p:Pr)(v0:Value)(xs:List Value)(a:Act)(w:World):Nat->Prop
 | 0=>Below W0.heap.size W0 w
 | 1=>Below W0.heap.size W0 w/\a.tmps[12]?=some (Xt p)
 | 2=>Below W0.heap.size W0 w/\∃x,a.tmps[13]?=some (.agg #[.int .i64 p.1.2,x])/\w.ownsRow W0.heap.size 155 2 x p.1.1.fields.length (js p.1.1.fields)
 | 3=>Below W0.heap.size W0 w/\∃x b,a.tmps[14]?=some (sl b 1 1)/\w.ownsRow W0.heap.size 155 2 x p.1.1.fields.length (js p.1.1.fields)/\W0.heap.size<=b/\ja w b 104 #[.int .i64 p.1.2,x]
 | 4=>∃x g c,a.tmps[15]?=some (sl g (n+1) c)/\w.ownsRow W0.heap.size 155 2 x p.1.1.fields.length (js p.1.1.fields)/\w.ownsRow lo 104 2 (sl g (n+1) c) (n+1) (xs++[.int .i64 p.1.2,x])/\jB (fun r=>v0.ownBlock=some r) W0 w
 | _=>∃x g c w2,w2.ownsRow W0.heap.size 155 2 x p.1.1.fields.length (js p.1.1.fields)/\w2.ownsRow lo 104 2 (sl g (n+1) c) (n+1) (xs++[.int .i64 p.1.2,x])/\jB (fun r=>v0.ownBlock=some r) W0 w2/\w=w2.setCell ⟨sb,0,none⟩ (sl g (n+1) c)
theorem jaG.below{W0:World}{sb lo n:Nat}{p:Pr}{v0:Value}{xs:List Value}{a:Act}{w:World}{c:Nat}(h:jaG W0 sb lo n p v0 xs a w c)(hc:c<=3):Below W0.heap.size W0 w:=by
 match c,h with
 | 0,h=>exact h
 | 1,h=>exact h.1
 | 2,h=>exact h.1
 | 3,h=>exact h.1
 | n+4,_=>omega
theorem jaG.put{W0:World}{sb lo n:Nat}{p:Pr}{v0:Value}{xs:List Value}{a:Act}{w:World}{c:Nat}(h:jaG W0 sb lo n p v0 xs a w c)(hs:16<=a.tmps.size)(v:Value):jaG W0 sb lo n p v0 xs (a.put (some 11) v) w c:=by
 have T:=fun j=>jh0 (a:=a) (d:=11) (v:=v) (by omega) j
 match c,h with
 | 0,h=>exact h
 | 1,h=>exact⟨h.1,by rw[T,if_neg (by decide)];exact h.2⟩
 | 2,h=>obtain⟨h1,x,h2,h3⟩:=h;exact⟨h1,x,by rw[T,if_neg (by decide)];exact h2,h3⟩
 | 3,h=>obtain⟨h1,x,b,h2,h3⟩:=h;exact⟨h1,x,b,by rw[T,if_neg (by decide)];exact h2,h3⟩
 | 4,h=>obtain⟨x,g,c,h2,h3⟩:=h;exact⟨x,g,c,by rw[T,if_neg (by decide)];exact h2,h3⟩
 | n+5,h=>exact h
structure jgp(a0:Act)(W0:World)(sb lo n:Nat)(p:Pr)(v0:Value)(xs:List Value)(l:Array Bool)(a:Act)(w:World):Prop where
 dfr:a.defers=a0.defers
 sz:a.tmps.size=a0.tmps.size
 frm:∀j,(j<11\/15<j)->a.tmps[j]?=a0.tmps[j]?
 st:∃c z,c<=5/\l=jf2 c z/\(3<c->z=true)/\(z=true->a.tmps[11]?=some v0)/\jaG W0 sb lo n p v0 xs a w c
theorem Uz{Q:Exit->Act->World->Prop}{K:Act->World->Prop}{a:Act}{w:World}{i:Nat}{o:Oper}(ho:XS[i]?=some o)(hg:o.guard=none)(h:Oper.wp Tryz.prog o a w K Q):wpOp Tryz.prog XS Q i K a w:=by
 unfold wpOp
 rw[ho]
 show(if Region.wanted o (yielded XS a.tmps)=true then _ else _)
 rw[if_pos (by simp[Region.wanted,hg])]
 exact .inl h
theorem jbu{o:Oper}{a:Act}{w:World}{K:Act->World->Prop}{Q:Exit->Act->World->Prop}{x:Operand}{p:Addr}{v:Value}(ho:o.op=Op.load 48 x)(hx:a.eval x=.pointer (some p))(hc:w.cell? p=some v)(hK:K (a.put o.dst v) w):Oper.wp Tryz.prog o a w K Q:=by
 unfold Oper.wp
 have e:(execOp a.eval o).run Tryz.prog w=.ok (.value v) w:=by
  simp only[execOp,ho,hx]
  simp[go_sem,Result.andThen,hc]
 rw[e];exact hK
theorem jbt{o:Oper}{a:Act}{w:World}{K:Act->World->Prop}{Q:Exit->Act->World->Prop}{x:Operand}{b:Nat}{u0 u1 u2 u3:Value}(ho:o.op=Op.load 113 x)(hx:a.eval x=.pointer (some ⟨b,0,none⟩))(c0:w.cell? ⟨b,0,none⟩=some u0)(c1:w.cell? ⟨b,1,none⟩=some u1)(c2:w.cell? ⟨b,2,none⟩=some u2)(c3:w.cell? ⟨b,3,none⟩=some u3)(hK:K (a.put o.dst (.agg #[u0,u1,u2,u3])) w):Oper.wp Tryz.prog o a w K Q:=by
 unfold Oper.wp
 have e:(execOp a.eval o).run Tryz.prog w=.ok (.value (.agg #[u0,u1,u2,u3])) w:=by
  simp only[execOp,ho,hx]
  simp[go_sem,Result.andThen,c0,c1,c2,c3]
 rw[e];exact hK
theorem jdz{o:Oper}{a:Act}{w:World}{K:Act->World->Prop}{Q:Exit->Act->World->Prop}{x:Operand}{u:Value}(ho:o.op=Op.call {callee:=Callee.value (Operand.func 48),args:=#[x],argTypes:=#[113]})(hx:a.eval x=u){R:Ending->World->Prop}
  (hC:Calls Tryz.prog 48 #[u] w R) (hR:∀e w',R e w'->∃v,e=.returned v/\K (a.put o.dst v) w'):Oper.wp Tryz.prog o a w K Q:=by
 unfold Oper.wp
 have e:(execOp a.eval o).run Tryz.prog w=.ok (.enter 48 #[u]) w:=by
  have hf:a.eval (.func 48)=.func (.func 48) #[] #[]:=rfl
  generalize a.eval=ρ at hx hf ⊢
  have en:∀args w,(callFunc 48 args).run Tryz.prog w=.ok (.enter 48 args) w:=enters_of (P:=Tryz.prog) Tryz.func48 (by kernel_rfl) rfl
  simp only[execOp,ho]
  simp[go_sem,resolve,invoke,hx,hf,en]
 rw[e]
 refine hC.mono ?_
 intro e w' h
 obtain⟨v,rfl,hK⟩:=hR e w' h
 exact hK
theorem jfu{o:Oper}{a:Act}{w:World}{K:Act->World->Prop}{Q:Exit->Act->World->Prop}{x:Operand}{n:Int}{fa:Option Addr}{m c:Nat}(ho:o.op=Op.buildSlice 48 1 #[(0,x)])(hx:a.eval x=.agg #[.int .i64 n,.slice fa m c])(hK:K (a.put o.dst (sl w.heap.size 1 1)) (w.alloc (.cells #[.int .i64 n,.slice fa m c] 104))):Oper.wp Tryz.prog o a w K Q:=by
 unfold Oper.wp
 have e:(execOp a.eval o).run Tryz.prog w=.ok (.value (sl w.heap.size 1 1)) (w.alloc (.cells #[.int .i64 n,.slice fa m c] 104)):=by
  simp only[execOp,ho]
  rw[show(Array.map (fun(p:Nat×Operand)=>match p with | (i,x)=>(i,a.eval x)) #[((0:Nat),x)])=#[((0:Nat),Value.agg #[.int .i64 n,.slice fa m c])] from by rw[<- hx];simp]
  kernel_rfl
 rw[e];exact hK
theorem jbs{o:Oper}{a:Act}{w:World}{K:Act->World->Prop}{Q:Exit->Act->World->Prop}{x y:Operand}{p:Addr}{u:Value}{g n c:Nat}(ho:o.op=Op.store 48 x y)(hx:a.eval x=.pointer (some p))(hy:a.eval y=sl g n c)(hc:w.cell? p=some u)(hf:w.frozen? p=false)(hK:K (a.put o.dst undef) (w.setCell p (sl g n c))):Oper.wp Tryz.prog o a w K Q:=by
 unfold Oper.wp
 have e:(execOp a.eval o).run Tryz.prog w=.ok .skip (w.setCell p (sl g n c)):=by
  simp only[execOp,ho,hx,hy]
  simp[go_sem,Result.andThen,hc,hf,sl]
 rw[e];exact hK
theorem Gr(a0:Act)(W0:World)(sb eb lo n:Nat)(p:Pr)(fa:Option Addr)(fc:Nat)(v0:Value)(xs:List Value)(Q:Exit->Act->World->Prop)
  (h3:a0.tmps[3]?=some (ptr sb)) (h5:a0.tmps[5]?=some (ptr eb)) (hsz:16<=a0.tmps.size) (hSB:Boxed W0 sb 48 v0) (hEB:ja W0 eb 113 #[.int .i64 p.1.1.kind,.string (B p.1.1.raw),p.2,.int .i64 p.1.2])
  (hfv:p.2=.slice fa p.1.1.fields.length fc) (hfr:xk W0 p.2 p.1.1.fields) (hfn:p.1.1.fields.length<=1000000) (hrow:W0.ownsRow lo 104 2 v0 n xs) (hlo:lo<=W0.heap.size) (hn:n<=1000000)
  (hQ:∀a x g c w2,a.defers=a0.defers->a.tmps.size=a0.tmps.size->(∀j,(j<11\/15<j)->a.tmps[j]?=a0.tmps[j]?)->w2.ownsRow W0.heap.size 155 2 x p.1.1.fields.length (js p.1.1.fields)->w2.ownsRow lo 104 2 (sl g (n+1) c) (n+1) (xs++[.int .i64 p.1.2,x])->jB (fun r=>v0.ownBlock=some r) W0 w2->Q .normal a (w2.setCell ⟨sb,0,none⟩ (sl g (n+1) c))) :
  wpAny Tryz.prog .any XS Q XS.size (Array.replicate XS.size false) a0 W0.drew:=by
 obtain⟨i0,hi,hz0,hz1,hz2⟩:=info_parts jfJ
 have hsb:v0.ownBlock≠some sb:=by
  intro e
  rcases hrow.2 with ⟨rfl,_⟩|⟨g,cap,cur,rfl,_,hg,_⟩
  ·cases e
  have:g=sb:=jip e
  subst this
  have:=hg.symm.trans hSB
  simp at this
 refine jaN (jgp a0 W0 sb lo n p v0 xs) ?step ?done XS.size _ a0 _ ?start (by simp) (by unfold jc0;simp)
 case start=>exact⟨rfl,rfl,fun _ _=>rfl,0,false,by decide,rfl,fun h=>absurd h (by decide),(fun h=>by cases h),(jil _ _).drew⟩
 case done =>
  rintro l a w ⟨d,s,f,c,z,hc,rfl,hz,hzv,hF⟩ hl hr
  have h5:=jhL _ _ _ _ _ _ hr
  have:c=5:=by have:=of_decide_eq_true h5;omega
  subst this
  obtain⟨x,g,c,w2,r1,r2,r3,rfl⟩:=hF
  exact hQ a x g c w2 d s f r1 r2 r3
 case step =>
 rintro l i o a w ⟨d,s,f,c,z,hc,rfl,hz,hzv,hF⟩ hl ho hli he
 have hi6:i<6:=by
  rcases jiK i 6 with h|h
  ·exact h
  rw[ji1 (by exact h)]at ho;cases ho
 have dep:∀e∈o.after,Region.binds .any e=true->(jf2 c z).getD e.on false=true:=he
 have hsa:16<=a.tmps.size:=by rw[s];exact hsz
 have T:=fun d v (hd:d<16)=>jh0 (a:=a) (d:=d) (v:=v) (by omega)
 have e3:=evS ((f 3 (by omega)).trans h3)
 have e5:=evS ((f 5 (by omega)).trans h5)
 rcases(by omega:i=0\/i=1\/i=2\/i=3\/i=4\/i=5) with rfl|rfl|rfl|rfl|rfl|rfl
 ·have ho2:some _=some o:=ho
  obtain rfl:=jip ho2
  have hz0:z=false:=hli
  subst hz0
  have hc3:c<=3:=by
   rcases jiK 3 c with h|h
   ·exact absurd (hz h) (by decide)
   exact h
  have bl:=hF.below hc3
  refine Uz ho rfl (jbu rfl e3 ((bl.cell (p:=⟨sb,0,none⟩) hSB.lt).trans hSB.cell) ?_)
  show jgp a0 W0 sb lo n p v0 xs _ (a.put (some 11) v0) w
  exact⟨d,(yj _ _ _).trans s,fun j hj=>by rw[T _ _ (by decide),if_neg (by omega)];exact f j hj,c,true,hc,rfl,fun _=>rfl,fun _=>by rw[T _ _ (by decide),if_pos rfl],hF.put hsa _⟩
 ·have ho2:some _=some o:=ho
  obtain rfl:=jip ho2
  have hc0:c=0:=by have:decide (0<c)=false:=hli;simpa using this
  subst hc0
  have bl:Below W0.heap.size W0 w:=hF
  obtain⟨b0,b1,b2,b3⟩:=jeT (hEB.below bl hEB.lt)
  refine Uz ho rfl (jbt rfl e5 b0 b1 b2 b3 ?_)
  show jgp a0 W0 sb lo n p v0 xs _ (a.put (some 12) (Xt p)) w
  exact⟨d,(yj _ _ _).trans s,fun j hj=>by rw[T _ _ (by decide),if_neg (by omega)];exact f j hj,1,z,by decide,rfl,fun h=>absurd h (by decide),fun h=>by rw[T _ _ (by decide),if_neg (by decide)];exact hzv h,bl,by rw[T _ _ (by decide),if_pos rfl]⟩
 ·have ho2:some _=some o:=ho
  obtain rfl:=jip ho2
  have hc1:c=1:=by
   have h1:decide (1<c)=false:=hli
   have h2:decide (0<c)=true:=dep ⟨1,Ground.data⟩ (by simp[XS]) rfl
   simp at h1 h2;omega
  subst hc1
  obtain⟨bl,e12⟩:=hF
  refine Uz ho rfl (jdz rfl (evS e12) (Kb p w (hfr.below bl (jij _)) hfn) ?_)
  rintro e w' ⟨x,rfl,hx,hb⟩
  refine⟨_,rfl,?_⟩
  show jgp a0 W0 sb lo n p v0 xs _ (a.put (some 13) _) w'
  refine⟨d,(yj _ _ _).trans s,fun j hj=>by rw[T _ _ (by decide),if_neg (by omega)];exact f j hj,2,z,by decide,rfl,fun h=>absurd h (by decide),fun h=>by rw[T _ _ (by decide),if_neg (by decide)];exact hzv h,bl.trans (hb.mono bl.size),x,by rw[T _ _ (by decide),if_pos rfl],jC hx bl.size⟩
 ·have ho2:some _=some o:=ho
  obtain rfl:=jip ho2
  have hc2:c=2:=by
   have h1:decide (2<c)=false:=hli
   have h2:decide (1<c)=true:=dep ⟨2,Ground.data⟩ (by simp[XS]) rfl
   simp at h1 h2;omega
  subst hc2
  obtain⟨bl,x,e13,hx⟩:=hF
  obtain⟨xa,xc,rfl,_⟩:=je hx
  refine Uz ho rfl (jfu rfl (evS e13) ?_)
  show jgp a0 W0 sb lo n p v0 xs _ (a.put (some 14) (sl w.heap.size 1 1)) _
  exact⟨d,(yj _ _ _).trans s,fun j hj=>by rw[T _ _ (by decide),if_neg (by omega)];exact f j hj,3,z,by decide,rfl,fun h=>absurd h (by decide),fun h=>by rw[T _ _ (by decide),if_neg (by decide)];exact hzv h,bl.alloc bl.size _,_,w.heap.size,by rw[T _ _ (by decide),if_pos rfl],zl hx ((jil _ _).alloc (jij _) _) (jij _),bl.size,ja.new _ _ _⟩
 ·have ho2:some _=some o:=ho
  obtain rfl:=jip ho2
  have hc3:c=3:=by
   have h1:decide (3<c)=false:=hli
   have h2:decide (2<c)=true:=dep ⟨3,Ground.data⟩ (by simp[XS]) rfl
   simp at h1 h2;omega
  subst hc3
  have hzt:z=true:=dep ⟨0,Ground.data⟩ (by simp[XS]) rfl
  subst hzt
  obtain⟨bl,x,b,e14,hx,hb,hcb⟩:=hF
  have hrw:=zn hrow bl (jij _)
  have e11:=evS (hzv rfl)
  have hone:∀u∈[Value.int .i64 p.1.2,x],u.oneCell'=true:=by
   intro u hu
   simp at hu
   rcases hu with rfl|rfl
   ·rfl
   obtain⟨xa,xc,rfl,_⟩:=je hx;rfl
  have happ:=zm (P:=Tryz.prog) (ops:=XS) (o:=_) (a:=a) (w:=w) (K:=fun a' w'=>jgp a0 W0 sb lo n p v0 xs ((jf2 3 true).setIfInBounds 4 true) a' w') (Q:=Q) (E:=True) rfl (.tmp 11) (.tmp 14) 48 (show(XS[4]'(by decide)).op=_ from rfl) 104 i0 _ 2 32 Tryz.underlying48 hi hz0 hz1 hz2 rfl (by decide) v0 n xs e11 (jC hrw (jiD _)) ⟨b,0,none⟩ 1 1 [.int .i64 p.1.2,x] (evS e14) rfl (jcB hcb) hone (by unfold maxLen;omega) (by omega) ?hK
  case hK =>
   intro v' w' ho' hg hbk
   obtain⟨g',c',rfl⟩:=ownsRow_succ ho'
   have hx':w'.ownsRow W0.heap.size 155 2 x p.1.1.fields.length (js p.1.1.fields):=by
    refine jP hx fun k hk=>hg.block k (hx.lt k hk).2 (fun e => ?_)
    have h1:=(hx.lt k hk).1
    have h2:=(hrow.lt k e.symm).2
    omega
   have hlo':w'.ownsRow lo 104 2 (.slice (some ⟨g',0,none⟩) (n+1) c') (n+1) (xs++[.int .i64 p.1.2,x]):=by
    rcases ho'.2 with ⟨q,_⟩|⟨g2,cap2,cur2,q,_,rest⟩
    ·cases q
    cases q
    refine⟨ho'.1,.inr ⟨g',c',cur2,rfl,?_,rest⟩⟩
    rcases hbk with h|h
    ·exact(hrow.lt g' h.symm).1
    have:g'=w.heap.size:=jip h
    have:=bl.size
    omega
   show jgp a0 W0 sb lo n p v0 xs _ (a.put (some 15) (sl g' (n+1) c')) _
   exact⟨d,(yj _ _ _).trans s,fun j hj=>by rw[T _ _ (by decide),if_neg (by omega)];exact f j hj,4,true,by decide,rfl,fun _=>rfl,fun _=>by rw[T _ _ (by decide),if_neg (by decide)];exact hzv rfl,x,g',c',by rw[T _ _ (by decide),if_pos rfl],hx',hlo',(jB.of_below bl (jij _)).grown hg (fun k hk=>.inl hk)⟩
  rw[if_pos (show Region.wanted XS[4] _=true from rfl)]at happ
  exact Uz ho rfl happ
 have ho2:some _=some o:=ho
 obtain rfl:=jip ho2
 have hc4:c=4:=by
  have h1:decide (4<c)=false:=hli
  have h2:decide (3<c)=true:=dep ⟨4,Ground.data⟩ (by simp[XS]) rfl
  simp at h1 h2;omega
 subst hc4
 obtain⟨x,g,c,e15,r1,r2,r3⟩:=hF
 have hbx:Boxed w sb 48 v0:=(r3.same sb hSB.lt hsb).trans hSB
 refine Uz ho rfl (jbs rfl e3 (evS e15) hbx.cell hbx.frozen ?_)
 exact⟨d,s,f,5,z,by decide,rfl,fun _=>hz (by decide),hzv,x,g,c,w,r1,r2,r3,rfl⟩
abbrev Stz:=Int×List Fld
def zR:List Stz->List Value->List Value
 | s::l,v::vs=>.int .i64 s.1::v::zR l vs
 | _,_=>[]
theorem xq:∀(l:List Stz) (vs:List Value) (s:Stz) (v:Value),vs.length=l.length->zR (l++[s]) (vs++[v])=zR l vs++[.int .i64 s.1,v]
 | [],[],s,v,_=>rfl
 | [],_::_,_,_,h=>by simp at h
 | a::l,[],s,v,h=>by simp at h
 | a::l,u::vs,s,v,h=>by
  have:=xq l vs s v (by simpa using h)
  simp only[jiz,zR,this]
theorem Zk:∀(l:List Stz) (vs:List Value) (i:Nat) (s:Stz) (v:Value),l[i]?=some s->vs[i]?=some v->(zR l vs)[i*2]?=some (.int .i64 s.1)/\(zR l vs)[i*2+1]?=some v
 | [],_,i,s,v,h,_=>by simp at h
 | a::l,[],i,s,v,_,h=>by simp at h
 | a::l,u::vs,0,s,v,h,h'=>by simp at h h';subst h h';exact⟨rfl,rfl⟩
 | a::l,u::vs,i+1,s,v,h,h'=>by
  obtain⟨x,y⟩:=Zk l vs i s v (by simpa using h) (by simpa using h')
  have e:zR (a::l) (u::vs)=.int .i64 a.1::u::zR l vs:=rfl
  rw[e,show(i+1)*2=i*2+1+1 by omega]
  exact⟨by simpa using x,by simpa using y⟩
structure Vx(lo:Nat)(w wr:World)(v:Value)(fvs:List Value)(rs:List Stz):Prop where
 row:wr.ownsRow lo 104 2 v rs.length (zR rs fvs)
 len:fvs.length=rs.length
 each:∀(j:Nat) s x,rs[j]?=some s->fvs[j]?=some x->wr.ownsRow lo 155 2 x s.2.length (js s.2)
 below:Below w.heap.size w wr
theorem Vx.start(lo:Nat)(w wr:World)(hb:Below w.heap.size w wr):Vx lo w wr (.slice none 0 0) [] []:=⟨⟨rfl,.inl ⟨rfl,rfl⟩⟩,rfl,fun j s x h=>by simp at h,hb⟩
theorem Vx.turned{lo B k:Nat}{w W W':World}{v:Value}{fvs:List Value}{rs:List Stz}(h:Vx lo w W v fvs rs)(ht:jS B k W W')(hB:w.heap.size<=B)(hlo:B+k<=lo):Vx lo w W' v fvs rs :=
 ⟨ht.row h.row (fun b e=>.inr (by have:=(h.row.lt b e).1;omega)),h.len,fun j s x h1 h2=>ht.row (h.each j s x h1 h2) (fun b e=>.inr (by have:=((h.each j s x h1 h2).lt b e).1;omega)),h.below.trans (ht.below hB h.below.size)⟩
theorem Vx.alloc{lo:Nat}{w W:World}{v:Value}{fvs:List Value}{rs:List Stz}(h:Vx lo w W v fvs rs)(o:Obj):Vx lo w (W.alloc o) v fvs rs :=
 have hb:=(jil W.heap.size W).alloc (jij _) o
 ⟨zl h.row hb (jij _),h.len,fun j s x h1 h2=>zl (h.each j s x h1 h2) hb (jij _),h.below.alloc h.below.size o⟩
theorem jgF{W:World}{lo n m:Nat}{v x:Value}{xs ys:List Value}(hv:W.ownsRow lo 104 2 v n xs)(hx:W.ownsRow lo 155 2 x m ys):∀b,x.ownBlock=some b->¬v.ownBlock=some b:=by
 intro b hb e
 rcases hx.2 with ⟨rfl,_⟩|⟨g,cap,cur,rfl,_,hc,_⟩
 ·cases hb
 cases hb
 rcases hv.2 with ⟨rfl,_⟩|⟨g',cap',cur',rfl,_,hc',_⟩
 ·cases e
 have:g'=g:=jip e
 subst this
 rw[hc]at hc'
 injection hc' with hc'
 injection hc' with _ h2 _
 exact absurd h2 (by decide)
theorem Vx.snoc{lo:Nat}{w W w2:World}{v:Value}{fvs:List Value}{rs:List Stz}{s:Stz}{x:Value}{g c:Nat}(h:Vx lo w W v fvs rs)(hlo:w.heap.size<=lo)(hx:w2.ownsRow lo 155 2 x s.2.length (js s.2))(hr:w2.ownsRow lo 104 2 (sl g (rs.length+1) c) (rs.length+1) (zR rs fvs++[.int .i64 s.1,x]))
  (ho:jB (fun r=>v.ownBlock=some r) W w2):Vx lo w w2 (sl g (rs.length+1) c) (fvs++[x]) (rs++[s]):=by
 refine⟨by rw[jik,xq _ _ _ _ h.len];exact hr,by simp[h.len],fun j y u hy hu => ?_,h.below.trans (ho.to_below h.below.size (fun r hr e=>by have:=(h.row.lt r e).1;omega))⟩
 rcases Kc hy with ⟨q,hy⟩|⟨q,rfl⟩
 ·rw[jiH (by rw[h.len];exact q)]at hu
  exact jJ (h.each j y u hy hu) ho (jgF h.row (h.each j y u hy hu))
 rw[q,<- h.len,jiE (jij _)]at hu
 simp at hu
 subst hu;exact hx
def jaI(xs:List (Nat×Pr)):List Stz:=xs.map fun x=>(x.2.1.2,x.2.1.1.fields)
theorem ja1(xs:List (Nat×Pr))(x:Nat×Pr):jaI (xs++[x])=jaI xs++[(x.2.1.2,x.2.1.1.fields)]:=by unfold jaI;simp
theorem Vx.set{lo:Nat}{w W:World}{v:Value}{fvs:List Value}{rs:List Stz}{b:Nat}(h:Vx lo w W v fvs rs)(hb:b<lo)(hbw:w.heap.size<=b)(u:Value):Vx lo w (W.setCell ⟨b,0,none⟩ u) v fvs rs :=
 ⟨jv h.row (fun e=>by have:=(h.row.lt b e).1;omega) _,h.len,fun j s x h1 h2=>jv (h.each j s x h1 h2) (fun e=>by have:=((h.each j s x h1 h2).lt b e).1;omega) _,h.below.setCell (p:=⟨b,0,none⟩) hbw _⟩
theorem Ka(ps:List Pr)(v:Value)(q:Option Addr)(w:World)(hl:∀W,Below w.heap.size w W->jcZ W (.pointer q) v ps)(ok:Qf ps):
  Calls Tryz.prog 19 #[.pointer q] w fun e w'=>∃u fvs,e=.returned u/\Vx w.heap.size w w' u fvs (jaI (yJ 0 ps)):=by
 obtain⟨A,cap,hv,hle⟩:=(hl w (jil _ _)).1.empty
 have ALL:=jii (fun W hB=>callsIn_wide (n:=8).2 (hl W hB).2)
 have HE:=jii (fun W hB=>(hl W hB).1)
 have ST:=jii (fun W=>callsIn_wide (n:=8).2 (VB v W A ps.length cap hv))
 have HF:=jii ok.fields
 have hps:ps.length<=1000000:=by have:=ok.len;omega
 clear hl hv ok
 refine callsIn_wide (n:=9).1 ?_
 refine callsIn_of_wp_marks Tryz.func19 rfl trivial ?_ rfl
 simp only[Tryz.ntmps19,ji5,jin,jiJ,Nat.reduceAdd,Nat.reduceSub,ji3,ji4,jje,ji6,jiZ,jiz]
 gi_wp2_with fail
 have hb0:Below w.heap.size w (w.alloc (.cells #[.slice none 0 0] 48)):=(jil _ w).alloc (jij _) _
 refine⟨trivial,(ALL.out _ hb0).mono ?_⟩
 rintro e w1 ⟨rfl,rfl⟩
 gi_wp2_with fail
 refine⟨trivial,(ST.out _).mono ?_⟩
 rintro e w1 ⟨rfl,rfl⟩
 gi_wp2_with fail
 obtain⟨w1,hw1⟩:∃w1,w1=((w.alloc (.cells #[.slice none 0 0] 48)).alloc (.cells #[v] 100)):=⟨_,rfl⟩
 have hz:w1.heap.size=w.heap.size+2:=by rw[hw1];simp
 have B0:Boxed w1 w.heap.size 48 (.slice none 0 0):=by rw[hw1];exact(jjs w _ _).alloc _
 have B1:Boxed w1 (w.heap.size+1) 100 v:=by rw[hw1];exact vX w _ _ _
 have hb1:Below w.heap.size w w1:=by rw[hw1];exact hb0.alloc (by simp) _
 rw[<- hw1]
 clear hw1 hb0
 have HH:=Zj ps v _ w1 B1 hps (HE.out _ hb1)
 refine yO (gf:=81) (lb:=#[.pointer (some ⟨w.heap.size+1,0,none⟩)]) rfl (enters_of Tryz.func81 (by kernel_rfl) rfl) HH (fun _=>rfl)
  (fun pre W=>∃u fvs,Boxed W w.heap.size 48 u/\Vx (w.heap.size+6) w W u fvs (jaI pre)/\Boxed W (w.heap.size+1) 100 v)
  (fun _ _ _=>False)
  (by
   rw[hz]
   rintro pre W W' ⟨u,fvs,h1,h2,h3⟩ ht
   exact⟨u,fvs,ht.box h1 (.inl (by omega)),h2.turned ht (by omega) (by omega),ht.box h3 (.inl (by omega))⟩)
  (fun _ _ _ _ hs _=>hs)
  ⟨_,[],B0,Vx.start _ _ _ hb1,B1⟩
  (fun pre W h=>by obtain⟨u,fvs,h1,h2,h3⟩:=h;exact⟨HE.out _ h2.below,h3⟩)
  (fun a pre x a' W=>∃Bx,w.heap.size+6<=Bx/\a'={tmps:=((a.tmps.setIfInBounds 9 (.int .i64 (x.1:Nat))).setIfInBounds 10 (Xt x.2)).setIfInBounds 5 (ptr Bx),defers:=[]}/\ja W Bx 113 #[.int .i64 x.2.1.1.kind,.string (B x.2.1.1.raw),x.2.2,.int .i64 x.2.1.2] /\
   ∃u fvs,Boxed W w.heap.size 48 u/\Vx (w.heap.size+6) w W u fvs (jaI pre)/\Boxed W (w.heap.size+1) 100 v)
  ?hM ?assign ?body ?done ?stop
 case hM =>
  rw[hz]
  rintro a pre x a' _ W W' ⟨Bx,h0,h0',h0'',u,fvs,h1,h2,h3⟩ ht
  exact⟨Bx,h0,h0',(ht.same Bx h0''.lt (.inr (by omega))).trans h0'',u,fvs,ht.box h1 (.inl (by omega)),h2.turned (ht.sub (jij _) (show w.heap.size+2+2<=w.heap.size+2+4 by omega)) (by omega) (by omega),ht.box h3 (.inl (by omega))⟩
 case assign =>
  rw[hz]
  rintro l pre x post W hx hsz ⟨u,fvs,h1,h2,h3⟩
  have hfr:∃fa fc,x.2.2=.slice fa x.2.1.1.fields.length fc:=by
   have hm:=vG 0 ps x (by rw[show xP (fun p:Pr=>p.1.1.kind) 0 ps=_ from hx];simp)
   exact((HE.out _ h2.below).each x.2 (jiA hm.2.1)).form
  obtain⟨k,⟨⟨⟨kd,raw,fs⟩,num⟩,fv⟩⟩:=x
  obtain⟨fa,fc,e⟩:=hfr
  dsimp only at e
  subst e
  clear hx
  dsimp only[Xt]
  gi_wp2
  exact⟨(qC.refl _ _ W).alloc hsz _,W.heap.size,by omega,rfl,ja.new _ _ _,u,fvs,h1.alloc _,h2.alloc _,h3.alloc _⟩
 case body =>
  rw[hz]
  rintro l pre x post a' W hx hsz ⟨Bx,hB,rfl,hc,u,fvs,h1,h2,h3⟩
  have hm:=vG 0 ps x (by rw[show xP (fun p:Pr=>p.1.1.kind) 0 ps=_ from hx];simp)
  have hpx:=jiA hm.2.1
  have hfr:=(HE.out _ h2.below).each x.2 hpx
  obtain⟨fa,fc,hfv⟩:=hfr.form
  have hnn:(jaI pre).length<=1000000:=by
   have h4:=congrArg List.length hx
   have h5:=JU (κ:=fun p:Pr=>p.1.1.kind) 0 ps
   unfold jaI
   simp at h4 ⊢
   simp only[yJ]at h4 h5
   omega
  refine wpIn_block (yf (by decide +kernel) (by rintro⟨a,w,h⟩;exact h) (by kernel_rfl) ?_)
  refine Gr _ W w.heap.size Bx (w.heap.size+6) (jaI pre).length x.2 fa fc u (zR (jaI pre) fvs) _ rfl rfl (by simp) h1 hc hfv hfr (HF.out _ hpx) h2.row (by omega) hnn ?_
  intro a y g c w2 _ _ _ r1 r2 r3
  have r1':=jC r1 (show w.heap.size+6<=W.heap.size by omega)
  have acc2:=jii (h2.snoc (s:=(x.2.1.2,x.2.1.1.fields)) (by omega) r1' r2 r3)
  have hne:¬u.ownBlock=some w.heap.size:=fun e=>by have:=(h2.row.lt _ e).1;omega
  have hne1:¬u.ownBlock=some (w.heap.size+1):=fun e=>by have:=(h2.row.lt _ e).1;omega
  have b1:Boxed w2 w.heap.size 48 u:=(r3.same _ h1.lt hne).trans h1
  have b3:Boxed w2 (w.heap.size+1) 100 v:=(r3.same _ h3.lt hne1).trans h3
  have hst:qC (w.heap.size+2) (2+2) W w2:=⟨r3.size,fun r p1 p2=>r3.same r (by omega) (fun e=>by have:=(h2.row.lt _ e).1;omega)⟩
  refine⟨hst.setCell (.inl (by show w.heap.size<_;omega)) _,_,fvs++[y],jjg _ b1,?_,b3.other (by show w.heap.size+1≠w.heap.size;omega) _⟩
  rw[ja1]
  exact acc2.out.set (by omega) (jij _) _
 case done =>
  rw[hz]
  rintro W ⟨u,fvs,b0,acc,b1⟩ hK
  obtain⟨ua,uc,rfl,_⟩:=je acc.row
  have c:=b0.cell
  gi_wp2
  refine⟨by simp,.inl ⟨_,_,rfl,run_takeDeferred hK,?_⟩⟩
  have kb:Below w.heap.size W (W.putObj (w.heap.size+2) (.deferred none)):=belowK_b (w:=w) (jij _) W _ _ _ (by omega) hK rfl rfl
  have pb:=grownBy_putObj' W (w.heap.size+2) (.deferred none)
  refine⟨_,results_tmp rfl _ _ _,.slice ua (jaI (yJ 0 ps)).length uc,fvs,rfl,⟨jC (jP acc.row fun b e=>pb.block b (acc.row.lt b e).2 (fun q => ?_)) (by omega),acc.len,fun j s x q1 q2=>jC (jP (acc.each j s x q1 q2) fun b e=>pb.block b ((acc.each j s x q1 q2).lt b e).2 (fun q => ?_)) (by omega),acc.below.trans kb⟩⟩
  ·have:=(acc.row.lt b e).1
   have:=jip q
   omega
  have:=((acc.each j s x q1 q2).lt b e).1
  have:=jip q
  omega
 case stop =>
 intro c pre W _ h _
 exact h.elim
end Go.Proofs.YtimfhnfcmhmjcaaGreatDoor
namespace Go.Proofs.YtimfhnfcmhmjcaaGreatDoor
open Go.RowKit Go.Shelf
def Va(cur:Array Value):Nat->List Value->Array Value
 | _,[]=>cur
 | o,v::r=>Va (cur.setIfInBounds o v) (o+1) r
theorem zO:∀(vs:List Value) (cur:Array Value) (o:Nat),(Va cur o vs).size=cur.size
 | [],_,_=>rfl
 | v::r,cur,o=>by
  show(Va (cur.setIfInBounds o v) (o+1) r).size=_
  rw[zO r];simp
theorem yo:∀(vs:List Value) (cur:Array Value) (o j:Nat),o+vs.length<=cur.size->(Va cur o vs)[j]?=if o<=j/\j<o+vs.length then vs[j-o]? else cur[j]?
 | [],cur,o,j,_=>by
  show cur[j]?=_
  rw[if_neg (by simp only[jiJ];omega)]
 | v::r,cur,o,j,h=>by
  show(Va (cur.setIfInBounds o v) (o+1) r)[j]?=_
  rw[yo r _ _ _ (by simp at h ⊢;omega)]
  simp only[jin]at h ⊢
  by_cases h1:o+1<=j/\j<o+1+r.length
  ·rw[if_pos h1,if_pos (by omega),show j-o=(j-(o+1))+1 by omega,jio]
  rw[if_neg h1]
  by_cases h2:o=j
  ·subst h2
   rw[if_pos (by omega),Nat.sub_self,jiu,ji8]
   simp
   omega
  rw[if_neg (by omega),ji8,if_neg h2]
theorem ja.lay{W:World}{b:Nat}{t:TypeId}:∀(vs:List Value) {cur:Array Value} (o:Nat),ja W b t cur->ja (W.setCells b o vs) b t (Va cur o vs)
 | [],_,_,h=>h
 | v::r,cur,o,h=>by
  have:=ja.lay (W:=W.setCell ⟨b,o,none⟩ v) r (o+1) (h.set o v)
  exact this
theorem vK{S:Nat->Prop}{X Y:World}{b:Nat}(hb:S b\/X.heap.size<=b):∀(vs:List Value) (o:Nat),jB S X Y->jB S X (Y.setCells b o vs)
 | [],_,h=>h
 | v::r,o,h=>by
  have:=vK (Y:=Y.setCell ⟨b,o,none⟩ v) hb r (o+1) (h.setCell (p:=⟨b,o,none⟩) hb v)
  exact this
theorem yq:(Tryz.prog.info? 113).map (fun i=>(i.zero,i.size,i.bytes))=some (some (.agg #[.int .i64 0,.string ⟨#[]⟩,.slice none 0 0,.int .i64 0]),4,56):=by kernel_rfl
theorem Gk(w:World)(b o c:Nat)(ty:TypeId)(hc:∀j,j<4->(w.cell? ⟨b,o+j,none⟩).isSome=true)(hf:∀j,j<4->w.frozen? ⟨b,o+j,none⟩=false):
  (Builtin.clear_ #[100] ty #[.slice (some ⟨b,o,none⟩) 1 c]).run Tryz.prog w=.ok (.tuple #[]) (w.setCells b o [.int .i64 0,.string ⟨#[]⟩,.slice none 0 0,.int .i64 0]):=by
 obtain⟨i0,hi,hz0,hz1,hz2⟩:=info_parts yq
 have hst:=run_storeCells_cells (P:=Tryz.prog) b o [.int .i64 0,.string ⟨#[]⟩,.slice none 0 0,.int .i64 0] 0 w (by simpa using hc) (by simpa using hf) (by intro v hv;simp at hv;rcases hv with rfl | rfl | rfl | rfl<;>rfl)
 simp only[jkl]at hst
 have hu:Tryz.prog.underlying 100=some (.slice 113):=Tryz.underlying100
 have hzv:(zeroValue 113).run Tryz.prog w=.ok (.agg #[.int .i64 0,.string ⟨#[]⟩,.slice none 0 0,.int .i64 0]) w:=by simp[zeroValue,typeInfo,hi,hz0]
 have hzc:(Builtin.zeroCells (Value.agg #[.int .i64 0,.string ⟨#[]⟩,.slice none 0 0,.int .i64 0]).cells 1).toList=[.int .i64 0,.string ⟨#[]⟩,.slice none 0 0,.int .i64 0]:=by kernel_rfl
 simp only[Builtin.clear_]
 simp[run_underlying hu,hzv,hzc,hst]
theorem JM{P:Program}{ops:Array Oper}{o:Oper}{a:Act}{w:World}{K:Act->World->Prop}{Q:Exit->Act->World->Prop}{E:Prop}
  (hg:o.guard=none) (d x:Operand) (dT sT:TypeId) (hop:o.op=Op.call {callee:=Callee.builtin Builtin.append,args:=#[d,x],argTypes:=#[dT,sT]})
  (v u:Value) (hd:a.eval d=v) (hx:a.eval x=u) {v':Value} {w':World} (hr:(Builtin.append_ #[dT,sT] o.type #[v,u]).run P w=.ok v' w') (hK:K (a.put o.dst v') w') :
  if Region.wanted o (yielded ops a.tmps)=true then Oper.wp P o a w K Q else E:=by
 have hw:Region.wanted o (yielded ops a.tmps)=true:=by simp[Region.wanted,hg]
 rw[if_pos hw]
 unfold Oper.wp
 simp[execOp,hop,resolve,invoke,builtin,hd,hx,hr,Result.andThen]
 exact hK
theorem KJ(lo g n cap i:Nat)(xs:List Value)(w:World)(hrow:w.ownsRow lo 113 4 (sl g n cap) n xs)(hone:∀u∈xs,u.oneCell'=true)(hi:i<n)(hn:n<=1000000):
  Calls Tryz.prog 188 #[sl g n cap,.int .i64 (i:Nat),.int .i64 (i+1:Nat)] w fun e w'=>e=.returned (sl g (n-1) cap)/\w'.ownsRow lo 113 4 (sl g (n-1) cap) (n-1) (xs.take (i*4)++xs.drop ((i+1)*4))/\jB (· = g) w w':=by
 obtain⟨i0,hi0,hz0,hz1,hz2⟩:=info_parts yq
 have hlen:=hrow.1
 obtain⟨cur,hlo,hg,hle,hcm,hcs,htk⟩:∃cur,lo<=g/\ja w g 113 cur/\n<=cap/\cap<=maxLen/\cur.size=cap*4/\cur.toList.take (n*4)=xs:=by
  rcases hrow.2 with ⟨q,_⟩|⟨g',cap',cur,q,a,b,c,d,e,f⟩
  ·cases q
  cases q;exact⟨cur,a,b,c,d,e,f⟩
 have hat:∀j,j<n*4->xs[j]?=cur[j]?:=fun j hj=>by rw[<- htk,ji0,if_pos hj];simp
 obtain⟨news,hnews⟩:∃news,news=xs.drop ((i+1)*4):=⟨_,rfl⟩
 have hnl:news.length=(n-(i+1))*i0.size:=by rw[hz1,hnews,jiw,hlen];omega
 have hnl4:news.length=(n-(i+1))*4:=by rw[hnl,hz1]
 have hn1:∀u∈news,u.oneCell'=true:=fun u hu=>hone u (by rw[hnews]at hu;exact jja hu)
 have hnat:∀j u,news[j]?=some u->cur[(i+1)*4+j]?=some u:=fun j u hj=>by
  have hjl:=(List.getElem?_eq_some_iff.1 hj).1
  rw[hnews,jjb]at hj
  rw[<- hat _ (by omega)];exact hj
 obtain⟨A,hA,hsrc⟩:∃A:Addr,(if cap=i+1 then some (⟨g,0,none⟩:Addr) else some ⟨g,(i+1)*4,none⟩)=some A/\Hid (∀j u,news[j]?=some u->w.drew.cell? (A.add j)=some u):=by
  by_cases h:cap=i+1
  ·refine⟨⟨g,0,none⟩,by simp[h],fun j u hu => ?_⟩
   have h0:news.length=0:=by rw[hnl4];omega
   rw[List.length_eq_zero_iff.1 h0]at hu
   simp at hu
  refine⟨⟨g,(i+1)*4,none⟩,by simp[h],fun j u hu => ?_⟩
  rw[Addr.add_lit]
  exact(hg.cell _).trans (hnat j u hu)
 have hc:Hid (∀j,j<news.length->(w.drew.cell? ⟨g,0+i*i0.size+j,none⟩).isSome=true):=fun j hj=>by
  show(w.cell? _).isSome=true
  rw[hg.cell,hz1,ji7 (by omega)];rfl
 have hf:Hid (∀j,j<news.length->w.drew.frozen? ⟨g,0+i*i0.size+j,none⟩=false):=fun j hj=>hg.frozen _
 have hu:Tryz.prog.underlying 100=some (.slice 113):=Tryz.underlying100
 obtain⟨W1,hW1⟩:∃W1,W1=w.drew.setCells g (i*4) news:=⟨_,rfl⟩
 have C1:ja W1 g 113 (Va cur (i*4) news):=by rw[hW1];exact ja.lay news _ (show ja w.drew g _ cur from hg)
 have hsz1:(Va cur (i*4) news).size=cap*4:=by rw[zO,hcs]
 have CLR:=jii (fun(c:Nat) (ty:TypeId)=>Gk W1 g ((n-1)*4) c ty (fun j hj=>by rw[C1.cell,ji7 (by omega)];rfl) (fun j hj=>C1.frozen _))
 have hap:Hid (∀ty,(Builtin.append_ #[100,100] ty #[.slice (some ⟨g,0,none⟩) i cap,.slice (some A) (n-(i+1)) (cap-(i+1))]).run Tryz.prog w.drew=.ok (.slice (some ⟨g,0,none⟩) (n-1) cap) W1):=fun ty=>by
  have:=run_append_room_cells (w:=w.drew) 100 ty 113 i0 hu hi0 g 0 i cap A (n-(i+1)) (cap-(i+1)) news hnl hsrc.out hn1 (by omega) hc.out hf.out
  rw[this,hW1,show i+(n-(i+1))=n-1 by omega,hz1,jiP]
 have FIN:w.drew.heap.size=w.heap.size:=rfl
 have HW:=jii hW1
 have HC1:=jii C1
 have HL:=jii hlen
 have HNW:=jii hnews
 have HAT:=jii hat
 have HNL:=jii hnl4
 clear hc hf hsrc hnat hn1 hnl hnews hat htk hg C1 hrow hone hW1 hlen hnl4
 unfold sl
 unfold maxLen at hcm
 have hb1:(i:Int)<=(i:Int)+1:=by omega
 have hb2:((i:Int)+1)<=(n:Int):=by omega
 have hb3:¬(n=i):=by omega
 have hic:i<=cap:=by omega
 have hjc:i+1<=cap:=by omega
 have hjn:i+1<=n:=by omega
 have hb0:(0:Int)<=(i:Int)+1:=by omega
 have hlast:¬(cap=n-1):=by omega
 have hn1c:n-1<=cap:=by omega
 have hnn:n-(n-1)=1:=by omega
 have hn1n:(((n-1:Nat):Int))<=(n:Int):=by omega
 have hncap:n<=cap:=hle
 have hb4:((i:Int)==(i:Int)+1)=false:=beq_eq_false_iff_ne.2 (by omega)
 go_enter Tryz.func188,Tryz.ntmps188
 go_wp2_with fail
 go_region_law (refine JM rfl (.tmp 22) (.tmp 25) 100 100 rfl (.slice (some ⟨g,0,none⟩) i cap) (.slice (some A) (n-(i+1)) (cap-(i+1))) (by simp[Act.eval,Act.put]) (by simp[Act.eval,Act.put]) (hap.out _) ?_)
 have hcl:=fun(ty:TypeId)=>CLR.out (cap-(n-1)) ty
 go_wp2_with fail
 go_ret
 obtain⟨W2,hW2⟩:∃W2,W2=W1.setCells g ((n-1)*4) [.int .i64 0,.string ⟨#[]⟩,.slice none 0 0,.int .i64 0]:=⟨_,rfl⟩
 have C2:ja W2 g 113 (Va (Va cur (i*4) news) ((n-1)*4) [.int .i64 0,.string ⟨#[]⟩,.slice none 0 0,.int .i64 0]):=by rw[hW2];exact ja.lay _ _ HC1.out
 refine⟨rfl,?_,?_⟩
 ·rw[<- hW2]
  refine⟨by rw[jik,jiq,jiw,HL.out];omega,.inr ⟨g,cap,_,rfl,hlo,C2,hn1c,by unfold maxLen;omega,by rw[zO,zO,hcs],?_⟩⟩
  apply jjG
  intro j
  rw[ji0]
  split
  ·rename_i hj
   rw[jj1,yo _ _ _ _ (by rw[zO,hcs];simp only[jin,jiJ];omega),if_neg (by omega),yo _ _ _ _ (by rw[HNL.out,hcs];omega)]
   split
   ·rename_i h2
    rw[jiE (by rw[jiq,HL.out];omega),jiq,HL.out,HNW.out,jjb,jjb]
    congr 1;omega
   rename_i h2
   rw[HNL.out]at h2
   rw[jiH (by rw[jiq,HL.out];omega),ji0,if_pos (by omega),HAT.out j (by omega)]
  rename_i hj
  rw[jiW]
  rw[jik,jiq,jiw,HL.out];omega
 rw[HW.out]
 exact vK (S:=(· = g)) (b:=g) (.inl rfl) _ _ (vK (S:=(· = g)) (b:=g) (.inl rfl) _ _ (jB.refl _ w).drew)
end Go.Proofs.YtimfhnfcmhmjcaaGreatDoor
