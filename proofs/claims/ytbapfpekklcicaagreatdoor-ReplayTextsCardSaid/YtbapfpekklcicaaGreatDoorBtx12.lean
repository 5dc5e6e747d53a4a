/- Texts put together:UG,UH,UI. -/
import Derived.Shelf.Spec.SlicesInsertGrow
import Derived.ArgAppend
import Derived.Test.YtbapfpekklcicaaGreatDoorBtx11
set_option linter.unusedVariables false
set_option maxRecDepth 100000
set_option maxHeartbeats 16000000
namespace Go.Proofs.YtbapfpekklcicaaGreatDoor
open Go.RowKit Go.Shelf Tryz
abbrev jpD:=@List.getElem?_take
abbrev jqF:=@Array.getElem?_toList
abbrev jqI:=@List.ext_getElem?
section
attribute [local go_sem] joY
theorem jlj{c:Func}{p:Tmp}(h:c.results=#[.cell p 100])(tmps:Array Value)(w:World)(b:Nat)(a:Array Value)(e:tmps.getD p undef=.pointer (some ⟨b,0,none⟩))
  (d:ja w b 100 a) (f:a.size=2):(results c tmps).run prog w=.ok (.agg a) w:=by
 have L:=run_loadVar_row (P:=prog) w b 100 100 a (0,0) _ d underlying100 rfl (by rw[f];kernel_rfl);rw[vS h,e];show(loadVar _ _).run _ _=_
 exact L
theorem jb0(p:Pr)(w:World)(h:ZC w p.2 p.1.1.fields)(E:p.1.1.fields.length<=1000000):
  Calls prog 45 #[jbk p] w fun e G=>∃x,e=.returned (.agg #[.int .i64 p.1.2,x])/\G.ownsRow w.heap.size 148 2 x p.1.1.fields.length (ju p.1.1.fields)/\Below w.heap.size w G:=by
 obtain⟨⟨⟨r,y,b⟩,num⟩,V⟩:=p;dsimp only at h E ⊢;obtain⟨j,l,rfl⟩:=h.form;unfold jbk;dsimp only;generalize B y=c at *
 have d:Below w.heap.size w ((w.alloc (.cells #[.int .i64 r,.string c,.slice j b.length l,.int .i64 num] 109)).alloc (.cells #[.int .i64 0,.slice none 0 0] 100)):=((joL _ w).alloc (joJ _) _).alloc (by simp) _;have z:=joI ((ja.new w 109 #[.int .i64 r,.string c,.slice j b.length l,.int .i64 num]).alloc (.cells #[.int .i64 0,.slice none 0 0] 100))
 have o:=joI (ja.new (w.alloc (.cells #[.int .i64 r,.string c,.slice j b.length l,.int .i64 num] 109)) 100 #[.int .i64 0,.slice none 0 0]);go_enter func45,ntmps45;go_wp2_with fail;obtain⟨a,i⟩:∃a,a=((w.alloc (.cells #[.int .i64 r,.string c,.slice j b.length l,.int .i64 num] 109)).alloc (.cells #[.int .i64 0,.slice none 0 0] 100)):=⟨_,rfl⟩
 have v:a.heap.size=w.heap.size+2:=by rw[i];simp
 rw[<- i]at d z o ⊢;clear i;have g:=h.below d (joJ _)
 have H:=joI (fun(W:World) (m:Below a.heap.size a W)=>xh b (.slice j b.length l) W (g.1.below m (joJ _)) g.2 E);rw[joZ]at o;have A:=joI (show ∀W,Below a.heap.size a W->(Below a.heap.size a W/\W.cell? ⟨w.heap.size,2,none⟩=some (.slice j b.length l)/\W.cell? ⟨w.heap.size,3,none⟩=some (.int .i64 num)/\W.cell? ⟨w.heap.size+1,0,none⟩=some (.int .i64 0)/\W.cell? ⟨w.heap.size+1,1,none⟩=some (.slice none 0 0)/\W.frozen? ⟨w.heap.size+1,0,none⟩=false/\W.frozen? ⟨w.heap.size+1,1,none⟩=false) from fun W m =>
  have D:=jb z.out m (by omega);have q:=jb o.out m (by omega)
  ⟨m,D.cell 2,D.cell 3,q.cell 0,q.cell 1,q.frozen 0,q.frozen 1⟩)
 clear h g;obtain⟨_,Y,Z,r0,r1,s0,s1⟩:=A.out a (joL _ _);have u:=joI d
 go_region_law (first | (go_simp;go_at_call 78;refine(H.out _ (joL _ _).drew).mono ?_;rintro e U ⟨x,rfl,hx,f⟩;obtain⟨s,t,rfl,_⟩:=je hx;obtain⟨_,L,N,O,P,Q,R⟩:=A.out U ((joL _ a).drew.trans f)))
 all_goals go_wp2_with fail
 all_goals
  have K:a.drew.heap.size=w.heap.size+2:=v;have I:=jb o.out ((joL _ a).drew.trans f) (by omega)
  have C:=(I.set 0 (.int .i64 num)).set 1 (.slice s b.length t);have J:((#[Value.int .i64 0,Value.slice none 0 0].setIfInBounds 0 (.int .i64 num)).setIfInBounds 1 (.slice s b.length t))=#[.int .i64 num,.slice s b.length t]:=by simp[List.setIfInBounds_toArray,List.set]
  rw[J]at C;have n:∀k,k<w.heap.size+2->(Value.slice s b.length t).ownBlock≠some k:=fun k X e=>by have:=(hx.lt k e).1;omega
  refine bodyPost_ret (jlj rfl _ _ (w.heap.size+1) _ rfl C rfl) rfl ?_;refine⟨_,rfl,jA (base:=a.drew.heap.size) (js (p:=⟨w.heap.size+1,1,none⟩) (js (p:=⟨w.heap.size+1,0,none⟩) hx (n (w.heap.size+1) (by omega)) _) (n (w.heap.size+1) (by omega)) _) (by omega),?_⟩;exact((u.out.drew.trans (f.mono (show w.heap.size<=a.drew.heap.size by omega))).setCell (p:=⟨w.heap.size+1,0,none⟩) (by show w.heap.size<=w.heap.size+1;omega) _).setCell (p:=⟨w.heap.size+1,1,none⟩) (by show w.heap.size<=w.heap.size+1;omega) _
def jbP:Array Oper:=#[{dst:=some 11,op:=Op.load 48 (Operand.tmp 3),type:=48,pos := "list.go:96",after:=#[],guard:=none},{dst:=some 12,op:=Op.load 109 (Operand.tmp 5),type:=109,pos := "list.go:96",after:=#[],guard:=none},
 {dst:=some 13,op:=Op.call {callee:=Callee.value (Operand.func 45),args:=#[Operand.tmp 12],argTypes:=#[109]},type:=100,pos := "list.go:96",after:=#[{on:=1,ground:=Ground.data}],guard:=none},
 {dst:=some 14,op:=Op.buildSlice 48 1 #[(0,Operand.tmp 13)],type:=48,pos := "list.go:96",after:=#[{on:=2,ground:=Ground.data}],guard:=none},
 {dst:=some 15,op:=Op.call {callee:=Callee.builtin Builtin.append,args:=#[Operand.tmp 11,Operand.tmp 14],argTypes:=#[48,48]},type:=48,pos := "list.go:96",after:=#[{on:=0,ground:=Ground.data},{on:=3,ground:=Ground.data},{on:=2,ground:=Ground.chain}],guard:=none},
 {dst:=none,op:=Op.store 48 (Operand.tmp 3) (Operand.tmp 15),type:=0,pos := "list.go:96",after:=#[{on:=4,ground:=Ground.data},{on:=4,ground:=Ground.chain},{on:=0,ground:=Ground.phase},{on:=1,ground:=Ground.phase},{on:=2,ground:=Ground.phase},{on:=3,ground:=Ground.phase},{on:=4,ground:=Ground.phase}],guard:=none}]
theorem jn5:∀b c d b3 e a:Bool,Region.ready .any jbP #[b,c,d,b3,e,a]=[]->a=true:=by decide +kernel
theorem jlN:(prog.info? 100).map (fun i=>(i.zero,i.size,i.bytes))=some (some (.agg #[.int .i64 0,.slice none 0 0]),2,32):=by kernel_rfl
theorem evS{a:Act}{i:Nat}{v:Value}(h:a.tmps[i]?=some v):a.eval (.tmp i)=v:=by show a.tmps.getD i undef=v;rw[jpj,h];rfl
theorem jon{a:Act}{d:Nat}{v:Value}(b:d<a.tmps.size)(j:Nat):(a.put (some d) v).tmps[j]?=if j=d then some v else a.tmps[j]?:=by
 show(a.tmps.setIfInBounds d v)[j]?=_;rw[jps];by_cases h:d=j
 ·subst h;simp[b]
 rw[if_neg h,if_neg (jqr h)]
theorem Jf(a:Act)(d:Nat)(v:Value):(a.put (some d) v).tmps.size=a.tmps.size:=by show(a.tmps.setIfInBounds d v).size=_;simp
def jl3(c:Nat)(z:Bool):Array Bool:=#[z,decide (0<c),decide (1<c),decide (2<c),decide (3<c),decide (4<c)]
def jfA(W0:World)(sb lo n:Nat)(p:Pr)(v0:Value)(xs:List Value)(a:Act)(w:World):Nat->Prop
 | 0=>Below W0.heap.size W0 w
 | 1=>Below W0.heap.size W0 w/\a.tmps[12]?=some (jbk p)
 | 2=>Below W0.heap.size W0 w/\∃x,a.tmps[13]?=some (.agg #[.int .i64 p.1.2,x])/\w.ownsRow W0.heap.size 148 2 x p.1.1.fields.length (ju p.1.1.fields)
 | 3=>Below W0.heap.size W0 w/\∃x b,a.tmps[14]?=some (sl b 1 1)/\w.ownsRow W0.heap.size 148 2 x p.1.1.fields.length (ju p.1.1.fields)/\W0.heap.size<=b/\ja w b 100 #[.int .i64 p.1.2,x]
 | 4=>∃x g c,a.tmps[15]?=some (sl g (n+1) c)/\w.ownsRow W0.heap.size 148 2 x p.1.1.fields.length (ju p.1.1.fields)/\w.ownsRow lo 100 2 (sl g (n+1) c) (n+1) (xs++[.int .i64 p.1.2,x])/\jH (fun r=>v0.ownBlock=some r) W0 w
 | _=>∃x g c w2,w2.ownsRow W0.heap.size 148 2 x p.1.1.fields.length (ju p.1.1.fields)/\w2.ownsRow lo 100 2 (sl g (n+1) c) (n+1) (xs++[.int .i64 p.1.2,x])/\jH (fun r=>v0.ownBlock=some r) W0 w2/\w=w2.setCell ⟨sb,0,none⟩ (sl g (n+1) c)
theorem jfA.below{b:World}{d lo n:Nat}{p:Pr}{e:Value}{xs:List Value}{a:Act}{w:World}{c:Nat}(h:jfA b d lo n p e xs a w c)(f:c<=3):Below b.heap.size b w:=by
 match c,h with
 | 0,h=>exact h
 | 1,h=>exact h.1
 | 2,h=>exact h.1
 | 3,h=>exact h.1
 | n+4,_=>omega
theorem jfA.put{k:World}{l lo n:Nat}{p:Pr}{m:Value}{xs:List Value}{a:Act}{w:World}{c:Nat}(h:jfA k l lo n p m xs a w c)(o:16<=a.tmps.size)(v:Value):jfA k l lo n p m xs (a.put (some 11) v) w c:=by
 have T:=fun j=>jon (a:=a) (d:=11) (v:=v) (by omega) j
 match c,h with
 | 0,h=>exact h
 | 1,h=>exact⟨h.1,by rw[T,if_neg (by decide)];exact h.2⟩
 | 2,h=>obtain⟨i,x,e,f⟩:=h;exact⟨i,x,by rw[T,if_neg (by decide)];exact e,f⟩
 | 3,h=>obtain⟨i,x,b,e,f⟩:=h;exact⟨i,x,b,by rw[T,if_neg (by decide)];exact e,f⟩
 | 4,h=>obtain⟨x,g,c,e,f⟩:=h;exact⟨x,g,c,by rw[T,if_neg (by decide)];exact e,f⟩
 | n+5,h=>exact h
structure jmu(a0:Act)(W0:World)(sb lo n:Nat)(p:Pr)(v0:Value)(xs:List Value)(l:Array Bool)(a:Act)(w:World):Prop where
 dfr:a.defers=a0.defers
 sz:a.tmps.size=a0.tmps.size
 frm:∀j,(j<11\/15<j)->a.tmps[j]?=a0.tmps[j]?
 st:∃c z,c<=5/\l=jl3 c z/\(3<c->z=true)/\(z=true->a.tmps[11]?=some v0)/\jfA W0 sb lo n p v0 xs a w c
theorem jd9{Q:Exit->Act->World->Prop}{K:Act->World->Prop}{a:Act}{w:World}{i:Nat}{o:Oper}(c:jbP[i]?=some o)(b:o.guard=none)(h:Oper.wp prog o a w K Q):wpOp prog jbP Q i K a w:=by
 unfold wpOp;rw[c];show(if Region.wanted o (yielded jbP a.tmps)=true then _ else _)
 rw[if_pos (by simp[Region.wanted,b])];exact .inl h
theorem jgu{o:Oper}{a:Act}{w:World}{K:Act->World->Prop}{Q:Exit->Act->World->Prop}{x:Operand}{p:Addr}{v:Value}(d:o.op=Op.load 48 x)(hx:a.eval x=.pointer (some p))(c:w.cell? p=some v)(b:K (a.put o.dst v) w):Oper.wp prog o a w K Q:=by
 unfold Oper.wp;have e:(execOp a.eval o).run prog w=.ok (.value v) w:=by simp only[execOp,d,hx];simp[go_sem,Result.andThen,c]
 rw[e];exact b
theorem jgt{o:Oper}{a:Act}{w:World}{K:Act->World->Prop}{Q:Exit->Act->World->Prop}{x:Operand}{b:Nat}{c d f g:Value}(l:o.op=Op.load 109 x)(hx:a.eval x=.pointer (some ⟨b,0,none⟩))(h:w.cell? ⟨b,0,none⟩=some c)(i:w.cell? ⟨b,1,none⟩=some d)(j:w.cell? ⟨b,2,none⟩=some f)(c3:w.cell? ⟨b,3,none⟩=some g)(k:K (a.put o.dst (.agg #[c,d,f,g])) w):Oper.wp prog o a w K Q:=by
 unfold Oper.wp;have e:(execOp a.eval o).run prog w=.ok (.value (.agg #[c,d,f,g])) w:=by simp only[execOp,l,hx];simp[go_sem,Result.andThen,h,i,j,c3]
 rw[e];exact k
theorem ji1{o:Oper}{a:Act}{w:World}{K:Act->World->Prop}{Q:Exit->Act->World->Prop}{x:Operand}{u:Value}(j:o.op=Op.call {callee:=Callee.value (Operand.func 45),args:=#[x],argTypes:=#[109]})(hx:a.eval x=u){R:Ending->World->Prop}
  (f:Calls prog 45 #[u] w R) (i:∀e b,R e b->∃v,e=.returned v/\K (a.put o.dst v) b):Oper.wp prog o a w K Q:=by
 unfold Oper.wp;have e:(execOp a.eval o).run prog w=.ok (.enter 45 #[u]) w:=by
  have c:a.eval (.func 45)=.func (.func 45) #[] #[]:=rfl;generalize a.eval=k at hx c ⊢;have d:∀args w,(callFunc 45 args).run prog w=.ok (.enter 45 args) w:=enters_of (P:=prog) func45 (by kernel_rfl) rfl
  simp only[execOp,j];simp[go_sem,resolve,invoke,hx,c,d]
 rw[e];refine f.mono ?_;intro e b h;obtain⟨v,rfl,g⟩:=i e b h;exact g
theorem jlp{o:Oper}{a:Act}{w:World}{K:Act->World->Prop}{Q:Exit->Act->World->Prop}{x:Operand}{n:Int}{b:Option Addr}{m c:Nat}(f:o.op=Op.buildSlice 48 1 #[(0,x)])(hx:a.eval x=.agg #[.int .i64 n,.slice b m c])(d:K (a.put o.dst (sl w.heap.size 1 1)) (w.alloc (.cells #[.int .i64 n,.slice b m c] 100))):Oper.wp prog o a w K Q:=by
 unfold Oper.wp;have e:(execOp a.eval o).run prog w=.ok (.value (sl w.heap.size 1 1)) (w.alloc (.cells #[.int .i64 n,.slice b m c] 100)):=by simp only[execOp,f];rw[show(Array.map (fun(p:Nat×Operand)=>match p with | (i,x)=>(i,a.eval x)) #[((0:Nat),x)])=#[((0:Nat),Value.agg #[.int .i64 n,.slice b m c])] from by rw[<- hx];simp];kernel_rfl
 rw[e];exact d
theorem jgs{o:Oper}{a:Act}{w:World}{K:Act->World->Prop}{Q:Exit->Act->World->Prop}{x y:Operand}{p:Addr}{u:Value}{g n c:Nat}(h:o.op=Op.store 48 x y)(hx:a.eval x=.pointer (some p))(i:a.eval y=sl g n c)(d:w.cell? p=some u)(f:w.frozen? p=false)(b:K (a.put o.dst undef) (w.setCell p (sl g n c))):Oper.wp prog o a w K Q:=by
 unfold Oper.wp;have e:(execOp a.eval o).run prog w=.ok .skip (w.setCell p (sl g n c)):=by simp only[execOp,h,hx,i];simp[go_sem,Result.andThen,d,f,sl]
 rw[e];exact b
theorem jes(a0:Act)(t:World)(C eb lo n:Nat)(p:Pr)(fa:Option Addr)(fc:Nat)(H:Value)(xs:List Value)(Q:Exit->Act->World->Prop)
  (h3:a0.tmps[3]?=some (ptr C)) (h5:a0.tmps[5]?=some (ptr eb)) (aE:16<=a0.tmps.size) (L:Boxed t C 48 H) (a8:ja t eb 109 #[.int .i64 p.1.1.kind,.string (B p.1.1.raw),p.2,.int .i64 p.1.2])
  (aM:p.2=.slice fa p.1.1.fields.length fc) (aA:ZC t p.2 p.1.1.fields) (ay:p.1.1.fields.length<=1000000) (G:t.ownsRow lo 100 2 H n xs) (aO:lo<=t.heap.size) (hn:n<=1000000)
  (hQ:∀a x g c w2,a.defers=a0.defers->a.tmps.size=a0.tmps.size->(∀j,(j<11\/15<j)->a.tmps[j]?=a0.tmps[j]?)->w2.ownsRow t.heap.size 148 2 x p.1.1.fields.length (ju p.1.1.fields)->w2.ownsRow lo 100 2 (sl g (n+1) c) (n+1) (xs++[.int .i64 p.1.2,x])->jH (fun r=>H.ownBlock=some r) t w2->Q .normal a (w2.setCell ⟨C,0,none⟩ (sl g (n+1) c))) :
  wpAny prog .any jbP Q jbP.size (Array.replicate jbP.size false) a0 t.drew:=by
 obtain⟨i0,hi,Y,aG,aH⟩:=info_parts jlN;have aD:H.ownBlock≠some C:=by
  intro e;rcases G.2 with ⟨rfl,_⟩|⟨g,aK,aL,rfl,_,hg,_⟩
  ·cases e
  have:g=C:=joN e;subst this;have:=hg.symm.trans L
  simp at this
 refine YC (jmu a0 t C lo n p H xs) ?step ?done jbP.size _ a0 _ ?start (by simp) (by unfold jfC;simp)
 case start=>exact⟨rfl,rfl,fun _ _=>rfl,0,false,by decide,rfl,fun h=>absurd h (by decide),(fun h=>by cases h),(joL _ _).drew⟩
 case done =>
  rintro l a w ⟨d,s,f,c,z,hc,rfl,hz,A,N⟩ hl hr;have h5:=jn5 _ _ _ _ _ _ hr
  have:c=5:=by have:=of_decide_eq_true h5;omega
  subst this;obtain⟨x,g,c,w2,r1,r2,r3,rfl⟩:=N;exact hQ a x g c w2 d s f r1 r2 r3
 case step =>
 rintro l i o a w ⟨d,s,f,c,z,hc,rfl,hz,A,N⟩ hl D I he;have aN:i<6:=by
  rcases jpc i 6 with h|h
  ·exact h
  rw[jpv (by exact h)]at D;cases D
 have J:∀e∈o.after,Region.binds .any e=true->(jl3 c z).getD e.on false=true:=he;have aC:16<=a.tmps.size:=by rw[s];exact aE
 have T:=fun d v (hd:d<16)=>jon (a:=a) (d:=d) (v:=v) (by omega);have e3:=evS ((f 3 (by omega)).trans h3)
 have e5:=evS ((f 5 (by omega)).trans h5);rcases(by omega:i=0\/i=1\/i=2\/i=3\/i=4\/i=5) with rfl|rfl|rfl|rfl|rfl|rfl
 ·have m:some _=some o:=D;obtain rfl:=joN m;have Y:z=false:=I
  subst Y;have W:c<=3:=by
   rcases jpc 3 c with h|h
   ·exact absurd (hz h) (by decide)
   exact h
  have y:=N.below W;refine jd9 D rfl (jgu rfl e3 ((y.cell (p:=⟨C,0,none⟩) L.lt).trans L.cell) ?_);show jmu a0 t C lo n p H xs _ (a.put (some 11) H) w
  exact⟨d,(Jf _ _ _).trans s,fun j O=>by rw[T _ _ (by decide),if_neg (by omega)];exact f j O,c,true,hc,rfl,fun _=>rfl,fun _=>by rw[T _ _ (by decide),if_pos rfl],N.put aC _⟩
 ·have m:some _=some o:=D;obtain rfl:=joN m;have ar:c=0:=by have:decide (0<c)=false:=I;simpa using this
  subst ar;have y:Below t.heap.size t w:=N
  obtain⟨b0,b1,b2,b3⟩:=jkJ (a8.below y a8.lt);refine jd9 D rfl (jgt rfl e5 b0 b1 b2 b3 ?_);show jmu a0 t C lo n p H xs _ (a.put (some 12) (jbk p)) w
  exact⟨d,(Jf _ _ _).trans s,fun j O=>by rw[T _ _ (by decide),if_neg (by omega)];exact f j O,1,z,by decide,rfl,fun h=>absurd h (by decide),fun h=>by rw[T _ _ (by decide),if_neg (by decide)];exact A h,y,by rw[T _ _ (by decide),if_pos rfl]⟩
 ·have m:some _=some o:=D;obtain rfl:=joN m;have au:c=1:=by
   have R:decide (1<c)=false:=I;have U:decide (0<c)=true:=J ⟨1,Ground.data⟩ (by simp[jbP]) rfl
   simp at R U;omega
  subst au;obtain⟨y,ai⟩:=N;refine jd9 D rfl (ji1 rfl (evS ai) (jb0 p w (aA.below y (joJ _)) ay) ?_);rintro e w' ⟨x,rfl,hx,hb⟩;refine⟨_,rfl,?_⟩;show jmu a0 t C lo n p H xs _ (a.put (some 13) _) w'
  refine⟨d,(Jf _ _ _).trans s,fun j O=>by rw[T _ _ (by decide),if_neg (by omega)];exact f j O,2,z,by decide,rfl,fun h=>absurd h (by decide),fun h=>by rw[T _ _ (by decide),if_neg (by decide)];exact A h,y.trans (hb.mono y.size),x,by rw[T _ _ (by decide),if_pos rfl],jA hx y.size⟩
 ·have m:some _=some o:=D;obtain rfl:=joN m;have av:c=2:=by
   have R:decide (2<c)=false:=I;have U:decide (1<c)=true:=J ⟨2,Ground.data⟩ (by simp[jbP]) rfl
   simp at R U;omega
  subst av;obtain⟨y,x,aj,hx⟩:=N;obtain⟨xa,xc,rfl,_⟩:=je hx;refine jd9 D rfl (jlp rfl (evS aj) ?_);show jmu a0 t C lo n p H xs _ (a.put (some 14) (sl w.heap.size 1 1)) _
  exact⟨d,(Jf _ _ _).trans s,fun j O=>by rw[T _ _ (by decide),if_neg (by omega)];exact f j O,3,z,by decide,rfl,fun h=>absurd h (by decide),fun h=>by rw[T _ _ (by decide),if_neg (by decide)];exact A h,y.alloc y.size _,_,w.heap.size,by rw[T _ _ (by decide),if_pos rfl],jX hx ((joL _ _).alloc (joJ _) _) (joJ _),y.size,ja.new _ _ _⟩
 ·have m:some _=some o:=D;obtain rfl:=joN m;have W:c=3:=by
   have R:decide (3<c)=false:=I;have U:decide (2<c)=true:=J ⟨3,Ground.data⟩ (by simp[jbP]) rfl
   simp at R U;omega
  subst W;have aI:z=true:=J ⟨0,Ground.data⟩ (by simp[jbP]) rfl
  subst aI;obtain⟨y,x,b,ak,hx,hb,ax⟩:=N;have aB:=jN G y (joJ _)
  have ah:=evS (A rfl);have af:∀u∈[Value.int .i64 p.1.2,x],u.oneCell'=true:=by
   intro u hu;simp at hu;rcases hu with rfl|rfl
   ·rfl
   obtain⟨xa,xc,rfl,_⟩:=je hx;rfl
  have V:=zb (P:=prog) (ops:=jbP) (o:=_) (a:=a) (w:=w) (K:=fun a' w'=>jmu a0 t C lo n p H xs ((jl3 3 true).setIfInBounds 4 true) a' w') (Q:=Q) (E:=True) rfl (.tmp 11) (.tmp 14) 48 (show(jbP[4]'(by decide)).op=_ from rfl) 100 i0 _ 2 32 underlying48 hi Y aG aH rfl (by decide) H n xs ah (jA aB (joT _)) ⟨b,0,none⟩ 1 1 [.int .i64 p.1.2,x] (evS ak) rfl (jaa ax) af (by unfold maxLen;omega) (by omega) ?hK
  case hK =>
   intro v' w' X hg aq;obtain⟨Z,c',rfl⟩:=ownsRow_succ X;have aF:w'.ownsRow t.heap.size 148 2 x p.1.1.fields.length (ju p.1.1.fields):=by
    refine jU hx fun k hk=>hg.block k (hx.lt k hk).2 (fun e => ?_);have R:=(hx.lt k hk).1
    have U:=(G.lt k e.symm).2;omega
   have ae:w'.ownsRow lo 100 2 (.slice (some ⟨Z,0,none⟩) (n+1) c') (n+1) (xs++[.int .i64 p.1.2,x]):=by
    rcases X.2 with ⟨q,_⟩|⟨g2,aJ,a7,q,_,ag⟩
    ·cases q
    cases q;refine⟨X.1,.inr ⟨Z,c',a7,rfl,?_,ag⟩⟩;rcases aq with h|h
    ·exact(G.lt Z h.symm).1
    have:Z=w.heap.size:=joN h;have:=y.size
    omega
   show jmu a0 t C lo n p H xs _ (a.put (some 15) (sl Z (n+1) c')) _;exact⟨d,(Jf _ _ _).trans s,fun j O=>by rw[T _ _ (by decide),if_neg (by omega)];exact f j O,4,true,by decide,rfl,fun _=>rfl,fun _=>by rw[T _ _ (by decide),if_neg (by decide)];exact A rfl,x,Z,c',by rw[T _ _ (by decide),if_pos rfl],aF,ae,(jH.of_below y (joJ _)).grown hg (fun k hk=>.inl hk)⟩
  rw[if_pos (show Region.wanted jbP[4] _=true from rfl)]at V;exact jd9 D rfl V
 have m:some _=some o:=D;obtain rfl:=joN m;have aw:c=4:=by
  have R:decide (4<c)=false:=I;have U:decide (3<c)=true:=J ⟨4,Ground.data⟩ (by simp[jbP]) rfl
  simp at R U;omega
 subst aw;obtain⟨x,g,c,am,r1,r2,r3⟩:=N;have aa:Boxed w C 48 H:=(r3.same C L.lt aD).trans L
 refine jd9 D rfl (jgs rfl e3 (evS am) aa.cell aa.frozen ?_);exact⟨d,s,f,5,z,by decide,rfl,fun _=>hz (by decide),A,x,g,c,w,r1,r2,r3,rfl⟩
abbrev Stz:=Int×List Fld
def qQ:List Stz->List Value->List Value
 | s::l,v::vs=>.int .i64 s.1::v::qQ l vs
 | _,_=>[]
theorem ZH:∀(l:List Stz) (b:List Value) (s:Stz) (v:Value),b.length=l.length->qQ (l++[s]) (b++[v])=qQ l b++[.int .i64 s.1,v]
 | [],[],s,v,_=>rfl
 | [],_::_,_,_,h=>by simp at h
 | a::l,[],s,v,h=>by simp at h
 | a::l,u::b,s,v,h=>by have:=ZH l b s v (by simpa using h);simp only[jo6,qQ,this]
theorem YI:∀(l:List Stz) (b:List Value) (i:Nat) (s:Stz) (v:Value),l[i]?=some s->b[i]?=some v->(qQ l b)[i*2]?=some (.int .i64 s.1)/\(qQ l b)[i*2+1]?=some v
 | [],_,i,s,v,h,_=>by simp at h
 | a::l,[],i,s,v,_,h=>by simp at h
 | a::l,u::b,0,s,v,h,c=>by simp at h c;subst h c;exact⟨rfl,rfl⟩
 | a::l,u::b,i+1,s,v,h,c=>by
  obtain⟨x,y⟩:=YI l b i s v (by simpa using h) (by simpa using c);have e:qQ (a::l) (u::b)=.int .i64 a.1::u::qQ l b:=rfl
  rw[e,show(i+1)*2=i*2+1+1 by omega];exact⟨by simpa using x,by simpa using y⟩
structure WZ(lo:Nat)(w wr:World)(v:Value)(fvs:List Value)(rs:List Stz):Prop where
 row:wr.ownsRow lo 100 2 v rs.length (qQ rs fvs)
 len:fvs.length=rs.length
 each:∀(j:Nat) s x,rs[j]?=some s->fvs[j]?=some x->wr.ownsRow lo 148 2 x s.2.length (ju s.2)
 below:Below w.heap.size w wr
theorem WZ.start(lo:Nat)(w wr:World)(a:Below w.heap.size w wr):WZ lo w wr (.slice none 0 0) [] []:=⟨⟨rfl,.inl ⟨rfl,rfl⟩⟩,rfl,fun j s x h=>by simp at h,a⟩
theorem WZ.turned{lo B k:Nat}{w W c:World}{v:Value}{fvs:List Value}{g:List Stz}(h:WZ lo w W v fvs g)(a:zn B k W c)(i:w.heap.size<=B)(l:B+k<=lo):WZ lo w c v fvs g :=
 ⟨a.row h.row (fun b e=>.inr (by have:=(h.row.lt b e).1;omega)),h.len,fun j s x d f=>a.row (h.each j s x d f) (fun b e=>.inr (by have:=((h.each j s x d f).lt b e).1;omega)),h.below.trans (a.below i h.below.size)⟩
theorem WZ.alloc{lo:Nat}{w W:World}{v:Value}{fvs:List Value}{b:List Stz}(h:WZ lo w W v fvs b)(o:Obj):WZ lo w (W.alloc o) v fvs b :=
 have a:=(joL W.heap.size W).alloc (joJ _) o
 ⟨jX h.row a (joJ _),h.len,fun j s x c d=>jX (h.each j s x c d) a (joJ _),h.below.alloc h.below.size o⟩
theorem jmJ{W:World}{lo n m:Nat}{v x:Value}{xs p:List Value}(o:W.ownsRow lo 100 2 v n xs)(hx:W.ownsRow lo 148 2 x m p):∀b,x.ownBlock=some b->¬v.ownBlock=some b:=by
 intro b f e;rcases hx.2 with ⟨rfl,_⟩|⟨g,h,i,rfl,_,l,_⟩
 ·cases f
 cases f;rcases o.2 with ⟨rfl,_⟩|⟨j,c,d,rfl,_,a,_⟩
 ·cases e
 have:j=g:=joN e;subst this;rw[l]at a;injection a with a;injection a with _ k _;exact absurd k (by decide)
theorem WZ.snoc{lo:Nat}{w W w2:World}{v:Value}{fvs:List Value}{b:List Stz}{s:Stz}{x:Value}{g c:Nat}(h:WZ lo w W v fvs b)(k:w.heap.size<=lo)(hx:w2.ownsRow lo 148 2 x s.2.length (ju s.2))(i:w2.ownsRow lo 100 2 (sl g (b.length+1) c) (b.length+1) (qQ b fvs++[.int .i64 s.1,x]))
  (f:jH (fun r=>v.ownBlock=some r) W w2):WZ lo w w2 (sl g (b.length+1) c) (fvs++[x]) (b++[s]):=by
 refine⟨by rw[joK,ZH _ _ _ _ h.len];exact i,by simp[h.len],fun j y u d a => ?_,h.below.trans (f.to_below h.below.size (fun r i e=>by have:=(h.row.lt r e).1;omega))⟩;rcases Ug d with ⟨q,d⟩|⟨q,rfl⟩
 ·rw[jpf (by rw[h.len];exact q)]at a;exact jG (h.each j y u d a) f (jmJ h.row (h.each j y u d a))
 rw[q,<- h.len,jo7 (joJ _)]at a;simp at a;subst a;exact hx
def jfD(xs:List (Nat×Pr)):List Stz:=xs.map fun x=>(x.2.1.2,x.2.1.1.fields)
theorem jf0(xs:List (Nat×Pr))(x:Nat×Pr):jfD (xs++[x])=jfD xs++[(x.2.1.2,x.2.1.1.fields)]:=by unfold jfD;simp
theorem WZ.set{lo:Nat}{w W:World}{v:Value}{fvs:List Value}{f:List Stz}{b:Nat}(h:WZ lo w W v fvs f)(g:b<lo)(a:w.heap.size<=b)(u:Value):WZ lo w (W.setCell ⟨b,0,none⟩ u) v fvs f :=
 ⟨js h.row (fun e=>by have:=(h.row.lt b e).1;omega) _,h.len,fun j s x c d=>js (h.each j s x c d) (fun e=>by have:=((h.each j s x c d).lt b e).1;omega) _,h.below.setCell (p:=⟨b,0,none⟩) a _⟩
theorem jbZ(t:List Pr)(v:Value)(q:Option Addr)(w:World)(hl:∀W,Below w.heap.size w W->jio W (.pointer q) v t)(ok:Ke t):
  Calls prog 18 #[.pointer q] w fun e w'=>∃u d,e=.returned u/\WZ w.heap.size w w' u d (jfD (JW 0 t)):=by
 obtain⟨A,a8,hv,ak⟩:=(hl w (joL _ _)).1.empty;have a7:=joI (fun W Z=>callsIn_wide (n:=8).2 (hl W Z).2)
 have V:=joI (fun W Z=>(hl W Z).1);have ST:=joI (fun W=>callsIn_wide (n:=8).2 (Ud v W A t.length a8 hv))
 have HF:=joI ok.fields;have ah:t.length<=1000000:=by have:=ok.len;omega
 clear hl hv ok;refine callsIn_wide (n:=9).1 ?_;refine callsIn_of_wp_marks func18 rfl trivial ?_ rfl;simp only[ntmps18,jpN,joR,jpm,Nat.reduceAdd,Nat.reduceSub,jpK,jpL,jpU,jpQ,jpC,jo6];gi_wp2_with fail;have J:Below w.heap.size w (w.alloc (.cells #[.slice none 0 0] 48)):=(joL _ w).alloc (joJ _) _
 refine⟨trivial,(a7.out _ J).mono ?_⟩;rintro e E ⟨rfl,rfl⟩;gi_wp2_with fail;refine⟨trivial,(ST.out _).mono ?_⟩;rintro e E ⟨rfl,rfl⟩;gi_wp2_with fail;obtain⟨E,o⟩:∃E,E=((w.alloc (.cells #[.slice none 0 0] 48)).alloc (.cells #[v] 96)):=⟨_,rfl⟩
 have Q:E.heap.size=w.heap.size+2:=by rw[o];simp
 have B0:Boxed E w.heap.size 48 (.slice none 0 0):=by rw[o];exact(jqe w _ _).alloc _
 have B1:Boxed E (w.heap.size+1) 96 v:=by rw[o];exact xI w _ _ _
 have L:Below w.heap.size w E:=by rw[o];exact J.alloc (by simp) _
 rw[<- o];clear o J;have HH:=YH t v _ E B1 ah (V.out _ L)
 refine Zf (gf:=76) (lb:=#[.pointer (some ⟨w.heap.size+1,0,none⟩)]) rfl (enters_of func76 (by kernel_rfl) rfl) HH (fun _=>rfl)
  (fun f W=>∃u d,Boxed W w.heap.size 48 u/\WZ (w.heap.size+6) w W u d (jfD f)/\Boxed W (w.heap.size+1) 96 v)
  (fun _ _ _=>False)
  (by
   rw[Q];rintro f W W' ⟨u,d,z,m,C⟩ I;exact⟨u,d,I.box z (.inl (by omega)),m.turned I (by omega) (by omega),I.box C (.inl (by omega))⟩)
  (fun _ _ _ _ hs _=>hs)
  ⟨_,[],B0,WZ.start _ _ _ L,B1⟩
  (fun f W h=>by obtain⟨u,d,z,m,C⟩:=h;exact⟨V.out _ m.below,C⟩)
  (fun a f x a' W=>∃G,w.heap.size+6<=G/\a'={tmps:=((a.tmps.setIfInBounds 9 (.int .i64 (x.1:Nat))).setIfInBounds 10 (jbk x.2)).setIfInBounds 5 (ptr G),defers:=[]}/\ja W G 109 #[.int .i64 x.2.1.1.kind,.string (B x.2.1.1.raw),x.2.2,.int .i64 x.2.1.2] /\
   ∃u d,Boxed W w.heap.size 48 u/\WZ (w.heap.size+6) w W u d (jfD f)/\Boxed W (w.heap.size+1) 96 v)
  ?hM ?assign ?body ?done ?stop
 case hM =>
  rw[Q];rintro a f x a' _ W W' ⟨G,h0,aa,H,u,d,z,m,C⟩ I;exact⟨G,h0,aa,(I.same G H.lt (.inr (by omega))).trans H,u,d,I.box z (.inl (by omega)),m.turned (I.sub (joJ _) (show w.heap.size+2+2<=w.heap.size+2+4 by omega)) (by omega) (by omega),I.box C (.inl (by omega))⟩
 case assign =>
  rw[Q];rintro l f x R W hx P ⟨u,d,z,m,C⟩;have D:∃X Y,x.2.2=.slice X x.2.1.1.fields.length Y:=by have hm:=xj 0 t x (by rw[show Qr (fun p:Pr=>p.1.1.kind) 0 t=_ from hx];simp);exact((V.out _ m.below).each x.2 (joW hm.2.1)).form
  obtain⟨k,⟨⟨⟨kd,am,fs⟩,num⟩,fv⟩⟩:=x;obtain⟨X,Y,e⟩:=D;dsimp only at e;subst e;clear hx;dsimp only[jbk];gi_wp2;exact⟨(vO.refl _ _ W).alloc P _,W.heap.size,by omega,rfl,ja.new _ _ _,u,d,z.alloc _,m.alloc _,C.alloc _⟩
 case body =>
  rw[Q];rintro l f x R a' W hx P ⟨G,Z,rfl,hc,u,d,z,m,C⟩;have hm:=xj 0 t x (by rw[show Qr (fun p:Pr=>p.1.1.kind) 0 t=_ from hx];simp)
  have O:=joW hm.2.1;have D:=(V.out _ m.below).each x.2 O
  obtain⟨X,Y,ae⟩:=D.form;have ag:(jfD f).length<=1000000:=by
   have h4:=congrArg List.length hx;have h5:=Yj (κ:=fun p:Pr=>p.1.1.kind) 0 t
   unfold jfD;simp at h4 ⊢;simp only[JW]at h4 h5;omega
  refine wpIn_block (xW (by decide +kernel) (by rintro⟨a,w,h⟩;exact h) (by kernel_rfl) ?_);refine jes _ W w.heap.size G (w.heap.size+6) (jfD f).length x.2 X Y u (qQ (jfD f) d) _ rfl rfl (by simp) z hc ae D (HF.out _ O) m.row (by omega) ag ?_;intro a y g c w2 _ _ _ r1 r2 U;have aj:=jA r1 (show w.heap.size+6<=W.heap.size by omega)
  have K:=joI (m.snoc (s:=(x.2.1.2,x.2.1.1.fields)) (by omega) aj r2 U);have af:¬u.ownBlock=some w.heap.size:=fun e=>by have:=(m.row.lt _ e).1;omega
  have N:¬u.ownBlock=some (w.heap.size+1):=fun e=>by have:=(m.row.lt _ e).1;omega
  have b1:Boxed w2 w.heap.size 48 u:=(U.same _ z.lt af).trans z;have b3:Boxed w2 (w.heap.size+1) 96 v:=(U.same _ C.lt N).trans C
  have ai:vO (w.heap.size+2) (2+2) W w2:=⟨U.size,fun r p1 p2=>U.same r (by omega) (fun e=>by have:=(m.row.lt _ e).1;omega)⟩
  refine⟨ai.setCell (.inl (by show w.heap.size<_;omega)) _,_,d++[y],jpV _ b1,?_,b3.other (by show w.heap.size+1≠w.heap.size;omega) _⟩;rw[jf0];exact K.out.set (by omega) (joJ _) _
 case done =>
  rw[Q];rintro W ⟨u,d,b0,i,b1⟩ hK;obtain⟨ua,uc,rfl,_⟩:=je i.row;have c:=b0.cell
  gi_wp2;refine⟨by simp,.inl ⟨_,_,rfl,run_takeDeferred hK,?_⟩⟩;have kb:Below w.heap.size W (W.putObj (w.heap.size+2) (.deferred none)):=belowK_b (w:=w) (joJ _) W _ _ _ (by omega) hK rfl rfl
  have pb:=grownBy_putObj' W (w.heap.size+2) (.deferred none);refine⟨_,results_tmp rfl _ _ _,.slice ua (jfD (JW 0 t)).length uc,d,rfl,⟨jA (jU i.row fun b e=>pb.block b (i.row.lt b e).2 (fun q => ?_)) (by omega),i.len,fun j s x q1 q2=>jA (jU (i.each j s x q1 q2) fun b e=>pb.block b ((i.each j s x q1 q2).lt b e).2 (fun q => ?_)) (by omega),i.below.trans kb⟩⟩
  ·have:=(i.row.lt b e).1;have:=joN q
   omega
  have:=((i.each j s x q1 q2).lt b e).1;have:=joN q
  omega
 case stop =>
 intro c f W _ h _;exact h.elim
end
def Wp(cur:Array Value):Nat->List Value->Array Value
 | _,[]=>cur
 | o,v::r=>Wp (cur.setIfInBounds o v) (o+1) r
theorem qL:∀(b:List Value) (a:Array Value) (o:Nat),(Wp a o b).size=a.size
 | [],_,_=>rfl
 | v::r,a,o=>by show(Wp (a.setIfInBounds o v) (o+1) r).size=_;rw[qL r];simp
theorem Jn:∀(b:List Value) (a:Array Value) (o j:Nat),o+b.length<=a.size->(Wp a o b)[j]?=if o<=j/\j<o+b.length then b[j-o]? else a[j]?
 | [],a,o,j,_=>by show a[j]?=_;rw[if_neg (by simp only[jpm];omega)]
 | v::r,a,o,j,h=>by
  show(Wp (a.setIfInBounds o v) (o+1) r)[j]?=_;rw[Jn r _ _ _ (by simp at h ⊢;omega)];simp only[joR]at h ⊢;by_cases c:o+1<=j/\j<o+1+r.length
  ·rw[if_pos c,if_pos (by omega),show j-o=(j-(o+1))+1 by omega,joO]
  rw[if_neg c];by_cases d:o=j
  ·subst d;rw[if_pos (by omega),Nat.sub_self,joP,jps];simp;omega
  rw[if_neg (by omega),jps,if_neg d]
theorem ja.lay{W:World}{b:Nat}{t:TypeId}:∀(c:List Value) {a:Array Value} (o:Nat),ja W b t a->ja (W.setCells b o c) b t (Wp a o c)
 | [],_,_,h=>h
 | v::r,a,o,h=>by have:=ja.lay (W:=W.setCell ⟨b,o,none⟩ v) r (o+1) (h.set o v);exact this
theorem xt{S:Nat->Prop}{X Y:World}{b:Nat}(a:S b\/X.heap.size<=b):∀(c:List Value) (o:Nat),jH S X Y->jH S X (Y.setCells b o c)
 | [],_,h=>h
 | v::r,o,h=>by have:=xt (Y:=Y.setCell ⟨b,o,none⟩ v) a r (o+1) (h.setCell (p:=⟨b,o,none⟩) a v);exact this
theorem Jp:(prog.info? 109).map (fun i=>(i.zero,i.size,i.bytes))=some (some (.agg #[.int .i64 0,.string ⟨#[]⟩,.slice none 0 0,.int .i64 0]),4,56):=by kernel_rfl
theorem jel(w:World)(b o c:Nat)(p:TypeId)(h:∀j,j<4->(w.cell? ⟨b,o+j,none⟩).isSome=true)(i:∀j,j<4->w.frozen? ⟨b,o+j,none⟩=false):
  (Builtin.clear_ #[96] p #[.slice (some ⟨b,o,none⟩) 1 c]).run prog w=.ok (.tuple #[]) (w.setCells b o [.int .i64 0,.string ⟨#[]⟩,.slice none 0 0,.int .i64 0]):=by
 obtain⟨q,k,d,m,n⟩:=info_parts Jp;have a:=run_storeCells_cells (P:=prog) b o [.int .i64 0,.string ⟨#[]⟩,.slice none 0 0,.int .i64 0] 0 w (by simpa using h) (by simpa using i) (by intro v g;simp at g;rcases g with rfl | rfl | rfl | rfl<;>rfl)
 simp only[jqk]at a;have l:prog.underlying 96=some (.slice 109):=underlying96
 have f:(zeroValue 109).run prog w=.ok (.agg #[.int .i64 0,.string ⟨#[]⟩,.slice none 0 0,.int .i64 0]) w:=by simp[zeroValue,typeInfo,k,d]
 have e:(Builtin.zeroCells (Value.agg #[.int .i64 0,.string ⟨#[]⟩,.slice none 0 0,.int .i64 0]).cells 1).toList=[.int .i64 0,.string ⟨#[]⟩,.slice none 0 0,.int .i64 0]:=by kernel_rfl
 simp only[Builtin.clear_];simp[run_underlying l,f,e,a]
theorem VZ{P:Program}{ops:Array Oper}{o:Oper}{a:Act}{w:World}{K:Act->World->Prop}{Q:Exit->Act->World->Prop}{E:Prop}
  (i:o.guard=none) (d x:Operand) (c e:TypeId) (b:o.op=Op.call {callee:=Callee.builtin Builtin.append,args:=#[d,x],argTypes:=#[c,e]})
  (v u:Value) (h:a.eval d=v) (hx:a.eval x=u) {f:Value} {w':World} (j:(Builtin.append_ #[c,e] o.type #[v,u]).run P w=.ok f w') (g:K (a.put o.dst f) w') :
  if Region.wanted o (yielded ops a.tmps)=true then Oper.wp P o a w K Q else E:=by
 have k:Region.wanted o (yielded ops a.tmps)=true:=by simp[Region.wanted,i]
 rw[if_pos k];unfold Oper.wp;simp[execOp,b,resolve,invoke,builtin,h,hx,j,Result.andThen];exact g
theorem jcF(lo g n cap i:Nat)(xs:List Value)(w:World)(s:w.ownsRow lo 109 4 (sl g n cap) n xs)(C:∀u∈xs,u.oneCell'=true)(hi:i<n)(hn:n<=1000000):
  Calls prog 266 #[sl g n cap,.int .i64 (i:Nat),.int .i64 (i+1:Nat)] w fun e w'=>e=.returned (sl g (n-1) cap)/\w'.ownsRow lo 109 4 (sl g (n-1) cap) (n-1) (xs.take (i*4)++xs.drop ((i+1)*4))/\jH (· = g) w w':=by
 obtain⟨U,aa,aA,y,aB⟩:=info_parts Jp;have p:=s.1
 obtain⟨l,af,N,ax,a8,v,Q⟩:∃l,lo<=g/\ja w g 109 l/\n<=cap/\cap<=maxLen/\l.size=cap*4/\l.toList.take (n*4)=xs:=by
  rcases s.2 with ⟨q,_⟩|⟨g',ag,l,q,a,b,c,d,e,f⟩
  ·cases q
  cases q;exact⟨l,a,b,c,d,e,f⟩
 have E:∀j,j<n*4->xs[j]?=l[j]?:=fun j o=>by rw[<- Q,jpD,if_pos o];simp
 obtain⟨k,m⟩:∃k,k=xs.drop ((i+1)*4):=⟨_,rfl⟩
 have G:k.length=(n-(i+1))*U.size:=by rw[y,m,joX,p];omega
 have r:k.length=(n-(i+1))*4:=by rw[G,y]
 have O:∀u∈k,u.oneCell'=true:=fun u x=>C u (by rw[m]at x;exact jpz x);have z:∀j u,k[j]?=some u->l[(i+1)*4+j]?=some u:=fun j u o=>by have aw:=(List.getElem?_eq_some_iff.1 o).1;rw[m,jpq]at o;rw[<- E _ (by omega)];exact o
 obtain⟨A,hA,D⟩:∃A:Addr,(if cap=i+1 then some (⟨g,0,none⟩:Addr) else some ⟨g,(i+1)*4,none⟩)=some A/\Hid (∀j u,k[j]?=some u->w.drew.cell? (A.add j)=some u):=by
  by_cases h:cap=i+1
  ·refine⟨⟨g,0,none⟩,by simp[h],fun j u x => ?_⟩;have h0:k.length=0:=by rw[r];omega
   rw[List.length_eq_zero_iff.1 h0]at x;simp at x
  refine⟨⟨g,(i+1)*4,none⟩,by simp[h],fun j u x => ?_⟩;rw[Addr.add_lit];exact(N.cell _).trans (z j u x)
 have hc:Hid (∀j,j<k.length->(w.drew.cell? ⟨g,0+i*U.size+j,none⟩).isSome=true):=fun j o=>by show(w.cell? _).isSome=true;rw[N.cell,y,jpu (by omega)];rfl
 have hf:Hid (∀j,j<k.length->w.drew.frozen? ⟨g,0+i*U.size+j,none⟩=false):=fun j o=>N.frozen _;have x:prog.underlying 96=some (.slice 109):=underlying96
 obtain⟨I,t⟩:∃I,I=w.drew.setCells g (i*4) k:=⟨_,rfl⟩
 have R:ja I g 109 (Wp l (i*4) k):=by rw[t];exact ja.lay k _ (show ja w.drew g _ l from N)
 have ai:(Wp l (i*4) k).size=cap*4:=by rw[qL,v]
 have V:=joI (fun(c:Nat) (H:TypeId)=>jel I g ((n-1)*4) c H (fun j o=>by rw[R.cell,jpu (by omega)];rfl) (fun j o=>R.frozen _));have a7:Hid (∀H,(Builtin.append_ #[96,96] H #[.slice (some ⟨g,0,none⟩) i cap,.slice (some A) (n-(i+1)) (cap-(i+1))]).run prog w.drew=.ok (.slice (some ⟨g,0,none⟩) (n-1) cap) I):=fun H=>by have:=run_append_room_cells (w:=w.drew) 96 H 109 U x aa g 0 i cap A (n-(i+1)) (cap-(i+1)) k G D.out O (by omega) hc.out hf.out;rw[this,t,show i+(n-(i+1))=n-1 by omega,y,jpl]
 have HW:=joI t;have X:=joI R
 have J:=joI p;have Y:=joI m
 have W:=joI E;have K:=joI r
 clear hc hf D z O G m E Q N R s C t p r;unfold sl;unfold maxLen at a8;have ak:(i:Int)<=(i:Int)+1:=by omega
 have am:((i:Int)+1)<=(n:Int):=by omega
 have aq:¬(n=i):=by omega
 have av:i<=cap:=by omega
 have aj:(0:Int)<=(i:Int)+1:=by omega
 have ae:¬(cap=n-1):=by omega
 have P:n-1<=cap:=by omega
 have ay:n-(n-1)=1:=by omega
 have ah:(((n-1:Nat):Int))<=(n:Int):=by omega
 have ar:((i:Int)==(i:Int)+1)=false:=beq_eq_false_iff_ne.2 (by omega);go_enter func266,ntmps266;go_wp2_with fail;go_region_law (refine VZ rfl (.tmp 22) (.tmp 25) 96 96 rfl (.slice (some ⟨g,0,none⟩) i cap) (.slice (some A) (n-(i+1)) (cap-(i+1))) (by simp[Act.eval,Act.put]) (by simp[Act.eval,Act.put]) (a7.out _) ?_);have au:=fun(H:TypeId)=>V.out (cap-(n-1)) H
 go_wp2_with fail;go_ret;obtain⟨Z,L⟩:∃Z,Z=I.setCells g ((n-1)*4) [.int .i64 0,.string ⟨#[]⟩,.slice none 0 0,.int .i64 0]:=⟨_,rfl⟩
 have C2:ja Z g 109 (Wp (Wp l (i*4) k) ((n-1)*4) [.int .i64 0,.string ⟨#[]⟩,.slice none 0 0,.int .i64 0]):=by rw[L];exact ja.lay _ _ X.out
 refine⟨rfl,?_,?_⟩
 ·rw[<- L];refine⟨by rw[joK,joS,joX,J.out];omega,.inr ⟨g,cap,_,rfl,af,C2,P,by unfold maxLen;omega,by rw[qL,qL,v],?_⟩⟩;apply jqI;intro j;rw[jpD];split
  ·rename_i o;rw[jqF,Jn _ _ _ _ (by rw[qL,v];simp only[joR,jpm];omega),if_neg (by omega),Jn _ _ _ _ (by rw[K.out,v];omega)];split
   ·rename_i h2;rw[jo7 (by rw[joS,J.out];omega),joS,J.out,Y.out,jpq,jpq];congr 1;omega
   rename_i h2;rw[K.out]at h2;rw[jpf (by rw[joS,J.out];omega),jpD,if_pos (by omega),W.out j (by omega)]
  rename_i o;rw[jpe];rw[joK,joS,joX,J.out];omega
 rw[HW.out];exact xt (S:=(· = g)) (b:=g) (.inl rfl) _ _ (xt (S:=(· = g)) (b:=g) (.inl rfl) _ _ (jH.refl _ w).drew)
end Go.Proofs.YtbapfpekklcicaaGreatDoor
