/- Texts put together:RQ,RK,QI,QJ. -/
import Derived.Sort.BigQuietIn
import Derived.Test.YtbapfpekklcicaaGreatDoorBtx10
set_option linter.unusedVariables false
set_option maxRecDepth 100000
set_option maxHeartbeats 16000000
namespace Go.Proofs.YtbapfpekklcicaaGreatDoor
open Go.RowKit Go.Shelf Tryz
abbrev jpj:=@Array.getD_eq_getD_getElem?
abbrev jps:=@Array.getElem?_setIfInBounds
abbrev jpv:=@Array.getElem?_eq_none
abbrev jqT:=@Array.ext_getElem?
abbrev jrb:=@Array.getElem?_replicate
def jnL(ops:Array Oper):Bool:=ops.all fun o=>match o.op with | .defer _=>false | _=>true
theorem jhW{ops:Array Oper}(h:jnL ops=true){i:Nat}{o:Oper}(b:ops[i]?=some o):∀c,o.op ≠ .defer c:=by
 intro c e;have a:=Array.mem_of_getElem? b
 have:=(Array.all_eq_true_iff_forall_mem.1 h) o a;simp[e]at this
theorem jeH{n l:Nat}{P:Program}{o:Oper}{a:Act}{w:World}{next:Act->World->Prop}{Q:Exit->Act->World->Prop}(h:∀c,o.op ≠ .defer c)
  (g:o.wpIn Fence.wide n P a w next Q):o.wpIn (Fence.wide.inRound l) n P a w next Q:=by
 refine⟨g.1,?_⟩;have b:=g.2
 rw[Oper.semAt_eq _ _ _ h]at b ⊢;generalize (execOp a.eval o).run P w=r at b ⊢;cases r with
 | ok x d=>cases x<;>exact b
 | halt x d=>cases x<;>exact b
theorem xp{n l:Nat}{P:Program}{md:Region.Mode}{ops:Array Oper}{Q:Exit->Act->World->Prop}(h:jnL ops=true):∀(b:Nat) (c:Array Bool) (a:Act) (w:World),
  wpAnyIn Fence.wide n P md ops Q b c a w->wpAnyIn (Fence.wide.inRound l) n P md ops Q b c a w
 | 0,_,_,_,g=>g
 | b+1,c,a,w,g=>by
  refine⟨g.1,fun i j => ?_⟩;have d:=g.2 i j
  unfold wpOpIn at d ⊢;cases e:ops[i]? with
  | none=>rw[e]at d;exact xp h b _ _ _ d
  | some o =>
  rw[e]at d;simp only at d ⊢;split at d
  ·rename_i f;rw[if_pos f];exact jeH (jhW h e) (opIn_mono (fun a w=>xp h b _ a w) d)
  rename_i f;rw[if_neg f];exact⟨d.1,xp h b _ _ _ d.2⟩
where
 opIn_mono {n:Nat} {P:Program} {o:Oper} {a:Act} {w:World} {K K':Act->World->Prop} {Q:Exit->Act->World->Prop} (h:∀a w,K a w->K' a w) (g:o.wpIn Fence.wide n P a w K Q):o.wpIn Fence.wide n P a w K' Q:=by
  refine⟨g.1,?_⟩
  have g2:=g.2
  generalize (Oper.semAt Fence.wide.round a.eval o).run P w=r at g2 ⊢
  cases r with
  | ok x w' =>
   cases x with
   | enter f args=>exact⟨g2.1,g2.2.mono fun e w hh=>by cases e<;>first | exact h _ _ hh | exact hh⟩
   | row f args=>exact⟨g2.1,fun c cs hr=>by obtain⟨v,w',hv,hs⟩:=g2.2 c cs hr;exact⟨v,w',h _ _ hv,hs⟩⟩
   | round l f t x y=>exact⟨g2.1,g2.2.mono fun e w hh=>by cases e<;>first | exact h _ _ hh | exact hh⟩
   | value v=>exact h _ _ g2
   | skip=>exact h _ _ g2
   | defer d=>exact h _ _ g2
   | _=>exact g2
  | halt x w'=>cases x<;>exact g2
theorem jge{n:Nat}{P:Program}{a:String}{args:Array Value}{w:World}{R:Value->World->Prop}(h:Rows P a args w R):RowsIn Fence.wide n P a args w R:=by intro c b _;obtain⟨v,d,r,s⟩:=h c b;exact⟨v,d,r,stepsIn_wide.2 s⟩
theorem jgr{n:Nat}{P:Program}{o:Oper}{a:Act}{w:World}{K:Act->World->Prop}{Q:Exit->Act->World->Prop}(h:∀c,o.op ≠ .defer c)(g:o.wp P a w K Q):o.wpIn Fence.wide n P a w K Q:=by
 refine⟨fun _ _=>trivial,?_⟩;unfold Oper.wp at g;rw[Oper.semAt_eq _ _ _ h];generalize (execOp a.eval o).run P w=r at g ⊢;cases r with
 | ok x b =>
  cases x with
  | enter f args=>exact⟨fun q=>by simp[Fence.wide]at q,callsIn_wide.2 g⟩
  | row f args=>exact⟨fun q=>by simp[Fence.wide]at q,jge g⟩
  | round l f t x y=>exact g.elim
  | value v=>exact g
  | skip=>exact g
  | defer d=>exact g
  | _=>exact g
 | halt x b=>cases x<;>exact g
theorem Yp{n:Nat}{P:Program}{md:Region.Mode}{ops:Array Oper}{Q:Exit->Act->World->Prop}(h:jnL ops=true)(d:¬LetsOut Q):∀(b:Nat) (c:Array Bool) (a:Act) (w:World),
  wpAny P md ops Q b c a w->wpAnyIn Fence.wide n P md ops Q b c a w
 | 0,_,_,_,g=>g
 | b+1,c,a,w,g=>by
  refine⟨g.1,fun i k => ?_⟩;have e:=g.2 i k
  unfold wpOpIn;unfold wpOp at e;cases f:ops[i]? with
  | none=>rw[f]at e;exact Yp h d b _ _ _ e
  | some o =>
  rw[f]at e;simp only at e ⊢;split at e
  ·rename_i j;rw[if_pos j];exact jgr (jhW h f) (Oper.wp_mono (fun a w=>Yp h d b _ a w) (e.resolve_right fun q=>d q.2))
  rename_i j;rw[if_neg j];exact⟨fun _ _=>trivial,Yp h d b _ _ _ e⟩
theorem xW{n r:Nat}{P:Program}{id:Nat}{ops:Array Oper}{Q:Exit->Act->World->Prop}{a:Act}{w:World}(c:jnL ops=true)(b:¬LetsOut Q)(d:P.follows .mixedOrders=true)(h:wpAny P .any ops Q ops.size (Array.replicate ops.size false) a w.drew):
  (Code.region id ops true).wpIn (Fence.wide.inRound r) n P Q a w :=
 wpIn_region_any d (xp c _ _ _ _ (Yp c b _ _ _ _ h))
def qg:Array Oper:=#[{dst:=some 106,op:=Op.buildSlice 73 0 #[],type:=73,pos := "ref.go:71",after:=#[],guard:=none},{dst:=some 107,op:=Op.fieldAddr 107 (Operand.tmp 9) 2,type:=0,pos := "ref.go:71",after:=#[],guard:=none},{dst:=some 108,op:=Op.load 73 (Operand.tmp 107),type:=73,pos := "ref.go:71",after:=#[{on:=1,ground:=Ground.data}],guard:=none},{dst:=some 109,op:=Op.call {callee:=Callee.builtin Builtin.append,args:=#[Operand.tmp 106,Operand.tmp 108],argTypes:=#[73,73]},type:=73,pos := "ref.go:71",after:=#[{on:=0,ground:=Ground.data},{on:=2,ground:=Ground.data}],guard:=none},{dst:=some 110,op:=Op.load 148 (Operand.tmp 13),type:=148,pos := "ref.go:71",after:=#[],guard:=none},{dst:=some 111,op:=Op.buildSlice 73 1 #[(0,Operand.tmp 110)],type:=73,pos := "ref.go:71",after:=#[{on:=4,ground:=Ground.data}],guard:=none},{dst:=some 112,op:=Op.call {callee:=Callee.builtin Builtin.append,args:=#[Operand.tmp 109,Operand.tmp 111],argTypes:=#[73,73]},type:=73,pos := "ref.go:71",after:=#[{on:=3,ground:=Ground.data},{on:=5,ground:=Ground.data},{on:=3,ground:=Ground.chain}],guard:=none},{dst:=some 113,op:=Op.fieldAddr 107 (Operand.tmp 9) 2,type:=0,pos := "ref.go:71",after:=#[{on:=0,ground:=Ground.phase},{on:=1,ground:=Ground.phase},{on:=2,ground:=Ground.phase},{on:=3,ground:=Ground.phase},{on:=4,ground:=Ground.phase},{on:=5,ground:=Ground.phase},{on:=6,ground:=Ground.phase}],guard:=none},{dst:=none,op:=Op.store 73 (Operand.tmp 113) (Operand.tmp 112),type:=0,pos := "ref.go:71",after:=#[{on:=7,ground:=Ground.data},{on:=6,ground:=Ground.data},{on:=6,ground:=Ground.chain},{on:=0,ground:=Ground.phase},{on:=1,ground:=Ground.phase},{on:=2,ground:=Ground.phase},{on:=3,ground:=Ground.phase},{on:=4,ground:=Ground.phase},{on:=5,ground:=Ground.phase},{on:=6,ground:=Ground.phase}],guard:=none}]
theorem jhG:∀b c d b3 e f g h a:Bool,Region.ready .any qg #[b,c,d,b3,e,f,g,h,a]=[]->a=true:=by decide +kernel
theorem jn4{a:Act}{i:Nat}{v:Value}(h:a.tmps[i]?=some v):a.eval (.tmp i)=v:=by show a.tmps.getD i undef=v;rw[jpj,h];rfl
theorem jlm{a:Act}{d:Nat}{v:Value}(b:d<a.tmps.size)(j:Nat):(a.put (some d) v).tmps[j]?=if j=d then some v else a.tmps[j]?:=by
 show(a.tmps.setIfInBounds d v)[j]?=_;rw[jps];by_cases h:d=j
 ·subst h;simp[b]
 rw[if_neg h,if_neg (jqr h)]
theorem qp(a:Act)(d:Nat)(v:Value):(a.put (some d) v).tmps.size=a.tmps.size:=by show(a.tmps.setIfInBounds d v).size=_;simp
theorem jcq{o:Oper}{a:Act}{w:World}{K:Act->World->Prop}{Q:Exit->Act->World->Prop}(c:o.op=Op.buildSlice 73 0 #[])(b:K (a.put o.dst (.slice (some ⟨w.heap.size,0,none⟩) 0 0)) (w.alloc (.cells #[] 148))):Oper.wp prog o a w K Q:=by
 unfold Oper.wp;have e:(execOp a.eval o).run prog w=.ok (.value (.slice (some ⟨w.heap.size,0,none⟩) 0 0)) (w.alloc (.cells #[] 148)):=by simp only[execOp,c];kernel_rfl
 rw[e];exact b
theorem jcp{o:Oper}{a:Act}{w:World}{K:Act->World->Prop}{Q:Exit->Act->World->Prop}{x:Operand}{s t:ByteArray}(c:o.op=Op.buildSlice 73 1 #[(0,x)])(hx:a.eval x=.agg #[.string s,.string t])(b:K (a.put o.dst (.slice (some ⟨w.heap.size,0,none⟩) 1 1)) (w.alloc (.cells #[.string s,.string t] 148))):Oper.wp prog o a w K Q:=by
 unfold Oper.wp;have e:(execOp a.eval o).run prog w=.ok (.value (.slice (some ⟨w.heap.size,0,none⟩) 1 1)) (w.alloc (.cells #[.string s,.string t] 148)):=by simp only[execOp,c];rw[show(Array.map (fun(p:Nat×Operand)=>match p with | (i,x)=>(i,a.eval x)) #[((0:Nat),x)])=#[((0:Nat),Value.agg #[.string s,.string t])] from by rw[<- hx];simp];kernel_rfl
 rw[e];exact b
theorem ZY{o:Oper}{a:Act}{w:World}{K:Act->World->Prop}{Q:Exit->Act->World->Prop}{x:Operand}{b:Nat}(d:o.op=Op.fieldAddr 107 x 2)(hx:a.eval x=.pointer (some ⟨b,0,none⟩))(c:K (a.put o.dst (.pointer (some ⟨b,2,none⟩))) w):Oper.wp prog o a w K Q:=by
 unfold Oper.wp;have e:(execOp a.eval o).run prog w=.ok (.value (.pointer (some ⟨b,2,none⟩))) w:=by simp only[execOp,d,hx];simp[go_sem,Result.andThen]
 rw[e];exact c
theorem Gq{o:Oper}{a:Act}{w:World}{K:Act->World->Prop}{Q:Exit->Act->World->Prop}{x:Operand}{p:Addr}{v:Value}(d:o.op=Op.load 73 x)(hx:a.eval x=.pointer (some p))(c:w.cell? p=some v)(b:K (a.put o.dst v) w):Oper.wp prog o a w K Q:=by
 unfold Oper.wp;have e:(execOp a.eval o).run prog w=.ok (.value v) w:=by simp only[execOp,d,hx];simp[go_sem,Result.andThen,c]
 rw[e];exact b
theorem Gp{o:Oper}{a:Act}{w:World}{K:Act->World->Prop}{Q:Exit->Act->World->Prop}{x:Operand}{b:Nat}{u v:Value}(g:o.op=Op.load 148 x)(hx:a.eval x=.pointer (some ⟨b,0,none⟩))(d:w.cell? ⟨b,0,none⟩=some u)(f:w.cell? ⟨b,1,none⟩=some v)(c:K (a.put o.dst (.agg #[u,v])) w):Oper.wp prog o a w K Q:=by
 unfold Oper.wp;have e:(execOp a.eval o).run prog w=.ok (.value (.agg #[u,v])) w:=by simp only[execOp,g,hx];simp[go_sem,Result.andThen,d,f]
 rw[e];exact c
theorem XB{o:Oper}{a:Act}{w:World}{K:Act->World->Prop}{Q:Exit->Act->World->Prop}{x y:Operand}{p:Addr}{u:Value}{g:Option Addr}{n c:Nat}(h:o.op=Op.store 73 x y)(hx:a.eval x=.pointer (some p))(i:a.eval y=.slice g n c)(d:w.cell? p=some u)(f:w.frozen? p=false)(b:K (a.put o.dst undef) (w.setCell p (.slice g n c))):Oper.wp prog o a w K Q:=by
 unfold Oper.wp;have e:(execOp a.eval o).run prog w=.ok .skip (w.setCell p (.slice g n c)):=by simp only[execOp,h,hx,i];simp[go_sem,Result.andThen,d,f]
 rw[e];exact b
def fl(l:Array Bool)(j:Nat):Bool:=l.getD j false
theorem jhj{l:Array Bool}{i:Nat}(a:i<l.size)(j:Nat):fl (l.setIfInBounds i true) j=if j=i then true else fl l j:=by
 unfold fl;rw[jpj,jpj,jps];by_cases h:i=j
 ·subst h;simp[a]
 rw[if_neg h,if_neg (jqr h)]
theorem zR{Q:Exit->Act->World->Prop}{K:Act->World->Prop}{a:Act}{w:World}{i:Nat}{o:Oper}(c:qg[i]?=some o)(b:o.guard=none)(h:Oper.wp prog o a w K Q):wpOp prog qg Q i K a w:=by
 unfold wpOp;rw[c];show(if Region.wanted o (yielded qg a.tmps)=true then _ else _)
 rw[if_pos (by simp[Region.wanted,b])];exact .inl h
theorem QW{o:Oper}{a:Act}{w:World}{K:Act->World->Prop}{Q:Exit->Act->World->Prop}{s x:Operand}{p:Addr}(e:o.op=Op.call {callee:=Callee.builtin Builtin.append,args:=#[s,x],argTypes:=#[73,73]})(f:a.eval s=.slice (some p) 0 0)(hx:a.eval x=.slice none 0 0)(c:K (a.put o.dst (.slice (some p) 0 0)) w):Oper.wp prog o a w K Q:=by
 have d:∀b,(Builtin.append_ #[73,73] b #[.slice (some p) 0 0,.slice none 0 0]).run prog w=.ok (.slice (some p) 0 0) w:=fun b=>by kernel_rfl
 unfold Oper.wp;simp[execOp,e,resolve,invoke,builtin,f,hx,d,Result.andThen];exact c
theorem Jt{o:Oper}{a:Act}{w:World}{K:Act->World->Prop}{Q:Exit->Act->World->Prop}{s x:Operand}(q:o.guard=none)(z:o.op=Op.call {callee:=Callee.builtin Builtin.append,args:=#[s,x],argTypes:=#[73,73]})
  (v:Value) (n:Nat) (xs:List Value) (A:a.eval s=v) (e:w.ownsRow 0 148 2 v n xs)
  (g:Addr) (m c:Nat) (b:List Value) (hx:a.eval x=.slice (some g) m c) (hl:b.length=m*2) (d:∀j u,b[j]?=some u->w.cell? (g.add j)=some u) (r:∀u∈b,u.oneCell'=true)
  (D:n+m<=1000000)
  (t:∀f p,p.ownsRow 0 148 2 f (n+m) (xs++b)->w.grownBy p v.ownBlock->(f.ownBlock=v.ownBlock\/f.ownBlock=some w.heap.size)->K (a.put o.dst f) p):Oper.wp prog o a w K Q:=by
 obtain⟨C,y,i,k,l⟩:=info_parts Xt;have h:=zb (P:=prog) (ops:=qg) (o:=o) (a:=a) (w:=w) (K:=K) (Q:=Q) (E:=True) q s x 73 z 148 C _ 2 32 underlying73 y i k l rfl (by decide) v n xs A e g m c b hx hl d r (by unfold maxLen;omega) (by omega) t
 rwa [if_pos (by simp[Region.wanted,q])]at h
theorem Kb{w:World}{lo n a b:Nat}{e:TypeId}{size:Nat}{v:Value}{xs:List Value}(l:w.ownsRow 0 e size v n xs)(f:v.ownBlock=some a\/v.ownBlock=some b)(p:lo<=a)(q:lo<=b):∃g c,v=.slice (some ⟨g,0,none⟩) n c/\lo<=g/\w.ownsRow lo e size (.slice (some ⟨g,0,none⟩) n c) n xs:=by
 rcases l.2 with ⟨rfl,_⟩|⟨g,d,j,rfl,o,i⟩
 ·rcases f with h|h<;>cases h
 have k:lo<=g:=by
  rcases f with h|h
  ·have m:g=a:=joN h;omega
  have m:g=b:=joN h;omega
 exact⟨g,d,rfl,k,l.1,.inr ⟨g,d,j,rfl,k,i⟩⟩
theorem Xb(w:World)(e:TypeId)(size:Nat):(w.alloc (.cells #[] e)).ownsRow 0 e size (.slice (some ⟨w.heap.size,0,none⟩) 0 0) 0 [] :=
 ⟨by simp,.inr ⟨_,0,#[],rfl,joT _,ja.new w e #[],joJ _,joT _,by simp,by simp⟩⟩
theorem Ka(w:World)(o:Obj):Below w.heap.size w (w.alloc o):=(joL _ _).alloc (joJ _) o
theorem jaa{w:World}{b:Nat}{t:TypeId}{x y:Value}(h:ja w b t #[x,y]):∀j u,[x,y][j]?=some u->w.cell? ((⟨b,0,none⟩:Addr).add j)=some u:=by
 intro j u c;have a:(⟨b,0,none⟩:Addr).add j=⟨b,j,none⟩:=by unfold Addr.add;split<;>simp_all
 rw[a,h.cell j];simpa using c
abbrev sl(g n c:Nat):Value:=.slice (some ⟨g,0,none⟩) n c
structure Reg(a0:Act)(W3:World)(nb n:Nat)(fv:Value)(cf:List Value)(x y:ByteArray)(l:Array Bool)(a:Act)(w:World):Prop where
 dfr:a.defers=a0.defers
 sz:a.tmps.size=a0.tmps.size
 frm:∀j,(j<106\/113<j)->a.tmps[j]?=a0.tmps[j]?
 bel:fl l 8=false->Below W3.heap.size W3 w
 s0:fl l 0=true->∃B,a.tmps[106]?=some (sl B 0 0)/\(fl l 3=false->W3.heap.size<=B/\w.ownsRow 0 148 2 (sl B 0 0) 0 []/\(fl l 5=true->∀B5,a.tmps[111]?=some (sl B5 1 1)->B5≠B))
 s1:fl l 1=true->a.tmps[107]?=some (.pointer (some ⟨nb,2,none⟩))
 s2:fl l 2=true->a.tmps[108]?=some fv
 s3:fl l 3=true->fl l 0=true/\fl l 2=true/\∃g c,a.tmps[109]?=some (sl g n c)/\(fl l 6=false->w.ownsRow W3.heap.size 148 2 (sl g n c) n cf)
 s4:fl l 4=true->a.tmps[110]?=some (.agg #[.string x,.string y])
 s5:fl l 5=true->fl l 4=true/\∃B5,a.tmps[111]?=some (sl B5 1 1)/\(fl l 6=false->W3.heap.size<=B5/\ja w B5 148 #[.string x,.string y])
 s6:fl l 6=true->fl l 3=true/\fl l 5=true/\∃g c,a.tmps[112]?=some (sl g (n+1) c)/\(fl l 8=false->w.ownsRow W3.heap.size 148 2 (sl g (n+1) c) (n+1) (cf++[.string x,.string y]))
 s7:fl l 7=true->a.tmps[113]?=some (.pointer (some ⟨nb,2,none⟩))
 s8:fl l 8=true->fl l 6=true/\∃w2 g c,Below W3.heap.size W3 w2/\w2.ownsRow W3.heap.size 148 2 (sl g (n+1) c) (n+1) (cf++[.string x,.string y])/\w=w2.setCell ⟨nb,2,none⟩ (sl g (n+1) c)
theorem Uy{w:World}{lo B:Nat}(h:w.ownsRow 0 148 2 (sl B 0 0) 0 [])(d:lo<=B):w.ownsRow lo 148 2 (sl B 0 0) 0 []:=by
 refine⟨h.1,?_⟩;rcases h.2 with ⟨e,_⟩|⟨g,c,b,e,_,a⟩
 ·cases e
 cases e;exact .inr ⟨B,0,b,rfl,d,a⟩
theorem jnU{a:Act}{d:Nat}{v:Value}(b:d<a.tmps.size):∀j,(a.put (some d) v).tmps[j]?=if j=d then some v else a.tmps[j]?:=jlm b
theorem Uo(a0:Act)(H:World)(J fb n:Nat)(V:Value)(O:List Value)(x y:ByteArray)(Q:Exit->Act->World->Prop)(k0 k1:Value)
  (h9:a0.tmps[9]?=some (.pointer (some ⟨J,0,none⟩))) (aA:a0.tmps[13]?=some (.pointer (some ⟨fb,0,none⟩))) (aF:114<=a0.tmps.size)
  (ai:ja H J 107 #[k0,k1,V]) (ah:ja H fb 148 #[.string x,.string y])
  (R:H.ownsRow 0 148 2 V n O) (h1:∀u∈O,u.oneCell'=true) (hn:n<=100000)
  (hQ:∀a w2 g c,a.defers=a0.defers->a.tmps.size=a0.tmps.size->(∀j,(j<106\/113<j)->a.tmps[j]?=a0.tmps[j]?)->Below H.heap.size H w2->w2.ownsRow H.heap.size 148 2 (sl g (n+1) c) (n+1) (O++[.string x,.string y])->Q .normal a (w2.setCell ⟨J,2,none⟩ (sl g (n+1) c))) :
  (Code.region 29 qg true).wp prog Q a0 H:=by
 refine ZE (by kernel_rfl) (Reg a0 H J n V O x y) ?start ?step ?done
 case start =>
  have z:∀j,fl (Array.replicate qg.size false) j=false:=by intro j;unfold fl;rw[jpj,jrb];split<;>rfl
  exact⟨rfl,rfl,fun _ _=>rfl,fun _=>(joL _ _).drew,(fun h=>by rw[z]at h;cases h),(fun h=>by rw[z]at h;cases h),(fun h=>by rw[z]at h;cases h),(fun h=>by rw[z]at h;cases h),(fun h=>by rw[z]at h;cases h),(fun h=>by rw[z]at h;cases h),(fun h=>by rw[z]at h;cases h),(fun h=>by rw[z]at h;cases h),(fun h=>by rw[z]at h;cases h)⟩
 case done =>
  intro l a w I hl hr;have h8:fl l 8=true:=by
   have ak:l.size=9:=hl;have e:l=#[l[0],l[1],l[2],l[3],l[4],l[5],l[6],l[7],l[8]]:=by
    apply Array.ext
    ·simp[ak]
    intro i h1 h2;rw[ak]at h1;rcases(by omega:i=0\/i=1\/i=2\/i=3\/i=4\/i=5\/i=6\/i=7\/i=8) with rfl|rfl|rfl|rfl|rfl|rfl|rfl|rfl|rfl<;>rfl
   rw[e]at hr;have:=jhG _ _ _ _ _ _ _ _ _ hr
   unfold fl;rw[jpj,jpu (by omega)];exact this
  obtain⟨_,w2,g,c,b,o,rfl⟩:=I.s8 h8;exact hQ a w2 g c I.dfr I.sz I.frm b o
 case step =>
 intro l i o a w I hl G ar he;have ak:l.size=9:=hl
 have hi:i<9:=by
  rcases jpc i 9 with h|h
  ·exact h
  rw[jpv (by exact h)]at G;cases G
 have aq:i<l.size:=by omega
 have N:=fun j=>jhj aq j;have D:=fun d v (hd:d<114)=>jnU (a:=a) (d:=d) (v:=v) (by rw[I.sz];omega)
 have X:fl l i=false:=by unfold fl;rw[jpj,jpu aq]at ar ⊢;exact ar
 have P:∀e∈o.after,Region.binds .any e=true->fl l e.on=true:=he;have ev:∀j v,a.tmps[j]?=some v->a.eval (.tmp j)=v:=fun j v h=>jn4 h
 have e9:=ev 9 _ ((I.frm 9 (by omega)).trans h9);have ay:=ev 13 _ ((I.frm 13 (by omega)).trans aA)
 have NF:∀k,(fl l k=true->fl l i=true)->fl l k=false:=fun k h=>by
  cases e:fl l k with
  | false=>rfl
  | true=>rw[h e]at X;cases X
 have m:∀k,k≠i->fl (l.setIfInBounds i true) k=fl l k:=fun k h=>by rw[N,if_neg h]
 have FI:fl (l.setIfInBounds i true) i=true:=by rw[N,if_pos rfl]
 have TX:∀d v,d<114->∀j,j≠d->(a.put (some d) v).tmps[j]?=a.tmps[j]?:=fun d v hd j h=>by rw[D _ _ hd,if_neg h]
 have TI:∀d v,d<114->(a.put (some d) v).tmps[d]?=some v:=fun d v hd=>by rw[D _ _ hd,if_pos rfl]
 have aG:=I.bel;have aH:=I.s0
 have aI:=I.s1;have aJ:=I.s2
 have aK:=I.s3;have aL:=I.s4
 have aM:=I.s5;have aN:=I.s6
 have aO:=I.s7;have aP:=I.s8
 rcases(by omega:i=0\/i=1\/i=2\/i=3\/i=4\/i=5\/i=6\/i=7\/i=8) with rfl|rfl|rfl|rfl|rfl|rfl|rfl|rfl|rfl
 ·have r:some _=some o:=G;obtain rfl:=joN r;have n3:=NF 3 fun h=>(I.s3 h).1
  have n6:=NF 6 fun h=>(I.s3 (I.s6 h).1).1;have W:=NF 8 fun h=>(I.s3 (I.s6 (I.s8 h).1).1).1
  have A:=I.bel W;have al:=Ka w (.cells #[] 148)
  refine zR G rfl (jcq rfl ?_);show Reg a0 H J n V O x y (l.setIfInBounds 0 true) (a.put (some 106) (sl w.heap.size 0 0)) (w.alloc (.cells #[] 148))
  have L:=m 3 (by decide);have Y:=m 4 (by decide)
  have Z:=m 5 (by decide);have C:=m 6 (by decide)
  have f8:=m 8 (by decide);have s:=TI 106 (sl w.heap.size 0 0) (by decide)
  have TV:=TX 106 (sl w.heap.size 0 0) (by decide);have f:=TV 111 (by decide)
  refine⟨I.dfr,(qp _ _ _).trans I.sz,fun j E=>by rw[D _ _ (by decide),if_neg (by omega)];exact I.frm j E,(fun _=>A.trans (al.mono A.size)),(fun _=>⟨w.heap.size,s,by rw[L,Z,f];exact fun _=>⟨A.size,Xb w _ 2,fun h5 B5 ag=>by obtain⟨_,B6,e6,h6⟩:=I.s5 h5;rw[e6]at ag;cases ag;have:=(h6 n6).2.lt;omega⟩⟩),?_,?_,(by rw[L,n3];exact fun h=>by cases h),?_,(by rw[Z,Y,f,C];exact fun h=>(by obtain⟨q4,B6,e6,h6⟩:=I.s5 h;exact⟨q4,B6,e6,fun q=>⟨(h6 q).1,jb (h6 q).2 al (h6 q).2.lt⟩⟩)),(by rw[C,n6];exact fun h=>by cases h),?_,(by rw[f8,W];exact fun h=>by cases h)⟩
  all_goals (simp(disch:=decide) only[m,TX];assumption)
 ·have r:some _=some o:=G;obtain rfl:=joN r;refine zR G rfl (ZY rfl e9 ?_);show Reg a0 H J n V O x y (l.setIfInBounds 1 true) (a.put (some 107) (.pointer (some ⟨J,2,none⟩))) w
  have a8:=TI 107 (.pointer (some ⟨J,2,none⟩)) (by decide);refine⟨I.dfr,(qp _ _ _).trans I.sz,fun j E=>by rw[D _ _ (by decide),if_neg (by omega)];exact I.frm j E,?_,?_,(fun _=>a8),?_,?_,?_,?_,?_,?_,?_⟩
  all_goals (simp(disch:=decide) only[m,TX];assumption)
 ·have r:some _=some o:=G;obtain rfl:=joN r;have d1:fl l 1=true:=P ⟨1,Ground.data⟩ (by simp[qg]) rfl
  have W:=NF 8 fun h=>(I.s3 (I.s6 (I.s8 h).1).1).2.1;have A:=I.bel W
  refine zR G rfl (Gq rfl (ev 107 _ (I.s1 d1)) ((A.cell (p:=⟨J,2,none⟩) ai.lt).trans (ai.cell 2)) ?_);show Reg a0 H J n V O x y (l.setIfInBounds 2 true) (a.put (some 108) V) w
  have U:=m 0 (by decide);have f2:=FI
  have L:=m 3 (by decide);have C:=m 6 (by decide)
  have TV:=TX 108 V (by decide);have aa:=TI 108 V (by decide)
  have t:=TV 109 (by decide);refine⟨I.dfr,(qp _ _ _).trans I.sz,fun j E=>by rw[D _ _ (by decide),if_neg (by omega)];exact I.frm j E,?_,?_,?_,(fun _=>aa),(by rw[L,U,t,C];exact fun h=>(by obtain⟨q0,_,q⟩:=I.s3 h;exact⟨q0,f2,q⟩)),?_,?_,?_,?_,?_⟩
  all_goals (simp(disch:=decide) only[m,TX];assumption)
 ·have r:some _=some o:=G;obtain rfl:=joN r;have d0:fl l 0=true:=P ⟨0,Ground.data⟩ (by simp[qg]) rfl
  have d2:fl l 2=true:=P ⟨2,Ground.data⟩ (by simp[qg]) rfl;have n6:=NF 6 fun h=>(I.s6 h).1
  have W:=NF 8 fun h=>(I.s6 (I.s8 h).1).1;have A:=I.bel W
  obtain⟨B,eB,hr⟩:=I.s0 d0;obtain⟨q1,q2,q3⟩:=hr X;have e6:=ev 106 _ eB
  have e8:=ev 108 _ (I.s2 d2);rcases jpH R with ⟨aj,aD⟩|⟨g,ax,aj⟩
  ·obtain rfl:n=0:=aD;have aB:O=[]:=List.length_eq_zero_iff.1 (by have:=R.1;omega)
   refine zR G rfl (QW rfl e6 (by rw[e8,aj]) ?_);show Reg a0 H J 0 V O x y (l.setIfInBounds 3 true) (a.put (some 109) (sl B 0 0)) w
   have U:fl (l.setIfInBounds 3 true) 0=fl l 0:=by rw[N,if_neg (by decide)]
   have f1:fl (l.setIfInBounds 3 true) 1=fl l 1:=by rw[N,if_neg (by decide)]
   have f2:fl (l.setIfInBounds 3 true) 2=fl l 2:=by rw[N,if_neg (by decide)]
   have L:fl (l.setIfInBounds 3 true) 3=true:=by rw[N,if_pos rfl]
   have Y:fl (l.setIfInBounds 3 true) 4=fl l 4:=by rw[N,if_neg (by decide)]
   have Z:fl (l.setIfInBounds 3 true) 5=fl l 5:=by rw[N,if_neg (by decide)]
   have C:fl (l.setIfInBounds 3 true) 6=fl l 6:=by rw[N,if_neg (by decide)]
   have f7:fl (l.setIfInBounds 3 true) 7=fl l 7:=by rw[N,if_neg (by decide)]
   have f8:fl (l.setIfInBounds 3 true) 8=fl l 8:=by rw[N,if_neg (by decide)]
   have s:(a.put (some 109) (sl B 0 0)).tmps[106]?=a.tmps[106]?:=by rw[D _ _ (by decide),if_neg (by decide)]
   have a8:(a.put (some 109) (sl B 0 0)).tmps[107]?=a.tmps[107]?:=by rw[D _ _ (by decide),if_neg (by decide)]
   have aa:(a.put (some 109) (sl B 0 0)).tmps[108]?=a.tmps[108]?:=by rw[D _ _ (by decide),if_neg (by decide)]
   have t:(a.put (some 109) (sl B 0 0)).tmps[109]?=some (sl B 0 0):=by rw[D _ _ (by decide),if_pos rfl]
   have ae:(a.put (some 109) (sl B 0 0)).tmps[110]?=a.tmps[110]?:=by rw[D _ _ (by decide),if_neg (by decide)]
   have f:(a.put (some 109) (sl B 0 0)).tmps[111]?=a.tmps[111]?:=by rw[D _ _ (by decide),if_neg (by decide)]
   have af:(a.put (some 109) (sl B 0 0)).tmps[113]?=a.tmps[113]?:=by rw[D _ _ (by decide),if_neg (by decide)]
   exact⟨I.dfr,(qp _ _ _).trans I.sz,fun j E=>by rw[D _ _ (by decide),if_neg (by omega)];exact I.frm j E,(by rw[f8];exact I.bel),(by rw[U,s];exact fun _=>⟨B,eB,fun h=>by rw[L]at h;cases h⟩),(by rw[f1,a8];exact I.s1),(by rw[f2,aa];exact I.s2),(fun _=>⟨by rw[U];exact d0,by rw[f2];exact d2,B,0,t,fun _=>by rw[aB];exact Uy q2 q1⟩),(by rw[Y,ae];exact I.s4),(by rw[Z,Y,f,C];exact I.s5),(by rw[C,n6];exact fun h=>by cases h),(by rw[f7,af];exact I.s7),(by rw[f8,W];exact fun h=>by cases h)⟩
  refine zR G rfl (Jt rfl rfl (sl B 0 0) 0 [] e6 q2 ⟨g,0,none⟩ n ax O (by rw[e8,aj]) R.1 ?hc h1 (by omega) ?_)
  case hc =>
   intro j u E;have aC:j<n*2:=by
    rw[<- R.1];rcases jpc j O.length with q|q
    ·exact q
    rw[jpe q]at E;cases E
   have ea:(⟨g,0,none⟩:Addr).add j=⟨g,j,none⟩:=by unfold Addr.add;split<;>simp_all
   have am:=R;rw[aj]at am;rw[ea,A.cell (p:=⟨g,j,none⟩) (am.lt g rfl).2,jo1 am j aC];exact E
  intro v' w' o1 gr bk;obtain⟨g1,c1,rfl,aQ,K⟩:=Kb (lo:=H.heap.size) o1 bk q1 A.size;rw[jpl,jpC]at K;rw[jpl];show Reg a0 H J n V O x y (l.setIfInBounds 3 true) (a.put (some 109) (sl g1 n c1)) w'
  have U:fl (l.setIfInBounds 3 true) 0=fl l 0:=by rw[N,if_neg (by decide)]
  have f2:fl (l.setIfInBounds 3 true) 2=fl l 2:=by rw[N,if_neg (by decide)]
  have L:fl (l.setIfInBounds 3 true) 3=true:=by rw[N,if_pos rfl]
  have Y:fl (l.setIfInBounds 3 true) 4=fl l 4:=by rw[N,if_neg (by decide)]
  have Z:fl (l.setIfInBounds 3 true) 5=fl l 5:=by rw[N,if_neg (by decide)]
  have C:fl (l.setIfInBounds 3 true) 6=fl l 6:=by rw[N,if_neg (by decide)]
  have f8:fl (l.setIfInBounds 3 true) 8=fl l 8:=by rw[N,if_neg (by decide)]
  have s:(a.put (some 109) (sl g1 n c1)).tmps[106]?=a.tmps[106]?:=by rw[D _ _ (by decide),if_neg (by decide)]
  have t:(a.put (some 109) (sl g1 n c1)).tmps[109]?=some (sl g1 n c1):=by rw[D _ _ (by decide),if_pos rfl]
  have f:(a.put (some 109) (sl g1 n c1)).tmps[111]?=a.tmps[111]?:=by rw[D _ _ (by decide),if_neg (by decide)]
  refine⟨I.dfr,(qp _ _ _).trans I.sz,fun j E=>by rw[D _ _ (by decide),if_neg (by omega)];exact I.frm j E,(fun _=>A.grown gr A.size (fun k hk=>by cases hk;exact q1)),(by rw[U,s];exact fun _=>⟨B,eB,fun h=>by rw[L]at h;cases h⟩),?_,?_,(fun _=>⟨by rw[U];exact d0,by rw[f2];exact d2,g1,c1,t,fun _=>K⟩),?_,(by rw[Z,Y,f,C];exact fun h=>(by obtain⟨q4,B6,e7,h6⟩:=I.s5 h;exact⟨q4,B6,e7,fun q=>⟨(h6 q).1,ja.grown (h6 q).2 gr (fun e=>q3 h B6 e7 (joN e))⟩⟩)),(by rw[C,n6];exact fun h=>by cases h),?_,(by rw[f8,W];exact fun h=>by cases h)⟩
  all_goals (simp(disch:=decide) only[m,TX];assumption)
 ·have r:some _=some o:=G;obtain rfl:=joN r;have W:=NF 8 fun h=>(I.s5 (I.s6 (I.s8 h).1).2.1).1
  have A:=I.bel W;refine zR G rfl (Gp rfl ay ((A.cell (p:=⟨fb,0,none⟩) ah.lt).trans (ah.cell 0)) ((A.cell (p:=⟨fb,1,none⟩) ah.lt).trans (ah.cell 1)) ?_);show Reg a0 H J n V O x y (l.setIfInBounds 4 true) (a.put (some 110) (.agg #[.string x,.string y])) w
  have Y:=FI;have Z:=m 5 (by decide)
  have C:=m 6 (by decide);have TV:=TX 110 (.agg #[.string x,.string y]) (by decide)
  have ae:=TI 110 (.agg #[.string x,.string y]) (by decide);have f:=TV 111 (by decide)
  refine⟨I.dfr,(qp _ _ _).trans I.sz,fun j E=>by rw[D _ _ (by decide),if_neg (by omega)];exact I.frm j E,?_,?_,?_,?_,?_,(fun _=>ae),(by rw[Z,f,C];exact fun h=>(by obtain⟨_,q⟩:=I.s5 h;exact⟨Y,q⟩)),?_,?_,?_⟩
  all_goals (simp(disch:=decide) only[m,TX];assumption)
 ·have r:some _=some o:=G;obtain rfl:=joN r;have d4:fl l 4=true:=P ⟨4,Ground.data⟩ (by simp[qg]) rfl
  have n6:=NF 6 fun h=>(I.s6 h).2.1;have W:=NF 8 fun h=>(I.s6 (I.s8 h).1).2.1
  have A:=I.bel W;have al:=Ka w (.cells #[.string x,.string y] 148)
  refine zR G rfl (jcp rfl (ev 110 _ (I.s4 d4)) ?_);show Reg a0 H J n V O x y (l.setIfInBounds 5 true) (a.put (some 111) (sl w.heap.size 1 1)) (w.alloc (.cells #[.string x,.string y] 148))
  have U:=m 0 (by decide);have f2:=m 2 (by decide)
  have L:=m 3 (by decide);have Y:=m 4 (by decide)
  have C:=m 6 (by decide);have f8:=m 8 (by decide)
  have TV:=TX 111 (sl w.heap.size 1 1) (by decide);have s:=TV 106 (by decide)
  have t:=TV 109 (by decide);have f:=TI 111 (sl w.heap.size 1 1) (by decide)
  refine⟨I.dfr,(qp _ _ _).trans I.sz,fun j E=>by rw[D _ _ (by decide),if_neg (by omega)];exact I.frm j E,(fun _=>A.trans (al.mono A.size)),(by rw[U,L,s,f];exact fun h=>(by obtain⟨B,e,hr⟩:=I.s0 h;exact⟨B,e,fun h3=>(by obtain⟨q1,q2,q3⟩:=hr h3;exact⟨q1,jX q2 al (joJ _),fun _ B5 ag=>by cases ag;have:=(q2.lt B rfl).2;omega⟩)⟩)),?_,?_,(by rw[L,U,f2,t,C];exact fun h=>(by obtain⟨q0,q2,g,c,e,hr⟩:=I.s3 h;exact⟨q0,q2,g,c,e,fun h6=>jX (hr h6) al (joJ _)⟩)),?_,(fun _=>⟨by rw[Y];exact d4,w.heap.size,f,fun _=>⟨A.size,ja.new _ _ _⟩⟩),(by rw[C,n6];exact fun h=>by cases h),?_,(by rw[f8,W];exact fun h=>by cases h)⟩
  all_goals (simp(disch:=decide) only[m,TX];assumption)
 ·have r:some _=some o:=G;obtain rfl:=joN r;have d3:fl l 3=true:=P ⟨3,Ground.data⟩ (by simp[qg]) rfl
  have d5:fl l 5=true:=P ⟨5,Ground.data⟩ (by simp[qg]) rfl;have W:=NF 8 fun h=>(I.s8 h).1
  have A:=I.bel W;obtain⟨d0,d2,g1,c1,e1,aE⟩:=I.s3 d3;have K:=aE X
  obtain⟨d4,B5,e5,h5⟩:=I.s5 d5;obtain⟨l5,aw⟩:=h5 X;refine zR G rfl (Jt rfl rfl (sl g1 n c1) n O (ev 109 _ e1) (jA K (joT _)) ⟨B5,0,none⟩ 1 1 [.string x,.string y] (ev 111 _ e5) rfl (jaa aw) (by intro u hu;simp at hu;rcases hu with rfl | rfl<;>rfl) (by omega) ?_);intro v' w' o2 gr bk;obtain⟨g2,c2,rfl,aR,a7⟩:=Kb (lo:=H.heap.size) o2 bk (K.lt g1 rfl).1 A.size;show Reg a0 H J n V O x y (l.setIfInBounds 6 true) (a.put (some 112) (sl g2 (n+1) c2)) w'
  have U:=m 0 (by decide);have f2:=m 2 (by decide)
  have L:=m 3 (by decide);have Y:=m 4 (by decide)
  have Z:=m 5 (by decide);have C:=FI
  have f8:=m 8 (by decide);have TV:=TX 112 (sl g2 (n+1) c2) (by decide)
  have s:=TV 106 (by decide);have t:=TV 109 (by decide)
  have f:=TV 111 (by decide);have av:=TI 112 (sl g2 (n+1) c2) (by decide)
  refine⟨I.dfr,(qp _ _ _).trans I.sz,fun j E=>by rw[D _ _ (by decide),if_neg (by omega)];exact I.frm j E,(fun _=>A.grown gr A.size (fun k hk=>by cases hk;exact(K.lt g1 rfl).1)),(by rw[U,s,L,d3];exact fun h=>(by obtain⟨B,e,_⟩:=I.s0 h;exact⟨B,e,fun q=>by cases q⟩)),?_,?_,(by rw[L,U,f2,t];exact fun _=>⟨d0,d2,g1,c1,e1,fun q=>by rw[C]at q;cases q⟩),?_,(by rw[Z,Y,f];exact fun _=>⟨d4,B5,e5,fun q=>by rw[C]at q;cases q⟩),(fun _=>⟨by rw[L];exact d3,by rw[Z];exact d5,g2,c2,av,fun _=>a7⟩),?_,(by rw[f8,W];exact fun h=>by cases h)⟩
  all_goals (simp(disch:=decide) only[m,TX];assumption)
 ·have r:some _=some o:=G;obtain rfl:=joN r;refine zR G rfl (ZY rfl e9 ?_);show Reg a0 H J n V O x y (l.setIfInBounds 7 true) (a.put (some 113) (.pointer (some ⟨J,2,none⟩))) w
  have af:=TI 113 (.pointer (some ⟨J,2,none⟩)) (by decide);refine⟨I.dfr,(qp _ _ _).trans I.sz,fun j E=>by rw[D _ _ (by decide),if_neg (by omega)];exact I.frm j E,?_,?_,?_,?_,?_,?_,?_,?_,(fun _=>af),?_⟩
  all_goals (simp(disch:=decide) only[m,TX];assumption)
 have r:some _=some o:=G;obtain rfl:=joN r;have d7:fl l 7=true:=P ⟨7,Ground.data⟩ (by simp[qg]) rfl
 have d6:fl l 6=true:=P ⟨6,Ground.data⟩ (by simp[qg]) rfl;have A:=I.bel X
 obtain⟨d3,d5,g2,c2,e2,au⟩:=I.s6 d6;have a7:=au X
 have hv:=jb ai A ai.lt;refine zR G rfl (XB rfl (ev 113 _ (I.s7 d7)) (ev 112 _ e2) (hv.cell 2) (hv.frozen 2) ?_);show Reg a0 H J n V O x y (l.setIfInBounds 8 true) a (w.setCell ⟨J,2,none⟩ (sl g2 (n+1) c2))
 have U:=m 0 (by decide);have f2:=m 2 (by decide)
 have L:=m 3 (by decide);have Y:=m 4 (by decide)
 have Z:=m 5 (by decide);have C:=m 6 (by decide)
 have f8:=FI;refine⟨I.dfr,I.sz,I.frm,(by rw[f8];exact fun h=>by cases h),(by rw[U,L,d3];exact fun h=>(by obtain⟨B,e,_⟩:=I.s0 h;exact⟨B,e,fun q=>by cases q⟩)),?_,?_,(by rw[L,U,f2,C,d6];exact fun h=>(by obtain⟨q0,q2,g,c,e,_⟩:=I.s3 h;exact⟨q0,q2,g,c,e,fun q=>by cases q⟩)),?_,(by rw[Z,Y,C,d6];exact fun h=>(by obtain⟨q4,B6,e7,_⟩:=I.s5 h;exact⟨q4,B6,e7,fun q=>by cases q⟩)),(by rw[C,L,Z,f8];exact fun _=>⟨d3,d5,g2,c2,e2,fun q=>by cases q⟩),?_,(fun _=>⟨by rw[C];exact d6,w,g2,c2,A,a7,rfl⟩)⟩
 all_goals (simp(disch:=decide) only[m];assumption)
theorem jcv(a t:Array Value)(e:t.size=a.size)(h:∀j,(j<106\/113<j)->t[j]?=a[j]?):
  ∃f g i l m n o p,t=(((((((a.setIfInBounds 106 f).setIfInBounds 107 g).setIfInBounds 108 i).setIfInBounds 109 l).setIfInBounds 110 m).setIfInBounds 111 n).setIfInBounds 112 o).setIfInBounds 113 p:=by
 refine⟨t.getD 106 undef,t.getD 107 undef,t.getD 108 undef,t.getD 109 undef,t.getD 110 undef,t.getD 111 undef,t.getD 112 undef,t.getD 113 undef,?_⟩;apply jqT;intro j;simp only[jps,jra];by_cases d:j<106\/113<j
 ·rw[h j d];rw[if_neg (by omega),if_neg (by omega),if_neg (by omega),if_neg (by omega),if_neg (by omega),if_neg (by omega),if_neg (by omega),if_neg (by omega)]
 have c:∀k:Nat,t[k]?=if k<a.size then some (t[k]?.getD undef) else none:=by
  intro k;rw[<- e];by_cases b:k<t.size
  ·rw[if_pos b,jpu b];rfl
  rw[if_neg b,jpv (by omega)]
 rcases(by omega:j=106\/j=107\/j=108\/j=109\/j=110\/j=111\/j=112\/j=113) with rfl|rfl|rfl|rfl|rfl|rfl|rfl|rfl<;>(simp;exact c _)
theorem region29x(a0:Act)(d:World)(j k n:Nat)(l:Value)(i:List Value)(x y:ByteArray)(Q:Exit->Act->World->Prop)(E G:Value)
  (L:a0.tmps[9]?=some (.pointer (some ⟨j,0,none⟩))) (m:a0.tmps[13]?=some (.pointer (some ⟨k,0,none⟩))) (r:114<=a0.tmps.size)
  (q:ja d j 107 #[E,G,l]) (p:ja d k 148 #[.string x,.string y])
  (f:d.ownsRow 0 148 2 l n i) (K:∀u∈i,u.oneCell'=true) (P:n<=100000)
  (N:∀s t v w z A C D h g c,Below d.heap.size d h->h.ownsRow d.heap.size 148 2 (sl g (n+1) c) (n+1) (i++[.string x,.string y])->Q .normal {tmps:=(((((((a0.tmps.setIfInBounds 106 s).setIfInBounds 107 t).setIfInBounds 108 v).setIfInBounds 109 w).setIfInBounds 110 z).setIfInBounds 111 A).setIfInBounds 112 C).setIfInBounds 113 D,defers:=a0.defers} (h.setCell ⟨j,2,none⟩ (sl g (n+1) c))) :
  (Code.region 29 qg true).wp prog Q a0 d:=by
 refine Uo a0 d j k n l i x y Q E G L m r q p f K P ?_;intro a h g c H I J b o;have hx:=jcv a0.tmps a.tmps I J
 have O:a={tmps:=a.tmps,defers:=a0.defers}:=by rw[<- H]
 rw[O];generalize a.tmps=R at *
 refine hx.elim fun s hx=>hx.elim fun t hx=>hx.elim fun v hx=>hx.elim fun w hx=>hx.elim fun z hx=>hx.elim fun A hx=>hx.elim fun C hx=>hx.elim fun D e => ?_;rw[e];exact N s t v w z A C D h g c b o
end Go.Proofs.YtbapfpekklcicaaGreatDoor
