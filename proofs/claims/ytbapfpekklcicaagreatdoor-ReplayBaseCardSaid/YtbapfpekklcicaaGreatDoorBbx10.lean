/- Texts put together:QI,QJ,UG,UH,UI. -/
import Derived.Shelf.Spec.SlicesInsertGrow
import Derived.ArgAppend
import Derived.Test.YtbapfpekklcicaaGreatDoorBbx9
set_option linter.unusedVariables false
set_option maxRecDepth 100000
set_option maxHeartbeats 16000000
namespace Go.Proofs.YtbapfpekklcicaaGreatDoor
open Go.RowKit Go.Shelf Tryz
abbrev joA:=@Array.getD_eq_getD_getElem?
abbrev joE:=@Array.getElem?_setIfInBounds
abbrev joH:=@List.getElem?_take
abbrev joM:=@Array.getElem?_eq_none
abbrev jpR:=@List.ext_getElem?
abbrev jpZ:=@Array.ext_getElem?
abbrev jp7:=@Array.getElem?_toList
def qd:Array Oper:=#[{dst:=some 106,op:=Op.buildSlice 73 0 #[],type:=73,pos := "ref.go:71",after:=#[],guard:=none},{dst:=some 107,op:=Op.fieldAddr 107 (Operand.tmp 9) 2,type:=0,pos := "ref.go:71",after:=#[],guard:=none},{dst:=some 108,op:=Op.load 73 (Operand.tmp 107),type:=73,pos := "ref.go:71",after:=#[{on:=1,ground:=Ground.data}],guard:=none},{dst:=some 109,op:=Op.call {callee:=Callee.builtin Builtin.append,args:=#[Operand.tmp 106,Operand.tmp 108],argTypes:=#[73,73]},type:=73,pos := "ref.go:71",after:=#[{on:=0,ground:=Ground.data},{on:=2,ground:=Ground.data}],guard:=none},{dst:=some 110,op:=Op.load 148 (Operand.tmp 13),type:=148,pos := "ref.go:71",after:=#[],guard:=none},{dst:=some 111,op:=Op.buildSlice 73 1 #[(0,Operand.tmp 110)],type:=73,pos := "ref.go:71",after:=#[{on:=4,ground:=Ground.data}],guard:=none},{dst:=some 112,op:=Op.call {callee:=Callee.builtin Builtin.append,args:=#[Operand.tmp 109,Operand.tmp 111],argTypes:=#[73,73]},type:=73,pos := "ref.go:71",after:=#[{on:=3,ground:=Ground.data},{on:=5,ground:=Ground.data},{on:=3,ground:=Ground.chain}],guard:=none},{dst:=some 113,op:=Op.fieldAddr 107 (Operand.tmp 9) 2,type:=0,pos := "ref.go:71",after:=#[{on:=0,ground:=Ground.phase},{on:=1,ground:=Ground.phase},{on:=2,ground:=Ground.phase},{on:=3,ground:=Ground.phase},{on:=4,ground:=Ground.phase},{on:=5,ground:=Ground.phase},{on:=6,ground:=Ground.phase}],guard:=none},{dst:=none,op:=Op.store 73 (Operand.tmp 113) (Operand.tmp 112),type:=0,pos := "ref.go:71",after:=#[{on:=7,ground:=Ground.data},{on:=6,ground:=Ground.data},{on:=6,ground:=Ground.chain},{on:=0,ground:=Ground.phase},{on:=1,ground:=Ground.phase},{on:=2,ground:=Ground.phase},{on:=3,ground:=Ground.phase},{on:=4,ground:=Ground.phase},{on:=5,ground:=Ground.phase},{on:=6,ground:=Ground.phase}],guard:=none}]
theorem jg6:∀b c d b3 e f g h a:Bool,Region.ready .any qd #[b,c,d,b3,e,f,g,h,a]=[]->a=true:=by decide +kernel
theorem jnl{a:Act}{i:Nat}{v:Value}(h:a.tmps[i]?=some v):a.eval (.tmp i)=v:=by show a.tmps.getD i undef=v;rw[joA,h];rfl
theorem jkN{a:Act}{d:Nat}{v:Value}(b:d<a.tmps.size)(j:Nat):(a.put (some d) v).tmps[j]?=if j=d then some v else a.tmps[j]?:=by
 show(a.tmps.setIfInBounds d v)[j]?=_;rw[joE];by_cases h:d=j
 ·subst h;simp[b]
 rw[if_neg h,if_neg (jpN h)]
theorem qp(a:Act)(d:Nat)(v:Value):(a.put (some d) v).tmps.size=a.tmps.size:=by show(a.tmps.setIfInBounds d v).size=_;simp
theorem jb4{o:Oper}{a:Act}{w:World}{K:Act->World->Prop}{Q:Exit->Act->World->Prop}(c:o.op=Op.buildSlice 73 0 #[])(b:K (a.put o.dst (.slice (some ⟨w.heap.size,0,none⟩) 0 0)) (w.alloc (.cells #[] 148))):Oper.wp prog o a w K Q:=by
 unfold Oper.wp;have e:(execOp a.eval o).run prog w=.ok (.value (.slice (some ⟨w.heap.size,0,none⟩) 0 0)) (w.alloc (.cells #[] 148)):=by simp only[execOp,c];kernel_rfl
 rw[e];exact b
theorem jb3{o:Oper}{a:Act}{w:World}{K:Act->World->Prop}{Q:Exit->Act->World->Prop}{x:Operand}{s t:ByteArray}(c:o.op=Op.buildSlice 73 1 #[(0,x)])(hx:a.eval x=.agg #[.string s,.string t])(b:K (a.put o.dst (.slice (some ⟨w.heap.size,0,none⟩) 1 1)) (w.alloc (.cells #[.string s,.string t] 148))):Oper.wp prog o a w K Q:=by
 unfold Oper.wp;have e:(execOp a.eval o).run prog w=.ok (.value (.slice (some ⟨w.heap.size,0,none⟩) 1 1)) (w.alloc (.cells #[.string s,.string t] 148)):=by simp only[execOp,c];rw[show(Array.map (fun(p:Nat×Operand)=>match p with | (i,x)=>(i,a.eval x)) #[((0:Nat),x)])=#[((0:Nat),Value.agg #[.string s,.string t])] from by rw[<- hx];simp];kernel_rfl
 rw[e];exact b
theorem ZU{o:Oper}{a:Act}{w:World}{K:Act->World->Prop}{Q:Exit->Act->World->Prop}{x:Operand}{b:Nat}(d:o.op=Op.fieldAddr 107 x 2)(hx:a.eval x=.pointer (some ⟨b,0,none⟩))(c:K (a.put o.dst (.pointer (some ⟨b,2,none⟩))) w):Oper.wp prog o a w K Q:=by
 unfold Oper.wp;have e:(execOp a.eval o).run prog w=.ok (.value (.pointer (some ⟨b,2,none⟩))) w:=by simp only[execOp,d,hx];simp[go_sem,Result.andThen]
 rw[e];exact c
theorem UW{o:Oper}{a:Act}{w:World}{K:Act->World->Prop}{Q:Exit->Act->World->Prop}{x:Operand}{p:Addr}{v:Value}(d:o.op=Op.load 73 x)(hx:a.eval x=.pointer (some p))(c:w.cell? p=some v)(b:K (a.put o.dst v) w):Oper.wp prog o a w K Q:=by
 unfold Oper.wp;have e:(execOp a.eval o).run prog w=.ok (.value v) w:=by simp only[execOp,d,hx];simp[go_sem,Result.andThen,c]
 rw[e];exact b
theorem UV{o:Oper}{a:Act}{w:World}{K:Act->World->Prop}{Q:Exit->Act->World->Prop}{x:Operand}{b:Nat}{u v:Value}(g:o.op=Op.load 148 x)(hx:a.eval x=.pointer (some ⟨b,0,none⟩))(d:w.cell? ⟨b,0,none⟩=some u)(f:w.cell? ⟨b,1,none⟩=some v)(c:K (a.put o.dst (.agg #[u,v])) w):Oper.wp prog o a w K Q:=by
 unfold Oper.wp;have e:(execOp a.eval o).run prog w=.ok (.value (.agg #[u,v])) w:=by simp only[execOp,g,hx];simp[go_sem,Result.andThen,d,f]
 rw[e];exact c
theorem Xn{o:Oper}{a:Act}{w:World}{K:Act->World->Prop}{Q:Exit->Act->World->Prop}{x y:Operand}{p:Addr}{u:Value}{g:Option Addr}{n c:Nat}(h:o.op=Op.store 73 x y)(hx:a.eval x=.pointer (some p))(i:a.eval y=.slice g n c)(d:w.cell? p=some u)(f:w.frozen? p=false)(b:K (a.put o.dst undef) (w.setCell p (.slice g n c))):Oper.wp prog o a w K Q:=by
 unfold Oper.wp;have e:(execOp a.eval o).run prog w=.ok .skip (w.setCell p (.slice g n c)):=by simp only[execOp,h,hx,i];simp[go_sem,Result.andThen,d,f]
 rw[e];exact b
def fl(l:Array Bool)(j:Nat):Bool:=l.getD j false
theorem jgJ{l:Array Bool}{i:Nat}(a:i<l.size)(j:Nat):fl (l.setIfInBounds i true) j=if j=i then true else fl l j:=by
 unfold fl;rw[joA,joA,joE];by_cases h:i=j
 ·subst h;simp[a]
 rw[if_neg h,if_neg (jpN h)]
theorem zP{Q:Exit->Act->World->Prop}{K:Act->World->Prop}{a:Act}{w:World}{i:Nat}{o:Oper}(c:qd[i]?=some o)(b:o.guard=none)(h:Oper.wp prog o a w K Q):wpOp prog qd Q i K a w:=by
 unfold wpOp;rw[c];show(if Region.wanted o (yielded qd a.tmps)=true then _ else _)
 rw[if_pos (by simp[Region.wanted,b])];exact .inl h
theorem QQ{o:Oper}{a:Act}{w:World}{K:Act->World->Prop}{Q:Exit->Act->World->Prop}{s x:Operand}{p:Addr}(e:o.op=Op.call {callee:=Callee.builtin Builtin.append,args:=#[s,x],argTypes:=#[73,73]})(f:a.eval s=.slice (some p) 0 0)(hx:a.eval x=.slice none 0 0)(c:K (a.put o.dst (.slice (some p) 0 0)) w):Oper.wp prog o a w K Q:=by
 have d:∀b,(Builtin.append_ #[73,73] b #[.slice (some p) 0 0,.slice none 0 0]).run prog w=.ok (.slice (some p) 0 0) w:=fun b=>by kernel_rfl
 unfold Oper.wp;simp[execOp,e,resolve,invoke,builtin,f,hx,d,Result.andThen];exact c
theorem Jk{o:Oper}{a:Act}{w:World}{K:Act->World->Prop}{Q:Exit->Act->World->Prop}{s x:Operand}(q:o.guard=none)(z:o.op=Op.call {callee:=Callee.builtin Builtin.append,args:=#[s,x],argTypes:=#[73,73]})
  (v:Value) (n:Nat) (xs:List Value) (A:a.eval s=v) (e:w.ownsRow 0 148 2 v n xs)
  (g:Addr) (m c:Nat) (b:List Value) (hx:a.eval x=.slice (some g) m c) (hl:b.length=m*2) (d:∀j u,b[j]?=some u->w.cell? (g.add j)=some u) (r:∀u∈b,u.oneCell'=true)
  (D:n+m<=1000000)
  (t:∀f p,p.ownsRow 0 148 2 f (n+m) (xs++b)->w.grownBy p v.ownBlock->(f.ownBlock=v.ownBlock\/f.ownBlock=some w.heap.size)->K (a.put o.dst f) p):Oper.wp prog o a w K Q:=by
 obtain⟨C,y,i,k,l⟩:=info_parts Xg;have h:=jZ (P:=prog) (ops:=qd) (o:=o) (a:=a) (w:=w) (K:=K) (Q:=Q) (E:=True) q s x 73 z 148 C _ 2 32 underlying73 y i k l rfl (by decide) v n xs A e g m c b hx hl d r (by unfold maxLen;omega) (by omega) t
 rwa [if_pos (by simp[Region.wanted,q])]at h
theorem XM{w:World}{lo n a b:Nat}{e:TypeId}{size:Nat}{v:Value}{xs:List Value}(l:w.ownsRow 0 e size v n xs)(f:v.ownBlock=some a\/v.ownBlock=some b)(p:lo<=a)(q:lo<=b):∃g c,v=.slice (some ⟨g,0,none⟩) n c/\lo<=g/\w.ownsRow lo e size (.slice (some ⟨g,0,none⟩) n c) n xs:=by
 rcases l.2 with ⟨rfl,_⟩|⟨g,d,j,rfl,o,i⟩
 ·rcases f with h|h<;>cases h
 have k:lo<=g:=by
  rcases f with h|h
  ·have m:g=a:=jnY h;omega
  have m:g=b:=jnY h;omega
 exact⟨g,d,rfl,k,l.1,.inr ⟨g,d,j,rfl,k,i⟩⟩
theorem YQ(w:World)(e:TypeId)(size:Nat):(w.alloc (.cells #[] e)).ownsRow 0 e size (.slice (some ⟨w.heap.size,0,none⟩) 0 0) 0 [] :=
 ⟨by simp,.inr ⟨_,0,#[],rfl,jn3 _,jd.new w e #[],jnT _,jn3 _,by simp,by simp⟩⟩
theorem XL(w:World)(o:Obj):Below w.heap.size w (w.alloc o):=(jnV _ _).alloc (jnT _) o
theorem jcm{w:World}{b:Nat}{t:TypeId}{x y:Value}(h:jd w b t #[x,y]):∀j u,[x,y][j]?=some u->w.cell? ((⟨b,0,none⟩:Addr).add j)=some u:=by
 intro j u c;have a:(⟨b,0,none⟩:Addr).add j=⟨b,j,none⟩:=by unfold Addr.add;split<;>simp_all
 rw[a,h.cell j];simpa using c
abbrev sl(g n c:Nat):Value:=.slice (some ⟨g,0,none⟩) n c
structure Reg(a0:Act)(W3:World)(nb n:Nat)(fv:Value)(cf:List Value)(x y:ByteArray)(l:Array Bool)(a:Act)(w:World):Prop where
 dfr:a.defers=a0.defers
 sz:a.tmps.size=a0.tmps.size
 frm:∀j,(j<106\/113<j)->a.tmps[j]?=a0.tmps[j]?
 bel:fl l 8=false->Below W3.heap.size W3 w
 s0:fl l 0=true->∃B,a.tmps[106]?=some (sl B 0 0)/\(fl l 3=false->W3.heap.size<=B/\w.ownsRow 0 148 2 (sl B 0 0) 0 []/\(fl l 5=true->∀B5,a.tmps[111]?=some (sl B5 1 1)->B5≠B))
 s1:fl l 1=true->a.tmps[107]?=some (.pointer (some ⟨nb,2,none⟩))
 s2:fl l 2=true->a.tmps[108]?=some fv
 s3:fl l 3=true->fl l 0=true/\fl l 2=true/\∃g c,a.tmps[109]?=some (sl g n c)/\(fl l 6=false->w.ownsRow W3.heap.size 148 2 (sl g n c) n cf)
 s4:fl l 4=true->a.tmps[110]?=some (.agg #[.string x,.string y])
 s5:fl l 5=true->fl l 4=true/\∃B5,a.tmps[111]?=some (sl B5 1 1)/\(fl l 6=false->W3.heap.size<=B5/\jd w B5 148 #[.string x,.string y])
 s6:fl l 6=true->fl l 3=true/\fl l 5=true/\∃g c,a.tmps[112]?=some (sl g (n+1) c)/\(fl l 8=false->w.ownsRow W3.heap.size 148 2 (sl g (n+1) c) (n+1) (cf++[.string x,.string y]))
 s7:fl l 7=true->a.tmps[113]?=some (.pointer (some ⟨nb,2,none⟩))
 s8:fl l 8=true->fl l 6=true/\∃w2 g c,Below W3.heap.size W3 w2/\w2.ownsRow W3.heap.size 148 2 (sl g (n+1) c) (n+1) (cf++[.string x,.string y])/\w=w2.setCell ⟨nb,2,none⟩ (sl g (n+1) c)
theorem Ug{w:World}{lo B:Nat}(h:w.ownsRow 0 148 2 (sl B 0 0) 0 [])(d:lo<=B):w.ownsRow lo 148 2 (sl B 0 0) 0 []:=by
 refine⟨h.1,?_⟩;rcases h.2 with ⟨e,_⟩|⟨g,c,b,e,_,a⟩
 ·cases e
 cases e;exact .inr ⟨B,0,b,rfl,d,a⟩
theorem jnb{a:Act}{d:Nat}{v:Value}(b:d<a.tmps.size):∀j,(a.put (some d) v).tmps[j]?=if j=d then some v else a.tmps[j]?:=jkN b
theorem WY(a0:Act)(W3:World)(nb fb n:Nat)(fv:Value)(cf:List Value)(x y:ByteArray)(Q:Exit->Act->World->Prop)(k0 k1:Value)
  (h9:a0.tmps[9]?=some (.pointer (some ⟨nb,0,none⟩))) (h13:a0.tmps[13]?=some (.pointer (some ⟨fb,0,none⟩))) (hsz:114<=a0.tmps.size)
  (hVB:jd W3 nb 107 #[k0,k1,fv]) (hFB:jd W3 fb 148 #[.string x,.string y])
  (hrow:W3.ownsRow 0 148 2 fv n cf) (h1:∀u∈cf,u.oneCell'=true) (hn:n<=100000)
  (hQ:∀a w2 g c,a.defers=a0.defers->a.tmps.size=a0.tmps.size->(∀j,(j<106\/113<j)->a.tmps[j]?=a0.tmps[j]?)->Below W3.heap.size W3 w2->w2.ownsRow W3.heap.size 148 2 (sl g (n+1) c) (n+1) (cf++[.string x,.string y])->Q .normal a (w2.setCell ⟨nb,2,none⟩ (sl g (n+1) c))) :
  (Code.region 29 qd true).wp prog Q a0 W3:=by
 refine Zw (by kernel_rfl) (Reg a0 W3 nb n fv cf x y) ?start ?step ?done
 case start =>
  have z:∀j,fl (Array.replicate qd.size false) j=false:=by
   intro j
   unfold fl
   rw[joA,Array.getElem?_replicate]
   split<;>rfl
  exact⟨rfl,rfl,fun _ _=>rfl,fun _=>(jnV _ _).drew,(fun h=>by rw[z]at h;cases h),(fun h=>by rw[z]at h;cases h),(fun h=>by rw[z]at h;cases h),(fun h=>by rw[z]at h;cases h),(fun h=>by rw[z]at h;cases h),(fun h=>by rw[z]at h;cases h),(fun h=>by rw[z]at h;cases h),(fun h=>by rw[z]at h;cases h),(fun h=>by rw[z]at h;cases h)⟩
 case done =>
  intro l a w I hl hr
  have h8:fl l 8=true:=by
   have hl9:l.size=9:=hl
   have e:l=#[l[0],l[1],l[2],l[3],l[4],l[5],l[6],l[7],l[8]]:=by
    apply Array.ext
    ·simp[hl9]
    intro i h1 h2
    rw[hl9]at h1
    rcases(by omega:i=0\/i=1\/i=2\/i=3\/i=4\/i=5\/i=6\/i=7\/i=8) with rfl|rfl|rfl|rfl|rfl|rfl|rfl|rfl|rfl<;>rfl
   rw[e]at hr
   have:=jg6 _ _ _ _ _ _ _ _ _ hr
   unfold fl
   rw[joA,joD (by omega)]
   exact this
  obtain⟨_,w2,g,c,b,o,rfl⟩:=I.s8 h8
  exact hQ a w2 g c I.dfr I.sz I.frm b o
 case step =>
 intro l i o a w I hl ho hli he
 have hl9:l.size=9:=hl
 have hi:i<9:=by
  rcases joo i 9 with h|h
  ·exact h
  rw[joM (by exact h)]at ho;cases ho
 have hil:i<l.size:=by omega
 have FL:=fun j=>jgJ hil j
 have TM:=fun d v (hd:d<114)=>jnb (a:=a) (d:=d) (v:=v) (by rw[I.sz];omega)
 have hfi:fl l i=false:=by
  unfold fl
  rw[joA,joD hil]at hli ⊢
  exact hli
 have dep:∀e∈o.after,Region.binds .any e=true->fl l e.on=true:=he
 have ev:∀j v,a.tmps[j]?=some v->a.eval (.tmp j)=v:=fun j v h=>jnl h
 have e9:=ev 9 _ ((I.frm 9 (by omega)).trans h9)
 have e13:=ev 13 _ ((I.frm 13 (by omega)).trans h13)
 have NF:∀k,(fl l k=true->fl l i=true)->fl l k=false:=fun k h=>by
  cases e:fl l k with
  | false=>rfl
  | true=>rw[h e]at hfi;cases hfi
 have FX:∀k,k≠i->fl (l.setIfInBounds i true) k=fl l k:=fun k h=>by rw[FL,if_neg h]
 have FI:fl (l.setIfInBounds i true) i=true:=by rw[FL,if_pos rfl]
 have TX:∀d v,d<114->∀j,j≠d->(a.put (some d) v).tmps[j]?=a.tmps[j]?:=fun d v hd j h=>by rw[TM _ _ hd,if_neg h]
 have TI:∀d v,d<114->(a.put (some d) v).tmps[d]?=some v:=fun d v hd=>by rw[TM _ _ hd,if_pos rfl]
 have i20:=I.bel
 have i21:=I.s0
 have i22:=I.s1
 have i23:=I.s2
 have i24:=I.s3
 have i25:=I.s4
 have i26:=I.s5
 have i27:=I.s6
 have i28:=I.s7
 have i29:=I.s8
 rcases(by omega:i=0\/i=1\/i=2\/i=3\/i=4\/i=5\/i=6\/i=7\/i=8) with rfl|rfl|rfl|rfl|rfl|rfl|rfl|rfl|rfl
 ·have ho2:some _=some o:=ho
  obtain rfl:=jnY ho2
  have n3:=NF 3 fun h=>(I.s3 h).1
  have n6:=NF 6 fun h=>(I.s3 (I.s6 h).1).1
  have n8:=NF 8 fun h=>(I.s3 (I.s6 (I.s8 h).1).1).1
  have bl:=I.bel n8
  have al:=XL w (.cells #[] 148)
  refine zP ho rfl (jb4 rfl ?_)
  show Reg a0 W3 nb n fv cf x y (l.setIfInBounds 0 true) (a.put (some 106) (sl w.heap.size 0 0)) (w.alloc (.cells #[] 148))
  have f3:=FX 3 (by decide)
  have f4:=FX 4 (by decide)
  have f5:=FX 5 (by decide)
  have f6:=FX 6 (by decide)
  have f8:=FX 8 (by decide)
  have t106:=TI 106 (sl w.heap.size 0 0) (by decide)
  have TV:=TX 106 (sl w.heap.size 0 0) (by decide)
  have t111:=TV 111 (by decide)
  refine⟨I.dfr,(qp _ _ _).trans I.sz,fun j hj=>by rw[TM _ _ (by decide),if_neg (by omega)];exact I.frm j hj,(fun _=>bl.trans (al.mono bl.size)),(fun _=>⟨w.heap.size,t106,by rw[f3,f5,t111];exact fun _=>⟨bl.size,YQ w _ 2,fun h5 B5 hB5=>by obtain⟨_,B6,e6,h6⟩:=I.s5 h5;rw[e6]at hB5;cases hB5;have:=(h6 n6).2.lt;omega⟩⟩),?_,?_,(by rw[f3,n3];exact fun h=>by cases h),?_,(by rw[f5,f4,t111,f6];exact fun h=>(by obtain⟨q4,B6,e6,h6⟩:=I.s5 h;exact⟨q4,B6,e6,fun q=>⟨(h6 q).1,jb (h6 q).2 al (h6 q).2.lt⟩⟩)),(by rw[f6,n6];exact fun h=>by cases h),?_,(by rw[f8,n8];exact fun h=>by cases h)⟩
  all_goals (simp(disch:=decide) only[FX,TX];assumption)
 ·have ho2:some _=some o:=ho
  obtain rfl:=jnY ho2
  refine zP ho rfl (ZU rfl e9 ?_)
  show Reg a0 W3 nb n fv cf x y (l.setIfInBounds 1 true) (a.put (some 107) (.pointer (some ⟨nb,2,none⟩))) w
  have t107:=TI 107 (.pointer (some ⟨nb,2,none⟩)) (by decide)
  refine⟨I.dfr,(qp _ _ _).trans I.sz,fun j hj=>by rw[TM _ _ (by decide),if_neg (by omega)];exact I.frm j hj,?_,?_,(fun _=>t107),?_,?_,?_,?_,?_,?_,?_⟩
  all_goals (simp(disch:=decide) only[FX,TX];assumption)
 ·have ho2:some _=some o:=ho
  obtain rfl:=jnY ho2
  have d1:fl l 1=true:=dep ⟨1,Ground.data⟩ (by simp[qd]) rfl
  have n8:=NF 8 fun h=>(I.s3 (I.s6 (I.s8 h).1).1).2.1
  have bl:=I.bel n8
  refine zP ho rfl (UW rfl (ev 107 _ (I.s1 d1)) ((bl.cell (p:=⟨nb,2,none⟩) hVB.lt).trans (hVB.cell 2)) ?_)
  show Reg a0 W3 nb n fv cf x y (l.setIfInBounds 2 true) (a.put (some 108) fv) w
  have f0:=FX 0 (by decide)
  have f2:=FI
  have f3:=FX 3 (by decide)
  have f6:=FX 6 (by decide)
  have TV:=TX 108 fv (by decide)
  have t108:=TI 108 fv (by decide)
  have t109:=TV 109 (by decide)
  refine⟨I.dfr,(qp _ _ _).trans I.sz,fun j hj=>by rw[TM _ _ (by decide),if_neg (by omega)];exact I.frm j hj,?_,?_,?_,(fun _=>t108),(by rw[f3,f0,t109,f6];exact fun h=>(by obtain⟨q0,_,q⟩:=I.s3 h;exact⟨q0,f2,q⟩)),?_,?_,?_,?_,?_⟩
  all_goals (simp(disch:=decide) only[FX,TX];assumption)
 ·have ho2:some _=some o:=ho
  obtain rfl:=jnY ho2
  have d0:fl l 0=true:=dep ⟨0,Ground.data⟩ (by simp[qd]) rfl
  have d2:fl l 2=true:=dep ⟨2,Ground.data⟩ (by simp[qd]) rfl
  have n6:=NF 6 fun h=>(I.s6 h).1
  have n8:=NF 8 fun h=>(I.s6 (I.s8 h).1).1
  have bl:=I.bel n8
  obtain⟨B,eB,hr⟩:=I.s0 d0
  obtain⟨q1,q2,q3⟩:=hr hfi
  have e6:=ev 106 _ eB
  have e8:=ev 108 _ (I.s2 d2)
  rcases joQ hrow with ⟨hfv,hn0⟩|⟨g,cap,hfv⟩
  ·obtain rfl:n=0:=hn0
   have hcf:cf=[]:=List.length_eq_zero_iff.1 (by have:=hrow.1;omega)
   refine zP ho rfl (QQ rfl e6 (by rw[e8,hfv]) ?_)
   show Reg a0 W3 nb 0 fv cf x y (l.setIfInBounds 3 true) (a.put (some 109) (sl B 0 0)) w
   have f0:fl (l.setIfInBounds 3 true) 0=fl l 0:=by rw[FL,if_neg (by decide)]
   have f1:fl (l.setIfInBounds 3 true) 1=fl l 1:=by rw[FL,if_neg (by decide)]
   have f2:fl (l.setIfInBounds 3 true) 2=fl l 2:=by rw[FL,if_neg (by decide)]
   have f3:fl (l.setIfInBounds 3 true) 3=true:=by rw[FL,if_pos rfl]
   have f4:fl (l.setIfInBounds 3 true) 4=fl l 4:=by rw[FL,if_neg (by decide)]
   have f5:fl (l.setIfInBounds 3 true) 5=fl l 5:=by rw[FL,if_neg (by decide)]
   have f6:fl (l.setIfInBounds 3 true) 6=fl l 6:=by rw[FL,if_neg (by decide)]
   have f7:fl (l.setIfInBounds 3 true) 7=fl l 7:=by rw[FL,if_neg (by decide)]
   have f8:fl (l.setIfInBounds 3 true) 8=fl l 8:=by rw[FL,if_neg (by decide)]
   have t106:(a.put (some 109) (sl B 0 0)).tmps[106]?=a.tmps[106]?:=by rw[TM _ _ (by decide),if_neg (by decide)]
   have t107:(a.put (some 109) (sl B 0 0)).tmps[107]?=a.tmps[107]?:=by rw[TM _ _ (by decide),if_neg (by decide)]
   have t108:(a.put (some 109) (sl B 0 0)).tmps[108]?=a.tmps[108]?:=by rw[TM _ _ (by decide),if_neg (by decide)]
   have t109:(a.put (some 109) (sl B 0 0)).tmps[109]?=some (sl B 0 0):=by rw[TM _ _ (by decide),if_pos rfl]
   have t110:(a.put (some 109) (sl B 0 0)).tmps[110]?=a.tmps[110]?:=by rw[TM _ _ (by decide),if_neg (by decide)]
   have t111:(a.put (some 109) (sl B 0 0)).tmps[111]?=a.tmps[111]?:=by rw[TM _ _ (by decide),if_neg (by decide)]
   have t113:(a.put (some 109) (sl B 0 0)).tmps[113]?=a.tmps[113]?:=by rw[TM _ _ (by decide),if_neg (by decide)]
   exact⟨I.dfr,(qp _ _ _).trans I.sz,fun j hj=>by rw[TM _ _ (by decide),if_neg (by omega)];exact I.frm j hj,(by rw[f8];exact I.bel),(by rw[f0,t106];exact fun _=>⟨B,eB,fun h=>by rw[f3]at h;cases h⟩),(by rw[f1,t107];exact I.s1),(by rw[f2,t108];exact I.s2),(fun _=>⟨by rw[f0];exact d0,by rw[f2];exact d2,B,0,t109,fun _=>by rw[hcf];exact Ug q2 q1⟩),(by rw[f4,t110];exact I.s4),(by rw[f5,f4,t111,f6];exact I.s5),(by rw[f6,n6];exact fun h=>by cases h),(by rw[f7,t113];exact I.s7),(by rw[f8,n8];exact fun h=>by cases h)⟩
  refine zP ho rfl (Jk rfl rfl (sl B 0 0) 0 [] e6 q2 ⟨g,0,none⟩ n cap cf (by rw[e8,hfv]) hrow.1 ?hc h1 (by omega) ?_)
  case hc =>
   intro j u hj
   have hjl:j<n*2:=by
    rw[<- hrow.1]
    rcases joo j cf.length with q|q
    ·exact q
    rw[jon q]at hj;cases hj
   have ea:(⟨g,0,none⟩:Addr).add j=⟨g,j,none⟩:=by unfold Addr.add;split<;>simp_all
   have hr2:=hrow
   rw[hfv]at hr2
   rw[ea,bl.cell (p:=⟨g,j,none⟩) (hr2.lt g rfl).2,job hr2 j hjl];exact hj
  intro v' w' o1 gr bk
  obtain⟨g1,c1,rfl,lo1,own1⟩:=XM (lo:=W3.heap.size) o1 bk q1 bl.size
  rw[jov,joL]at own1
  rw[jov]
  show Reg a0 W3 nb n fv cf x y (l.setIfInBounds 3 true) (a.put (some 109) (sl g1 n c1)) w'
  have f0:fl (l.setIfInBounds 3 true) 0=fl l 0:=by rw[FL,if_neg (by decide)]
  have f2:fl (l.setIfInBounds 3 true) 2=fl l 2:=by rw[FL,if_neg (by decide)]
  have f3:fl (l.setIfInBounds 3 true) 3=true:=by rw[FL,if_pos rfl]
  have f4:fl (l.setIfInBounds 3 true) 4=fl l 4:=by rw[FL,if_neg (by decide)]
  have f5:fl (l.setIfInBounds 3 true) 5=fl l 5:=by rw[FL,if_neg (by decide)]
  have f6:fl (l.setIfInBounds 3 true) 6=fl l 6:=by rw[FL,if_neg (by decide)]
  have f8:fl (l.setIfInBounds 3 true) 8=fl l 8:=by rw[FL,if_neg (by decide)]
  have t106:(a.put (some 109) (sl g1 n c1)).tmps[106]?=a.tmps[106]?:=by rw[TM _ _ (by decide),if_neg (by decide)]
  have t109:(a.put (some 109) (sl g1 n c1)).tmps[109]?=some (sl g1 n c1):=by rw[TM _ _ (by decide),if_pos rfl]
  have t111:(a.put (some 109) (sl g1 n c1)).tmps[111]?=a.tmps[111]?:=by rw[TM _ _ (by decide),if_neg (by decide)]
  refine⟨I.dfr,(qp _ _ _).trans I.sz,fun j hj=>by rw[TM _ _ (by decide),if_neg (by omega)];exact I.frm j hj,(fun _=>bl.grown gr bl.size (fun k hk=>by cases hk;exact q1)),(by rw[f0,t106];exact fun _=>⟨B,eB,fun h=>by rw[f3]at h;cases h⟩),?_,?_,(fun _=>⟨by rw[f0];exact d0,by rw[f2];exact d2,g1,c1,t109,fun _=>own1⟩),?_,(by rw[f5,f4,t111,f6];exact fun h=>(by obtain⟨q4,B6,e7,h6⟩:=I.s5 h;exact⟨q4,B6,e7,fun q=>⟨(h6 q).1,jd.grown (h6 q).2 gr (fun e=>q3 h B6 e7 (jnY e))⟩⟩)),(by rw[f6,n6];exact fun h=>by cases h),?_,(by rw[f8,n8];exact fun h=>by cases h)⟩
  all_goals (simp(disch:=decide) only[FX,TX];assumption)
 ·have ho2:some _=some o:=ho
  obtain rfl:=jnY ho2
  have n8:=NF 8 fun h=>(I.s5 (I.s6 (I.s8 h).1).2.1).1
  have bl:=I.bel n8
  refine zP ho rfl (UV rfl e13 ((bl.cell (p:=⟨fb,0,none⟩) hFB.lt).trans (hFB.cell 0)) ((bl.cell (p:=⟨fb,1,none⟩) hFB.lt).trans (hFB.cell 1)) ?_)
  show Reg a0 W3 nb n fv cf x y (l.setIfInBounds 4 true) (a.put (some 110) (.agg #[.string x,.string y])) w
  have f4:=FI
  have f5:=FX 5 (by decide)
  have f6:=FX 6 (by decide)
  have TV:=TX 110 (.agg #[.string x,.string y]) (by decide)
  have t110:=TI 110 (.agg #[.string x,.string y]) (by decide)
  have t111:=TV 111 (by decide)
  refine⟨I.dfr,(qp _ _ _).trans I.sz,fun j hj=>by rw[TM _ _ (by decide),if_neg (by omega)];exact I.frm j hj,?_,?_,?_,?_,?_,(fun _=>t110),(by rw[f5,t111,f6];exact fun h=>(by obtain⟨_,q⟩:=I.s5 h;exact⟨f4,q⟩)),?_,?_,?_⟩
  all_goals (simp(disch:=decide) only[FX,TX];assumption)
 ·have ho2:some _=some o:=ho
  obtain rfl:=jnY ho2
  have d4:fl l 4=true:=dep ⟨4,Ground.data⟩ (by simp[qd]) rfl
  have n6:=NF 6 fun h=>(I.s6 h).2.1
  have n8:=NF 8 fun h=>(I.s6 (I.s8 h).1).2.1
  have bl:=I.bel n8
  have al:=XL w (.cells #[.string x,.string y] 148)
  refine zP ho rfl (jb3 rfl (ev 110 _ (I.s4 d4)) ?_)
  show Reg a0 W3 nb n fv cf x y (l.setIfInBounds 5 true) (a.put (some 111) (sl w.heap.size 1 1)) (w.alloc (.cells #[.string x,.string y] 148))
  have f0:=FX 0 (by decide)
  have f2:=FX 2 (by decide)
  have f3:=FX 3 (by decide)
  have f4:=FX 4 (by decide)
  have f6:=FX 6 (by decide)
  have f8:=FX 8 (by decide)
  have TV:=TX 111 (sl w.heap.size 1 1) (by decide)
  have t106:=TV 106 (by decide)
  have t109:=TV 109 (by decide)
  have t111:=TI 111 (sl w.heap.size 1 1) (by decide)
  refine⟨I.dfr,(qp _ _ _).trans I.sz,fun j hj=>by rw[TM _ _ (by decide),if_neg (by omega)];exact I.frm j hj,(fun _=>bl.trans (al.mono bl.size)),(by rw[f0,f3,t106,t111];exact fun h=>(by obtain⟨B,e,hr⟩:=I.s0 h;exact⟨B,e,fun h3=>(by obtain⟨q1,q2,q3⟩:=hr h3;exact⟨q1,zf q2 al (jnT _),fun _ B5 hB5=>by cases hB5;have:=(q2.lt B rfl).2;omega⟩)⟩)),?_,?_,(by rw[f3,f0,f2,t109,f6];exact fun h=>(by obtain⟨q0,q2,g,c,e,hr⟩:=I.s3 h;exact⟨q0,q2,g,c,e,fun h6=>zf (hr h6) al (jnT _)⟩)),?_,(fun _=>⟨by rw[f4];exact d4,w.heap.size,t111,fun _=>⟨bl.size,jd.new _ _ _⟩⟩),(by rw[f6,n6];exact fun h=>by cases h),?_,(by rw[f8,n8];exact fun h=>by cases h)⟩
  all_goals (simp(disch:=decide) only[FX,TX];assumption)
 ·have ho2:some _=some o:=ho
  obtain rfl:=jnY ho2
  have d3:fl l 3=true:=dep ⟨3,Ground.data⟩ (by simp[qd]) rfl
  have d5:fl l 5=true:=dep ⟨5,Ground.data⟩ (by simp[qd]) rfl
  have n8:=NF 8 fun h=>(I.s8 h).1
  have bl:=I.bel n8
  obtain⟨d0,d2,g1,c1,e1,ho1⟩:=I.s3 d3
  have own1:=ho1 hfi
  obtain⟨d4,B5,e5,h5⟩:=I.s5 d5
  obtain⟨l5,cB5⟩:=h5 hfi
  refine zP ho rfl (Jk rfl rfl (sl g1 n c1) n cf (ev 109 _ e1) (jE own1 (jn3 _)) ⟨B5,0,none⟩ 1 1 [.string x,.string y] (ev 111 _ e5) rfl (jcm cB5) (by intro u hu;simp at hu;rcases hu with rfl | rfl<;>rfl) (by omega) ?_)
  intro v' w' o2 gr bk
  obtain⟨g2,c2,rfl,lo2,own2⟩:=XM (lo:=W3.heap.size) o2 bk (own1.lt g1 rfl).1 bl.size
  show Reg a0 W3 nb n fv cf x y (l.setIfInBounds 6 true) (a.put (some 112) (sl g2 (n+1) c2)) w'
  have f0:=FX 0 (by decide)
  have f2:=FX 2 (by decide)
  have f3:=FX 3 (by decide)
  have f4:=FX 4 (by decide)
  have f5:=FX 5 (by decide)
  have f6:=FI
  have f8:=FX 8 (by decide)
  have TV:=TX 112 (sl g2 (n+1) c2) (by decide)
  have t106:=TV 106 (by decide)
  have t109:=TV 109 (by decide)
  have t111:=TV 111 (by decide)
  have t112:=TI 112 (sl g2 (n+1) c2) (by decide)
  refine⟨I.dfr,(qp _ _ _).trans I.sz,fun j hj=>by rw[TM _ _ (by decide),if_neg (by omega)];exact I.frm j hj,(fun _=>bl.grown gr bl.size (fun k hk=>by cases hk;exact(own1.lt g1 rfl).1)),(by rw[f0,t106,f3,d3];exact fun h=>(by obtain⟨B,e,_⟩:=I.s0 h;exact⟨B,e,fun q=>by cases q⟩)),?_,?_,(by rw[f3,f0,f2,t109];exact fun _=>⟨d0,d2,g1,c1,e1,fun q=>by rw[f6]at q;cases q⟩),?_,(by rw[f5,f4,t111];exact fun _=>⟨d4,B5,e5,fun q=>by rw[f6]at q;cases q⟩),(fun _=>⟨by rw[f3];exact d3,by rw[f5];exact d5,g2,c2,t112,fun _=>own2⟩),?_,(by rw[f8,n8];exact fun h=>by cases h)⟩
  all_goals (simp(disch:=decide) only[FX,TX];assumption)
 ·have ho2:some _=some o:=ho
  obtain rfl:=jnY ho2
  refine zP ho rfl (ZU rfl e9 ?_)
  show Reg a0 W3 nb n fv cf x y (l.setIfInBounds 7 true) (a.put (some 113) (.pointer (some ⟨nb,2,none⟩))) w
  have t113:=TI 113 (.pointer (some ⟨nb,2,none⟩)) (by decide)
  refine⟨I.dfr,(qp _ _ _).trans I.sz,fun j hj=>by rw[TM _ _ (by decide),if_neg (by omega)];exact I.frm j hj,?_,?_,?_,?_,?_,?_,?_,?_,(fun _=>t113),?_⟩
  all_goals (simp(disch:=decide) only[FX,TX];assumption)
 have ho2:some _=some o:=ho
 obtain rfl:=jnY ho2
 have d7:fl l 7=true:=dep ⟨7,Ground.data⟩ (by simp[qd]) rfl
 have d6:fl l 6=true:=dep ⟨6,Ground.data⟩ (by simp[qd]) rfl
 have bl:=I.bel hfi
 obtain⟨d3,d5,g2,c2,e2,ho2'⟩:=I.s6 d6
 have own2:=ho2' hfi
 have hv:=jb hVB bl hVB.lt
 refine zP ho rfl (Xn rfl (ev 113 _ (I.s7 d7)) (ev 112 _ e2) (hv.cell 2) (hv.frozen 2) ?_)
 show Reg a0 W3 nb n fv cf x y (l.setIfInBounds 8 true) a (w.setCell ⟨nb,2,none⟩ (sl g2 (n+1) c2))
 have f0:=FX 0 (by decide)
 have f2:=FX 2 (by decide)
 have f3:=FX 3 (by decide)
 have f4:=FX 4 (by decide)
 have f5:=FX 5 (by decide)
 have f6:=FX 6 (by decide)
 have f8:=FI
 refine⟨I.dfr,I.sz,I.frm,(by rw[f8];exact fun h=>by cases h),(by rw[f0,f3,d3];exact fun h=>(by obtain⟨B,e,_⟩:=I.s0 h;exact⟨B,e,fun q=>by cases q⟩)),?_,?_,(by rw[f3,f0,f2,f6,d6];exact fun h=>(by obtain⟨q0,q2,g,c,e,_⟩:=I.s3 h;exact⟨q0,q2,g,c,e,fun q=>by cases q⟩)),?_,(by rw[f5,f4,f6,d6];exact fun h=>(by obtain⟨q4,B6,e7,_⟩:=I.s5 h;exact⟨q4,B6,e7,fun q=>by cases q⟩)),(by rw[f6,f3,f5,f8];exact fun _=>⟨d3,d5,g2,c2,e2,fun q=>by cases q⟩),?_,(fun _=>⟨by rw[f6];exact d6,w,g2,c2,bl,own2,rfl⟩)⟩
 all_goals (simp(disch:=decide) only[FX];assumption)
theorem jca(a t:Array Value)(e:t.size=a.size)(h:∀j,(j<106\/113<j)->t[j]?=a[j]?):
  ∃f g i l m n o p,t=(((((((a.setIfInBounds 106 f).setIfInBounds 107 g).setIfInBounds 108 i).setIfInBounds 109 l).setIfInBounds 110 m).setIfInBounds 111 n).setIfInBounds 112 o).setIfInBounds 113 p:=by
 refine⟨t.getD 106 undef,t.getD 107 undef,t.getD 108 undef,t.getD 109 undef,t.getD 110 undef,t.getD 111 undef,t.getD 112 undef,t.getD 113 undef,?_⟩;apply jpZ;intro j;simp only[joE,jqj];by_cases d:j<106\/113<j
 ·rw[h j d];rw[if_neg (by omega),if_neg (by omega),if_neg (by omega),if_neg (by omega),if_neg (by omega),if_neg (by omega),if_neg (by omega),if_neg (by omega)]
 have c:∀k:Nat,t[k]?=if k<a.size then some (t[k]?.getD undef) else none:=by
  intro k;rw[<- e];by_cases b:k<t.size
  ·rw[if_pos b,joD b];rfl
  rw[if_neg b,joM (by omega)]
 rcases(by omega:j=106\/j=107\/j=108\/j=109\/j=110\/j=111\/j=112\/j=113) with rfl|rfl|rfl|rfl|rfl|rfl|rfl|rfl<;>(simp;exact c _)
theorem region29x(a0:Act)(d:World)(j k n:Nat)(l:Value)(i:List Value)(x y:ByteArray)(Q:Exit->Act->World->Prop)(E G:Value)
  (L:a0.tmps[9]?=some (.pointer (some ⟨j,0,none⟩))) (m:a0.tmps[13]?=some (.pointer (some ⟨k,0,none⟩))) (r:114<=a0.tmps.size)
  (q:jd d j 107 #[E,G,l]) (p:jd d k 148 #[.string x,.string y])
  (f:d.ownsRow 0 148 2 l n i) (K:∀u∈i,u.oneCell'=true) (P:n<=100000)
  (N:∀s t v w z A C D h g c,Below d.heap.size d h->h.ownsRow d.heap.size 148 2 (sl g (n+1) c) (n+1) (i++[.string x,.string y])->Q .normal {tmps:=(((((((a0.tmps.setIfInBounds 106 s).setIfInBounds 107 t).setIfInBounds 108 v).setIfInBounds 109 w).setIfInBounds 110 z).setIfInBounds 111 A).setIfInBounds 112 C).setIfInBounds 113 D,defers:=a0.defers} (h.setCell ⟨j,2,none⟩ (sl g (n+1) c))) :
  (Code.region 29 qd true).wp prog Q a0 d:=by
 refine WY a0 d j k n l i x y Q E G L m r q p f K P ?_;intro a h g c H I J b o;have hx:=jca a0.tmps a.tmps I J
 have O:a={tmps:=a.tmps,defers:=a0.defers}:=by rw[<- H]
 rw[O];generalize a.tmps=R at *
 refine hx.elim fun s hx=>hx.elim fun t hx=>hx.elim fun v hx=>hx.elim fun w hx=>hx.elim fun z hx=>hx.elim fun A hx=>hx.elim fun C hx=>hx.elim fun D e => ?_;rw[e];exact N s t v w z A C D h g c b o
section
attribute [local go_sem] jn9
theorem jk9:(prog.info? 100).map (fun i=>(i.zero,i.size,i.bytes))=some (some (.agg #[.int .i64 0,.slice none 0 0]),2,32):=by kernel_rfl
abbrev Stz:=Int×List Fld
def qK:List Stz->List Value->List Value
 | s::l,v::vs=>.int .i64 s.1::v::qK l vs
 | _,_=>[]
theorem Zz:∀(l:List Stz) (b:List Value) (s:Stz) (v:Value),b.length=l.length->qK (l++[s]) (b++[v])=qK l b++[.int .i64 s.1,v]
 | [],[],s,v,_=>rfl
 | [],_::_,_,_,h=>by simp at h
 | a::l,[],s,v,h=>by simp at h
 | a::l,u::b,s,v,h=>by have:=Zz l b s v (by simpa using h);simp only[jog,qK,this]
theorem Yx:∀(l:List Stz) (b:List Value) (i:Nat) (s:Stz) (v:Value),l[i]?=some s->b[i]?=some v->(qK l b)[i*2]?=some (.int .i64 s.1)/\(qK l b)[i*2+1]?=some v
 | [],_,i,s,v,h,_=>by simp at h
 | a::l,[],i,s,v,_,h=>by simp at h
 | a::l,u::b,0,s,v,h,c=>by simp at h c;subst h c;exact⟨rfl,rfl⟩
 | a::l,u::b,i+1,s,v,h,c=>by
  obtain⟨x,y⟩:=Yx l b i s v (by simpa using h) (by simpa using c);have e:qK (a::l) (u::b)=.int .i64 a.1::u::qK l b:=rfl
  rw[e,show(i+1)*2=i*2+1+1 by omega];exact⟨by simpa using x,by simpa using y⟩
end
def Wd(cur:Array Value):Nat->List Value->Array Value
 | _,[]=>cur
 | o,v::r=>Wd (cur.setIfInBounds o v) (o+1) r
theorem qG:∀(b:List Value) (a:Array Value) (o:Nat),(Wd a o b).size=a.size
 | [],_,_=>rfl
 | v::r,a,o=>by show(Wd (a.setIfInBounds o v) (o+1) r).size=_;rw[qG r];simp
theorem Je:∀(b:List Value) (a:Array Value) (o j:Nat),o+b.length<=a.size->(Wd a o b)[j]?=if o<=j/\j<o+b.length then b[j-o]? else a[j]?
 | [],a,o,j,_=>by show a[j]?=_;rw[if_neg (by simp only[joz];omega)]
 | v::r,a,o,j,h=>by
  show(Wd (a.setIfInBounds o v) (o+1) r)[j]?=_;rw[Je r _ _ _ (by simp at h ⊢;omega)];simp only[jn1]at h ⊢;by_cases c:o+1<=j/\j<o+1+r.length
  ·rw[if_pos c,if_pos (by omega),show j-o=(j-(o+1))+1 by omega,jnX]
  rw[if_neg c];by_cases d:o=j
  ·subst d;rw[if_pos (by omega),Nat.sub_self,jnZ,joE];simp;omega
  rw[if_neg (by omega),joE,if_neg d]
theorem jd.lay{W:World}{b:Nat}{t:TypeId}:∀(c:List Value) {a:Array Value} (o:Nat),jd W b t a->jd (W.setCells b o c) b t (Wd a o c)
 | [],_,_,h=>h
 | v::r,a,o,h=>by have:=jd.lay (W:=W.setCell ⟨b,o,none⟩ v) r (o+1) (h.set o v);exact this
theorem xi{S:Nat->Prop}{X Y:World}{b:Nat}(a:S b\/X.heap.size<=b):∀(c:List Value) (o:Nat),jI S X Y->jI S X (Y.setCells b o c)
 | [],_,h=>h
 | v::r,o,h=>by have:=xi (Y:=Y.setCell ⟨b,o,none⟩ v) a r (o+1) (h.setCell (p:=⟨b,o,none⟩) a v);exact this
theorem Jg:(prog.info? 109).map (fun i=>(i.zero,i.size,i.bytes))=some (some (.agg #[.int .i64 0,.string ⟨#[]⟩,.slice none 0 0,.int .i64 0]),4,56):=by kernel_rfl
theorem jdV(w:World)(b o c:Nat)(p:TypeId)(h:∀j,j<4->(w.cell? ⟨b,o+j,none⟩).isSome=true)(i:∀j,j<4->w.frozen? ⟨b,o+j,none⟩=false):
  (Builtin.clear_ #[96] p #[.slice (some ⟨b,o,none⟩) 1 c]).run prog w=.ok (.tuple #[]) (w.setCells b o [.int .i64 0,.string ⟨#[]⟩,.slice none 0 0,.int .i64 0]):=by
 obtain⟨q,k,d,m,n⟩:=info_parts Jg;have a:=run_storeCells_cells (P:=prog) b o [.int .i64 0,.string ⟨#[]⟩,.slice none 0 0,.int .i64 0] 0 w (by simpa using h) (by simpa using i) (by intro v g;simp at g;rcases g with rfl | rfl | rfl | rfl<;>rfl)
 simp only[jpv]at a;have l:prog.underlying 96=some (.slice 109):=underlying96
 have f:(zeroValue 109).run prog w=.ok (.agg #[.int .i64 0,.string ⟨#[]⟩,.slice none 0 0,.int .i64 0]) w:=by simp[zeroValue,typeInfo,k,d]
 have e:(Builtin.zeroCells (Value.agg #[.int .i64 0,.string ⟨#[]⟩,.slice none 0 0,.int .i64 0]).cells 1).toList=[.int .i64 0,.string ⟨#[]⟩,.slice none 0 0,.int .i64 0]:=by kernel_rfl
 simp only[Builtin.clear_];simp[run_underlying l,f,e,a]
theorem VS{P:Program}{ops:Array Oper}{o:Oper}{a:Act}{w:World}{K:Act->World->Prop}{Q:Exit->Act->World->Prop}{E:Prop}
  (i:o.guard=none) (d x:Operand) (c e:TypeId) (b:o.op=Op.call {callee:=Callee.builtin Builtin.append,args:=#[d,x],argTypes:=#[c,e]})
  (v u:Value) (h:a.eval d=v) (hx:a.eval x=u) {f:Value} {w':World} (j:(Builtin.append_ #[c,e] o.type #[v,u]).run P w=.ok f w') (g:K (a.put o.dst f) w') :
  if Region.wanted o (yielded ops a.tmps)=true then Oper.wp P o a w K Q else E:=by
 have k:Region.wanted o (yielded ops a.tmps)=true:=by simp[Region.wanted,i]
 rw[if_pos k];unfold Oper.wp;simp[execOp,b,resolve,invoke,builtin,h,hx,j,Result.andThen];exact g
theorem jcj(lo g n cap i:Nat)(xs:List Value)(w:World)(s:w.ownsRow lo 109 4 (sl g n cap) n xs)(C:∀u∈xs,u.oneCell'=true)(hi:i<n)(hn:n<=1000000):
  Calls prog 266 #[sl g n cap,.int .i64 (i:Nat),.int .i64 (i+1:Nat)] w fun e w'=>e=.returned (sl g (n-1) cap)/\w'.ownsRow lo 109 4 (sl g (n-1) cap) (n-1) (xs.take (i*4)++xs.drop ((i+1)*4))/\jI (· = g) w w':=by
 obtain⟨U,aa,ay,y,aA⟩:=info_parts Jg;have p:=s.1
 obtain⟨l,af,N,aw,a8,v,Q⟩:∃l,lo<=g/\jd w g 109 l/\n<=cap/\cap<=maxLen/\l.size=cap*4/\l.toList.take (n*4)=xs:=by
  rcases s.2 with ⟨q,_⟩|⟨g',ag,l,q,a,b,c,d,e,f⟩
  ·cases q
  cases q;exact⟨l,a,b,c,d,e,f⟩
 have E:∀j,j<n*4->xs[j]?=l[j]?:=fun j o=>by rw[<- Q,joH,if_pos o];simp
 obtain⟨k,m⟩:∃k,k=xs.drop ((i+1)*4):=⟨_,rfl⟩
 have G:k.length=(n-(i+1))*U.size:=by rw[y,m,jn6,p];omega
 have r:k.length=(n-(i+1))*4:=by rw[G,y]
 have O:∀u∈k,u.oneCell'=true:=fun u x=>C u (by rw[m]at x;exact joJ x);have z:∀j u,k[j]?=some u->l[(i+1)*4+j]?=some u:=fun j u o=>by have av:=(List.getElem?_eq_some_iff.1 o).1;rw[m,jox]at o;rw[<- E _ (by omega)];exact o
 obtain⟨A,hA,D⟩:∃A:Addr,(if cap=i+1 then some (⟨g,0,none⟩:Addr) else some ⟨g,(i+1)*4,none⟩)=some A/\Hid (∀j u,k[j]?=some u->w.drew.cell? (A.add j)=some u):=by
  by_cases h:cap=i+1
  ·refine⟨⟨g,0,none⟩,by simp[h],fun j u x => ?_⟩;have h0:k.length=0:=by rw[r];omega
   rw[List.length_eq_zero_iff.1 h0]at x;simp at x
  refine⟨⟨g,(i+1)*4,none⟩,by simp[h],fun j u x => ?_⟩;rw[Addr.add_lit];exact(N.cell _).trans (z j u x)
 have hc:Hid (∀j,j<k.length->(w.drew.cell? ⟨g,0+i*U.size+j,none⟩).isSome=true):=fun j o=>by show(w.cell? _).isSome=true;rw[N.cell,y,joD (by omega)];rfl
 have hf:Hid (∀j,j<k.length->w.drew.frozen? ⟨g,0+i*U.size+j,none⟩=false):=fun j o=>N.frozen _;have x:prog.underlying 96=some (.slice 109):=underlying96
 obtain⟨I,t⟩:∃I,I=w.drew.setCells g (i*4) k:=⟨_,rfl⟩
 have R:jd I g 109 (Wd l (i*4) k):=by rw[t];exact jd.lay k _ (show jd w.drew g _ l from N)
 have ai:(Wd l (i*4) k).size=cap*4:=by rw[qG,v]
 have V:=jnS (fun(c:Nat) (H:TypeId)=>jdV I g ((n-1)*4) c H (fun j o=>by rw[R.cell,joD (by omega)];rfl) (fun j o=>R.frozen _));have a7:Hid (∀H,(Builtin.append_ #[96,96] H #[.slice (some ⟨g,0,none⟩) i cap,.slice (some A) (n-(i+1)) (cap-(i+1))]).run prog w.drew=.ok (.slice (some ⟨g,0,none⟩) (n-1) cap) I):=fun H=>by have:=run_append_room_cells (w:=w.drew) 96 H 109 U x aa g 0 i cap A (n-(i+1)) (cap-(i+1)) k G D.out O (by omega) hc.out hf.out;rw[this,t,show i+(n-(i+1))=n-1 by omega,y,jov]
 have HW:=jnS t;have X:=jnS R
 have J:=jnS p;have Y:=jnS m
 have W:=jnS E;have K:=jnS r
 clear hc hf D z O G m E Q N R s C t p r;unfold sl;unfold maxLen at a8;have ak:(i:Int)<=(i:Int)+1:=by omega
 have am:((i:Int)+1)<=(n:Int):=by omega
 have ap:¬(n=i):=by omega
 have au:i<=cap:=by omega
 have aj:(0:Int)<=(i:Int)+1:=by omega
 have ae:¬(cap=n-1):=by omega
 have P:n-1<=cap:=by omega
 have ax:n-(n-1)=1:=by omega
 have ah:(((n-1:Nat):Int))<=(n:Int):=by omega
 have aq:((i:Int)==(i:Int)+1)=false:=beq_eq_false_iff_ne.2 (by omega);go_enter func266,ntmps266;go_wp2_with fail;go_region_law (refine VS rfl (.tmp 22) (.tmp 25) 96 96 rfl (.slice (some ⟨g,0,none⟩) i cap) (.slice (some A) (n-(i+1)) (cap-(i+1))) (by simp[Act.eval,Act.put]) (by simp[Act.eval,Act.put]) (a7.out _) ?_);have ar:=fun(H:TypeId)=>V.out (cap-(n-1)) H
 go_wp2_with fail;go_ret;obtain⟨Z,L⟩:∃Z,Z=I.setCells g ((n-1)*4) [.int .i64 0,.string ⟨#[]⟩,.slice none 0 0,.int .i64 0]:=⟨_,rfl⟩
 have C2:jd Z g 109 (Wd (Wd l (i*4) k) ((n-1)*4) [.int .i64 0,.string ⟨#[]⟩,.slice none 0 0,.int .i64 0]):=by rw[L];exact jd.lay _ _ X.out
 refine⟨rfl,?_,?_⟩
 ·rw[<- L];refine⟨by rw[jnU,jn2,jn6,J.out];omega,.inr ⟨g,cap,_,rfl,af,C2,P,by unfold maxLen;omega,by rw[qG,qG,v],?_⟩⟩;apply jpR;intro j;rw[joH];split
  ·rename_i o;rw[jp7,Je _ _ _ _ (by rw[qG,v];simp only[jn1,joz];omega),if_neg (by omega),Je _ _ _ _ (by rw[K.out,v];omega)];split
   ·rename_i h2;rw[joh (by rw[jn2,J.out];omega),jn2,J.out,Y.out,jox,jox];congr 1;omega
   rename_i h2;rw[K.out]at h2;rw[joq (by rw[jn2,J.out];omega),joH,if_pos (by omega),W.out j (by omega)]
  rename_i o;rw[jon];rw[jnU,jn2,jn6,J.out];omega
 rw[HW.out];exact xi (S:=(· = g)) (b:=g) (.inl rfl) _ _ (xi (S:=(· = g)) (b:=g) (.inl rfl) _ _ (jI.refl _ w).drew)
end Go.Proofs.YtbapfpekklcicaaGreatDoor
