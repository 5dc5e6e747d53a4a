/- Texts put together:BG,EY. -/
import Derived.Test.YtbapfpekklcicaaGreatDoorBtx17
set_option linter.unusedVariables false
set_option maxRecDepth 100000
set_option maxHeartbeats 16000000
namespace Go.Proofs.YtbapfpekklcicaaGreatDoor
open Go.RowKit Go.Shelf Tryz
namespace FD
def qg:Array Oper:=#[{dst:=some 58,op:=Op.move (Operand.tmp 4),type:=55,pos := "ref.go:93",after:=#[],guard:=none},{dst:=some 59,op:=Op.move (Operand.tmp 10),type:=3,pos := "ref.go:93",after:=#[],guard:=none},{dst:=some 60,op:=Op.buildSlice 73 0 #[],type:=73,pos := "ref.go:93",after:=#[],guard:=none},{dst:=some 61,op:=Op.move (Operand.tmp 4),type:=55,pos := "ref.go:93",after:=#[],guard:=none},{dst:=some 62,op:=Op.move (Operand.tmp 10),type:=3,pos := "ref.go:93",after:=#[],guard:=none},{dst:=some 63,op:=Op.indexAddr 55 (Operand.tmp 61) (Operand.tmp 62),type:=0,pos := "ref.go:93",after:=#[{on:=3,ground:=Ground.data},{on:=4,ground:=Ground.data}],guard:=none},{dst:=some 64,op:=Op.fieldAddr 75 (Operand.tmp 63) 2,type:=0,pos := "ref.go:93",after:=#[{on:=5,ground:=Ground.data}],guard:=none},{dst:=some 65,op:=Op.load 73 (Operand.tmp 64),type:=73,pos := "ref.go:93",after:=#[{on:=6,ground:=Ground.data}],guard:=none},{dst:=some 66,op:=Op.call {callee:=Callee.builtin Builtin.append,args:=#[Operand.tmp 60,Operand.tmp 65],argTypes:=#[73,73]},type:=73,pos := "ref.go:93",after:=#[{on:=2,ground:=Ground.data},{on:=7,ground:=Ground.data}],guard:=none},{dst:=some 67,op:=Op.load 148 (Operand.tmp 8),type:=148,pos := "ref.go:93",after:=#[],guard:=none},{dst:=some 68,op:=Op.buildSlice 73 1 #[(0,Operand.tmp 67)],type:=73,pos := "ref.go:93",after:=#[{on:=9,ground:=Ground.data}],guard:=none},{dst:=some 69,op:=Op.call {callee:=Callee.builtin Builtin.append,args:=#[Operand.tmp 66,Operand.tmp 68],argTypes:=#[73,73]},type:=73,pos := "ref.go:93",after:=#[{on:=8,ground:=Ground.data},{on:=10,ground:=Ground.data},{on:=8,ground:=Ground.chain}],guard:=none},{dst:=some 70,op:=Op.indexAddr 55 (Operand.tmp 58) (Operand.tmp 59),type:=0,pos := "ref.go:93",after:=#[{on:=0,ground:=Ground.data},{on:=1,ground:=Ground.data},{on:=0,ground:=Ground.phase},{on:=1,ground:=Ground.phase},{on:=2,ground:=Ground.phase},{on:=3,ground:=Ground.phase},{on:=4,ground:=Ground.phase},{on:=5,ground:=Ground.phase},{on:=6,ground:=Ground.phase},{on:=7,ground:=Ground.phase},{on:=8,ground:=Ground.phase},{on:=9,ground:=Ground.phase},{on:=10,ground:=Ground.phase},{on:=11,ground:=Ground.phase}],guard:=none},{dst:=some 71,op:=Op.fieldAddr 75 (Operand.tmp 70) 2,type:=0,pos := "ref.go:93",after:=#[{on:=12,ground:=Ground.data},{on:=0,ground:=Ground.phase},{on:=1,ground:=Ground.phase},{on:=2,ground:=Ground.phase},{on:=3,ground:=Ground.phase},{on:=4,ground:=Ground.phase},{on:=5,ground:=Ground.phase},{on:=6,ground:=Ground.phase},{on:=7,ground:=Ground.phase},{on:=8,ground:=Ground.phase},{on:=9,ground:=Ground.phase},{on:=10,ground:=Ground.phase},{on:=11,ground:=Ground.phase}],guard:=none},{dst:=none,op:=Op.store 73 (Operand.tmp 71) (Operand.tmp 69),type:=0,pos := "ref.go:93",after:=#[{on:=13,ground:=Ground.data},{on:=11,ground:=Ground.data},{on:=11,ground:=Ground.chain},{on:=0,ground:=Ground.phase},{on:=1,ground:=Ground.phase},{on:=2,ground:=Ground.phase},{on:=3,ground:=Ground.phase},{on:=4,ground:=Ground.phase},{on:=5,ground:=Ground.phase},{on:=6,ground:=Ground.phase},{on:=7,ground:=Ground.phase},{on:=8,ground:=Ground.phase},{on:=9,ground:=Ground.phase},{on:=10,ground:=Ground.phase},{on:=11,ground:=Ground.phase}],guard:=none}]
theorem jhG:∀f g h b3 i j k l m n b c d e a:Bool,Region.ready .any qg #[f,g,h,b3,i,j,k,l,m,n,b,c,d,e,a]=[]->a=true:=by decide +kernel
theorem jn4{a:Act}{i:Nat}{v:Value}(h:a.tmps[i]?=some v):a.eval (.tmp i)=v:=by show a.tmps.getD i undef=v;rw[jpj,h];rfl
theorem jlm{a:Act}{d:Nat}{v:Value}(b:d<a.tmps.size)(j:Nat):(a.put (some d) v).tmps[j]?=if j=d then some v else a.tmps[j]?:=by
 show(a.tmps.setIfInBounds d v)[j]?=_;rw[jps];by_cases h:d=j
 ·subst h;simp[b]
 rw[if_neg h,if_neg (jqr h)]
theorem qp(a:Act)(d:Nat)(v:Value):(a.put (some d) v).tmps.size=a.tmps.size:=by show(a.tmps.setIfInBounds d v).size=_;simp
theorem jcq{o:Oper}{a:Act}{w:World}{K:Act->World->Prop}{Q:Exit->Act->World->Prop}(c:o.op=Op.buildSlice 73 0 #[])(b:K (a.put o.dst (.slice (some ⟨w.heap.size,0,none⟩) 0 0)) (w.alloc (.cells #[] 148))):Oper.wp prog o a w K Q:=by
 unfold Oper.wp;have e:(execOp a.eval o).run prog w=.ok (.value (.slice (some ⟨w.heap.size,0,none⟩) 0 0)) (w.alloc (.cells #[] 148)):=by simp only[execOp,c];kernel_rfl
 rw[e];exact b
theorem jcp{o:Oper}{a:Act}{w:World}{K:Act->World->Prop}{Q:Exit->Act->World->Prop}{x:Operand}{s t:ByteArray}(c:o.op=Op.buildSlice 73 1 #[(0,x)])(hx:a.eval x=.agg #[.string s,.string t])(b:K (a.put o.dst (.slice (some ⟨w.heap.size,0,none⟩) 1 1)) (w.alloc (.cells #[.string s,.string t] 148))):Oper.wp prog o a w K Q:=by
 unfold Oper.wp;have e:(execOp a.eval o).run prog w=.ok (.value (.slice (some ⟨w.heap.size,0,none⟩) 1 1)) (w.alloc (.cells #[.string s,.string t] 148)):=by simp only[execOp,c];rw[show(Array.map (fun(p:Nat×Operand)=>match p with | (i,x)=>(i,a.eval x)) #[((0:Nat),x)])=#[((0:Nat),Value.agg #[.string s,.string t])] from by rw[<- hx];simp];kernel_rfl
 rw[e];exact b
theorem ZY{o:Oper}{a:Act}{w:World}{K:Act->World->Prop}{Q:Exit->Act->World->Prop}{x:Operand}{b m:Nat}(d:o.op=Op.fieldAddr 75 x 2)(hx:a.eval x=.pointer (some ⟨b,m,none⟩))(c:K (a.put o.dst (.pointer (some ⟨b,m+2,none⟩))) w):Oper.wp prog o a w K Q:=by
 unfold Oper.wp;have e:(execOp a.eval o).run prog w=.ok (.value (.pointer (some ⟨b,m+2,none⟩))) w:=by simp only[execOp,d,hx];simp[go_sem,Result.andThen]
 rw[e];exact c
theorem Gq{o:Oper}{a:Act}{w:World}{K:Act->World->Prop}{Q:Exit->Act->World->Prop}{x:Operand}{p:Addr}{v:Value}(d:o.op=Op.load 73 x)(hx:a.eval x=.pointer (some p))(c:w.cell? p=some v)(b:K (a.put o.dst v) w):Oper.wp prog o a w K Q:=by
 unfold Oper.wp;have e:(execOp a.eval o).run prog w=.ok (.value v) w:=by simp only[execOp,d,hx];simp[go_sem,Result.andThen,c]
 rw[e];exact b
theorem Gp{o:Oper}{a:Act}{w:World}{K:Act->World->Prop}{Q:Exit->Act->World->Prop}{x:Operand}{b:Nat}{u v:Value}(g:o.op=Op.load 148 x)(hx:a.eval x=.pointer (some ⟨b,0,none⟩))(d:w.cell? ⟨b,0,none⟩=some u)(f:w.cell? ⟨b,1,none⟩=some v)(c:K (a.put o.dst (.agg #[u,v])) w):Oper.wp prog o a w K Q:=by
 unfold Oper.wp;have e:(execOp a.eval o).run prog w=.ok (.value (.agg #[u,v])) w:=by simp only[execOp,g,hx];simp[go_sem,Result.andThen,d,f]
 rw[e];exact c
theorem XB{o:Oper}{a:Act}{w:World}{K:Act->World->Prop}{Q:Exit->Act->World->Prop}{x y:Operand}{p:Addr}{u:Value}{g:Option Addr}{n c:Nat}(h:o.op=Op.store 73 x y)(hx:a.eval x=.pointer (some p))(i:a.eval y=.slice g n c)(d:w.cell? p=some u)(f:w.frozen? p=false)(b:K (a.put o.dst undef) (w.setCell p (.slice g n c))):Oper.wp prog o a w K Q:=by
 unfold Oper.wp;have e:(execOp a.eval o).run prog w=.ok .skip (w.setCell p (.slice g n c)):=by simp only[execOp,h,hx,i];simp[go_sem,Result.andThen,d,f]
 rw[e];exact b
theorem jdI{o:Oper}{a:Act}{w:World}{K:Act->World->Prop}{Q:Exit->Act->World->Prop}{x y:Operand}{b n c k:Nat}(g:o.op=Op.indexAddr 55 x y)(hx:a.eval x=.slice (some ⟨b,0,none⟩) n c)(h:a.eval y=.int .i64 (k:Int))(f:k<n)(d:K (a.put o.dst (.pointer (some ⟨b,k*3,none⟩))) w):Oper.wp prog o a w K Q:=by
 unfold Oper.wp;have e:(execOp a.eval o).run prog w=.ok (.value (.pointer (some ⟨b,k*3,none⟩))) w:=by simp only[execOp,g,hx,h];simp[go_sem,Result.andThen,f]
 rw[e];exact d
theorem jjx{o:Oper}{a:Act}{w:World}{K:Act->World->Prop}{Q:Exit->Act->World->Prop}{x:Operand}{v:Value}(c:o.op=Op.move x)(hx:a.eval x=v)(b:K (a.put o.dst v) w):Oper.wp prog o a w K Q:=by
 unfold Oper.wp;have e:(execOp a.eval o).run prog w=.ok (.value v) w:=by simp only[execOp,c,hx];simp[go_sem]
 rw[e];exact b
def fl(l:Array Bool)(j:Nat):Bool:=l.getD j false
theorem jhj{l:Array Bool}{i:Nat}(a:i<l.size)(j:Nat):fl (l.setIfInBounds i true) j=if j=i then true else fl l j:=by
 unfold fl;rw[jpj,jpj,jps];by_cases h:i=j
 ·subst h;simp[a]
 rw[if_neg h,if_neg (jqr h)]
theorem zR{Q:Exit->Act->World->Prop}{K:Act->World->Prop}{a:Act}{w:World}{i:Nat}{o:Oper}(c:qg[i]?=some o)(b:o.guard=none)(h:Oper.wp prog o a w K Q):wpOp prog qg Q i K a w:=by
 unfold wpOp;rw[c];show(if Region.wanted o (yielded qg a.tmps)=true then _ else _)
 rw[if_pos (by simp[Region.wanted,b])];exact .inl h
theorem QW{o:Oper}{a:Act}{w:World}{K:Act->World->Prop}{Q:Exit->Act->World->Prop}{s x:Operand}{p:Addr}(e:o.op=Op.call {callee:=Callee.builtin Builtin.append,args:=#[s,x],argTypes:=#[73,73]})(f:a.eval s=.slice (some p) 0 0)(hx:a.eval x=.slice none 0 0)(c:K (a.put o.dst (.slice (some p) 0 0)) w):Oper.wp prog o a w K Q:=by
 have d:∀b,(Builtin.append_ #[73,73] b #[.slice (some p) 0 0,.slice none 0 0]).run prog w=.ok (.slice (some p) 0 0) w:=fun b=>by kernel_rfl
 unfold Oper.wp;simp[execOp,e,resolve,invoke,builtin,f,hx,d,Result.andThen];exact c
theorem Jt{o:Oper}{a:Act}{w:World}{K:Act->World->Prop}{Q:Exit->Act->World->Prop}{s x:Operand}(q:o.guard=none)(z:o.op=Op.call {callee:=Callee.builtin Builtin.append,args:=#[s,x],argTypes:=#[73,73]})
  (v:Value) (n:Nat) (xs:List Value) (A:a.eval s=v) (e:w.ownsRow 0 148 2 v n xs)
  (g:Addr) (m c:Nat) (b:List Value) (hx:a.eval x=.slice (some g) m c) (hl:b.length=m*2) (d:∀j u,b[j]?=some u->w.cell? (g.add j)=some u) (r:∀u∈b,u.oneCell'=true)
  (D:n+m<=1000000)
  (t:∀f p,p.ownsRow 0 148 2 f (n+m) (xs++b)->w.grownBy p v.ownBlock->(f.ownBlock=v.ownBlock\/f.ownBlock=some w.heap.size)->K (a.put o.dst f) p):Oper.wp prog o a w K Q:=by
 obtain⟨C,y,i,k,l⟩:=info_parts Xt;have h:=zb (P:=prog) (ops:=qg) (o:=o) (a:=a) (w:=w) (K:=K) (Q:=Q) (E:=True) q s x 73 z 148 C _ 2 32 underlying73 y i k l rfl (by decide) v n xs A e g m c b hx hl d r (by unfold maxLen;omega) (by omega) t
 rwa [if_pos (by simp[Region.wanted,q])]at h
theorem Kb{w:World}{lo n a b:Nat}{e:TypeId}{size:Nat}{v:Value}{xs:List Value}(l:w.ownsRow 0 e size v n xs)(f:v.ownBlock=some a\/v.ownBlock=some b)(p:lo<=a)(q:lo<=b):∃g c,v=.slice (some ⟨g,0,none⟩) n c/\lo<=g/\w.ownsRow lo e size (.slice (some ⟨g,0,none⟩) n c) n xs:=by
 rcases l.2 with ⟨rfl,_⟩|⟨g,d,j,rfl,o,i⟩
 ·rcases f with h|h<;>cases h
 have k:lo<=g:=by
  rcases f with h|h
  ·have m:g=a:=joN h;omega
  have m:g=b:=joN h;omega
 exact⟨g,d,rfl,k,l.1,.inr ⟨g,d,j,rfl,k,i⟩⟩
theorem Xb(w:World)(e:TypeId)(size:Nat):(w.alloc (.cells #[] e)).ownsRow 0 e size (.slice (some ⟨w.heap.size,0,none⟩) 0 0) 0 [] :=
 ⟨by simp,.inr ⟨_,0,#[],rfl,joT _,ja.new w e #[],joJ _,joT _,by simp,by simp⟩⟩
theorem Ka(w:World)(o:Obj):Below w.heap.size w (w.alloc o):=(joL _ _).alloc (joJ _) o
theorem jaa{w:World}{b:Nat}{t:TypeId}{x y:Value}(h:ja w b t #[x,y]):∀j u,[x,y][j]?=some u->w.cell? ((⟨b,0,none⟩:Addr).add j)=some u:=by
 intro j u c;have a:(⟨b,0,none⟩:Addr).add j=⟨b,j,none⟩:=by unfold Addr.add;split<;>simp_all
 rw[a,h.cell j];simpa using c
abbrev sl(g n c:Nat):Value:=.slice (some ⟨g,0,none⟩) n c
structure Reg(a0:Act)(W3:World)(nb kk N C n:Nat)(fv:Value)(cf:List Value)(x y:ByteArray)(l:Array Bool)(a:Act)(w:World):Prop where
 dfr:a.defers=a0.defers
 sz:a.tmps.size=a0.tmps.size
 frm:∀j,(j<58\/71<j)->a.tmps[j]?=a0.tmps[j]?
 bel:fl l 14=false->Below W3.heap.size W3 w
 s0:fl l 2=true->∃B,a.tmps[60]?=some (sl B 0 0)/\(fl l 8=false->W3.heap.size<=B/\w.ownsRow 0 148 2 (sl B 0 0) 0 []/\(fl l 10=true->∀B5,a.tmps[68]?=some (sl B5 1 1)->B5≠B))
 s1:fl l 6=true->a.tmps[64]?=some (.pointer (some ⟨nb,kk*3+2,none⟩))
 s2:fl l 7=true->a.tmps[65]?=some fv
 s3:fl l 8=true->fl l 2=true/\fl l 7=true/\∃g c,a.tmps[66]?=some (sl g n c)/\(fl l 11=false->w.ownsRow W3.heap.size 148 2 (sl g n c) n cf)
 s4:fl l 9=true->a.tmps[67]?=some (.agg #[.string x,.string y])
 s5:fl l 10=true->fl l 9=true/\∃B5,a.tmps[68]?=some (sl B5 1 1)/\(fl l 11=false->W3.heap.size<=B5/\ja w B5 148 #[.string x,.string y])
 s6:fl l 11=true->fl l 8=true/\fl l 10=true/\∃g c,a.tmps[69]?=some (sl g (n+1) c)/\(fl l 14=false->w.ownsRow W3.heap.size 148 2 (sl g (n+1) c) (n+1) (cf++[.string x,.string y]))
 s7:fl l 13=true->a.tmps[71]?=some (.pointer (some ⟨nb,kk*3+2,none⟩))
 s8:fl l 14=true->fl l 11=true/\∃w2 g c,Below W3.heap.size W3 w2/\w2.ownsRow W3.heap.size 148 2 (sl g (n+1) c) (n+1) (cf++[.string x,.string y])/\w=w2.setCell ⟨nb,kk*3+2,none⟩ (sl g (n+1) c)
 p0:fl l 0=true->a.tmps[58]?=some (sl nb N C)
 p1:fl l 1=true->a.tmps[59]?=some (.int .i64 (kk:Int))
 p3:fl l 3=true->a.tmps[61]?=some (sl nb N C)
 p4:fl l 4=true->a.tmps[62]?=some (.int .i64 (kk:Int))
 p5:fl l 5=true->a.tmps[63]?=some (.pointer (some ⟨nb,kk*3,none⟩))
 p12:fl l 12=true->a.tmps[70]?=some (.pointer (some ⟨nb,kk*3,none⟩))
theorem Uy{w:World}{lo B:Nat}(h:w.ownsRow 0 148 2 (sl B 0 0) 0 [])(d:lo<=B):w.ownsRow lo 148 2 (sl B 0 0) 0 []:=by
 refine⟨h.1,?_⟩;rcases h.2 with ⟨e,_⟩|⟨g,c,b,e,_,a⟩
 ·cases e
 cases e;exact .inr ⟨B,0,b,rfl,d,a⟩
theorem jnU{a:Act}{d:Nat}{v:Value}(b:d<a.tmps.size):∀j,(a.put (some d) v).tmps[j]?=if j=d then some v else a.tmps[j]?:=jlm b
theorem Uo(a0:Act)(J:World)(t s N C fb n:Nat)(U:Value)(R:List Value)(x y:ByteArray)(Q:Exit->Act->World->Prop)
  (h4:a0.tmps[4]?=some (sl t N C)) (aL:a0.tmps[10]?=some (.int .i64 (s:Int))) (aM:a0.tmps[8]?=some (.pointer (some ⟨fb,0,none⟩))) (aD:s<N) (aT:72<=a0.tmps.size)
  (ai:t<J.heap.size) (aB:J.cell? ⟨t,s*3+2,none⟩=some U) (aN:J.frozen? ⟨t,s*3+2,none⟩=false) (af:ja J fb 148 #[.string x,.string y])
  (a7:J.ownsRow 0 148 2 U n R) (h1:∀u∈R,u.oneCell'=true) (hn:n<=100000)
  (hQ:∀a w2 g c,a.defers=a0.defers->a.tmps.size=a0.tmps.size->(∀j,(j<58\/71<j)->a.tmps[j]?=a0.tmps[j]?)->Below J.heap.size J w2->w2.ownsRow J.heap.size 148 2 (sl g (n+1) c) (n+1) (R++[.string x,.string y])->Q .normal a (w2.setCell ⟨t,s*3+2,none⟩ (sl g (n+1) c))) :
  (Code.region 14 qg true).wp prog Q a0 J:=by
 refine ZE (by kernel_rfl) (Reg a0 J t s N C n U R x y) ?start ?step ?done
 case start =>
  have z:∀j,fl (Array.replicate qg.size false) j=false:=by intro j;unfold fl;rw[jpj,jrb];split<;>rfl
  exact⟨rfl,rfl,fun _ _=>rfl,fun _=>(joL _ _).drew,(fun h=>by rw[z]at h;cases h),(fun h=>by rw[z]at h;cases h),(fun h=>by rw[z]at h;cases h),(fun h=>by rw[z]at h;cases h),(fun h=>by rw[z]at h;cases h),(fun h=>by rw[z]at h;cases h),(fun h=>by rw[z]at h;cases h),(fun h=>by rw[z]at h;cases h),(fun h=>by rw[z]at h;cases h),(fun h=>by rw[z]at h;cases h),(fun h=>by rw[z]at h;cases h),(fun h=>by rw[z]at h;cases h),(fun h=>by rw[z]at h;cases h),(fun h=>by rw[z]at h;cases h),(fun h=>by rw[z]at h;cases h)⟩
 case done =>
  intro l a w I hl hr;have h8:fl l 14=true:=by
   have ah:l.size=15:=hl;have e:l=#[l[0],l[1],l[2],l[3],l[4],l[5],l[6],l[7],l[8],l[9],l[10],l[11],l[12],l[13],l[14]]:=by
    apply Array.ext
    ·simp[ah]
    intro i h1 h2;rw[ah]at h1;rcases(by omega:i=0\/i=1\/i=2\/i=3\/i=4\/i=5\/i=6\/i=7\/i=8\/i=9\/i=10\/i=11\/i=12\/i=13\/i=14) with rfl|rfl|rfl|rfl|rfl|rfl|rfl|rfl|rfl|rfl|rfl|rfl|rfl|rfl|rfl<;>rfl
   rw[e]at hr;have:=jhG _ _ _ _ _ _ _ _ _ _ _ _ _ _ _ hr
   unfold fl;rw[jpj,jpu (by omega)];exact this
  obtain⟨_,w2,g,c,b,o,rfl⟩:=I.s8 h8;exact hQ a w2 g c I.dfr I.sz I.frm b o
 case step =>
 intro l i o a w I hl E aE he;have ah:l.size=15:=hl
 have hi:i<15:=by
  rcases jpc i 15 with h|h
  ·exact h
  rw[jpv (by exact h)]at E;cases E
 have aC:i<l.size:=by omega
 have P:=fun j=>jhj aC j;have A:=fun d v (hd:d<72)=>jnU (a:=a) (d:=d) (v:=v) (by rw[I.sz];omega)
 have a8:fl l i=false:=by unfold fl;rw[jpj,jpu aC]at aE ⊢;exact aE
 have G:∀e∈o.after,Region.binds .any e=true->fl l e.on=true:=he;have ev:∀j v,a.tmps[j]?=some v->a.eval (.tmp j)=v:=fun j v h=>jn4 h
 have e4:=ev 4 _ ((I.frm 4 (by omega)).trans h4);have aA:=ev 10 _ ((I.frm 10 (by omega)).trans aL)
 have aI:=ev 8 _ ((I.frm 8 (by omega)).trans aM);have NF:∀k,(fl l k=true->fl l i=true)->fl l k=false:=fun k h=>by
  cases e:fl l k with
  | false=>rfl
  | true=>rw[h e]at a8;cases a8
 have r:∀k,k≠i->fl (l.setIfInBounds i true) k=fl l k:=fun k h=>by rw[P,if_neg h]
 have FI:fl (l.setIfInBounds i true) i=true:=by rw[P,if_pos rfl]
 have W:∀d v,d<72->∀j,j≠d->(a.put (some d) v).tmps[j]?=a.tmps[j]?:=fun d v hd j h=>by rw[A _ _ hd,if_neg h]
 have TI:∀d v,d<72->(a.put (some d) v).tmps[d]?=some v:=fun d v hd=>by rw[A _ _ hd,if_pos rfl]
 have aU:=I.bel;have aV:=I.p0
 have aW:=I.p1;have aX:=I.p12
 have aY:=I.p3;have aZ:=I.p4
 have be:=I.p5;have bg:=I.s0
 have bi:=I.s1;have bj:=I.s2
 have bm:=I.s3;have bo:=I.s4
 have bu:=I.s5;have bw:=I.s6
 have bz:=I.s7;have bA:=I.s8
 rcases(by omega:i=0\/i=1\/i=2\/i=3\/i=4\/i=5\/i=6\/i=7\/i=8\/i=9\/i=10\/i=11\/i=12\/i=13\/i=14) with rfl|rfl|rfl|rfl|rfl|rfl|rfl|rfl|rfl|rfl|rfl|rfl|rfl|rfl|rfl
 ·have f:some _=some o:=E;obtain rfl:=joN f;refine zR E rfl (jjx rfl e4 ?_);show Reg a0 J t s N C n U R x y (l.setIfInBounds 0 true) (a.put (some 58) (sl t N C)) w
  have ak:=TI 58 (sl t N C) (by decide);refine⟨I.dfr,(qp _ _ _).trans I.sz,fun j D=>by rw[A _ _ (by decide),if_neg (by omega)];exact I.frm j D,?_,?_,?_,?_,?_,?_,?_,?_,?_,?_,(fun _=>ak),?_,?_,?_,?_,?_⟩
  all_goals (simp(disch:=decide) only[r,W];assumption)
 ·have f:some _=some o:=E;obtain rfl:=joN f;refine zR E rfl (jjx rfl aA ?_);show Reg a0 J t s N C n U R x y (l.setIfInBounds 1 true) (a.put (some 59) (.int .i64 (s:Int))) w
  have am:=TI 59 (.int .i64 (s:Int)) (by decide);refine⟨I.dfr,(qp _ _ _).trans I.sz,fun j D=>by rw[A _ _ (by decide),if_neg (by omega)];exact I.frm j D,?_,?_,?_,?_,?_,?_,?_,?_,?_,?_,?_,(fun _=>am),?_,?_,?_,?_⟩
  all_goals (simp(disch:=decide) only[r,W];assumption)
 ·have f:some _=some o:=E;obtain rfl:=joN f;have n3:=NF 8 fun h=>(I.s3 h).1
  have n6:=NF 11 fun h=>(I.s3 (I.s6 h).1).1;have n8:=NF 14 fun h=>(I.s3 (I.s6 (I.s8 h).1).1).1
  have O:=I.bel n8;have al:=Ka w (.cells #[] 148)
  refine zR E rfl (jcq rfl ?_);show Reg a0 J t s N C n U R x y (l.setIfInBounds 2 true) (a.put (some 60) (sl w.heap.size 0 0)) (w.alloc (.cells #[] 148))
  have X:=r 8 (by decide);have f9:=r 9 (by decide)
  have H:=r 10 (by decide);have m:=r 11 (by decide)
  have K:=r 14 (by decide);have Y:=TI 60 (sl w.heap.size 0 0) (by decide)
  have TV:=W 60 (sl w.heap.size 0 0) (by decide);have L:=TV 68 (by decide)
  refine⟨I.dfr,(qp _ _ _).trans I.sz,fun j D=>by rw[A _ _ (by decide),if_neg (by omega)];exact I.frm j D,(fun _=>O.trans (al.mono O.size)),(fun _=>⟨w.heap.size,Y,by rw[X,H,L];exact fun _=>⟨O.size,Xb w _ 2,fun h5 B5 ae=>by obtain⟨_,B6,e6,h6⟩:=I.s5 h5;rw[e6]at ae;cases ae;have:=(h6 n6).2.lt;omega⟩⟩),?_,?_,(by rw[X,n3];exact fun h=>by cases h),?_,(by rw[H,f9,L,m];exact fun h=>(by obtain⟨q4,B6,e6,h6⟩:=I.s5 h;exact⟨q4,B6,e6,fun q=>⟨(h6 q).1,jb (h6 q).2 al (h6 q).2.lt⟩⟩)),(by rw[m,n6];exact fun h=>by cases h),?_,(by rw[K,n8];exact fun h=>by cases h),?_,?_,?_,?_,?_,?_⟩
  all_goals (simp(disch:=decide) only[r,W];assumption)
 ·have f:some _=some o:=E;obtain rfl:=joN f;refine zR E rfl (jjx rfl e4 ?_);show Reg a0 J t s N C n U R x y (l.setIfInBounds 3 true) (a.put (some 61) (sl t N C)) w
  have aq:=TI 61 (sl t N C) (by decide);refine⟨I.dfr,(qp _ _ _).trans I.sz,fun j D=>by rw[A _ _ (by decide),if_neg (by omega)];exact I.frm j D,?_,?_,?_,?_,?_,?_,?_,?_,?_,?_,?_,?_,(fun _=>aq),?_,?_,?_⟩
  all_goals (simp(disch:=decide) only[r,W];assumption)
 ·have f:some _=some o:=E;obtain rfl:=joN f;refine zR E rfl (jjx rfl aA ?_);show Reg a0 J t s N C n U R x y (l.setIfInBounds 4 true) (a.put (some 62) (.int .i64 (s:Int))) w
  have ar:=TI 62 (.int .i64 (s:Int)) (by decide);refine⟨I.dfr,(qp _ _ _).trans I.sz,fun j D=>by rw[A _ _ (by decide),if_neg (by omega)];exact I.frm j D,?_,?_,?_,?_,?_,?_,?_,?_,?_,?_,?_,?_,?_,(fun _=>ar),?_,?_⟩
  all_goals (simp(disch:=decide) only[r,W];assumption)
 ·have f:some _=some o:=E;obtain rfl:=joN f;have da:fl l 3=true:=G ⟨3,Ground.data⟩ (by simp[qg]) rfl
  have db:fl l 4=true:=G ⟨4,Ground.data⟩ (by simp[qg]) rfl;refine zR E rfl (jdI rfl (ev 61 _ (I.p3 da)) (ev 62 _ (I.p4 db)) aD ?_);show Reg a0 J t s N C n U R x y (l.setIfInBounds 5 true) (a.put (some 63) (.pointer (some ⟨t,s*3,none⟩))) w
  have au:=TI 63 (.pointer (some ⟨t,s*3,none⟩)) (by decide);refine⟨I.dfr,(qp _ _ _).trans I.sz,fun j D=>by rw[A _ _ (by decide),if_neg (by omega)];exact I.frm j D,?_,?_,?_,?_,?_,?_,?_,?_,?_,?_,?_,?_,?_,?_,(fun _=>au),?_⟩
  all_goals (simp(disch:=decide) only[r,W];assumption)
 ·have f:some _=some o:=E;obtain rfl:=joN f;have dd:fl l 5=true:=G ⟨5,Ground.data⟩ (by simp[qg]) rfl
  refine zR E rfl (ZY rfl (ev 63 _ (I.p5 dd)) ?_);show Reg a0 J t s N C n U R x y (l.setIfInBounds 6 true) (a.put (some 64) (.pointer (some ⟨t,s*3+2,none⟩))) w
  have av:=TI 64 (.pointer (some ⟨t,s*3+2,none⟩)) (by decide);refine⟨I.dfr,(qp _ _ _).trans I.sz,fun j D=>by rw[A _ _ (by decide),if_neg (by omega)];exact I.frm j D,?_,?_,(fun _=>av),?_,?_,?_,?_,?_,?_,?_,?_,?_,?_,?_,?_,?_⟩
  all_goals (simp(disch:=decide) only[r,W];assumption)
 ·have f:some _=some o:=E;obtain rfl:=joN f;have d1:fl l 6=true:=G ⟨6,Ground.data⟩ (by simp[qg]) rfl
  have n8:=NF 14 fun h=>(I.s3 (I.s6 (I.s8 h).1).1).2.1;have O:=I.bel n8
  refine zR E rfl (Gq rfl (ev 64 _ (I.s1 d1)) ((O.cell (p:=⟨t,s*3+2,none⟩) ai).trans aB) ?_);show Reg a0 J t s N C n U R x y (l.setIfInBounds 7 true) (a.put (some 65) U) w
  have f2:=r 2 (by decide);have f7:=FI
  have X:=r 8 (by decide);have m:=r 11 (by decide)
  have TV:=W 65 U (by decide);have aw:=TI 65 U (by decide)
  have Z:=TV 66 (by decide);refine⟨I.dfr,(qp _ _ _).trans I.sz,fun j D=>by rw[A _ _ (by decide),if_neg (by omega)];exact I.frm j D,?_,?_,?_,(fun _=>aw),(by rw[X,f2,Z,m];exact fun h=>(by obtain⟨q0,_,q⟩:=I.s3 h;exact⟨q0,f7,q⟩)),?_,?_,?_,?_,?_,?_,?_,?_,?_,?_,?_⟩
  all_goals (simp(disch:=decide) only[r,W];assumption)
 ·have f:some _=some o:=E;obtain rfl:=joN f;have d0:fl l 2=true:=G ⟨2,Ground.data⟩ (by simp[qg]) rfl
  have d2:fl l 7=true:=G ⟨7,Ground.data⟩ (by simp[qg]) rfl;have n6:=NF 11 fun h=>(I.s6 h).1
  have n8:=NF 14 fun h=>(I.s6 (I.s8 h).1).1;have O:=I.bel n8
  obtain⟨B,eB,hr⟩:=I.s0 d0;obtain⟨q1,q2,q3⟩:=hr a8;have e6:=ev 60 _ eB
  have e8:=ev 65 _ (I.s2 d2);rcases jpH a7 with ⟨ag,aQ⟩|⟨g,aH,ag⟩
  ·obtain rfl:n=0:=aQ;have aO:R=[]:=List.length_eq_zero_iff.1 (by have:=a7.1;omega)
   refine zR E rfl (QW rfl e6 (by rw[e8,ag]) ?_);show Reg a0 J t s N C 0 U R x y (l.setIfInBounds 8 true) (a.put (some 66) (sl B 0 0)) w
   have f2:fl (l.setIfInBounds 8 true) 2=fl l 2:=by rw[P,if_neg (by decide)]
   have f6:fl (l.setIfInBounds 8 true) 6=fl l 6:=by rw[P,if_neg (by decide)]
   have f7:fl (l.setIfInBounds 8 true) 7=fl l 7:=by rw[P,if_neg (by decide)]
   have X:fl (l.setIfInBounds 8 true) 8=true:=by rw[P,if_pos rfl]
   have f9:fl (l.setIfInBounds 8 true) 9=fl l 9:=by rw[P,if_neg (by decide)]
   have H:fl (l.setIfInBounds 8 true) 10=fl l 10:=by rw[P,if_neg (by decide)]
   have m:fl (l.setIfInBounds 8 true) 11=fl l 11:=by rw[P,if_neg (by decide)]
   have aK:fl (l.setIfInBounds 8 true) 13=fl l 13:=by rw[P,if_neg (by decide)]
   have K:fl (l.setIfInBounds 8 true) 14=fl l 14:=by rw[P,if_neg (by decide)]
   have f0:fl (l.setIfInBounds 8 true) 0=fl l 0:=by rw[P,if_neg (by decide)]
   have f1:fl (l.setIfInBounds 8 true) 1=fl l 1:=by rw[P,if_neg (by decide)]
   have f3:fl (l.setIfInBounds 8 true) 3=fl l 3:=by rw[P,if_neg (by decide)]
   have f4:fl (l.setIfInBounds 8 true) 4=fl l 4:=by rw[P,if_neg (by decide)]
   have f5:fl (l.setIfInBounds 8 true) 5=fl l 5:=by rw[P,if_neg (by decide)]
   have aJ:fl (l.setIfInBounds 8 true) 12=fl l 12:=by rw[P,if_neg (by decide)]
   have Y:(a.put (some 66) (sl B 0 0)).tmps[60]?=a.tmps[60]?:=by rw[A _ _ (by decide),if_neg (by decide)]
   have av:(a.put (some 66) (sl B 0 0)).tmps[64]?=a.tmps[64]?:=by rw[A _ _ (by decide),if_neg (by decide)]
   have aw:(a.put (some 66) (sl B 0 0)).tmps[65]?=a.tmps[65]?:=by rw[A _ _ (by decide),if_neg (by decide)]
   have Z:(a.put (some 66) (sl B 0 0)).tmps[66]?=some (sl B 0 0):=by rw[A _ _ (by decide),if_pos rfl]
   have ax:(a.put (some 66) (sl B 0 0)).tmps[67]?=a.tmps[67]?:=by rw[A _ _ (by decide),if_neg (by decide)]
   have L:(a.put (some 66) (sl B 0 0)).tmps[68]?=a.tmps[68]?:=by rw[A _ _ (by decide),if_neg (by decide)]
   have ay:(a.put (some 66) (sl B 0 0)).tmps[71]?=a.tmps[71]?:=by rw[A _ _ (by decide),if_neg (by decide)]
   have ak:(a.put (some 66) (sl B 0 0)).tmps[58]?=a.tmps[58]?:=by rw[A _ _ (by decide),if_neg (by decide)]
   have am:(a.put (some 66) (sl B 0 0)).tmps[59]?=a.tmps[59]?:=by rw[A _ _ (by decide),if_neg (by decide)]
   have aq:(a.put (some 66) (sl B 0 0)).tmps[61]?=a.tmps[61]?:=by rw[A _ _ (by decide),if_neg (by decide)]
   have ar:(a.put (some 66) (sl B 0 0)).tmps[62]?=a.tmps[62]?:=by rw[A _ _ (by decide),if_neg (by decide)]
   have au:(a.put (some 66) (sl B 0 0)).tmps[63]?=a.tmps[63]?:=by rw[A _ _ (by decide),if_neg (by decide)]
   have t70:(a.put (some 66) (sl B 0 0)).tmps[70]?=a.tmps[70]?:=by rw[A _ _ (by decide),if_neg (by decide)]
   exact⟨I.dfr,(qp _ _ _).trans I.sz,fun j D=>by rw[A _ _ (by decide),if_neg (by omega)];exact I.frm j D,(by rw[K];exact I.bel),(by rw[f2,Y];exact fun _=>⟨B,eB,fun h=>by rw[X]at h;cases h⟩),(by rw[f6,av];exact I.s1),(by rw[f7,aw];exact I.s2),(fun _=>⟨by rw[f2];exact d0,by rw[f7];exact d2,B,0,Z,fun _=>by rw[aO];exact Uy q2 q1⟩),(by rw[f9,ax];exact I.s4),(by rw[H,f9,L,m];exact I.s5),(by rw[m,n6];exact fun h=>by cases h),(by rw[aK,ay];exact I.s7),(by rw[K,n8];exact fun h=>by cases h),(by rw[f0,ak];exact I.p0),(by rw[f1,am];exact I.p1),(by rw[f3,aq];exact I.p3),(by rw[f4,ar];exact I.p4),(by rw[f5,au];exact I.p5),(by rw[aJ,t70];exact I.p12)⟩
  refine zR E rfl (Jt rfl rfl (sl B 0 0) 0 [] e6 q2 ⟨g,0,none⟩ n aH R (by rw[e8,ag]) a7.1 ?hc h1 (by omega) ?_)
  case hc =>
   intro j u D;have aP:j<n*2:=by
    rw[<- a7.1];rcases jpc j R.length with q|q
    ·exact q
    rw[jpe q]at D;cases D
   have ea:(⟨g,0,none⟩:Addr).add j=⟨g,j,none⟩:=by unfold Addr.add;split<;>simp_all
   have aj:=a7;rw[ag]at aj;rw[ea,O.cell (p:=⟨g,j,none⟩) (aj.lt g rfl).2,jo1 aj j aP];exact D
  intro v' w' o1 gr bk;obtain⟨g1,c1,rfl,bB,V⟩:=Kb (lo:=J.heap.size) o1 bk q1 O.size;rw[jpl,jpC]at V;rw[jpl];show Reg a0 J t s N C n U R x y (l.setIfInBounds 8 true) (a.put (some 66) (sl g1 n c1)) w'
  have f2:fl (l.setIfInBounds 8 true) 2=fl l 2:=by rw[P,if_neg (by decide)]
  have f7:fl (l.setIfInBounds 8 true) 7=fl l 7:=by rw[P,if_neg (by decide)]
  have X:fl (l.setIfInBounds 8 true) 8=true:=by rw[P,if_pos rfl]
  have f9:fl (l.setIfInBounds 8 true) 9=fl l 9:=by rw[P,if_neg (by decide)]
  have H:fl (l.setIfInBounds 8 true) 10=fl l 10:=by rw[P,if_neg (by decide)]
  have m:fl (l.setIfInBounds 8 true) 11=fl l 11:=by rw[P,if_neg (by decide)]
  have K:fl (l.setIfInBounds 8 true) 14=fl l 14:=by rw[P,if_neg (by decide)]
  have Y:(a.put (some 66) (sl g1 n c1)).tmps[60]?=a.tmps[60]?:=by rw[A _ _ (by decide),if_neg (by decide)]
  have Z:(a.put (some 66) (sl g1 n c1)).tmps[66]?=some (sl g1 n c1):=by rw[A _ _ (by decide),if_pos rfl]
  have L:(a.put (some 66) (sl g1 n c1)).tmps[68]?=a.tmps[68]?:=by rw[A _ _ (by decide),if_neg (by decide)]
  refine⟨I.dfr,(qp _ _ _).trans I.sz,fun j D=>by rw[A _ _ (by decide),if_neg (by omega)];exact I.frm j D,(fun _=>O.grown gr O.size (fun k hk=>by cases hk;exact q1)),(by rw[f2,Y];exact fun _=>⟨B,eB,fun h=>by rw[X]at h;cases h⟩),?_,?_,(fun _=>⟨by rw[f2];exact d0,by rw[f7];exact d2,g1,c1,Z,fun _=>V⟩),?_,(by rw[H,f9,L,m];exact fun h=>(by obtain⟨q4,B6,e7,h6⟩:=I.s5 h;exact⟨q4,B6,e7,fun q=>⟨(h6 q).1,ja.grown (h6 q).2 gr (fun e=>q3 h B6 e7 (joN e))⟩⟩)),(by rw[m,n6];exact fun h=>by cases h),?_,(by rw[K,n8];exact fun h=>by cases h),?_,?_,?_,?_,?_,?_⟩
  all_goals (simp(disch:=decide) only[r,W];assumption)
 ·have f:some _=some o:=E;obtain rfl:=joN f;have n8:=NF 14 fun h=>(I.s5 (I.s6 (I.s8 h).1).2.1).1
  have O:=I.bel n8;refine zR E rfl (Gp rfl aI ((O.cell (p:=⟨fb,0,none⟩) af.lt).trans (af.cell 0)) ((O.cell (p:=⟨fb,1,none⟩) af.lt).trans (af.cell 1)) ?_);show Reg a0 J t s N C n U R x y (l.setIfInBounds 9 true) (a.put (some 67) (.agg #[.string x,.string y])) w
  have f9:=FI;have H:=r 10 (by decide)
  have m:=r 11 (by decide);have TV:=W 67 (.agg #[.string x,.string y]) (by decide)
  have ax:=TI 67 (.agg #[.string x,.string y]) (by decide);have L:=TV 68 (by decide)
  refine⟨I.dfr,(qp _ _ _).trans I.sz,fun j D=>by rw[A _ _ (by decide),if_neg (by omega)];exact I.frm j D,?_,?_,?_,?_,?_,(fun _=>ax),(by rw[H,L,m];exact fun h=>(by obtain⟨_,q⟩:=I.s5 h;exact⟨f9,q⟩)),?_,?_,?_,?_,?_,?_,?_,?_,?_⟩
  all_goals (simp(disch:=decide) only[r,W];assumption)
 ·have f:some _=some o:=E;obtain rfl:=joN f;have d4:fl l 9=true:=G ⟨9,Ground.data⟩ (by simp[qg]) rfl
  have n6:=NF 11 fun h=>(I.s6 h).2.1;have n8:=NF 14 fun h=>(I.s6 (I.s8 h).1).2.1
  have O:=I.bel n8;have al:=Ka w (.cells #[.string x,.string y] 148)
  refine zR E rfl (jcp rfl (ev 67 _ (I.s4 d4)) ?_);show Reg a0 J t s N C n U R x y (l.setIfInBounds 10 true) (a.put (some 68) (sl w.heap.size 1 1)) (w.alloc (.cells #[.string x,.string y] 148))
  have f2:=r 2 (by decide);have f7:=r 7 (by decide)
  have X:=r 8 (by decide);have f9:=r 9 (by decide)
  have m:=r 11 (by decide);have K:=r 14 (by decide)
  have TV:=W 68 (sl w.heap.size 1 1) (by decide);have Y:=TV 60 (by decide)
  have Z:=TV 66 (by decide);have L:=TI 68 (sl w.heap.size 1 1) (by decide)
  refine⟨I.dfr,(qp _ _ _).trans I.sz,fun j D=>by rw[A _ _ (by decide),if_neg (by omega)];exact I.frm j D,(fun _=>O.trans (al.mono O.size)),(by rw[f2,X,Y,L];exact fun h=>(by obtain⟨B,e,hr⟩:=I.s0 h;exact⟨B,e,fun h3=>(by obtain⟨q1,q2,q3⟩:=hr h3;exact⟨q1,jX q2 al (joJ _),fun _ B5 ae=>by cases ae;have:=(q2.lt B rfl).2;omega⟩)⟩)),?_,?_,(by rw[X,f2,f7,Z,m];exact fun h=>(by obtain⟨q0,q2,g,c,e,hr⟩:=I.s3 h;exact⟨q0,q2,g,c,e,fun h6=>jX (hr h6) al (joJ _)⟩)),?_,(fun _=>⟨by rw[f9];exact d4,w.heap.size,L,fun _=>⟨O.size,ja.new _ _ _⟩⟩),(by rw[m,n6];exact fun h=>by cases h),?_,(by rw[K,n8];exact fun h=>by cases h),?_,?_,?_,?_,?_,?_⟩
  all_goals (simp(disch:=decide) only[r,W];assumption)
 ·have f:some _=some o:=E;obtain rfl:=joN f;have d3:fl l 8=true:=G ⟨8,Ground.data⟩ (by simp[qg]) rfl
  have d5:fl l 10=true:=G ⟨10,Ground.data⟩ (by simp[qg]) rfl;have n8:=NF 14 fun h=>(I.s8 h).1
  have O:=I.bel n8;obtain⟨d0,d2,g1,c1,e1,aR⟩:=I.s3 d3;have V:=aR a8
  obtain⟨d4,B5,e5,h5⟩:=I.s5 d5;obtain⟨l5,aG⟩:=h5 a8;refine zR E rfl (Jt rfl rfl (sl g1 n c1) n R (ev 66 _ e1) (jA V (joT _)) ⟨B5,0,none⟩ 1 1 [.string x,.string y] (ev 68 _ e5) rfl (jaa aG) (by intro u hu;simp at hu;rcases hu with rfl | rfl<;>rfl) (by omega) ?_);intro v' w' o2 gr bk;obtain⟨g2,c2,rfl,bC,aa⟩:=Kb (lo:=J.heap.size) o2 bk (V.lt g1 rfl).1 O.size;show Reg a0 J t s N C n U R x y (l.setIfInBounds 11 true) (a.put (some 69) (sl g2 (n+1) c2)) w'
  have f2:=r 2 (by decide);have f7:=r 7 (by decide)
  have X:=r 8 (by decide);have f9:=r 9 (by decide)
  have H:=r 10 (by decide);have m:=FI
  have K:=r 14 (by decide);have TV:=W 69 (sl g2 (n+1) c2) (by decide)
  have Y:=TV 60 (by decide);have Z:=TV 66 (by decide)
  have L:=TV 68 (by decide);have aS:=TI 69 (sl g2 (n+1) c2) (by decide)
  refine⟨I.dfr,(qp _ _ _).trans I.sz,fun j D=>by rw[A _ _ (by decide),if_neg (by omega)];exact I.frm j D,(fun _=>O.grown gr O.size (fun k hk=>by cases hk;exact(V.lt g1 rfl).1)),(by rw[f2,Y,X,d3];exact fun h=>(by obtain⟨B,e,_⟩:=I.s0 h;exact⟨B,e,fun q=>by cases q⟩)),?_,?_,(by rw[X,f2,f7,Z];exact fun _=>⟨d0,d2,g1,c1,e1,fun q=>by rw[m]at q;cases q⟩),?_,(by rw[H,f9,L];exact fun _=>⟨d4,B5,e5,fun q=>by rw[m]at q;cases q⟩),(fun _=>⟨by rw[X];exact d3,by rw[H];exact d5,g2,c2,aS,fun _=>aa⟩),?_,(by rw[K,n8];exact fun h=>by cases h),?_,?_,?_,?_,?_,?_⟩
  all_goals (simp(disch:=decide) only[r,W];assumption)
 ·have f:some _=some o:=E;obtain rfl:=joN f;have da:fl l 0=true:=G ⟨0,Ground.data⟩ (by simp[qg]) rfl
  have db:fl l 1=true:=G ⟨1,Ground.data⟩ (by simp[qg]) rfl;refine zR E rfl (jdI rfl (ev 58 _ (I.p0 da)) (ev 59 _ (I.p1 db)) aD ?_);show Reg a0 J t s N C n U R x y (l.setIfInBounds 12 true) (a.put (some 70) (.pointer (some ⟨t,s*3,none⟩))) w
  have t70:=TI 70 (.pointer (some ⟨t,s*3,none⟩)) (by decide);refine⟨I.dfr,(qp _ _ _).trans I.sz,fun j D=>by rw[A _ _ (by decide),if_neg (by omega)];exact I.frm j D,?_,?_,?_,?_,?_,?_,?_,?_,?_,?_,?_,?_,?_,?_,?_,(fun _=>t70)⟩
  all_goals (simp(disch:=decide) only[r,W];assumption)
 ·have f:some _=some o:=E;obtain rfl:=joN f;have dd:fl l 12=true:=G ⟨12,Ground.data⟩ (by simp[qg]) rfl
  refine zR E rfl (ZY rfl (ev 70 _ (I.p12 dd)) ?_);show Reg a0 J t s N C n U R x y (l.setIfInBounds 13 true) (a.put (some 71) (.pointer (some ⟨t,s*3+2,none⟩))) w
  have ay:=TI 71 (.pointer (some ⟨t,s*3+2,none⟩)) (by decide);refine⟨I.dfr,(qp _ _ _).trans I.sz,fun j D=>by rw[A _ _ (by decide),if_neg (by omega)];exact I.frm j D,?_,?_,?_,?_,?_,?_,?_,?_,(fun _=>ay),?_,?_,?_,?_,?_,?_,?_⟩
  all_goals (simp(disch:=decide) only[r,W];assumption)
 have f:some _=some o:=E;obtain rfl:=joN f;have d7:fl l 13=true:=G ⟨13,Ground.data⟩ (by simp[qg]) rfl
 have d6:fl l 11=true:=G ⟨11,Ground.data⟩ (by simp[qg]) rfl;have O:=I.bel a8
 obtain⟨d3,d5,g2,c2,e2,aF⟩:=I.s6 d6;have aa:=aF a8
 refine zR E rfl (XB rfl (ev 71 _ (I.s7 d7)) (ev 69 _ e2) ((O.cell (p:=⟨t,s*3+2,none⟩) ai).trans aB) ((O.frozen (p:=⟨t,s*3+2,none⟩) ai).trans aN) ?_);show Reg a0 J t s N C n U R x y (l.setIfInBounds 14 true) a (w.setCell ⟨t,s*3+2,none⟩ (sl g2 (n+1) c2))
 have f2:=r 2 (by decide);have f7:=r 7 (by decide)
 have X:=r 8 (by decide);have f9:=r 9 (by decide)
 have H:=r 10 (by decide);have m:=r 11 (by decide)
 have K:=FI;refine⟨I.dfr,I.sz,I.frm,(by rw[K];exact fun h=>by cases h),(by rw[f2,X,d3];exact fun h=>(by obtain⟨B,e,_⟩:=I.s0 h;exact⟨B,e,fun q=>by cases q⟩)),?_,?_,(by rw[X,f2,f7,m,d6];exact fun h=>(by obtain⟨q0,q2,g,c,e,_⟩:=I.s3 h;exact⟨q0,q2,g,c,e,fun q=>by cases q⟩)),?_,(by rw[H,f9,m,d6];exact fun h=>(by obtain⟨q4,B6,e7,_⟩:=I.s5 h;exact⟨q4,B6,e7,fun q=>by cases q⟩)),(by rw[m,X,H,K];exact fun _=>⟨d3,d5,g2,c2,e2,fun q=>by cases q⟩),?_,(fun _=>⟨by rw[m];exact d6,w,g2,c2,O,aa,rfl⟩),?_,?_,?_,?_,?_,?_⟩
 all_goals (simp(disch:=decide) only[r];assumption)
theorem jcv(a t:Array Value)(l:t.size=a.size)(h:∀j,(j<58\/71<j)->t[j]?=a[j]?):
  ∃m n o p q r s u v w d e f g,t=(((((((((((((a.setIfInBounds 58 m).setIfInBounds 59 n).setIfInBounds 60 o).setIfInBounds 61 p).setIfInBounds 62 q).setIfInBounds 63 r).setIfInBounds 64 s).setIfInBounds 65 u).setIfInBounds 66 v).setIfInBounds 67 w).setIfInBounds 68 d).setIfInBounds 69 e).setIfInBounds 70 f).setIfInBounds 71 g:=by
 refine⟨t.getD 58 undef,t.getD 59 undef,t.getD 60 undef,t.getD 61 undef,t.getD 62 undef,t.getD 63 undef,t.getD 64 undef,t.getD 65 undef,t.getD 66 undef,t.getD 67 undef,t.getD 68 undef,t.getD 69 undef,t.getD 70 undef,t.getD 71 undef,?_⟩;apply jqT;intro j;simp only[jps,jra];by_cases i:j<58\/71<j
 ·rw[h j i];rw[if_neg (by omega),if_neg (by omega),if_neg (by omega),if_neg (by omega),if_neg (by omega),if_neg (by omega),if_neg (by omega),if_neg (by omega),if_neg (by omega),if_neg (by omega),if_neg (by omega),if_neg (by omega),if_neg (by omega),if_neg (by omega)]
 have c:∀k:Nat,t[k]?=if k<a.size then some (t[k]?.getD undef) else none:=by
  intro k;rw[<- l];by_cases b:k<t.size
  ·rw[if_pos b,jpu b];rfl
  rw[if_neg b,jpv (by omega)]
 rcases(by omega:j=58\/j=59\/j=60\/j=61\/j=62\/j=63\/j=64\/j=65\/j=66\/j=67\/j=68\/j=69\/j=70\/j=71) with rfl|rfl|rfl|rfl|rfl|rfl|rfl|rfl|rfl|rfl|rfl|rfl|rfl|rfl<;>(simp;exact c _)
theorem region29x(a0:Act)(d:World)(l k N C r n:Nat)(s:Value)(q:List Value)(x y:ByteArray)(Q:Exit->Act->World->Prop)
  (h4:a0.tmps[4]?=some (sl l N C)) (t:a0.tmps[10]?=some (.int .i64 (k:Int))) (v:a0.tmps[8]?=some (.pointer (some ⟨r,0,none⟩))) (D:k<N) (G:72<=a0.tmps.size)
  (E:l<d.heap.size) (z:d.cell? ⟨l,k*3+2,none⟩=some s) (A:d.frozen? ⟨l,k*3+2,none⟩=false) (w:ja d r 148 #[.string x,.string y])
  (m:d.ownsRow 0 148 2 s n q) (Z:∀u∈q,u.oneCell'=true) (hn:n<=100000)
  (hQ:∀H I J K L O P R U V f h i j p g c,Below d.heap.size d p->p.ownsRow d.heap.size 148 2 (sl g (n+1) c) (n+1) (q++[.string x,.string y])->Q .normal {tmps:=(((((((((((((a0.tmps.setIfInBounds 58 H).setIfInBounds 59 I).setIfInBounds 60 J).setIfInBounds 61 K).setIfInBounds 62 L).setIfInBounds 63 O).setIfInBounds 64 P).setIfInBounds 65 R).setIfInBounds 66 U).setIfInBounds 67 V).setIfInBounds 68 f).setIfInBounds 69 h).setIfInBounds 70 i).setIfInBounds 71 j,defers:=a0.defers} (p.setCell ⟨l,k*3+2,none⟩ (sl g (n+1) c))) :
  (Code.region 14 qg true).wp prog Q a0 d:=by
 refine Uo a0 d l k N C r n s q x y Q h4 t v D G E z A w m Z hn ?_;intro a p g c W X Y b o;have hx:=jcv a0.tmps a.tmps X Y
 have ha:a={tmps:=a.tmps,defers:=a0.defers}:=by rw[<- W]
 rw[ha];generalize a.tmps=tm at *
 obtain⟨H,I,J,K,L,O,P,R,U,V,f,h,i,j,e⟩:=hx;rw[e];exact hQ H I J K L O P R U V f h i j p g c b o
end FD
section
attribute [local go_sem] joY
end
end Go.Proofs.YtbapfpekklcicaaGreatDoor
