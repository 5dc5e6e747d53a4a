/- Texts put together:BG. -/
import Derived.Test.YtmdhainabeljpaaGreatDoorBxr14
set_option linter.unusedVariables false
set_option maxRecDepth 100000
set_option maxHeartbeats 16000000
namespace Go.Proofs.YtmdhainabeljpaaGreatDoor
open Go.RowKit Go.Shelf
namespace FD
def zN:Array Oper:=#[{dst:=some 58,op:=Op.move (Operand.tmp 4),type:=37,pos := "ref.go:93",after:=#[],guard:=none},{dst:=some 59,op:=Op.move (Operand.tmp 10),type:=3,pos := "ref.go:93",after:=#[],guard:=none},{dst:=some 60,op:=Op.buildSlice 38 0 #[],type:=38,pos := "ref.go:93",after:=#[],guard:=none},{dst:=some 61,op:=Op.move (Operand.tmp 4),type:=37,pos := "ref.go:93",after:=#[],guard:=none},{dst:=some 62,op:=Op.move (Operand.tmp 10),type:=3,pos := "ref.go:93",after:=#[],guard:=none},{dst:=some 63,op:=Op.indexAddr 37 (Operand.tmp 61) (Operand.tmp 62),type:=0,pos := "ref.go:93",after:=#[{on:=3,ground:=Ground.data},{on:=4,ground:=Ground.data}],guard:=none},{dst:=some 64,op:=Op.fieldAddr 40 (Operand.tmp 63) 2,type:=0,pos := "ref.go:93",after:=#[{on:=5,ground:=Ground.data}],guard:=none},{dst:=some 65,op:=Op.load 38 (Operand.tmp 64),type:=38,pos := "ref.go:93",after:=#[{on:=6,ground:=Ground.data}],guard:=none},{dst:=some 66,op:=Op.call {callee:=Callee.builtin Builtin.append,args:=#[Operand.tmp 60,Operand.tmp 65],argTypes:=#[38,38]},type:=38,pos := "ref.go:93",after:=#[{on:=2,ground:=Ground.data},{on:=7,ground:=Ground.data}],guard:=none},{dst:=some 67,op:=Op.load 71 (Operand.tmp 8),type:=71,pos := "ref.go:93",after:=#[],guard:=none},{dst:=some 68,op:=Op.buildSlice 38 1 #[(0,Operand.tmp 67)],type:=38,pos := "ref.go:93",after:=#[{on:=9,ground:=Ground.data}],guard:=none},{dst:=some 69,op:=Op.call {callee:=Callee.builtin Builtin.append,args:=#[Operand.tmp 66,Operand.tmp 68],argTypes:=#[38,38]},type:=38,pos := "ref.go:93",after:=#[{on:=8,ground:=Ground.data},{on:=10,ground:=Ground.data},{on:=8,ground:=Ground.chain}],guard:=none},{dst:=some 70,op:=Op.indexAddr 37 (Operand.tmp 58) (Operand.tmp 59),type:=0,pos := "ref.go:93",after:=#[{on:=0,ground:=Ground.data},{on:=1,ground:=Ground.data},{on:=0,ground:=Ground.phase},{on:=1,ground:=Ground.phase},{on:=2,ground:=Ground.phase},{on:=3,ground:=Ground.phase},{on:=4,ground:=Ground.phase},{on:=5,ground:=Ground.phase},{on:=6,ground:=Ground.phase},{on:=7,ground:=Ground.phase},{on:=8,ground:=Ground.phase},{on:=9,ground:=Ground.phase},{on:=10,ground:=Ground.phase},{on:=11,ground:=Ground.phase}],guard:=none},{dst:=some 71,op:=Op.fieldAddr 40 (Operand.tmp 70) 2,type:=0,pos := "ref.go:93",after:=#[{on:=12,ground:=Ground.data},{on:=0,ground:=Ground.phase},{on:=1,ground:=Ground.phase},{on:=2,ground:=Ground.phase},{on:=3,ground:=Ground.phase},{on:=4,ground:=Ground.phase},{on:=5,ground:=Ground.phase},{on:=6,ground:=Ground.phase},{on:=7,ground:=Ground.phase},{on:=8,ground:=Ground.phase},{on:=9,ground:=Ground.phase},{on:=10,ground:=Ground.phase},{on:=11,ground:=Ground.phase}],guard:=none},{dst:=none,op:=Op.store 38 (Operand.tmp 71) (Operand.tmp 69),type:=0,pos := "ref.go:93",after:=#[{on:=13,ground:=Ground.data},{on:=11,ground:=Ground.data},{on:=11,ground:=Ground.chain},{on:=0,ground:=Ground.phase},{on:=1,ground:=Ground.phase},{on:=2,ground:=Ground.phase},{on:=3,ground:=Ground.phase},{on:=4,ground:=Ground.phase},{on:=5,ground:=Ground.phase},{on:=6,ground:=Ground.phase},{on:=7,ground:=Ground.phase},{on:=8,ground:=Ground.phase},{on:=9,ground:=Ground.phase},{on:=10,ground:=Ground.phase},{on:=11,ground:=Ground.phase}],guard:=none}]
theorem jcS:∀b0 b1 b2 b3 b4 b5 b6 b7 b8 b9 b10 b11 b12 b13 b14:Bool,Region.ready .any zN #[b0,b1,b2,b3,b4,b5,b6,b7,b8,b9,b10,b11,b12,b13,b14]=[]->b14=true:=by decide +kernel
theorem jhG{a:Act}{i:Nat}{v:Value}(h:a.tmps[i]?=some v):a.eval (.tmp i)=v:=by
 show a.tmps.getD i undef=v
 rw[jit,h];rfl
theorem jfA{a:Act}{d:Nat}{v:Value}(hd:d<a.tmps.size)(j:Nat):(a.put (some d) v).tmps[j]?=if j=d then some v else a.tmps[j]?:=by
 show(a.tmps.setIfInBounds d v)[j]?=_
 rw[jiM]
 by_cases h:d=j
 ·subst h;simp[hd]
 rw[if_neg h,if_neg (jjB h)]
theorem zQ(a:Act)(d:Nat)(v:Value):(a.put (some d) v).tmps.size=a.tmps.size:=by show(a.tmps.setIfInBounds d v).size=_;simp
theorem Ud{o:Oper}{a:Act}{w:World}{K:Act->World->Prop}{Q:Exit->Act->World->Prop}(ho:o.op=Op.buildSlice 38 0 #[])(hK:K (a.put o.dst (.slice (some ⟨w.heap.size,0,none⟩) 0 0)) (w.alloc (.cells #[] 71))):Oper.wp Tryz.prog o a w K Q:=by
 unfold Oper.wp
 have e:(execOp a.eval o).run Tryz.prog w=.ok (.value (.slice (some ⟨w.heap.size,0,none⟩) 0 0)) (w.alloc (.cells #[] 71)):=by
  simp only[execOp,ho]
  kernel_rfl
 rw[e];exact hK
theorem Uc{o:Oper}{a:Act}{w:World}{K:Act->World->Prop}{Q:Exit->Act->World->Prop}{x:Operand}{s t:ByteArray}(ho:o.op=Op.buildSlice 38 1 #[(0,x)])(hx:a.eval x=.agg #[.string s,.string t])(hK:K (a.put o.dst (.slice (some ⟨w.heap.size,0,none⟩) 1 1)) (w.alloc (.cells #[.string s,.string t] 71))):Oper.wp Tryz.prog o a w K Q:=by
 unfold Oper.wp
 have e:(execOp a.eval o).run Tryz.prog w=.ok (.value (.slice (some ⟨w.heap.size,0,none⟩) 1 1)) (w.alloc (.cells #[.string s,.string t] 71)):=by
  simp only[execOp,ho]
  rw[show(Array.map (fun(p:Nat×Operand)=>match p with | (i,x)=>(i,a.eval x)) #[((0:Nat),x)])=#[((0:Nat),Value.agg #[.string s,.string t])] from by rw[<- hx];simp]
  kernel_rfl
 rw[e];exact hK
theorem JQ{o:Oper}{a:Act}{w:World}{K:Act->World->Prop}{Q:Exit->Act->World->Prop}{x:Operand}{b m:Nat}(ho:o.op=Op.fieldAddr 40 x 2)(hx:a.eval x=.pointer (some ⟨b,m,none⟩))(hK:K (a.put o.dst (.pointer (some ⟨b,m+2,none⟩))) w):Oper.wp Tryz.prog o a w K Q:=by
 unfold Oper.wp
 have e:(execOp a.eval o).run Tryz.prog w=.ok (.value (.pointer (some ⟨b,m+2,none⟩))) w:=by
  simp only[execOp,ho,hx]
  simp[go_sem,Result.andThen]
 rw[e];exact hK
theorem Xv{o:Oper}{a:Act}{w:World}{K:Act->World->Prop}{Q:Exit->Act->World->Prop}{x:Operand}{p:Addr}{v:Value}(ho:o.op=Op.load 38 x)(hx:a.eval x=.pointer (some p))(hc:w.cell? p=some v)(hK:K (a.put o.dst v) w):Oper.wp Tryz.prog o a w K Q:=by
 unfold Oper.wp
 have e:(execOp a.eval o).run Tryz.prog w=.ok (.value v) w:=by
  simp only[execOp,ho,hx]
  simp[go_sem,Result.andThen,hc]
 rw[e];exact hK
theorem Xu{o:Oper}{a:Act}{w:World}{K:Act->World->Prop}{Q:Exit->Act->World->Prop}{x:Operand}{b:Nat}{u v:Value}(ho:o.op=Op.load 71 x)(hx:a.eval x=.pointer (some ⟨b,0,none⟩))(hc:w.cell? ⟨b,0,none⟩=some u)(hd:w.cell? ⟨b,1,none⟩=some v)(hK:K (a.put o.dst (.agg #[u,v])) w):Oper.wp Tryz.prog o a w K Q:=by
 unfold Oper.wp
 have e:(execOp a.eval o).run Tryz.prog w=.ok (.value (.agg #[u,v])) w:=by
  simp only[execOp,ho,hx]
  simp[go_sem,Result.andThen,hc,hd]
 rw[e];exact hK
theorem Vf{o:Oper}{a:Act}{w:World}{K:Act->World->Prop}{Q:Exit->Act->World->Prop}{x y:Operand}{p:Addr}{u:Value}{g:Option Addr}{n c:Nat}(ho:o.op=Op.store 38 x y)(hx:a.eval x=.pointer (some p))(hy:a.eval y=.slice g n c)(hc:w.cell? p=some u)(hf:w.frozen? p=false)(hK:K (a.put o.dst undef) (w.setCell p (.slice g n c))):Oper.wp Tryz.prog o a w K Q:=by
 unfold Oper.wp
 have e:(execOp a.eval o).run Tryz.prog w=.ok .skip (w.setCell p (.slice g n c)):=by
  simp only[execOp,ho,hx,hy]
  simp[go_sem,Result.andThen,hc,hf]
 rw[e];exact hK
theorem GI{o:Oper}{a:Act}{w:World}{K:Act->World->Prop}{Q:Exit->Act->World->Prop}{x y:Operand}{b n c k:Nat}(ho:o.op=Op.indexAddr 37 x y)(hx:a.eval x=.slice (some ⟨b,0,none⟩) n c)(hy:a.eval y=.int .i64 (k:Int))(hk:k<n)(hK:K (a.put o.dst (.pointer (some ⟨b,k*3,none⟩))) w):Oper.wp Tryz.prog o a w K Q:=by
 unfold Oper.wp
 have e:(execOp a.eval o).run Tryz.prog w=.ok (.value (.pointer (some ⟨b,k*3,none⟩))) w:=by
  simp only[execOp,ho,hx,hy]
  simp[go_sem,Result.andThen,hk]
 rw[e];exact hK
theorem jea{o:Oper}{a:Act}{w:World}{K:Act->World->Prop}{Q:Exit->Act->World->Prop}{x:Operand}{v:Value}(ho:o.op=Op.move x)(hx:a.eval x=v)(hK:K (a.put o.dst v) w):Oper.wp Tryz.prog o a w K Q:=by
 unfold Oper.wp
 have e:(execOp a.eval o).run Tryz.prog w=.ok (.value v) w:=by
  simp only[execOp,ho,hx]
  simp[go_sem]
 rw[e];exact hK
def fl(l:Array Bool)(j:Nat):Bool:=l.getD j false
theorem jcG{l:Array Bool}{i:Nat}(hi:i<l.size)(j:Nat):fl (l.setIfInBounds i true) j=if j=i then true else fl l j:=by
 unfold fl
 rw[jit,jit,jiM]
 by_cases h:i=j
 ·subst h;simp[hi]
 rw[if_neg h,if_neg (jjB h)]
theorem zF{Q:Exit->Act->World->Prop}{K:Act->World->Prop}{a:Act}{w:World}{i:Nat}{o:Oper}(ho:zN[i]?=some o)(hg:o.guard=none)(h:Oper.wp Tryz.prog o a w K Q):wpOp Tryz.prog zN Q i K a w:=by
 unfold wpOp
 rw[ho]
 show(if Region.wanted o (yielded zN a.tmps)=true then _ else _)
 rw[if_pos (by simp[Region.wanted,hg])]
 exact .inl h
theorem Zv{o:Oper}{a:Act}{w:World}{K:Act->World->Prop}{Q:Exit->Act->World->Prop}{s x:Operand}{p:Addr}(ho:o.op=Op.call {callee:=Callee.builtin Builtin.append,args:=#[s,x],argTypes:=#[38,38]})(hs:a.eval s=.slice (some p) 0 0)(hx:a.eval x=.slice none 0 0)(hK:K (a.put o.dst (.slice (some p) 0 0)) w):Oper.wp Tryz.prog o a w K Q:=by
 have hb:∀ty,(Builtin.append_ #[38,38] ty #[.slice (some p) 0 0,.slice none 0 0]).run Tryz.prog w=.ok (.slice (some p) 0 0) w:=fun ty=>by kernel_rfl
 unfold Oper.wp
 simp[execOp,ho,resolve,invoke,builtin,hs,hx,hb,Result.andThen]
 exact hK
theorem xu{o:Oper}{a:Act}{w:World}{K:Act->World->Prop}{Q:Exit->Act->World->Prop}{s x:Operand}(hg:o.guard=none)(ho:o.op=Op.call {callee:=Callee.builtin Builtin.append,args:=#[s,x],argTypes:=#[38,38]})
  (v:Value) (n:Nat) (xs:List Value) (hs:a.eval s=v) (hown:w.ownsRow 0 71 2 v n xs)
  (ad:Addr) (m c:Nat) (news:List Value) (hx:a.eval x=.slice (some ad) m c) (hl:news.length=m*2) (hnews:∀j u,news[j]?=some u->w.cell? (ad.add j)=some u) (h1:∀u∈news,u.oneCell'=true)
  (hn:n+m<=1000000)
  (hK:∀v' w',w'.ownsRow 0 71 2 v' (n+m) (xs++news)->w.grownBy w' v.ownBlock->(v'.ownBlock=v.ownBlock\/v'.ownBlock=some w.heap.size)->K (a.put o.dst v') w'):Oper.wp Tryz.prog o a w K Q:=by
 obtain⟨i0,hi,hz0,hz1,hz2⟩:=info_parts Va
 have h:=qd (P:=Tryz.prog) (ops:=zN) (o:=o) (a:=a) (w:=w) (K:=K) (Q:=Q) (E:=True) hg s x 38 ho 71 i0 _ 2 32 Tryz.underlying38 hi hz0 hz1 hz2 rfl (by decide) v n xs hs hown ad m c news hx hl hnews h1 (by unfold maxLen;omega) (by omega) hK
 rwa [if_pos (by simp[Region.wanted,hg])]at h
theorem Vy{w:World}{lo n a b:Nat}{e:TypeId}{size:Nat}{v:Value}{xs:List Value}(ho:w.ownsRow 0 e size v n xs)(hbk:v.ownBlock=some a\/v.ownBlock=some b)(ha:lo<=a)(hb:lo<=b):∃g c,v=.slice (some ⟨g,0,none⟩) n c/\lo<=g/\w.ownsRow lo e size (.slice (some ⟨g,0,none⟩) n c) n xs:=by
 rcases ho.2 with ⟨rfl,_⟩|⟨g,cap,cur,rfl,h0,rest⟩
 ·rcases hbk with h|h<;>cases h
 have hg:lo<=g:=by
  rcases hbk with h|h
  ·have h2:g=a:=jh9 h
   omega
  have h2:g=b:=jh9 h
  omega
 exact⟨g,cap,rfl,hg,ho.1,.inr ⟨g,cap,cur,rfl,hg,rest⟩⟩
theorem QP(w:World)(e:TypeId)(size:Nat):(w.alloc (.cells #[] e)).ownsRow 0 e size (.slice (some ⟨w.heap.size,0,none⟩) 0 0) 0 [] :=
 ⟨by simp,.inr ⟨_,0,#[],rfl,jii _,jd.new w e #[],jh6 _,jii _,by simp,by simp⟩⟩
theorem Vw(w:World)(o:Obj):Below w.heap.size w (w.alloc o):=(jh8 _ _).alloc (jh6 _) o
theorem Un{w:World}{b:Nat}{t:TypeId}{x y:Value}(h:jd w b t #[x,y]):∀j u,[x,y][j]?=some u->w.cell? ((⟨b,0,none⟩:Addr).add j)=some u:=by
 intro j u hj
 have ea:(⟨b,0,none⟩:Addr).add j=⟨b,j,none⟩:=by unfold Addr.add;split<;>simp_all
 rw[ea,h.cell j];simpa using hj
abbrev sl(g n c:Nat):Value:=.slice (some ⟨g,0,none⟩) n c
structure Reg(a0:Act)(W3:World)(nb kk N C n:Nat)(fv:Value)(cf:List Value)(x y:ByteArray)(l:Array Bool)(a:Act)(w:World):Prop where
 dfr:a.defers=a0.defers
 sz:a.tmps.size=a0.tmps.size
 frm:∀j,(j<58\/71<j)->a.tmps[j]?=a0.tmps[j]?
 bel:fl l 14=false->Below W3.heap.size W3 w
 s0:fl l 2=true->∃B,a.tmps[60]?=some (sl B 0 0)/\(fl l 8=false->W3.heap.size<=B/\w.ownsRow 0 71 2 (sl B 0 0) 0 []/\(fl l 10=true->∀B5,a.tmps[68]?=some (sl B5 1 1)->B5≠B))
 s1:fl l 6=true->a.tmps[64]?=some (.pointer (some ⟨nb,kk*3+2,none⟩))
 s2:fl l 7=true->a.tmps[65]?=some fv
 s3:fl l 8=true->fl l 2=true/\fl l 7=true/\∃g c,a.tmps[66]?=some (sl g n c)/\(fl l 11=false->w.ownsRow W3.heap.size 71 2 (sl g n c) n cf)
 s4:fl l 9=true->a.tmps[67]?=some (.agg #[.string x,.string y])
 s5:fl l 10=true->fl l 9=true/\∃B5,a.tmps[68]?=some (sl B5 1 1)/\(fl l 11=false->W3.heap.size<=B5/\jd w B5 71 #[.string x,.string y])
 s6:fl l 11=true->fl l 8=true/\fl l 10=true/\∃g c,a.tmps[69]?=some (sl g (n+1) c)/\(fl l 14=false->w.ownsRow W3.heap.size 71 2 (sl g (n+1) c) (n+1) (cf++[.string x,.string y]))
 s7:fl l 13=true->a.tmps[71]?=some (.pointer (some ⟨nb,kk*3+2,none⟩))
 s8:fl l 14=true->fl l 11=true/\∃w2 g c,Below W3.heap.size W3 w2/\w2.ownsRow W3.heap.size 71 2 (sl g (n+1) c) (n+1) (cf++[.string x,.string y])/\w=w2.setCell ⟨nb,kk*3+2,none⟩ (sl g (n+1) c)
 p0:fl l 0=true->a.tmps[58]?=some (sl nb N C)
 p1:fl l 1=true->a.tmps[59]?=some (.int .i64 (kk:Int))
 p3:fl l 3=true->a.tmps[61]?=some (sl nb N C)
 p4:fl l 4=true->a.tmps[62]?=some (.int .i64 (kk:Int))
 p5:fl l 5=true->a.tmps[63]?=some (.pointer (some ⟨nb,kk*3,none⟩))
 p12:fl l 12=true->a.tmps[70]?=some (.pointer (some ⟨nb,kk*3,none⟩))
theorem Xe{w:World}{lo B:Nat}(h:w.ownsRow 0 71 2 (sl B 0 0) 0 [])(hB:lo<=B):w.ownsRow lo 71 2 (sl B 0 0) 0 []:=by
 refine⟨h.1,?_⟩
 rcases h.2 with ⟨e,_⟩|⟨g,cap,cur,e,_,rest⟩
 ·cases e
 cases e
 exact .inr ⟨B,0,cur,rfl,hB,rest⟩
theorem jhA{a:Act}{d:Nat}{v:Value}(hd:d<a.tmps.size):∀j,(a.put (some d) v).tmps[j]?=if j=d then some v else a.tmps[j]?:=jfA hd
theorem Xb(a0:Act)(W3:World)(nb kk N C fb n:Nat)(fv:Value)(cf:List Value)(x y:ByteArray)(Q:Exit->Act->World->Prop)
  (h4:a0.tmps[4]?=some (sl nb N C)) (h10:a0.tmps[10]?=some (.int .i64 (kk:Int))) (h8t:a0.tmps[8]?=some (.pointer (some ⟨fb,0,none⟩))) (hkN:kk<N) (hsz:72<=a0.tmps.size)
  (hnb:nb<W3.heap.size) (hVC:W3.cell? ⟨nb,kk*3+2,none⟩=some fv) (hVZ:W3.frozen? ⟨nb,kk*3+2,none⟩=false) (hFB:jd W3 fb 71 #[.string x,.string y])
  (hrow:W3.ownsRow 0 71 2 fv n cf) (h1:∀u∈cf,u.oneCell'=true) (hn:n<=100000)
  (hQ:∀a w2 g c,a.defers=a0.defers->a.tmps.size=a0.tmps.size->(∀j,(j<58\/71<j)->a.tmps[j]?=a0.tmps[j]?)->Below W3.heap.size W3 w2->w2.ownsRow W3.heap.size 71 2 (sl g (n+1) c) (n+1) (cf++[.string x,.string y])->Q .normal a (w2.setCell ⟨nb,kk*3+2,none⟩ (sl g (n+1) c))) :
  (Code.region 14 zN true).wp Tryz.prog Q a0 W3:=by
 refine Jv (by kernel_rfl) (Reg a0 W3 nb kk N C n fv cf x y) ?start ?step ?done
 case start =>
  have z:∀j,fl (Array.replicate zN.size false) j=false:=by
   intro j
   unfold fl
   rw[jit,jke]
   split<;>rfl
  exact⟨rfl,rfl,fun _ _=>rfl,fun _=>(jh8 _ _).drew,(fun h=>by rw[z]at h;cases h),(fun h=>by rw[z]at h;cases h),(fun h=>by rw[z]at h;cases h),(fun h=>by rw[z]at h;cases h),(fun h=>by rw[z]at h;cases h),(fun h=>by rw[z]at h;cases h),(fun h=>by rw[z]at h;cases h),(fun h=>by rw[z]at h;cases h),(fun h=>by rw[z]at h;cases h),(fun h=>by rw[z]at h;cases h),(fun h=>by rw[z]at h;cases h),(fun h=>by rw[z]at h;cases h),(fun h=>by rw[z]at h;cases h),(fun h=>by rw[z]at h;cases h),(fun h=>by rw[z]at h;cases h)⟩
 case done =>
  intro l a w I hl hr
  have h8:fl l 14=true:=by
   have hl9:l.size=15:=hl
   have e:l=#[l[0],l[1],l[2],l[3],l[4],l[5],l[6],l[7],l[8],l[9],l[10],l[11],l[12],l[13],l[14]]:=by
    apply Array.ext
    ·simp[hl9]
    intro i h1 h2
    rw[hl9]at h1
    rcases(by omega:i=0\/i=1\/i=2\/i=3\/i=4\/i=5\/i=6\/i=7\/i=8\/i=9\/i=10\/i=11\/i=12\/i=13\/i=14) with rfl|rfl|rfl|rfl|rfl|rfl|rfl|rfl|rfl|rfl|rfl|rfl|rfl|rfl|rfl<;>rfl
   rw[e]at hr
   have:=jcS _ _ _ _ _ _ _ _ _ _ _ _ _ _ _ hr
   unfold fl
   rw[jit,jiQ (by omega)]
   exact this
  obtain⟨_,w2,g,c,b,o,rfl⟩:=I.s8 h8
  exact hQ a w2 g c I.dfr I.sz I.frm b o
 case step =>
 intro l i o a w I hl ho hli he
 have hl9:l.size=15:=hl
 have hi:i<15:=by
  rcases jir i 15 with h|h
  ·exact h
  rw[jiI (by exact h)]at ho;cases ho
 have hil:i<l.size:=by omega
 have FL:=fun j=>jcG hil j
 have TM:=fun d v (hd:d<72)=>jhA (a:=a) (d:=d) (v:=v) (by rw[I.sz];omega)
 have hfi:fl l i=false:=by
  unfold fl
  rw[jit,jiQ hil]at hli ⊢
  exact hli
 have dep:∀e∈o.after,Region.binds .any e=true->fl l e.on=true:=he
 have ev:∀j v,a.tmps[j]?=some v->a.eval (.tmp j)=v:=fun j v h=>jhG h
 have e4:=ev 4 _ ((I.frm 4 (by omega)).trans h4)
 have e10:=ev 10 _ ((I.frm 10 (by omega)).trans h10)
 have e13:=ev 8 _ ((I.frm 8 (by omega)).trans h8t)
 have FX:∀k,k≠i->fl (l.setIfInBounds i true) k=fl l k:=fun k h=>by rw[FL,if_neg h]
 have FI:fl (l.setIfInBounds i true) i=true:=by rw[FL,if_pos rfl]
 have TX:∀d v,d<72->∀j,j≠d->(a.put (some d) v).tmps[j]?=a.tmps[j]?:=fun d v hd j h=>by rw[TM _ _ hd,if_neg h]
 have TI:∀d v,d<72->(a.put (some d) v).tmps[d]?=some v:=fun d v hd=>by rw[TM _ _ hd,if_pos rfl]
 rcases(by omega:i=0\/i=1\/i=2\/i=3\/i=4\/i=5\/i=6\/i=7\/i=8\/i=9\/i=10\/i=11\/i=12\/i=13\/i=14) with rfl|rfl|rfl|rfl|rfl|rfl|rfl|rfl|rfl|rfl|rfl|rfl|rfl|rfl|rfl
 ·have ho2:some _=some o:=ho
  obtain rfl:=jh9 ho2
  refine zF ho rfl (jea rfl e4 ?_)
  show Reg a0 W3 nb kk N C n fv cf x y (l.setIfInBounds 0 true) (a.put (some 58) (sl nb N C)) w
  have f1:=FX 1 (by decide)
  have f2:=FX 2 (by decide)
  have f3:=FX 3 (by decide)
  have f4:=FX 4 (by decide)
  have f5:=FX 5 (by decide)
  have f6:=FX 6 (by decide)
  have f7:=FX 7 (by decide)
  have f8:=FX 8 (by decide)
  have f9:=FX 9 (by decide)
  have f10:=FX 10 (by decide)
  have f11:=FX 11 (by decide)
  have f12:=FX 12 (by decide)
  have f13:=FX 13 (by decide)
  have f14:=FX 14 (by decide)
  have t58:=TI 58 (sl nb N C) (by decide)
  have TV:=TX 58 (sl nb N C) (by decide)
  have t59:=TV 59 (by decide)
  have t60:=TV 60 (by decide)
  have t61:=TV 61 (by decide)
  have t62:=TV 62 (by decide)
  have t63:=TV 63 (by decide)
  have t64:=TV 64 (by decide)
  have t65:=TV 65 (by decide)
  have t66:=TV 66 (by decide)
  have t67:=TV 67 (by decide)
  have t68:=TV 68 (by decide)
  have t69:=TV 69 (by decide)
  have t70:=TV 70 (by decide)
  have t71:=TV 71 (by decide)
  exact⟨I.dfr,(zQ _ _ _).trans I.sz,fun j hj=>by rw[TM _ _ (by decide),if_neg (by omega)];exact I.frm j hj,(by rw[f14];exact I.bel),(by rw[f2,f8,f10,t60,t68];exact I.s0),(by rw[f6,t64];exact I.s1),(by rw[f7,t65];exact I.s2),(by rw[f8,f2,f7,t66,f11];exact I.s3),(by rw[f9,t67];exact I.s4),(by rw[f10,f9,t68,f11];exact I.s5),(by rw[f11,f8,f10,t69,f14];exact I.s6),(by rw[f13,t71];exact I.s7),(by rw[f14,f11];exact I.s8),(fun _=>t58),(by rw[f1,t59];exact I.p1),(by rw[f3,t61];exact I.p3),(by rw[f4,t62];exact I.p4),(by rw[f5,t63];exact I.p5),(by rw[f12,t70];exact I.p12)⟩
 ·have ho2:some _=some o:=ho
  obtain rfl:=jh9 ho2
  refine zF ho rfl (jea rfl e10 ?_)
  show Reg a0 W3 nb kk N C n fv cf x y (l.setIfInBounds 1 true) (a.put (some 59) (.int .i64 (kk:Int))) w
  have f0:=FX 0 (by decide)
  have f2:=FX 2 (by decide)
  have f3:=FX 3 (by decide)
  have f4:=FX 4 (by decide)
  have f5:=FX 5 (by decide)
  have f6:=FX 6 (by decide)
  have f7:=FX 7 (by decide)
  have f8:=FX 8 (by decide)
  have f9:=FX 9 (by decide)
  have f10:=FX 10 (by decide)
  have f11:=FX 11 (by decide)
  have f12:=FX 12 (by decide)
  have f13:=FX 13 (by decide)
  have f14:=FX 14 (by decide)
  have TV:=TX 59 (.int .i64 (kk:Int)) (by decide)
  have t58:=TV 58 (by decide)
  have t59:=TI 59 (.int .i64 (kk:Int)) (by decide)
  have t60:=TV 60 (by decide)
  have t61:=TV 61 (by decide)
  have t62:=TV 62 (by decide)
  have t63:=TV 63 (by decide)
  have t64:=TV 64 (by decide)
  have t65:=TV 65 (by decide)
  have t66:=TV 66 (by decide)
  have t67:=TV 67 (by decide)
  have t68:=TV 68 (by decide)
  have t69:=TV 69 (by decide)
  have t70:=TV 70 (by decide)
  have t71:=TV 71 (by decide)
  exact⟨I.dfr,(zQ _ _ _).trans I.sz,fun j hj=>by rw[TM _ _ (by decide),if_neg (by omega)];exact I.frm j hj,(by rw[f14];exact I.bel),(by rw[f2,f8,f10,t60,t68];exact I.s0),(by rw[f6,t64];exact I.s1),(by rw[f7,t65];exact I.s2),(by rw[f8,f2,f7,t66,f11];exact I.s3),(by rw[f9,t67];exact I.s4),(by rw[f10,f9,t68,f11];exact I.s5),(by rw[f11,f8,f10,t69,f14];exact I.s6),(by rw[f13,t71];exact I.s7),(by rw[f14,f11];exact I.s8),(by rw[f0,t58];exact I.p0),(fun _=>t59),(by rw[f3,t61];exact I.p3),(by rw[f4,t62];exact I.p4),(by rw[f5,t63];exact I.p5),(by rw[f12,t70];exact I.p12)⟩
 ·have ho2:some _=some o:=ho
  obtain rfl:=jh9 ho2
  have n3:fl l 8=false:=by
   cases h:fl l 8 with
   | false=>rfl
   | true=>exact absurd ((I.s3 h).1) (by rw[hfi];decide)
  have n6:fl l 11=false:=by
   cases h:fl l 11 with
   | false=>rfl
   | true=>exact absurd ((I.s3 (I.s6 h).1).1) (by rw[hfi];decide)
  have n8:fl l 14=false:=by
   cases h:fl l 14 with
   | false=>rfl
   | true=>exact absurd ((I.s3 (I.s6 (I.s8 h).1).1).1) (by rw[hfi];decide)
  have bl:=I.bel n8
  have al:=Vw w (.cells #[] 71)
  refine zF ho rfl (Ud rfl ?_)
  show Reg a0 W3 nb kk N C n fv cf x y (l.setIfInBounds 2 true) (a.put (some 60) (sl w.heap.size 0 0)) (w.alloc (.cells #[] 71))
  have f6:=FX 6 (by decide)
  have f7:=FX 7 (by decide)
  have f8:=FX 8 (by decide)
  have f9:=FX 9 (by decide)
  have f10:=FX 10 (by decide)
  have f11:=FX 11 (by decide)
  have f13:=FX 13 (by decide)
  have f14:=FX 14 (by decide)
  have f0:=FX 0 (by decide)
  have f1:=FX 1 (by decide)
  have f3:=FX 3 (by decide)
  have f4:=FX 4 (by decide)
  have f5:=FX 5 (by decide)
  have f12:=FX 12 (by decide)
  have t60:=TI 60 (sl w.heap.size 0 0) (by decide)
  have TV:=TX 60 (sl w.heap.size 0 0) (by decide)
  have t64:=TV 64 (by decide)
  have t65:=TV 65 (by decide)
  have t67:=TV 67 (by decide)
  have t68:=TV 68 (by decide)
  have t71:=TV 71 (by decide)
  have t58:=TV 58 (by decide)
  have t59:=TV 59 (by decide)
  have t61:=TV 61 (by decide)
  have t62:=TV 62 (by decide)
  have t63:=TV 63 (by decide)
  have t70:=TV 70 (by decide)
  exact⟨I.dfr,(zQ _ _ _).trans I.sz,fun j hj=>by rw[TM _ _ (by decide),if_neg (by omega)];exact I.frm j hj,(fun _=>bl.trans (al.mono bl.size)),(fun _=>⟨w.heap.size,t60,by rw[f8,f10,t68];exact fun _=>⟨bl.size,QP w _ 2,fun h5 B5 hB5=>by obtain⟨_,B6,e6,h6⟩:=I.s5 h5;rw[e6]at hB5;cases hB5;have:=(h6 n6).2.lt;omega⟩⟩),(by rw[f6,t64];exact I.s1),(by rw[f7,t65];exact I.s2),(by rw[f8,n3];exact fun h=>by cases h),(by rw[f9,t67];exact I.s4),(by rw[f10,f9,t68,f11];exact fun h=>(by obtain⟨q4,B6,e6,h6⟩:=I.s5 h;exact⟨q4,B6,e6,fun q=>⟨(h6 q).1,jb (h6 q).2 al (h6 q).2.lt⟩⟩)),(by rw[f11,n6];exact fun h=>by cases h),(by rw[f13,t71];exact I.s7),(by rw[f14,n8];exact fun h=>by cases h),(by rw[f0,t58];exact I.p0),(by rw[f1,t59];exact I.p1),(by rw[f3,t61];exact I.p3),(by rw[f4,t62];exact I.p4),(by rw[f5,t63];exact I.p5),(by rw[f12,t70];exact I.p12)⟩
 ·have ho2:some _=some o:=ho
  obtain rfl:=jh9 ho2
  refine zF ho rfl (jea rfl e4 ?_)
  show Reg a0 W3 nb kk N C n fv cf x y (l.setIfInBounds 3 true) (a.put (some 61) (sl nb N C)) w
  have f0:=FX 0 (by decide)
  have f1:=FX 1 (by decide)
  have f2:=FX 2 (by decide)
  have f4:=FX 4 (by decide)
  have f5:=FX 5 (by decide)
  have f6:=FX 6 (by decide)
  have f7:=FX 7 (by decide)
  have f8:=FX 8 (by decide)
  have f9:=FX 9 (by decide)
  have f10:=FX 10 (by decide)
  have f11:=FX 11 (by decide)
  have f12:=FX 12 (by decide)
  have f13:=FX 13 (by decide)
  have f14:=FX 14 (by decide)
  have TV:=TX 61 (sl nb N C) (by decide)
  have t58:=TV 58 (by decide)
  have t59:=TV 59 (by decide)
  have t60:=TV 60 (by decide)
  have t61:=TI 61 (sl nb N C) (by decide)
  have t62:=TV 62 (by decide)
  have t63:=TV 63 (by decide)
  have t64:=TV 64 (by decide)
  have t65:=TV 65 (by decide)
  have t66:=TV 66 (by decide)
  have t67:=TV 67 (by decide)
  have t68:=TV 68 (by decide)
  have t69:=TV 69 (by decide)
  have t70:=TV 70 (by decide)
  have t71:=TV 71 (by decide)
  exact⟨I.dfr,(zQ _ _ _).trans I.sz,fun j hj=>by rw[TM _ _ (by decide),if_neg (by omega)];exact I.frm j hj,(by rw[f14];exact I.bel),(by rw[f2,f8,f10,t60,t68];exact I.s0),(by rw[f6,t64];exact I.s1),(by rw[f7,t65];exact I.s2),(by rw[f8,f2,f7,t66,f11];exact I.s3),(by rw[f9,t67];exact I.s4),(by rw[f10,f9,t68,f11];exact I.s5),(by rw[f11,f8,f10,t69,f14];exact I.s6),(by rw[f13,t71];exact I.s7),(by rw[f14,f11];exact I.s8),(by rw[f0,t58];exact I.p0),(by rw[f1,t59];exact I.p1),(fun _=>t61),(by rw[f4,t62];exact I.p4),(by rw[f5,t63];exact I.p5),(by rw[f12,t70];exact I.p12)⟩
 ·have ho2:some _=some o:=ho
  obtain rfl:=jh9 ho2
  refine zF ho rfl (jea rfl e10 ?_)
  show Reg a0 W3 nb kk N C n fv cf x y (l.setIfInBounds 4 true) (a.put (some 62) (.int .i64 (kk:Int))) w
  have f0:=FX 0 (by decide)
  have f1:=FX 1 (by decide)
  have f2:=FX 2 (by decide)
  have f3:=FX 3 (by decide)
  have f5:=FX 5 (by decide)
  have f6:=FX 6 (by decide)
  have f7:=FX 7 (by decide)
  have f8:=FX 8 (by decide)
  have f9:=FX 9 (by decide)
  have f10:=FX 10 (by decide)
  have f11:=FX 11 (by decide)
  have f12:=FX 12 (by decide)
  have f13:=FX 13 (by decide)
  have f14:=FX 14 (by decide)
  have TV:=TX 62 (.int .i64 (kk:Int)) (by decide)
  have t58:=TV 58 (by decide)
  have t59:=TV 59 (by decide)
  have t60:=TV 60 (by decide)
  have t61:=TV 61 (by decide)
  have t62:=TI 62 (.int .i64 (kk:Int)) (by decide)
  have t63:=TV 63 (by decide)
  have t64:=TV 64 (by decide)
  have t65:=TV 65 (by decide)
  have t66:=TV 66 (by decide)
  have t67:=TV 67 (by decide)
  have t68:=TV 68 (by decide)
  have t69:=TV 69 (by decide)
  have t70:=TV 70 (by decide)
  have t71:=TV 71 (by decide)
  exact⟨I.dfr,(zQ _ _ _).trans I.sz,fun j hj=>by rw[TM _ _ (by decide),if_neg (by omega)];exact I.frm j hj,(by rw[f14];exact I.bel),(by rw[f2,f8,f10,t60,t68];exact I.s0),(by rw[f6,t64];exact I.s1),(by rw[f7,t65];exact I.s2),(by rw[f8,f2,f7,t66,f11];exact I.s3),(by rw[f9,t67];exact I.s4),(by rw[f10,f9,t68,f11];exact I.s5),(by rw[f11,f8,f10,t69,f14];exact I.s6),(by rw[f13,t71];exact I.s7),(by rw[f14,f11];exact I.s8),(by rw[f0,t58];exact I.p0),(by rw[f1,t59];exact I.p1),(by rw[f3,t61];exact I.p3),(fun _=>t62),(by rw[f5,t63];exact I.p5),(by rw[f12,t70];exact I.p12)⟩
 ·have ho2:some _=some o:=ho
  obtain rfl:=jh9 ho2
  have da:fl l 3=true:=dep ⟨3,Ground.data⟩ (by simp[zN]) rfl
  have db:fl l 4=true:=dep ⟨4,Ground.data⟩ (by simp[zN]) rfl
  refine zF ho rfl (GI rfl (ev 61 _ (I.p3 da)) (ev 62 _ (I.p4 db)) hkN ?_)
  show Reg a0 W3 nb kk N C n fv cf x y (l.setIfInBounds 5 true) (a.put (some 63) (.pointer (some ⟨nb,kk*3,none⟩))) w
  have f0:=FX 0 (by decide)
  have f1:=FX 1 (by decide)
  have f2:=FX 2 (by decide)
  have f3:=FX 3 (by decide)
  have f4:=FX 4 (by decide)
  have f6:=FX 6 (by decide)
  have f7:=FX 7 (by decide)
  have f8:=FX 8 (by decide)
  have f9:=FX 9 (by decide)
  have f10:=FX 10 (by decide)
  have f11:=FX 11 (by decide)
  have f12:=FX 12 (by decide)
  have f13:=FX 13 (by decide)
  have f14:=FX 14 (by decide)
  have TV:=TX 63 (.pointer (some ⟨nb,kk*3,none⟩)) (by decide)
  have t58:=TV 58 (by decide)
  have t59:=TV 59 (by decide)
  have t60:=TV 60 (by decide)
  have t61:=TV 61 (by decide)
  have t62:=TV 62 (by decide)
  have t63:=TI 63 (.pointer (some ⟨nb,kk*3,none⟩)) (by decide)
  have t64:=TV 64 (by decide)
  have t65:=TV 65 (by decide)
  have t66:=TV 66 (by decide)
  have t67:=TV 67 (by decide)
  have t68:=TV 68 (by decide)
  have t69:=TV 69 (by decide)
  have t70:=TV 70 (by decide)
  have t71:=TV 71 (by decide)
  exact⟨I.dfr,(zQ _ _ _).trans I.sz,fun j hj=>by rw[TM _ _ (by decide),if_neg (by omega)];exact I.frm j hj,(by rw[f14];exact I.bel),(by rw[f2,f8,f10,t60,t68];exact I.s0),(by rw[f6,t64];exact I.s1),(by rw[f7,t65];exact I.s2),(by rw[f8,f2,f7,t66,f11];exact I.s3),(by rw[f9,t67];exact I.s4),(by rw[f10,f9,t68,f11];exact I.s5),(by rw[f11,f8,f10,t69,f14];exact I.s6),(by rw[f13,t71];exact I.s7),(by rw[f14,f11];exact I.s8),(by rw[f0,t58];exact I.p0),(by rw[f1,t59];exact I.p1),(by rw[f3,t61];exact I.p3),(by rw[f4,t62];exact I.p4),(fun _=>t63),(by rw[f12,t70];exact I.p12)⟩
 ·have ho2:some _=some o:=ho
  obtain rfl:=jh9 ho2
  have dd:fl l 5=true:=dep ⟨5,Ground.data⟩ (by simp[zN]) rfl
  refine zF ho rfl (JQ rfl (ev 63 _ (I.p5 dd)) ?_)
  show Reg a0 W3 nb kk N C n fv cf x y (l.setIfInBounds 6 true) (a.put (some 64) (.pointer (some ⟨nb,kk*3+2,none⟩))) w
  have f2:=FX 2 (by decide)
  have f7:=FX 7 (by decide)
  have f8:=FX 8 (by decide)
  have f9:=FX 9 (by decide)
  have f10:=FX 10 (by decide)
  have f11:=FX 11 (by decide)
  have f13:=FX 13 (by decide)
  have f14:=FX 14 (by decide)
  have f0:=FX 0 (by decide)
  have f1:=FX 1 (by decide)
  have f3:=FX 3 (by decide)
  have f4:=FX 4 (by decide)
  have f5:=FX 5 (by decide)
  have f12:=FX 12 (by decide)
  have TV:=TX 64 (.pointer (some ⟨nb,kk*3+2,none⟩)) (by decide)
  have t60:=TV 60 (by decide)
  have t64:=TI 64 (.pointer (some ⟨nb,kk*3+2,none⟩)) (by decide)
  have t65:=TV 65 (by decide)
  have t66:=TV 66 (by decide)
  have t67:=TV 67 (by decide)
  have t68:=TV 68 (by decide)
  have t69:=TV 69 (by decide)
  have t71:=TV 71 (by decide)
  have t58:=TV 58 (by decide)
  have t59:=TV 59 (by decide)
  have t61:=TV 61 (by decide)
  have t62:=TV 62 (by decide)
  have t63:=TV 63 (by decide)
  have t70:=TV 70 (by decide)
  exact⟨I.dfr,(zQ _ _ _).trans I.sz,fun j hj=>by rw[TM _ _ (by decide),if_neg (by omega)];exact I.frm j hj,(by rw[f14];exact I.bel),(by rw[f2,f8,f10,t60,t68];exact I.s0),(fun _=>t64),(by rw[f7,t65];exact I.s2),(by rw[f8,f2,f7,t66,f11];exact I.s3),(by rw[f9,t67];exact I.s4),(by rw[f10,f9,t68,f11];exact I.s5),(by rw[f11,f8,f10,t69,f14];exact I.s6),(by rw[f13,t71];exact I.s7),(by rw[f14,f11];exact I.s8),(by rw[f0,t58];exact I.p0),(by rw[f1,t59];exact I.p1),(by rw[f3,t61];exact I.p3),(by rw[f4,t62];exact I.p4),(by rw[f5,t63];exact I.p5),(by rw[f12,t70];exact I.p12)⟩
 ·have ho2:some _=some o:=ho
  obtain rfl:=jh9 ho2
  have d1:fl l 6=true:=dep ⟨6,Ground.data⟩ (by simp[zN]) rfl
  have n8:fl l 14=false:=by
   cases h:fl l 14 with
   | false=>rfl
   | true=>exact absurd ((I.s3 (I.s6 (I.s8 h).1).1).2.1) (by rw[hfi];decide)
  have bl:=I.bel n8
  refine zF ho rfl (Xv rfl (ev 64 _ (I.s1 d1)) ((bl.cell (p:=⟨nb,kk*3+2,none⟩) hnb).trans hVC) ?_)
  show Reg a0 W3 nb kk N C n fv cf x y (l.setIfInBounds 7 true) (a.put (some 65) fv) w
  have f2:=FX 2 (by decide)
  have f6:=FX 6 (by decide)
  have f7:=FI
  have f8:=FX 8 (by decide)
  have f9:=FX 9 (by decide)
  have f10:=FX 10 (by decide)
  have f11:=FX 11 (by decide)
  have f13:=FX 13 (by decide)
  have f14:=FX 14 (by decide)
  have f0:=FX 0 (by decide)
  have f1:=FX 1 (by decide)
  have f3:=FX 3 (by decide)
  have f4:=FX 4 (by decide)
  have f5:=FX 5 (by decide)
  have f12:=FX 12 (by decide)
  have TV:=TX 65 fv (by decide)
  have t60:=TV 60 (by decide)
  have t64:=TV 64 (by decide)
  have t65:=TI 65 fv (by decide)
  have t66:=TV 66 (by decide)
  have t67:=TV 67 (by decide)
  have t68:=TV 68 (by decide)
  have t69:=TV 69 (by decide)
  have t71:=TV 71 (by decide)
  have t58:=TV 58 (by decide)
  have t59:=TV 59 (by decide)
  have t61:=TV 61 (by decide)
  have t62:=TV 62 (by decide)
  have t63:=TV 63 (by decide)
  have t70:=TV 70 (by decide)
  exact⟨I.dfr,(zQ _ _ _).trans I.sz,fun j hj=>by rw[TM _ _ (by decide),if_neg (by omega)];exact I.frm j hj,(by rw[f14];exact I.bel),(by rw[f2,f8,f10,t60,t68];exact I.s0),(by rw[f6,t64];exact I.s1),(fun _=>t65),(by rw[f8,f2,t66,f11];exact fun h=>(by obtain⟨q0,_,q⟩:=I.s3 h;exact⟨q0,f7,q⟩)),(by rw[f9,t67];exact I.s4),(by rw[f10,f9,t68,f11];exact I.s5),(by rw[f11,f8,f10,t69,f14];exact I.s6),(by rw[f13,t71];exact I.s7),(by rw[f14,f11];exact I.s8),(by rw[f0,t58];exact I.p0),(by rw[f1,t59];exact I.p1),(by rw[f3,t61];exact I.p3),(by rw[f4,t62];exact I.p4),(by rw[f5,t63];exact I.p5),(by rw[f12,t70];exact I.p12)⟩
 ·have ho2:some _=some o:=ho
  obtain rfl:=jh9 ho2
  have d0:fl l 2=true:=dep ⟨2,Ground.data⟩ (by simp[zN]) rfl
  have d2:fl l 7=true:=dep ⟨7,Ground.data⟩ (by simp[zN]) rfl
  have n6:fl l 11=false:=by
   cases h:fl l 11 with
   | false=>rfl
   | true=>exact absurd ((I.s6 h).1) (by rw[hfi];decide)
  have n8:fl l 14=false:=by
   cases h:fl l 14 with
   | false=>rfl
   | true=>exact absurd ((I.s6 (I.s8 h).1).1) (by rw[hfi];decide)
  have bl:=I.bel n8
  obtain⟨B,eB,hr⟩:=I.s0 d0
  obtain⟨q1,q2,q3⟩:=hr hfi
  have e6:=ev 60 _ eB
  have e8:=ev 65 _ (I.s2 d2)
  rcases jiY hrow with ⟨hfv,hn0⟩|⟨g,cap,hfv⟩
  ·obtain rfl:n=0:=hn0
   have hcf:cf=[]:=List.length_eq_zero_iff.1 (by have:=hrow.1;omega)
   refine zF ho rfl (Zv rfl e6 (by rw[e8,hfv]) ?_)
   show Reg a0 W3 nb kk N C 0 fv cf x y (l.setIfInBounds 8 true) (a.put (some 66) (sl B 0 0)) w
   have f2:fl (l.setIfInBounds 8 true) 2=fl l 2:=by rw[FL,if_neg (by decide)]
   have f6:fl (l.setIfInBounds 8 true) 6=fl l 6:=by rw[FL,if_neg (by decide)]
   have f7:fl (l.setIfInBounds 8 true) 7=fl l 7:=by rw[FL,if_neg (by decide)]
   have f8:fl (l.setIfInBounds 8 true) 8=true:=by rw[FL,if_pos rfl]
   have f9:fl (l.setIfInBounds 8 true) 9=fl l 9:=by rw[FL,if_neg (by decide)]
   have f10:fl (l.setIfInBounds 8 true) 10=fl l 10:=by rw[FL,if_neg (by decide)]
   have f11:fl (l.setIfInBounds 8 true) 11=fl l 11:=by rw[FL,if_neg (by decide)]
   have f13:fl (l.setIfInBounds 8 true) 13=fl l 13:=by rw[FL,if_neg (by decide)]
   have f14:fl (l.setIfInBounds 8 true) 14=fl l 14:=by rw[FL,if_neg (by decide)]
   have f0:fl (l.setIfInBounds 8 true) 0=fl l 0:=by rw[FL,if_neg (by decide)]
   have f1:fl (l.setIfInBounds 8 true) 1=fl l 1:=by rw[FL,if_neg (by decide)]
   have f3:fl (l.setIfInBounds 8 true) 3=fl l 3:=by rw[FL,if_neg (by decide)]
   have f4:fl (l.setIfInBounds 8 true) 4=fl l 4:=by rw[FL,if_neg (by decide)]
   have f5:fl (l.setIfInBounds 8 true) 5=fl l 5:=by rw[FL,if_neg (by decide)]
   have f12:fl (l.setIfInBounds 8 true) 12=fl l 12:=by rw[FL,if_neg (by decide)]
   have t60:(a.put (some 66) (sl B 0 0)).tmps[60]?=a.tmps[60]?:=by rw[TM _ _ (by decide),if_neg (by decide)]
   have t64:(a.put (some 66) (sl B 0 0)).tmps[64]?=a.tmps[64]?:=by rw[TM _ _ (by decide),if_neg (by decide)]
   have t65:(a.put (some 66) (sl B 0 0)).tmps[65]?=a.tmps[65]?:=by rw[TM _ _ (by decide),if_neg (by decide)]
   have t66:(a.put (some 66) (sl B 0 0)).tmps[66]?=some (sl B 0 0):=by rw[TM _ _ (by decide),if_pos rfl]
   have t67:(a.put (some 66) (sl B 0 0)).tmps[67]?=a.tmps[67]?:=by rw[TM _ _ (by decide),if_neg (by decide)]
   have t68:(a.put (some 66) (sl B 0 0)).tmps[68]?=a.tmps[68]?:=by rw[TM _ _ (by decide),if_neg (by decide)]
   have t69:(a.put (some 66) (sl B 0 0)).tmps[69]?=a.tmps[69]?:=by rw[TM _ _ (by decide),if_neg (by decide)]
   have t71:(a.put (some 66) (sl B 0 0)).tmps[71]?=a.tmps[71]?:=by rw[TM _ _ (by decide),if_neg (by decide)]
   have t58:(a.put (some 66) (sl B 0 0)).tmps[58]?=a.tmps[58]?:=by rw[TM _ _ (by decide),if_neg (by decide)]
   have t59:(a.put (some 66) (sl B 0 0)).tmps[59]?=a.tmps[59]?:=by rw[TM _ _ (by decide),if_neg (by decide)]
   have t61:(a.put (some 66) (sl B 0 0)).tmps[61]?=a.tmps[61]?:=by rw[TM _ _ (by decide),if_neg (by decide)]
   have t62:(a.put (some 66) (sl B 0 0)).tmps[62]?=a.tmps[62]?:=by rw[TM _ _ (by decide),if_neg (by decide)]
   have t63:(a.put (some 66) (sl B 0 0)).tmps[63]?=a.tmps[63]?:=by rw[TM _ _ (by decide),if_neg (by decide)]
   have t70:(a.put (some 66) (sl B 0 0)).tmps[70]?=a.tmps[70]?:=by rw[TM _ _ (by decide),if_neg (by decide)]
   exact⟨I.dfr,(zQ _ _ _).trans I.sz,fun j hj=>by rw[TM _ _ (by decide),if_neg (by omega)];exact I.frm j hj,(by rw[f14];exact I.bel),(by rw[f2,t60];exact fun _=>⟨B,eB,fun h=>by rw[f8]at h;cases h⟩),(by rw[f6,t64];exact I.s1),(by rw[f7,t65];exact I.s2),(fun _=>⟨by rw[f2];exact d0,by rw[f7];exact d2,B,0,t66,fun _=>by rw[hcf];exact Xe q2 q1⟩),(by rw[f9,t67];exact I.s4),(by rw[f10,f9,t68,f11];exact I.s5),(by rw[f11,n6];exact fun h=>by cases h),(by rw[f13,t71];exact I.s7),(by rw[f14,n8];exact fun h=>by cases h),(by rw[f0,t58];exact I.p0),(by rw[f1,t59];exact I.p1),(by rw[f3,t61];exact I.p3),(by rw[f4,t62];exact I.p4),(by rw[f5,t63];exact I.p5),(by rw[f12,t70];exact I.p12)⟩
  refine zF ho rfl (xu rfl rfl (sl B 0 0) 0 [] e6 q2 ⟨g,0,none⟩ n cap cf (by rw[e8,hfv]) hrow.1 ?hc h1 (by omega) ?_)
  case hc =>
   intro j u hj
   have hjl:j<n*2:=by
    rw[<- hrow.1]
    rcases jir j cf.length with q|q
    ·exact q
    rw[jis q]at hj;cases hj
   have ea:(⟨g,0,none⟩:Addr).add j=⟨g,j,none⟩:=by unfold Addr.add;split<;>simp_all
   have hr2:=hrow
   rw[hfv]at hr2
   rw[ea,bl.cell (p:=⟨g,j,none⟩) (hr2.lt g rfl).2,jin hr2 j hjl];exact hj
  intro v' w' o1 gr bk
  obtain⟨g1,c1,rfl,lo1,own1⟩:=Vy (lo:=W3.heap.size) o1 bk q1 bl.size
  rw[jiH,ji4]at own1
  rw[jiH]
  show Reg a0 W3 nb kk N C n fv cf x y (l.setIfInBounds 8 true) (a.put (some 66) (sl g1 n c1)) w'
  have f2:fl (l.setIfInBounds 8 true) 2=fl l 2:=by rw[FL,if_neg (by decide)]
  have f6:fl (l.setIfInBounds 8 true) 6=fl l 6:=by rw[FL,if_neg (by decide)]
  have f7:fl (l.setIfInBounds 8 true) 7=fl l 7:=by rw[FL,if_neg (by decide)]
  have f8:fl (l.setIfInBounds 8 true) 8=true:=by rw[FL,if_pos rfl]
  have f9:fl (l.setIfInBounds 8 true) 9=fl l 9:=by rw[FL,if_neg (by decide)]
  have f10:fl (l.setIfInBounds 8 true) 10=fl l 10:=by rw[FL,if_neg (by decide)]
  have f11:fl (l.setIfInBounds 8 true) 11=fl l 11:=by rw[FL,if_neg (by decide)]
  have f13:fl (l.setIfInBounds 8 true) 13=fl l 13:=by rw[FL,if_neg (by decide)]
  have f14:fl (l.setIfInBounds 8 true) 14=fl l 14:=by rw[FL,if_neg (by decide)]
  have f0:fl (l.setIfInBounds 8 true) 0=fl l 0:=by rw[FL,if_neg (by decide)]
  have f1:fl (l.setIfInBounds 8 true) 1=fl l 1:=by rw[FL,if_neg (by decide)]
  have f3:fl (l.setIfInBounds 8 true) 3=fl l 3:=by rw[FL,if_neg (by decide)]
  have f4:fl (l.setIfInBounds 8 true) 4=fl l 4:=by rw[FL,if_neg (by decide)]
  have f5:fl (l.setIfInBounds 8 true) 5=fl l 5:=by rw[FL,if_neg (by decide)]
  have f12:fl (l.setIfInBounds 8 true) 12=fl l 12:=by rw[FL,if_neg (by decide)]
  have t60:(a.put (some 66) (sl g1 n c1)).tmps[60]?=a.tmps[60]?:=by rw[TM _ _ (by decide),if_neg (by decide)]
  have t64:(a.put (some 66) (sl g1 n c1)).tmps[64]?=a.tmps[64]?:=by rw[TM _ _ (by decide),if_neg (by decide)]
  have t65:(a.put (some 66) (sl g1 n c1)).tmps[65]?=a.tmps[65]?:=by rw[TM _ _ (by decide),if_neg (by decide)]
  have t66:(a.put (some 66) (sl g1 n c1)).tmps[66]?=some (sl g1 n c1):=by rw[TM _ _ (by decide),if_pos rfl]
  have t67:(a.put (some 66) (sl g1 n c1)).tmps[67]?=a.tmps[67]?:=by rw[TM _ _ (by decide),if_neg (by decide)]
  have t68:(a.put (some 66) (sl g1 n c1)).tmps[68]?=a.tmps[68]?:=by rw[TM _ _ (by decide),if_neg (by decide)]
  have t69:(a.put (some 66) (sl g1 n c1)).tmps[69]?=a.tmps[69]?:=by rw[TM _ _ (by decide),if_neg (by decide)]
  have t71:(a.put (some 66) (sl g1 n c1)).tmps[71]?=a.tmps[71]?:=by rw[TM _ _ (by decide),if_neg (by decide)]
  have t58:(a.put (some 66) (sl g1 n c1)).tmps[58]?=a.tmps[58]?:=by rw[TM _ _ (by decide),if_neg (by decide)]
  have t59:(a.put (some 66) (sl g1 n c1)).tmps[59]?=a.tmps[59]?:=by rw[TM _ _ (by decide),if_neg (by decide)]
  have t61:(a.put (some 66) (sl g1 n c1)).tmps[61]?=a.tmps[61]?:=by rw[TM _ _ (by decide),if_neg (by decide)]
  have t62:(a.put (some 66) (sl g1 n c1)).tmps[62]?=a.tmps[62]?:=by rw[TM _ _ (by decide),if_neg (by decide)]
  have t63:(a.put (some 66) (sl g1 n c1)).tmps[63]?=a.tmps[63]?:=by rw[TM _ _ (by decide),if_neg (by decide)]
  have t70:(a.put (some 66) (sl g1 n c1)).tmps[70]?=a.tmps[70]?:=by rw[TM _ _ (by decide),if_neg (by decide)]
  exact⟨I.dfr,(zQ _ _ _).trans I.sz,fun j hj=>by rw[TM _ _ (by decide),if_neg (by omega)];exact I.frm j hj,(fun _=>bl.grown gr bl.size (fun k hk=>by cases hk;exact q1)),(by rw[f2,t60];exact fun _=>⟨B,eB,fun h=>by rw[f8]at h;cases h⟩),(by rw[f6,t64];exact I.s1),(by rw[f7,t65];exact I.s2),(fun _=>⟨by rw[f2];exact d0,by rw[f7];exact d2,g1,c1,t66,fun _=>own1⟩),(by rw[f9,t67];exact I.s4),(by rw[f10,f9,t68,f11];exact fun h=>(by obtain⟨q4,B6,e7,h6⟩:=I.s5 h;exact⟨q4,B6,e7,fun q=>⟨(h6 q).1,jd.grown (h6 q).2 gr (fun e=>q3 h B6 e7 (jh9 e))⟩⟩)),(by rw[f11,n6];exact fun h=>by cases h),(by rw[f13,t71];exact I.s7),(by rw[f14,n8];exact fun h=>by cases h),(by rw[f0,t58];exact I.p0),(by rw[f1,t59];exact I.p1),(by rw[f3,t61];exact I.p3),(by rw[f4,t62];exact I.p4),(by rw[f5,t63];exact I.p5),(by rw[f12,t70];exact I.p12)⟩
 ·have ho2:some _=some o:=ho
  obtain rfl:=jh9 ho2
  have n8:fl l 14=false:=by
   cases h:fl l 14 with
   | false=>rfl
   | true=>exact absurd ((I.s5 (I.s6 (I.s8 h).1).2.1).1) (by rw[hfi];decide)
  have bl:=I.bel n8
  refine zF ho rfl (Xu rfl e13 ((bl.cell (p:=⟨fb,0,none⟩) hFB.lt).trans (hFB.cell 0)) ((bl.cell (p:=⟨fb,1,none⟩) hFB.lt).trans (hFB.cell 1)) ?_)
  show Reg a0 W3 nb kk N C n fv cf x y (l.setIfInBounds 9 true) (a.put (some 67) (.agg #[.string x,.string y])) w
  have f2:=FX 2 (by decide)
  have f6:=FX 6 (by decide)
  have f7:=FX 7 (by decide)
  have f8:=FX 8 (by decide)
  have f9:=FI
  have f10:=FX 10 (by decide)
  have f11:=FX 11 (by decide)
  have f13:=FX 13 (by decide)
  have f14:=FX 14 (by decide)
  have f0:=FX 0 (by decide)
  have f1:=FX 1 (by decide)
  have f3:=FX 3 (by decide)
  have f4:=FX 4 (by decide)
  have f5:=FX 5 (by decide)
  have f12:=FX 12 (by decide)
  have TV:=TX 67 (.agg #[.string x,.string y]) (by decide)
  have t60:=TV 60 (by decide)
  have t64:=TV 64 (by decide)
  have t65:=TV 65 (by decide)
  have t66:=TV 66 (by decide)
  have t67:=TI 67 (.agg #[.string x,.string y]) (by decide)
  have t68:=TV 68 (by decide)
  have t69:=TV 69 (by decide)
  have t71:=TV 71 (by decide)
  have t58:=TV 58 (by decide)
  have t59:=TV 59 (by decide)
  have t61:=TV 61 (by decide)
  have t62:=TV 62 (by decide)
  have t63:=TV 63 (by decide)
  have t70:=TV 70 (by decide)
  exact⟨I.dfr,(zQ _ _ _).trans I.sz,fun j hj=>by rw[TM _ _ (by decide),if_neg (by omega)];exact I.frm j hj,(by rw[f14];exact I.bel),(by rw[f2,f8,f10,t60,t68];exact I.s0),(by rw[f6,t64];exact I.s1),(by rw[f7,t65];exact I.s2),(by rw[f8,f2,f7,t66,f11];exact I.s3),(fun _=>t67),(by rw[f10,t68,f11];exact fun h=>(by obtain⟨_,q⟩:=I.s5 h;exact⟨f9,q⟩)),(by rw[f11,f8,f10,t69,f14];exact I.s6),(by rw[f13,t71];exact I.s7),(by rw[f14,f11];exact I.s8),(by rw[f0,t58];exact I.p0),(by rw[f1,t59];exact I.p1),(by rw[f3,t61];exact I.p3),(by rw[f4,t62];exact I.p4),(by rw[f5,t63];exact I.p5),(by rw[f12,t70];exact I.p12)⟩
 ·have ho2:some _=some o:=ho
  obtain rfl:=jh9 ho2
  have d4:fl l 9=true:=dep ⟨9,Ground.data⟩ (by simp[zN]) rfl
  have n6:fl l 11=false:=by
   cases h:fl l 11 with
   | false=>rfl
   | true=>exact absurd ((I.s6 h).2.1) (by rw[hfi];decide)
  have n8:fl l 14=false:=by
   cases h:fl l 14 with
   | false=>rfl
   | true=>exact absurd ((I.s6 (I.s8 h).1).2.1) (by rw[hfi];decide)
  have bl:=I.bel n8
  have al:=Vw w (.cells #[.string x,.string y] 71)
  refine zF ho rfl (Uc rfl (ev 67 _ (I.s4 d4)) ?_)
  show Reg a0 W3 nb kk N C n fv cf x y (l.setIfInBounds 10 true) (a.put (some 68) (sl w.heap.size 1 1)) (w.alloc (.cells #[.string x,.string y] 71))
  have f2:=FX 2 (by decide)
  have f6:=FX 6 (by decide)
  have f7:=FX 7 (by decide)
  have f8:=FX 8 (by decide)
  have f9:=FX 9 (by decide)
  have f11:=FX 11 (by decide)
  have f13:=FX 13 (by decide)
  have f14:=FX 14 (by decide)
  have f0:=FX 0 (by decide)
  have f1:=FX 1 (by decide)
  have f3:=FX 3 (by decide)
  have f4:=FX 4 (by decide)
  have f5:=FX 5 (by decide)
  have f12:=FX 12 (by decide)
  have TV:=TX 68 (sl w.heap.size 1 1) (by decide)
  have t60:=TV 60 (by decide)
  have t64:=TV 64 (by decide)
  have t65:=TV 65 (by decide)
  have t66:=TV 66 (by decide)
  have t67:=TV 67 (by decide)
  have t68:=TI 68 (sl w.heap.size 1 1) (by decide)
  have t71:=TV 71 (by decide)
  have t58:=TV 58 (by decide)
  have t59:=TV 59 (by decide)
  have t61:=TV 61 (by decide)
  have t62:=TV 62 (by decide)
  have t63:=TV 63 (by decide)
  have t70:=TV 70 (by decide)
  exact⟨I.dfr,(zQ _ _ _).trans I.sz,fun j hj=>by rw[TM _ _ (by decide),if_neg (by omega)];exact I.frm j hj,(fun _=>bl.trans (al.mono bl.size)),(by rw[f2,f8,t60,t68];exact fun h=>(by obtain⟨B,e,hr⟩:=I.s0 h;exact⟨B,e,fun h3=>(by obtain⟨q1,q2,q3⟩:=hr h3;exact⟨q1,zu q2 al (jh6 _),fun _ B5 hB5=>by cases hB5;have:=(q2.lt B rfl).2;omega⟩)⟩)),(by rw[f6,t64];exact I.s1),(by rw[f7,t65];exact I.s2),(by rw[f8,f2,f7,t66,f11];exact fun h=>(by obtain⟨q0,q2,g,c,e,hr⟩:=I.s3 h;exact⟨q0,q2,g,c,e,fun h6=>zu (hr h6) al (jh6 _)⟩)),(by rw[f9,t67];exact I.s4),(fun _=>⟨by rw[f9];exact d4,w.heap.size,t68,fun _=>⟨bl.size,jd.new _ _ _⟩⟩),(by rw[f11,n6];exact fun h=>by cases h),(by rw[f13,t71];exact I.s7),(by rw[f14,n8];exact fun h=>by cases h),(by rw[f0,t58];exact I.p0),(by rw[f1,t59];exact I.p1),(by rw[f3,t61];exact I.p3),(by rw[f4,t62];exact I.p4),(by rw[f5,t63];exact I.p5),(by rw[f12,t70];exact I.p12)⟩
 ·have ho2:some _=some o:=ho
  obtain rfl:=jh9 ho2
  have d3:fl l 8=true:=dep ⟨8,Ground.data⟩ (by simp[zN]) rfl
  have d5:fl l 10=true:=dep ⟨10,Ground.data⟩ (by simp[zN]) rfl
  have n8:fl l 14=false:=by
   cases h:fl l 14 with
   | false=>rfl
   | true=>exact absurd ((I.s8 h).1) (by rw[hfi];decide)
  have bl:=I.bel n8
  obtain⟨d0,d2,g1,c1,e1,ho1⟩:=I.s3 d3
  have own1:=ho1 hfi
  obtain⟨d4,B5,e5,h5⟩:=I.s5 d5
  obtain⟨l5,cB5⟩:=h5 hfi
  refine zF ho rfl (xu rfl rfl (sl g1 n c1) n cf (ev 66 _ e1) (zd own1 (jii _)) ⟨B5,0,none⟩ 1 1 [.string x,.string y] (ev 68 _ e5) rfl (Un cB5) (by intro u hu;simp at hu;rcases hu with rfl | rfl<;>rfl) (by omega) ?_)
  intro v' w' o2 gr bk
  obtain⟨g2,c2,rfl,lo2,own2⟩:=Vy (lo:=W3.heap.size) o2 bk (own1.lt g1 rfl).1 bl.size
  show Reg a0 W3 nb kk N C n fv cf x y (l.setIfInBounds 11 true) (a.put (some 69) (sl g2 (n+1) c2)) w'
  have f2:=FX 2 (by decide)
  have f6:=FX 6 (by decide)
  have f7:=FX 7 (by decide)
  have f8:=FX 8 (by decide)
  have f9:=FX 9 (by decide)
  have f10:=FX 10 (by decide)
  have f11:=FI
  have f13:=FX 13 (by decide)
  have f14:=FX 14 (by decide)
  have f0:=FX 0 (by decide)
  have f1:=FX 1 (by decide)
  have f3:=FX 3 (by decide)
  have f4:=FX 4 (by decide)
  have f5:=FX 5 (by decide)
  have f12:=FX 12 (by decide)
  have TV:=TX 69 (sl g2 (n+1) c2) (by decide)
  have t60:=TV 60 (by decide)
  have t64:=TV 64 (by decide)
  have t65:=TV 65 (by decide)
  have t66:=TV 66 (by decide)
  have t67:=TV 67 (by decide)
  have t68:=TV 68 (by decide)
  have t69:=TI 69 (sl g2 (n+1) c2) (by decide)
  have t71:=TV 71 (by decide)
  have t58:=TV 58 (by decide)
  have t59:=TV 59 (by decide)
  have t61:=TV 61 (by decide)
  have t62:=TV 62 (by decide)
  have t63:=TV 63 (by decide)
  have t70:=TV 70 (by decide)
  exact⟨I.dfr,(zQ _ _ _).trans I.sz,fun j hj=>by rw[TM _ _ (by decide),if_neg (by omega)];exact I.frm j hj,(fun _=>bl.grown gr bl.size (fun k hk=>by cases hk;exact(own1.lt g1 rfl).1)),(by rw[f2,t60,f8,d3];exact fun h=>(by obtain⟨B,e,_⟩:=I.s0 h;exact⟨B,e,fun q=>by cases q⟩)),(by rw[f6,t64];exact I.s1),(by rw[f7,t65];exact I.s2),(by rw[f8,f2,f7,t66];exact fun _=>⟨d0,d2,g1,c1,e1,fun q=>by rw[f11]at q;cases q⟩),(by rw[f9,t67];exact I.s4),(by rw[f10,f9,t68];exact fun _=>⟨d4,B5,e5,fun q=>by rw[f11]at q;cases q⟩),(fun _=>⟨by rw[f8];exact d3,by rw[f10];exact d5,g2,c2,t69,fun _=>own2⟩),(by rw[f13,t71];exact I.s7),(by rw[f14,n8];exact fun h=>by cases h),(by rw[f0,t58];exact I.p0),(by rw[f1,t59];exact I.p1),(by rw[f3,t61];exact I.p3),(by rw[f4,t62];exact I.p4),(by rw[f5,t63];exact I.p5),(by rw[f12,t70];exact I.p12)⟩
 ·have ho2:some _=some o:=ho
  obtain rfl:=jh9 ho2
  have da:fl l 0=true:=dep ⟨0,Ground.data⟩ (by simp[zN]) rfl
  have db:fl l 1=true:=dep ⟨1,Ground.data⟩ (by simp[zN]) rfl
  refine zF ho rfl (GI rfl (ev 58 _ (I.p0 da)) (ev 59 _ (I.p1 db)) hkN ?_)
  show Reg a0 W3 nb kk N C n fv cf x y (l.setIfInBounds 12 true) (a.put (some 70) (.pointer (some ⟨nb,kk*3,none⟩))) w
  have f0:=FX 0 (by decide)
  have f1:=FX 1 (by decide)
  have f2:=FX 2 (by decide)
  have f3:=FX 3 (by decide)
  have f4:=FX 4 (by decide)
  have f5:=FX 5 (by decide)
  have f6:=FX 6 (by decide)
  have f7:=FX 7 (by decide)
  have f8:=FX 8 (by decide)
  have f9:=FX 9 (by decide)
  have f10:=FX 10 (by decide)
  have f11:=FX 11 (by decide)
  have f13:=FX 13 (by decide)
  have f14:=FX 14 (by decide)
  have TV:=TX 70 (.pointer (some ⟨nb,kk*3,none⟩)) (by decide)
  have t58:=TV 58 (by decide)
  have t59:=TV 59 (by decide)
  have t60:=TV 60 (by decide)
  have t61:=TV 61 (by decide)
  have t62:=TV 62 (by decide)
  have t63:=TV 63 (by decide)
  have t64:=TV 64 (by decide)
  have t65:=TV 65 (by decide)
  have t66:=TV 66 (by decide)
  have t67:=TV 67 (by decide)
  have t68:=TV 68 (by decide)
  have t69:=TV 69 (by decide)
  have t70:=TI 70 (.pointer (some ⟨nb,kk*3,none⟩)) (by decide)
  have t71:=TV 71 (by decide)
  exact⟨I.dfr,(zQ _ _ _).trans I.sz,fun j hj=>by rw[TM _ _ (by decide),if_neg (by omega)];exact I.frm j hj,(by rw[f14];exact I.bel),(by rw[f2,f8,f10,t60,t68];exact I.s0),(by rw[f6,t64];exact I.s1),(by rw[f7,t65];exact I.s2),(by rw[f8,f2,f7,t66,f11];exact I.s3),(by rw[f9,t67];exact I.s4),(by rw[f10,f9,t68,f11];exact I.s5),(by rw[f11,f8,f10,t69,f14];exact I.s6),(by rw[f13,t71];exact I.s7),(by rw[f14,f11];exact I.s8),(by rw[f0,t58];exact I.p0),(by rw[f1,t59];exact I.p1),(by rw[f3,t61];exact I.p3),(by rw[f4,t62];exact I.p4),(by rw[f5,t63];exact I.p5),(fun _=>t70)⟩
 ·have ho2:some _=some o:=ho
  obtain rfl:=jh9 ho2
  have dd:fl l 12=true:=dep ⟨12,Ground.data⟩ (by simp[zN]) rfl
  refine zF ho rfl (JQ rfl (ev 70 _ (I.p12 dd)) ?_)
  show Reg a0 W3 nb kk N C n fv cf x y (l.setIfInBounds 13 true) (a.put (some 71) (.pointer (some ⟨nb,kk*3+2,none⟩))) w
  have f2:=FX 2 (by decide)
  have f6:=FX 6 (by decide)
  have f7:=FX 7 (by decide)
  have f8:=FX 8 (by decide)
  have f9:=FX 9 (by decide)
  have f10:=FX 10 (by decide)
  have f11:=FX 11 (by decide)
  have f14:=FX 14 (by decide)
  have f0:=FX 0 (by decide)
  have f1:=FX 1 (by decide)
  have f3:=FX 3 (by decide)
  have f4:=FX 4 (by decide)
  have f5:=FX 5 (by decide)
  have f12:=FX 12 (by decide)
  have TV:=TX 71 (.pointer (some ⟨nb,kk*3+2,none⟩)) (by decide)
  have t60:=TV 60 (by decide)
  have t64:=TV 64 (by decide)
  have t65:=TV 65 (by decide)
  have t66:=TV 66 (by decide)
  have t67:=TV 67 (by decide)
  have t68:=TV 68 (by decide)
  have t69:=TV 69 (by decide)
  have t71:=TI 71 (.pointer (some ⟨nb,kk*3+2,none⟩)) (by decide)
  have t58:=TV 58 (by decide)
  have t59:=TV 59 (by decide)
  have t61:=TV 61 (by decide)
  have t62:=TV 62 (by decide)
  have t63:=TV 63 (by decide)
  have t70:=TV 70 (by decide)
  exact⟨I.dfr,(zQ _ _ _).trans I.sz,fun j hj=>by rw[TM _ _ (by decide),if_neg (by omega)];exact I.frm j hj,(by rw[f14];exact I.bel),(by rw[f2,f8,f10,t60,t68];exact I.s0),(by rw[f6,t64];exact I.s1),(by rw[f7,t65];exact I.s2),(by rw[f8,f2,f7,t66,f11];exact I.s3),(by rw[f9,t67];exact I.s4),(by rw[f10,f9,t68,f11];exact I.s5),(by rw[f11,f8,f10,t69,f14];exact I.s6),(fun _=>t71),(by rw[f14,f11];exact I.s8),(by rw[f0,t58];exact I.p0),(by rw[f1,t59];exact I.p1),(by rw[f3,t61];exact I.p3),(by rw[f4,t62];exact I.p4),(by rw[f5,t63];exact I.p5),(by rw[f12,t70];exact I.p12)⟩
 have ho2:some _=some o:=ho
 obtain rfl:=jh9 ho2
 have d7:fl l 13=true:=dep ⟨13,Ground.data⟩ (by simp[zN]) rfl
 have d6:fl l 11=true:=dep ⟨11,Ground.data⟩ (by simp[zN]) rfl
 have bl:=I.bel hfi
 obtain⟨d3,d5,g2,c2,e2,ho2'⟩:=I.s6 d6
 have own2:=ho2' hfi
 refine zF ho rfl (Vf rfl (ev 71 _ (I.s7 d7)) (ev 69 _ e2) ((bl.cell (p:=⟨nb,kk*3+2,none⟩) hnb).trans hVC) ((bl.frozen (p:=⟨nb,kk*3+2,none⟩) hnb).trans hVZ) ?_)
 show Reg a0 W3 nb kk N C n fv cf x y (l.setIfInBounds 14 true) a (w.setCell ⟨nb,kk*3+2,none⟩ (sl g2 (n+1) c2))
 have f2:=FX 2 (by decide)
 have f6:=FX 6 (by decide)
 have f7:=FX 7 (by decide)
 have f8:=FX 8 (by decide)
 have f9:=FX 9 (by decide)
 have f10:=FX 10 (by decide)
 have f11:=FX 11 (by decide)
 have f13:=FX 13 (by decide)
 have f14:=FI
 have f0:=FX 0 (by decide)
 have f1:=FX 1 (by decide)
 have f3:=FX 3 (by decide)
 have f4:=FX 4 (by decide)
 have f5:=FX 5 (by decide)
 have f12:=FX 12 (by decide)
 exact⟨I.dfr,I.sz,I.frm,(by rw[f14];exact fun h=>by cases h),(by rw[f2,f8,d3];exact fun h=>(by obtain⟨B,e,_⟩:=I.s0 h;exact⟨B,e,fun q=>by cases q⟩)),(by rw[f6];exact I.s1),(by rw[f7];exact I.s2),(by rw[f8,f2,f7,f11,d6];exact fun h=>(by obtain⟨q0,q2,g,c,e,_⟩:=I.s3 h;exact⟨q0,q2,g,c,e,fun q=>by cases q⟩)),(by rw[f9];exact I.s4),(by rw[f10,f9,f11,d6];exact fun h=>(by obtain⟨q4,B6,e7,_⟩:=I.s5 h;exact⟨q4,B6,e7,fun q=>by cases q⟩)),(by rw[f11,f8,f10,f14];exact fun _=>⟨d3,d5,g2,c2,e2,fun q=>by cases q⟩),(by rw[f13];exact I.s7),(fun _=>⟨by rw[f11];exact d6,w,g2,c2,bl,own2,rfl⟩),(by rw[f0];exact I.p0),(by rw[f1];exact I.p1),(by rw[f3];exact I.p3),(by rw[f4];exact I.p4),(by rw[f5];exact I.p5),(by rw[f12];exact I.p12)⟩
theorem Uf(t0 t:Array Value)(hs:t.size=t0.size)(h:∀j,(j<58\/71<j)->t[j]?=t0[j]?):
  ∃x0 x1 x2 x3 x4 x5 x6 x7 x8 x9 x10 x11 x12 x13,t=(((((((((((((t0.setIfInBounds 58 x0).setIfInBounds 59 x1).setIfInBounds 60 x2).setIfInBounds 61 x3).setIfInBounds 62 x4).setIfInBounds 63 x5).setIfInBounds 64 x6).setIfInBounds 65 x7).setIfInBounds 66 x8).setIfInBounds 67 x9).setIfInBounds 68 x10).setIfInBounds 69 x11).setIfInBounds 70 x12).setIfInBounds 71 x13:=by
 refine⟨t.getD 58 undef,t.getD 59 undef,t.getD 60 undef,t.getD 61 undef,t.getD 62 undef,t.getD 63 undef,t.getD 64 undef,t.getD 65 undef,t.getD 66 undef,t.getD 67 undef,t.getD 68 undef,t.getD 69 undef,t.getD 70 undef,t.getD 71 undef,?_⟩
 apply jjU
 intro j
 simp only[jiM,jkd]
 by_cases hj:j<58\/71<j
 ·rw[h j hj]
  rw[if_neg (by omega),if_neg (by omega),if_neg (by omega),if_neg (by omega),if_neg (by omega),if_neg (by omega),if_neg (by omega),if_neg (by omega),if_neg (by omega),if_neg (by omega),if_neg (by omega),if_neg (by omega),if_neg (by omega),if_neg (by omega)]
 have key:∀k:Nat,t[k]?=if k<t0.size then some (t[k]?.getD undef) else none:=by
  intro k
  rw[<- hs]
  by_cases hk:k<t.size
  ·rw[if_pos hk,jiQ hk];rfl
  rw[if_neg hk,jiI (by omega)]
 rcases(by omega:j=58\/j=59\/j=60\/j=61\/j=62\/j=63\/j=64\/j=65\/j=66\/j=67\/j=68\/j=69\/j=70\/j=71) with rfl|rfl|rfl|rfl|rfl|rfl|rfl|rfl|rfl|rfl|rfl|rfl|rfl|rfl<;>(simp;exact key _)
theorem region29x(a0:Act)(W3:World)(nb kk N C fb n:Nat)(fv:Value)(cf:List Value)(x y:ByteArray)(Q:Exit->Act->World->Prop)
  (h4:a0.tmps[4]?=some (sl nb N C)) (h10:a0.tmps[10]?=some (.int .i64 (kk:Int))) (h8t:a0.tmps[8]?=some (.pointer (some ⟨fb,0,none⟩))) (hkN:kk<N) (hsz:72<=a0.tmps.size)
  (hnb:nb<W3.heap.size) (hVC:W3.cell? ⟨nb,kk*3+2,none⟩=some fv) (hVZ:W3.frozen? ⟨nb,kk*3+2,none⟩=false) (hFB:jd W3 fb 71 #[.string x,.string y])
  (hrow:W3.ownsRow 0 71 2 fv n cf) (h1:∀u∈cf,u.oneCell'=true) (hn:n<=100000)
  (hQ:∀x0 x1 x2 x3 x4 x5 x6 x7 x8 x9 x10 x11 x12 x13 w2 g c,Below W3.heap.size W3 w2->w2.ownsRow W3.heap.size 71 2 (sl g (n+1) c) (n+1) (cf++[.string x,.string y])->Q .normal {tmps:=(((((((((((((a0.tmps.setIfInBounds 58 x0).setIfInBounds 59 x1).setIfInBounds 60 x2).setIfInBounds 61 x3).setIfInBounds 62 x4).setIfInBounds 63 x5).setIfInBounds 64 x6).setIfInBounds 65 x7).setIfInBounds 66 x8).setIfInBounds 67 x9).setIfInBounds 68 x10).setIfInBounds 69 x11).setIfInBounds 70 x12).setIfInBounds 71 x13,defers:=a0.defers} (w2.setCell ⟨nb,kk*3+2,none⟩ (sl g (n+1) c))) :
  (Code.region 14 zN true).wp Tryz.prog Q a0 W3:=by
 refine Xb a0 W3 nb kk N C fb n fv cf x y Q h4 h10 h8t hkN hsz hnb hVC hVZ hFB hrow h1 hn ?_
 intro a w2 g c d1 d2 d3 b o
 have hx:=Uf a0.tmps a.tmps d2 d3
 have ha:a={tmps:=a.tmps,defers:=a0.defers}:=by rw[<- d1]
 rw[ha]
 generalize a.tmps=tm at *
 obtain⟨x0,x1,x2,x3,x4,x5,x6,x7,x8,x9,x10,x11,x12,x13,e⟩:=hx
 rw[e]
 exact hQ x0 x1 x2 x3 x4 x5 x6 x7 x8 x9 x10 x11 x12 x13 w2 g c b o
end FD
end Go.Proofs.YtmdhainabeljpaaGreatDoor
