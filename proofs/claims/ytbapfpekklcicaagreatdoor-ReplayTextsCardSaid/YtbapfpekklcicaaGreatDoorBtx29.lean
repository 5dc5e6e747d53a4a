/- Texts put together:AI,AG,WP,AH. -/
import Derived.Lib.AppendZeros
import Derived.Test.YtbapfpekklcicaaGreatDoorBtx28
set_option linter.unusedVariables false
set_option maxRecDepth 100000
set_option maxHeartbeats 16000000
namespace Go.Proofs.YtbapfpekklcicaaGreatDoor
open Go.RowKit Go.Shelf Tryz
section
section
variable {K:Act->World->Prop} {Q:Exit->Act->World->Prop} {o:Oper} {a:Act} {w:World}
theorem jgE{x y z:Operand}{s:ByteArray}{i j:Nat}(h:o.op=Op.slice 9 x (some y) (some z) none)(hx:a.eval x=.string s)(b:a.eval y=.int .i64 (i:Nat))(c:a.eval z=.int .i64 (j:Nat))(g:i<=j)(k:j<=s.size)(f:K (a.put o.dst (.string (s.extract i j))) w):Oper.wp prog o a w K Q:=by
 refine jcc ?_ f;have d:(i:Int)<=(j:Int):=by omega
 have e:(j:Int)<=(s.size:Int):=by omega
 generalize a.eval=l at hx b c ⊢;simp only[execOp,h];simp[go_sem,hx,b,c,Result.andThen,d,e]
theorem jgF{x y:Operand}{s:ByteArray}{i:Nat}(f:o.op=Op.slice 9 x (some y) none none)(hx:a.eval x=.string s)(b:a.eval y=.int .i64 (i:Nat))(e:i<=s.size)(d:K (a.put o.dst (.string (s.extract i s.size))) w):Oper.wp prog o a w K Q:=by
 refine jcc ?_ d;have c:(i:Int)<=(s.size:Int):=by omega
 generalize a.eval=g at hx b ⊢;simp only[execOp,f];simp[go_sem,hx,b,Result.andThen,c]
end
def vL:List Oper:=[
 {dst:=some 19,op:=Op.load 55 (Operand.tmp 3),type:=55,pos := "amend.go:74",after:=#[],guard:=none},
 {dst:=some 20,op:=Op.load 9 (Operand.tmp 1),type:=9,pos := "amend.go:74",after:=#[],guard:=none},
 {dst:=some 21,op:=Op.load 3 (Operand.tmp 4),type:=3,pos := "amend.go:74",after:=#[],guard:=none},
 {dst:=some 22,op:=Op.fieldAddr 157 (Operand.tmp 5) 1,type:=0,pos := "amend.go:74",after:=#[],guard:=none},
 {dst:=some 23,op:=Op.load 3 (Operand.tmp 22),type:=3,pos := "amend.go:74",after:=#[{on:=3,ground:=Ground.data}],guard:=none},
 {dst:=some 24,op:=Op.slice 9 (Operand.tmp 20) (some (Operand.tmp 21)) (some (Operand.tmp 23)) none,type:=9,pos := "amend.go:74",after:=#[{on:=1,ground:=Ground.data},{on:=2,ground:=Ground.data},{on:=4,ground:=Ground.data}],guard:=none},
 {dst:=some 25,op:=Op.call {callee:=Callee.value (Operand.func 153),args:=#[Operand.tmp 24],argTypes:=#[9]},type:=75,pos := "amend.go:74",after:=#[{on:=5,ground:=Ground.data}],guard:=none},
 {dst:=some 26,op:=Op.buildSlice 55 1 #[(0,Operand.tmp 25)],type:=55,pos := "amend.go:74",after:=#[{on:=6,ground:=Ground.data}],guard:=none},
 {dst:=some 27,op:=Op.call {callee:=Callee.builtin Builtin.append,args:=#[Operand.tmp 19,Operand.tmp 26],argTypes:=#[55,55]},type:=55,pos := "amend.go:74",after:=#[{on:=0,ground:=Ground.data},{on:=7,ground:=Ground.data},{on:=6,ground:=Ground.chain}],guard:=none},
 {dst:=none,op:=Op.store 55 (Operand.tmp 3) (Operand.tmp 27),type:=0,pos := "amend.go:74",after:=#[{on:=8,ground:=Ground.data},{on:=8,ground:=Ground.chain},{on:=0,ground:=Ground.phase},{on:=1,ground:=Ground.phase},{on:=2,ground:=Ground.phase},{on:=3,ground:=Ground.phase},{on:=4,ground:=Ground.phase},{on:=5,ground:=Ground.phase},{on:=6,ground:=Ground.phase},{on:=7,ground:=Ground.phase},{on:=8,ground:=Ground.phase}],guard:=none}]
def Zz(i:Nat):Option Nat:=(vL[i]?).bind (·.dst)
theorem jlM:∀i,i<8->∀k,k<8->Zz i≠none->Zz i=Zz k->i=k:=by decide +kernel
theorem jm3:∀i,i<8->(Zz i).getD 0<37:=by decide +kernel
theorem jlD:∀i:Fin 10,∀e∈(vL[i.1]'(by exact i.2)).after,Region.binds .any e=true->e.on<i.1:=by decide +kernel
def jkB(bb tb nb eb lo:Nat)(bv:Value)(s:ByteArray)(beg at_:Nat)(PL:Value->World->Prop):List (Value->World->Prop):=[
 fun v w=>v=bv,
 fun v w=>v=.string s,
 fun v w=>v=.int .i64 (beg:Nat),
 fun v w=>v=.pointer (some ⟨eb,1,none⟩),
 fun v w=>v=.int .i64 (at_:Nat),
 fun v w=>v=.string (s.extract beg at_),
 fun v w=>PL v w,
 fun v w=>∃b u cs,v=.slice (some ⟨b,0,none⟩) 1 1/\PL u w/\lo<=b/\u=.agg cs/\ja w b 75 cs]
theorem jev(a0:Act)(t:World)(O tb Y I lo:Nat)(R:Value)(s:ByteArray)(f at_:Nat)(z:Value->World->Prop)(Q:Exit->Act->World->Prop)
  (ae:a0.tmps.size=37) (h3:a0.tmps[3]?=some (.pointer (some ⟨O,0,none⟩))) (r:a0.tmps[1]?=some (.pointer (some ⟨tb,0,none⟩))) (V:a0.tmps[4]?=some (.pointer (some ⟨Y,0,none⟩))) (h5:a0.tmps[5]?=some (.pointer (some ⟨I,0,none⟩)))
  (X:∀W,Below t.heap.size t W->W.cell? ⟨O,0,none⟩=some R/\W.cell? ⟨tb,0,none⟩=some (.string s)/\W.cell? ⟨Y,0,none⟩=some (.int .i64 (f:Nat))/\W.cell? ⟨I,1,none⟩=some (.int .i64 (at_:Nat))) (aa:lo<=t.heap.size)
  (J:f<=at_/\at_<=s.size)
  (D:∀v x y,Below x.heap.size x y->z v x->z v y) (a8:∀v w,z v w->∃k i fa fn fc,v=.agg #[.int .i64 k,.int .i64 i,.slice fa fn fc])
  (a7:∀(W:World) (_:Below t.heap.size t W),Calls prog 153 #[.string (s.extract f at_)] W fun e w=>∃v,e=.returned v/\(z v w)/\Below W.heap.size W w)
  (hQ:∀(L Z y2 y3 y4 y5 y6 N:Value) (w:World),Below t.heap.size t w->((fun(v:Value) (w:World)=>v=R) L w)->((fun(v:Value) (w:World)=>∃b u U,v=.slice (some ⟨b,0,none⟩) 1 1/\z u w/\lo<=b/\u=.agg U/\ja w b 75 U) N w)->wpList prog vL.toArray Q [{dst:=some 27,op:=Op.call {callee:=Callee.builtin Builtin.append,args:=#[Operand.tmp 19,Operand.tmp 26],argTypes:=#[55,55]},type:=55,pos := "amend.go:74",after:=#[{on:=0,ground:=Ground.data},{on:=7,ground:=Ground.data},{on:=6,ground:=Ground.chain}],guard:=none},{dst:=none,op:=Op.store 55 (Operand.tmp 3) (Operand.tmp 27),type:=0,pos := "amend.go:74",after:=#[{on:=8,ground:=Ground.data},{on:=8,ground:=Ground.chain},{on:=0,ground:=Ground.phase},{on:=1,ground:=Ground.phase},{on:=2,ground:=Ground.phase},{on:=3,ground:=Ground.phase},{on:=4,ground:=Ground.phase},{on:=5,ground:=Ground.phase},{on:=6,ground:=Ground.phase},{on:=7,ground:=Ground.phase},{on:=8,ground:=Ground.phase}],guard:=none}] {a0 with tmps:=[(19,L),(20,Z),(21,y2),(22,y3),(23,y4),(24,y5),(25,y6),(26,N)].foldl (fun u p=>u.setIfInBounds p.1 p.2) a0.tmps} w) :
  wpAny prog .any vL.toArray Q vL.toArray.size (Array.replicate vL.toArray.size false) a0 t:=by
 have M:jmB (jkB O tb Y I lo R s f at_ z):=⟨fun v x y m h=>h,fun v x y m h=>h,fun v x y m h=>h,fun v x y m h=>h,fun v x y m h=>h,fun v x y m h=>h,fun v x y m h=>D v x y m h,fun v x y m h=>by obtain⟨b,u,U,e,r,h2,h3,V⟩:=h;exact⟨b,u,U,e,D u x y m r,h2,h3,jb V m V.lt⟩,trivial⟩
 refine yh 8 2 (by kernel_rfl) (by decide) a0 t Zz (jkB O tb Y I lo R s f at_ z) M (by kernel_rfl) (by kernel_rfl) (by kernel_rfl)
  (fun i o _ n=>by unfold Zz;rw[n];rfl)
  (fun i k d H hk r h2=>jlM i H k hk (by rw[r];intro q;cases q) (by rw[r,h2]))
  (fun i d H h=>by have:=jm3 i H;rw[h]at this;rw[ae];exact this)
  (fun i o e n he m=>by
   obtain⟨H,rfl⟩:=List.getElem?_eq_some_iff.1 n;exact jlD ⟨i,H⟩ e he m)
  ?step ?fin
 case fin =>
  intro a w hd hs G C A;obtain⟨L,am,aA⟩:=C 0 19 (by decide) rfl;obtain⟨Z,aq,aF⟩:=C 1 20 (by decide) rfl;obtain⟨y2,ar,aG⟩:=C 2 21 (by decide) rfl;obtain⟨y3,au,aH⟩:=C 3 22 (by decide) rfl;obtain⟨y4,av,aI⟩:=C 4 23 (by decide) rfl;obtain⟨y5,aw,aJ⟩:=C 5 24 (by decide) rfl;obtain⟨y6,ax,E⟩:=C 6 25 (by decide) rfl;obtain⟨N,ay,aB⟩:=C 7 26 (by decide) rfl;rw[Yz (a:=a) (a0:=a0) [(19,L),(20,Z),(21,y2),(22,y3),(23,y4),(24,y5),(25,y6),(26,N)] hd hs (by
   intro p hp;simp only[List.mem_cons,List.not_mem_nil,or_false]at hp;rcases hp with rfl|rfl|rfl|rfl|rfl|rfl|rfl|rfl
   ·exact am
   ·exact aq
   ·exact ar
   ·exact au
   ·exact av
   ·exact aw
   ·exact ax
   ·exact ay
   ) (fun j hj=>G j (fun k hk q=>hj (by
    have:∀k,k<8->(Zz k).all (fun d=>[19,20,21,22,23,24,25,26].contains d)=true:=by decide +kernel
    have r:=this k hk;rw[q]at r;simpa using r)))]
  exact hQ L Z y2 y3 y4 y5 y6 N w A aA aB
 case step =>
 intro i o a w H n hs G l A;have e3:=evT ((G 3 (by decide +kernel)).trans h3)
 have e1:=evT ((G 1 (by decide +kernel)).trans r);have e4:=evT ((G 4 (by decide +kernel)).trans V)
 have e5:=evT ((G 5 (by decide +kernel)).trans h5);rcases(by omega:i=0\/i=1\/i=2\/i=3\/i=4\/i=5\/i=6\/i=7) with rfl|rfl|rfl|rfl|rfl|rfl|rfl|rfl
 ·have c:some _=some o:=n;obtain rfl:=joN c;exact .inl ⟨vd rfl,fun K g=>Jm (by simp[go_sem,(X w A).1]) rfl e3 (g _ _ (joL _ _) rfl)⟩
 ·have c:some _=some o:=n;obtain rfl:=joN c;exact .inl ⟨vd rfl,fun K g=>Jm (by simp[go_sem,(X w A).2.1]) rfl e1 (g _ _ (joL _ _) rfl)⟩
 ·have c:some _=some o:=n;obtain rfl:=joN c;exact .inl ⟨vd rfl,fun K g=>Jm (by simp[go_sem,(X w A).2.2.1]) rfl e4 (g _ _ (joL _ _) rfl)⟩
 ·have c:some _=some o:=n;obtain rfl:=joN c;exact .inl ⟨vd rfl,fun K g=>Gc (by simp[go_sem]) rfl e5 (g _ _ (joL _ _) rfl)⟩
 ·have c:some _=some o:=n;obtain rfl:=joN c;obtain⟨_,ah,rfl⟩:∃v,a.tmps[22]?=some v/\(fun(v:Value) (w:World)=>v=.pointer (some ⟨I,1,none⟩)) v w:=l ⟨3,Ground.data⟩ (by first|simp|simp[vL]) rfl 22 rfl;exact .inl ⟨vd rfl,fun K g=>Jm (by simp[go_sem,(X w A).2.2.2]) rfl (evT ah) (g _ _ (joL _ _) rfl)⟩
 ·have c:some _=some o:=n;obtain rfl:=joN c;obtain⟨_,af,rfl⟩:∃v,a.tmps[20]?=some v/\(fun(v:Value) (w:World)=>v=.string s) v w:=l ⟨1,Ground.data⟩ (by first|simp|simp[vL]) rfl 20 rfl;obtain⟨_,ag,rfl⟩:∃v,a.tmps[21]?=some v/\(fun(v:Value) (w:World)=>v=.int .i64 (f:Nat)) v w:=l ⟨2,Ground.data⟩ (by first|simp|simp[vL]) rfl 21 rfl;obtain⟨_,ai,rfl⟩:∃v,a.tmps[23]?=some v/\(fun(v:Value) (w:World)=>v=.int .i64 (at_:Nat)) v w:=l ⟨4,Ground.data⟩ (by first|simp|simp[vL]) rfl 23 rfl;exact .inl ⟨vd rfl,fun K g=>jgE rfl (evT af) (evT ag) (evT ai) J.1 J.2 (g _ _ (joL _ _) rfl)⟩
 ·have c:some _=some o:=n;obtain rfl:=joN c;obtain⟨_,aj,rfl⟩:∃v,a.tmps[24]?=some v/\(fun(v:Value) (w:World)=>v=.string (s.extract f at_)) v w:=l ⟨5,Ground.data⟩ (by first|simp|simp[vL]) rfl 24 rfl;exact .inl ⟨vd rfl,fun K g=>ZQ 153 rfl (evT aj) (enters_of (P:=prog) func153 (by kernel_rfl) rfl) (a7 w A) (fun v w' h=>g v w' h.2 h.1)⟩
 have c:some _=some o:=n;obtain rfl:=joN c;obtain⟨z6,ak,E⟩:∃v,a.tmps[25]?=some v/\(fun(v:Value) (w:World)=>z v w) v w:=l ⟨6,Ground.data⟩ (by first|simp|simp[vL]) rfl 25 rfl;exact .inl ⟨vd rfl,fun K g=>by obtain⟨k1,i1,aC,aE,aD,rfl⟩:=a8 _ _ E;exact jgG rfl (evT ak) (g _ _ ((joL _ _).alloc (joJ _) _) ⟨w.heap.size,_,_,rfl,D _ _ _ ((joL _ _).alloc (joJ _) _) E,jpg aa A.size,rfl,ja.new _ _ _⟩)⟩
def yE:List Oper:=[
 {dst:=some 30,op:=Op.load 55 (Operand.tmp 3),type:=55,pos := "amend.go:78",after:=#[],guard:=none},
 {dst:=some 31,op:=Op.load 9 (Operand.tmp 1),type:=9,pos := "amend.go:78",after:=#[],guard:=none},
 {dst:=some 32,op:=Op.load 3 (Operand.tmp 4),type:=3,pos := "amend.go:78",after:=#[],guard:=none},
 {dst:=some 33,op:=Op.slice 9 (Operand.tmp 31) (some (Operand.tmp 32)) none none,type:=9,pos := "amend.go:78",after:=#[{on:=1,ground:=Ground.data},{on:=2,ground:=Ground.data}],guard:=none},
 {dst:=some 34,op:=Op.call {callee:=Callee.value (Operand.func 153),args:=#[Operand.tmp 33],argTypes:=#[9]},type:=75,pos := "amend.go:78",after:=#[{on:=3,ground:=Ground.data}],guard:=none},
 {dst:=some 35,op:=Op.buildSlice 55 1 #[(0,Operand.tmp 34)],type:=55,pos := "amend.go:78",after:=#[{on:=4,ground:=Ground.data}],guard:=none},
 {dst:=some 36,op:=Op.call {callee:=Callee.builtin Builtin.append,args:=#[Operand.tmp 30,Operand.tmp 35],argTypes:=#[55,55]},type:=55,pos := "amend.go:78",after:=#[{on:=0,ground:=Ground.data},{on:=5,ground:=Ground.data},{on:=4,ground:=Ground.chain}],guard:=none},
 {dst:=some 2,op:=Op.assign (Operand.tmp 36),type:=55,pos := "amend.go:78",after:=#[{on:=6,ground:=Ground.data},{on:=6,ground:=Ground.chain},{on:=0,ground:=Ground.phase},{on:=1,ground:=Ground.phase},{on:=2,ground:=Ground.phase},{on:=3,ground:=Ground.phase},{on:=4,ground:=Ground.phase},{on:=5,ground:=Ground.phase},{on:=6,ground:=Ground.phase}],guard:=none}]
def Zy(i:Nat):Option Nat:=(yE[i]?).bind (·.dst)
theorem jlL:∀i,i<6->∀k,k<6->Zy i≠none->Zy i=Zy k->i=k:=by decide +kernel
theorem jm2:∀i,i<6->(Zy i).getD 0<37:=by decide +kernel
theorem jlC:∀i:Fin 8,∀e∈(yE[i.1]'(by exact i.2)).after,Region.binds .any e=true->e.on<i.1:=by decide +kernel
def jkA(bb tb nb lo:Nat)(bv:Value)(s:ByteArray)(beg:Nat)(PL:Value->World->Prop):List (Value->World->Prop):=[
 fun v w=>v=bv,
 fun v w=>v=.string s,
 fun v w=>v=.int .i64 (beg:Nat),
 fun v w=>v=.string (s.extract beg s.size),
 fun v w=>PL v w,
 fun v w=>∃b u cs,v=.slice (some ⟨b,0,none⟩) 1 1/\PL u w/\lo<=b/\u=.agg cs/\ja w b 75 cs]
theorem jeu(a0:Act)(t:World)(L tb U lo:Nat)(N:Value)(s:ByteArray)(f:Nat)(z:Value->World->Prop)(Q:Exit->Act->World->Prop)
  (af:a0.tmps.size=37) (h3:a0.tmps[3]?=some (.pointer (some ⟨L,0,none⟩))) (r:a0.tmps[1]?=some (.pointer (some ⟨tb,0,none⟩))) (R:a0.tmps[4]?=some (.pointer (some ⟨U,0,none⟩)))
  (hS:∀W,Below t.heap.size t W->W.cell? ⟨L,0,none⟩=some N/\W.cell? ⟨tb,0,none⟩=some (.string s)/\W.cell? ⟨U,0,none⟩=some (.int .i64 (f:Nat))/\True) (ae:lo<=t.heap.size)
  (aa:f<=s.size)
  (A:∀v x y,Below x.heap.size x y->z v x->z v y) (a8:∀v w,z v w->∃k i fa fn fc,v=.agg #[.int .i64 k,.int .i64 i,.slice fa fn fc])
  (a7:∀(W:World) (_:Below t.heap.size t W),Calls prog 153 #[.string (s.extract f s.size)] W fun e w=>∃v,e=.returned v/\(z v w)/\Below W.heap.size W w)
  (hQ:∀(I V X Y Z J:Value) (w:World),Below t.heap.size t w->((fun(v:Value) (w:World)=>v=N) I w)->((fun(v:Value) (w:World)=>∃b u O,v=.slice (some ⟨b,0,none⟩) 1 1/\z u w/\lo<=b/\u=.agg O/\ja w b 75 O) J w)->wpList prog yE.toArray Q [{dst:=some 36,op:=Op.call {callee:=Callee.builtin Builtin.append,args:=#[Operand.tmp 30,Operand.tmp 35],argTypes:=#[55,55]},type:=55,pos := "amend.go:78",after:=#[{on:=0,ground:=Ground.data},{on:=5,ground:=Ground.data},{on:=4,ground:=Ground.chain}],guard:=none},{dst:=some 2,op:=Op.assign (Operand.tmp 36),type:=55,pos := "amend.go:78",after:=#[{on:=6,ground:=Ground.data},{on:=6,ground:=Ground.chain},{on:=0,ground:=Ground.phase},{on:=1,ground:=Ground.phase},{on:=2,ground:=Ground.phase},{on:=3,ground:=Ground.phase},{on:=4,ground:=Ground.phase},{on:=5,ground:=Ground.phase},{on:=6,ground:=Ground.phase}],guard:=none}] {a0 with tmps:=[(30,I),(31,V),(32,X),(33,Y),(34,Z),(35,J)].foldl (fun u p=>u.setIfInBounds p.1 p.2) a0.tmps} w) :
  wpAny prog .any yE.toArray Q yE.toArray.size (Array.replicate yE.toArray.size false) a0 t:=by
 have M:jmB (jkA L tb U lo N s f z):=⟨fun v x y l h=>h,fun v x y l h=>h,fun v x y l h=>h,fun v x y l h=>h,fun v x y l h=>A v x y l h,fun v x y l h=>by obtain⟨b,u,O,e,r,h2,h3,R⟩:=h;exact⟨b,u,O,e,A u x y l r,h2,h3,jb R l R.lt⟩,trivial⟩
 refine yh 6 2 (by kernel_rfl) (by decide) a0 t Zy (jkA L tb U lo N s f z) M (by kernel_rfl) (by kernel_rfl) (by kernel_rfl)
  (fun i o _ m=>by unfold Zy;rw[m];rfl)
  (fun i k d E hk r h2=>jlL i E k hk (by rw[r];intro q;cases q) (by rw[r,h2]))
  (fun i d E h=>by have:=jm2 i E;rw[h]at this;rw[af];exact this)
  (fun i o e m he l=>by
   obtain⟨E,rfl⟩:=List.getElem?_eq_some_iff.1 m;exact jlC ⟨i,E⟩ e he l)
  ?step ?fin
 case fin =>
  intro a w hd hs H G C;obtain⟨I,ak,aw⟩:=G 0 30 (by decide) rfl;obtain⟨V,am,aC⟩:=G 1 31 (by decide) rfl;obtain⟨X,aq,aD⟩:=G 2 32 (by decide) rfl;obtain⟨Y,ar,aE⟩:=G 3 33 (by decide) rfl;obtain⟨Z,au,D⟩:=G 4 34 (by decide) rfl;obtain⟨J,av,ax⟩:=G 5 35 (by decide) rfl;rw[Yz (a:=a) (a0:=a0) [(30,I),(31,V),(32,X),(33,Y),(34,Z),(35,J)] hd hs (by
   intro p hp;simp only[List.mem_cons,List.not_mem_nil,or_false]at hp;rcases hp with rfl|rfl|rfl|rfl|rfl|rfl
   ·exact ak
   ·exact am
   ·exact aq
   ·exact ar
   ·exact au
   ·exact av
   ) (fun j hj=>H j (fun k hk q=>hj (by
    have:∀k,k<6->(Zy k).all (fun d=>[30,31,32,33,34,35].contains d)=true:=by decide +kernel
    have r:=this k hk;rw[q]at r;simpa using r)))]
  exact hQ I V X Y Z J w C aw ax
 case step =>
 intro i o a w E m hs H n C;have e3:=evT ((H 3 (by decide +kernel)).trans h3)
 have e1:=evT ((H 1 (by decide +kernel)).trans r);have e4:=evT ((H 4 (by decide +kernel)).trans R)
 rcases(by omega:i=0\/i=1\/i=2\/i=3\/i=4\/i=5) with rfl|rfl|rfl|rfl|rfl|rfl
 ·have c:some _=some o:=m;obtain rfl:=joN c;exact .inl ⟨vd rfl,fun K g=>Jm (by simp[go_sem,(hS w C).1]) rfl e3 (g _ _ (joL _ _) rfl)⟩
 ·have c:some _=some o:=m;obtain rfl:=joN c;exact .inl ⟨vd rfl,fun K g=>Jm (by simp[go_sem,(hS w C).2.1]) rfl e1 (g _ _ (joL _ _) rfl)⟩
 ·have c:some _=some o:=m;obtain rfl:=joN c;exact .inl ⟨vd rfl,fun K g=>Jm (by simp[go_sem,(hS w C).2.2.1]) rfl e4 (g _ _ (joL _ _) rfl)⟩
 ·have c:some _=some o:=m;obtain rfl:=joN c;obtain⟨_,ag,rfl⟩:∃v,a.tmps[31]?=some v/\(fun(v:Value) (w:World)=>v=.string s) v w:=n ⟨1,Ground.data⟩ (by first|simp|simp[yE]) rfl 31 rfl;obtain⟨_,ah,rfl⟩:∃v,a.tmps[32]?=some v/\(fun(v:Value) (w:World)=>v=.int .i64 (f:Nat)) v w:=n ⟨2,Ground.data⟩ (by first|simp|simp[yE]) rfl 32 rfl;exact .inl ⟨vd rfl,fun K g=>jgF rfl (evT ag) (evT ah) aa (g _ _ (joL _ _) rfl)⟩
 ·have c:some _=some o:=m;obtain rfl:=joN c;obtain⟨_,ai,rfl⟩:∃v,a.tmps[33]?=some v/\(fun(v:Value) (w:World)=>v=.string (s.extract f s.size)) v w:=n ⟨3,Ground.data⟩ (by first|simp|simp[yE]) rfl 33 rfl;exact .inl ⟨vd rfl,fun K g=>ZQ 153 rfl (evT ai) (enters_of (P:=prog) func153 (by kernel_rfl) rfl) (a7 w C) (fun v w' h=>g v w' h.2 h.1)⟩
 have c:some _=some o:=m;obtain rfl:=joN c;obtain⟨z4,aj,D⟩:∃v,a.tmps[34]?=some v/\(fun(v:Value) (w:World)=>z v w) v w:=n ⟨4,Ground.data⟩ (by first|simp|simp[yE]) rfl 34 rfl;exact .inl ⟨vd rfl,fun K g=>by obtain⟨k1,i1,ay,aB,aA,rfl⟩:=a8 _ _ D;exact jgG rfl (evT aj) (g _ _ ((joL _ _).alloc (joJ _) _) ⟨w.heap.size,_,_,rfl,A _ _ _ ((joL _ _).alloc (joJ _) _) D,jpg ae C.size,rfl,ja.new _ _ _⟩)⟩
end
section
attribute [local go_sem] joY
theorem jgq{w:World}{lo g cap:Nat}{a:Array Value}{t:TypeId}{size:Nat}(b:lo<=g)(c:w.heap[g]?=some (.cells a t (0,0)))(d:cap<=maxLen)(e:a.size=cap*size):w.ownsRow lo t size (.slice (some ⟨g,0,none⟩) 0 cap) 0 [] :=
 ⟨by simp,.inr ⟨g,cap,a,rfl,b,c,joT _,d,e,by simp⟩⟩
theorem jju(n:Nat)(hn:n<=1000000)(w:World):
  Calls prog 255 #[.slice none 0 0,.int .i64 n] w fun e w'=>∃v,e=.returned v/\w'.ownsRow w.heap.size 148 2 v 0 []/\Below w.heap.size w w':=by
 obtain⟨i0,hi,hz0,hz1,hz2⟩:=info_parts Xt
 have hw0:IntKind.i64.wrap ((n:Int)-0)=(n:Int):=by rw[Int.sub_zero];exact jph _ (by omega)
 have hw1:IntKind.i64.wrap (n:Int)=(n:Int):=jph _ (by omega)
 by_cases h0:n=0
 ·subst h0
  go_enter func255,ntmps255
  go_wp2_with fail
  go_ret
  exact⟨_,rfl,⟨rfl,.inl ⟨rfl,rfl⟩⟩,joL _ _⟩
 have hp:(0:Int)<(n:Int):=by omega
 have hr:=Lib.run_append_nil_zeros (P:=prog) w 73 3 73 148 i0 (.agg #[.string ⟨#[]⟩,.string ⟨#[]⟩]) .i64 .i64 underlying73 underlying3 hi hz0 n (by omega) (by rw[hz1];decide) (by omega) (by rw[hz2];omega)
 have hge:=grownCap_ge w n 0 148
 have hcm:grownCap w n 0 148<=maxLen:=grownCap_le_maxLen w n 0 148 (by unfold maxLen;omega)
 generalize grownCap w n 0 148=cap at *
 have hZ:(Builtin.zeroCells (Value.agg #[.string ⟨#[]⟩,.string ⟨#[]⟩]).cells n++Builtin.zeroCells (Value.agg #[.string ⟨#[]⟩,.string ⟨#[]⟩]).cells (cap-n)).size=cap*2:=by
  rw[Array.size_append,vC,vC]
  show n*2+(cap-n)*2=cap*2
  omega
 generalize Builtin.zeroCells (Value.agg #[.string ⟨#[]⟩,.string ⟨#[]⟩]).cells n++Builtin.zeroCells (Value.agg #[.string ⟨#[]⟩,.string ⟨#[]⟩]).cells (cap-n)=Z at *
 have FIN:Hid ((w.drew.alloc (.cells Z 148)).ownsRow w.heap.size 148 2 (.slice (some ⟨w.heap.size,0,none⟩) 0 cap) 0 []/\Below w.heap.size w (w.drew.alloc (.cells Z 148))) :=
  ⟨jgq (joJ _) (by show(w.drew.heap.push _)[w.drew.heap.size]?=_;exact Array.getElem?_push_size) hcm hZ,(joL _ w).drew.alloc (joJ _) _⟩
 clear hZ
 unfold maxLen at hcm
 go_enter func255,ntmps255
 go_wp2_with (at_builtin;refine Lib.wpList_append_run _ rfl _ _ _ _ rfl _ _ rfl rfl _ _ hr ?_)
 go_wp2_with fail
 go_ret
 exact⟨_,rfl,FIN.out.1,FIN.out.2⟩
def jag(rs:List (List Fld)):Nat:=(rs.map List.length).sum
theorem jgO{a:List (List Fld)}{k:Nat}{r:List Fld}(h:a[k]?=some r):jag (a.take (k+1))=jag (a.take k)+r.length:=by unfold jag;rw[jpd,h,jpt,List.sum_append];simp
theorem Xo(a:List (List Fld))(k:Nat):jag (a.take k)<=jag a:=by
 unfold jag
 conv=>rhs;rw[<- jpb k a,jpt,List.sum_append]
 omega
theorem XG(a:List (List Fld)):a.flatten.length=jag a:=by unfold jag;rw[List.length_flatten]
theorem jbf{a:List (List Fld)}{k:Nat}{r:List Fld}(h:a[k]?=some r):(a.take (k+1)).flatten=(a.take k).flatten++r:=by rw[jpd,h];simp
theorem GZ(a b:List Fld):ju (a++b)=ju a++ju b:=by unfold ju;rw[jpo]
theorem WT{w0 w:World}{v:Value}{vs:List Value}{c:List (List Fld)}(h:jfJ w0 w v vs c)(hl:jag c<=1000000)(hn:c.length<=1000000):
  Calls prog 232 #[v] w fun e w'=>∃u,e=.returned u/\w'.ownsRow w.heap.size 148 2 u c.flatten.length (ju c.flatten)/\Below w.heap.size w w':=by
 obtain⟨i0,hi,af,ag,ah⟩:=info_parts Xt;have ae:=h.len
 have a:=h.row;obtain⟨va,vc,rfl,aa⟩:=je a;have t:=joI (fun(k:Nat) (r:List Fld) (o:c[k]?=some r)=>show ∃b K,va=some ⟨b,0,none⟩/\b<w.heap.size/\w.cell? ⟨b,k,none⟩=some K/\w.ownsRow w0.heap.size 148 2 K r.length (ju r) from by
  have Z:=(List.getElem?_eq_some_iff.1 o).1;obtain⟨x,hx⟩:∃x,vs[k]?=some x:=⟨_,joM (by omega)⟩
  rcases jpH a with ⟨_,hn⟩|⟨g,D,hg⟩
  ·omega
  injection hg with Y _ _;subst Y;refine⟨g,x,rfl,(jpJ a g rfl).2,by rw[jo1 a k (by omega)];exact hx,h.each k x r hx o⟩)
 have ak:=h.below.size;clear h a;rw[ae]at aa ⊢;have HL:=joI hl
 go_enter func232,ntmps232;go_wp2_with fail;go_loopw [3,11] (fun sv i wr=>∃k:Nat,k<=c.length/\i=.int .i64 k/\sv=.int .i64 (jag (c.take k):Nat)/\wr=w) (fun _ i _=>c.length-(intOf i).toNat)
 case atStart=>exact⟨0,joT _,rfl,rfl,rfl⟩
 case round =>
 obtain⟨k,Z,rfl,rfl,av⟩:=hrel;subst wr;have ai:=Xo c k
 by_cases G:k<c.length
 ·obtain⟨r,o⟩:∃r,c[k]?=some r:=⟨_,joM G⟩
  obtain⟨b,K,rfl,E,V,C⟩:=t.out k r o;obtain⟨fa,fc,rfl,_⟩:=je C;have A:=Xo c (k+1)
  have S1:Hid (jag (c.take (k+1))=jag (c.take k)+r.length):=jgO o;rw[S1.out]at A;clear o C;generalize am:jag (c.take k)=U at *
  have hw:IntKind.i64.wrap ((U:Int)+(r.length:Int))=(U:Int)+(r.length:Int):=jph _ (by omega);have aq:¬((U:Int)+(r.length:Int)<0):=by omega
  go_wp2_with fail;go_roundw
  case rel=>exact⟨k+1,G,by go_num,by rw[S1.out];go_num,by first | trivial | rfl⟩
  case measure=>simp[intOf];omega
 obtain rfl:k=c.length:=by omega
 rw[jpa]at *
 have GW:=joI (jju (jag c) hl w);go_wp2_with fail;refine GW.out.mono ?_;rintro e w2 ⟨u,rfl,L,b2⟩;have O:=joI b2
 have a8:w2.ownsRow w.heap.size 148 2 u (c.take 0).flatten.length (ju (c.take 0).flatten):=L;clear GW b2 L;go_wp2_with fail;go_loopw [6,27] (fun ux i wr=>∃(j:Nat) (uv:Value),uv=ux/\j<=c.length/\i=.int .i64 j/\wr.ownsRow w.heap.size 148 2 uv (c.take j).flatten.length (ju (c.take j).flatten)/\Below w.heap.size w wr) (fun _ i _=>c.length-(intOf i).toNat)
 case atStart=>exact⟨0,u,rfl,joT _,rfl,a8,O.out⟩
 case round =>
 obtain⟨j,uv,rfl,hj,rfl,a,y⟩:=hrel;obtain⟨ua,uc,rfl,au⟩:=je a;by_cases z:j<c.length
 ·obtain⟨r,o⟩:∃r,c[j]?=some r:=⟨_,joM z⟩
  obtain⟨b,K,rfl,E,V,C⟩:=t.out j r o;have s:=jX C y (joJ _)
  replace V:=(y.cell (p:=⟨b,j,none⟩) E).trans V;have J:=jbf o
  have s1:=Xo c (j+1);rw[<- XG,J,joK]at s1;have E1:Hid ((c.take (j+1)).flatten=(c.take j).flatten++r):=J
  have I:=y.size;have l:=joI a
  have HB:=joI y;have aj:(c.take j).flatten.length+r.length<=1000000:=by have:=HL.out;omega
  have H:∀u∈ju r,u.oneCell'=true:=fun u L=>by obtain⟨f,_,h2⟩:=List.mem_flatMap.1 L;simp at h2;rcases h2 with rfl|rfl<;>rfl
  have X:=JQ r;rcases jpH s with ⟨rfl,a7⟩|⟨g,D,rfl⟩
  ·clear C s o J a y s1;generalize m:(c.take j).flatten.length=fl at *
   go_wp2_with (at_builtin;refine wpList_append_own_none rfl _ _ 73 rfl w.heap.size 148 i0 2 underlying73 hi _ _ _ rfl l.out rfl ?_);go_wp2_with fail;go_roundw
   case rel =>
    have er:r=[]:=List.length_eq_zero_iff.1 a7;exact⟨j+1,_,rfl,z,by go_num,by rw[E1.out,er,jo9,m];exact l.out,HB.out⟩
   case measure=>simp[intOf];omega
  have HC:∀(q:Nat) u,(ju r)[q]?=some u->wr.cell? ((⟨g,0,none⟩:Addr).add q)=some u:=fun q u hq=>by have ar:=(List.getElem?_eq_some_iff.1 hq).1;rw[Addr.add_lit,jpl,jo1 s q (by omega)];exact hq
  have Q:=joI HC;clear C s o J a y HC s1;generalize m:(c.take j).flatten.length=fl at *
  go_wp2_with (at_builtin;refine jz rfl _ _ 73 rfl w.heap.size 148 i0 _ 2 32 underlying73 hi af ag ah rfl (by decide) _ _ _ rfl l.out ⟨g,0,none⟩ r.length D _ rfl X Q.out H ?c3 ?c4 ?c5 ?_)
  case c3=>unfold maxLen;omega
  case c4=>omega
  case c5=>exact I
  intro v' w3 d n W;have P:=joI (HB.out.grown n I (fun k Z=>(l.out.lt k Z).1))
  have R:=joI d;obtain⟨xa,xc,rfl,_⟩:=je d;clear d n W;go_wp2_with fail;go_roundw
  case rel=>exact⟨j+1,_,rfl,z,by go_num,by rw[E1.out,joK,GZ,m];exact R.out,P.out⟩
  case measure=>simp[intOf];omega
 obtain rfl:j=c.length:=by omega
 rw[jpa]at a ⊢;have N:Hid (wr.ownsRow w.heap.size 148 2 (.slice ua c.flatten.length uc) c.flatten.length (ju c.flatten)/\Below w.heap.size w wr):=⟨a,y⟩
 clear a y;generalize m:c.flatten.length=fl at *
 go_wp2_with fail;go_ret;obtain⟨f1,f2⟩:=N.out;refine⟨_,rfl,?_,f2⟩
 first | exact f1 | (rw[m];exact f1)
def jdU(p:List UInt8)(xs:List Ln):List UInt8:=xs.flatMap fun x=>Lib.trimPrefix x.text p++if x.ended then [10] else []
theorem jbt(p:List UInt8)(a:List Ln)(x:Ln):jdU p (a++[x])=jdU p a++Lib.trimPrefix x.text p++(XJ x.ended).data.toList:=by
 have e:(XJ x.ended).data.toList=if x.ended then [10] else []:=by unfold XJ;cases x.ended<;>rfl
 rw[e];simp[jdU]
theorem GX(p:List UInt8):∀a:List Ln,(jdU p a).length<=(a.flatMap Ln.bytes).length
 | []=>by simp[jdU]
 | x::a=>by
  have c:=GX p a;have b:=Lib.trimPrefix_le x.text p
  have e:jdU p (x::a)=(Lib.trimPrefix x.text p++if x.ended then [10] else [])++jdU p a:=by simp[jdU]
  rw[e,jo5];simp only[joK,Ln.bytes];omega
theorem jkN(p:List UInt8)(xs:List Ln)(h:∀x∈xs,Lib.hasPrefix x.text p=true):dd p (xs.map Ui)=(jdU p xs,true):=by
 unfold dd;rw[if_pos]
 ·rw[List.flatMap_map];congr 1;unfold jdU
  induction xs with
  | nil=>rfl
  | cons x xs b =>
  rw[jo5,jo5,b (fun y a=>h y (joU _ a))];have:=h x joV
  simp only[Lib.trimPrefix,this,if_true,Ui];rfl
 rw[jqn];intro y a;obtain⟨x,hx,rfl⟩:=List.mem_map.1 a;exact h x hx
theorem jhP(p:List UInt8)(xs:List Ln)(x:Ln)(hx:x∈xs)(h:Lib.hasPrefix x.text p=false):dd p (xs.map Ui)=([],false):=by
 unfold dd;rw[if_neg];intro a;have:=(List.all_eq_true.1 a) (Ui x) (List.mem_map.2 ⟨x,hx,rfl⟩)
 have e:Lib.hasPrefix x.text p=true:=this;rw[h]at e;cases e
def Yd(w:World)(p:ByteArray)(W:World):Prop :=
 Boxed W w.heap.size 9 (.string p)/\Boxed W (w.heap.size+1) 9 (.string ⟨#[]⟩)/\Boxed W (w.heap.size+2) 4 (.bool false)/\Below w.heap.size w W
theorem Yd.turned{w:World}{p:ByteArray}{W b:World}{B k:Nat}(h:Yd w p W)(a:zn B k W b)(c:w.heap.size+2<B):Yd w p b :=
 ⟨a.box h.1 (.inl (by omega)),a.box h.2.1 (.inl (by omega)),a.box h.2.2.1 (.inl c),h.2.2.2.trans (a.below (by omega) h.2.2.2.size)⟩
theorem Yd.alloc{w:World}{p:ByteArray}{W:World}(h:Yd w p W)(o:Obj):Yd w p (W.alloc o):=⟨h.1.alloc _,h.2.1.alloc _,h.2.2.1.alloc _,h.2.2.2.alloc h.2.2.2.size _⟩
theorem Yd.wrote{w:World}{p:ByteArray}{W c:World}{b R:Nat}(h:Yd w p W)(a:vf b R W c)(e:w.heap.size+2<b)(d:w.heap.size+2<R):Yd w p c :=
 ⟨a.box h.1 (by omega) (by omega),a.box h.2.1 (by omega) (by omega),a.box h.2.2.1 (by omega) (by omega),h.2.2.2.trans (a.below (by omega) (by omega) h.2.2.2.size)⟩
def jnQ(w:World)(p:ByteArray)(R:Nat)(pre:List Ln)(W:World):Prop :=
 Yd w p W/\Bld (w.heap.size+3) R (jdU p.data.toList pre) W/\∀x∈pre,Lib.hasPrefix x.text p.data.toList=true
def joF(w:World)(p:ByteArray)(c:Code)(pre:List Ln)(W:World):Prop :=
 Yd w p W/\c=.ret/\∃x∈pre,Lib.hasPrefix x.text p.data.toList=false
theorem jkp(w W:World)(a b:ByteArray×Bool)(tmps:Array Value)(f:Boxed W (w.heap.size+1) 9 (.string a.1))(g:Boxed W (w.heap.size+2) 4 (.bool b.2))(c:W.heap[w.heap.size+5]?=some (.deferred (some [])))(h:Below w.heap.size w W)(t4:tmps[4]?=some (.pointer (some ⟨w.heap.size+1,0,none⟩)))(t5:tmps[5]?=some (.pointer (some ⟨w.heap.size+2,0,none⟩))):
  bodyPostM Fence.wide 9 prog Tryz.f231 (fun e k=>e=.returned (.tuple #[.string a.1,.bool b.2])/\Below w.heap.size w k) .ret {tmps:=tmps,defers:=[{target:=.collected (w.heap.size+5),args:=#[]}]} W:=by
 have d:=grownBy_putObj' W (w.heap.size+5) (.deferred none);have l:w.heap.size+5<W.heap.size:=(Array.getElem?_eq_some_iff.1 c).1
 have i:Boxed (W.putObj (w.heap.size+5) (.deferred none)) (w.heap.size+1) 9 (.string a.1):=(d.block _ (by omega) (fun e=>by have:=joN e;omega)).trans f;have j:Boxed (W.putObj (w.heap.size+5) (.deferred none)) (w.heap.size+2) 4 (.bool b.2):=(d.block _ (by omega) (fun e=>by have:=joN e;omega)).trans g
 have c4:=i.cell;have c5:=j.cell
 refine⟨by simp,.inl ⟨_,_,rfl,run_takeDeferred c,?_⟩⟩;exact⟨.tuple #[.string a.1,.bool b.2],by simp[results,Tryz.f231,go_sem,t4,t5,c4,c5],rfl,h.trans (belowK_b (w:=w) (joJ _) W _ _ _ (by omega) c rfl rfl)⟩
theorem jfk(s p:ByteArray)(hs:s.size<=1000000000)(w:World):
  Calls prog 231 #[.string s,.string p] w fun e w'=>e=.returned (.tuple #[.string ⟨(dd p.data.toList ((jf s.data.toList).map Ui)).1.toArray⟩,.bool (dd p.data.toList ((jf s.data.toList).map Ui)).2])/\Below w.heap.size w w':=by
 have u:((jf s.data.toList).flatMap Ln.bytes).length<=1000000000:=by rw[jL,<- jo2];exact hs
 obtain⟨K,z⟩:∃K,jf s.data.toList=K:=⟨_,rfl⟩
 rw[z]at u ⊢;have Q:=joI z
 clear z;refine callsIn_wide (n:=9).1 ?_;refine callsIn_of_wp_marks func231 rfl trivial ?_ rfl;simp only[ntmps231,jpN,joR,jpm,Nat.reduceAdd,Nat.reduceSub,jpK,jpL,jpU,jpQ,jpC,jo6];gi_wp2_with fail;refine⟨trivial,(callsIn_wide.2 (yL s _)).mono ?_⟩;rintro e w3 ⟨rfl,rfl⟩;gi_wp2_with fail;have k1:=jqe w 9 (.string p)
 have k2:=xI w (.cells #[.string p] 9) 9 (.string ⟨#[]⟩);have k3:=Vg w (.cells #[.string p] 9) (.cells #[.string ⟨#[]⟩] 9) 4 (.bool false)
 have kb:=Bld.new (((w.alloc (.cells #[.string p] 9)).alloc (.cells #[.string ⟨#[]⟩] 9)).alloc (.cells #[.bool false] 4)) (w.heap.size+10);have kz:(((w.alloc (.cells #[.string p] 9)).alloc (.cells #[.string ⟨#[]⟩] 9)).alloc (.cells #[.bool false] 4)).heap.size=w.heap.size+3:=by simp
 rw[kz]at kb;have q:Yd w p (((w.alloc (.cells #[.string p] 9)).alloc (.cells #[.string ⟨#[]⟩] 9)).alloc (.cells #[.bool false] 4)) :=
  ⟨(k1.alloc _).alloc _,k2.alloc _,k3,((((joL _ w).alloc (joJ _) _).alloc (by simp) _).alloc (by simp;omega) _)⟩
 generalize ((w.alloc (.cells #[.string p] 9)).alloc (.cells #[.string ⟨#[]⟩] 9)).alloc (.cells #[.bool false] 4)=w1 at *
 have k7:=xI w1 (.cells #[.pointer none,.slice none 0 0] 191) 9 (.string s);rw[kz]at k7;have P:=vv s (w.heap.size+4) _ k7 (by omega)
 rw[Q.out]at P;have A:((w1.alloc (.cells #[.pointer none,.slice none 0 0] 191)).alloc (.cells #[.string s] 9)).heap.size=w.heap.size+5:=by simp[kz]
 have X:∀k,k<=5->zU (w.heap.size+5) k (jnQ w p (w.heap.size+10)):=fun k hk b W R h v =>
  ⟨h.1.turned v (by omega),h.2.1.turned v (by omega) (by omega),h.2.2⟩
 have r:jnQ w p (w.heap.size+10) [] ((w1.alloc (.cells #[.pointer none,.slice none 0 0] 191)).alloc (.cells #[.string s] 9)) :=
  ⟨(q.alloc _).alloc _,kb.alloc _,fun x hx=>by cases hx⟩
 refine yd (gf:=139) (lb:=#[.pointer (some ⟨w.heap.size+4,0,none⟩)]) rfl (enters_of func139 (by kernel_rfl) rfl) P (fun _=>rfl)
  (jnQ w p (w.heap.size+10)) (joF w p) (by rw[A];exact X _ (by omega)) (fun c b W R h v=>⟨h.1.turned v (by rw[A];omega),h.2⟩) r
  (fun a b x U W=>∃g,w.heap.size+5+5<=g/\U={tmps:=(a.tmps.setIfInBounds 12 (.agg (qi x))).setIfInBounds 7 (.pointer (some ⟨g,0,none⟩)),defers:=[]}/\ja W g 157 (qi x) /\
   jnQ w p (w.heap.size+10) b W)
  ?hM ?assign ?body ?done ?stop
 case hM =>
  rw[A];rintro a b x U _ W R ⟨g,d,E,C,h4⟩ v;exact⟨g,d,E,(v.same g C.lt (.inr (by omega))).trans C,X 2 (by omega) b W R h4 v⟩
 case assign =>
  rw[A];intro l b x o W hx J hi;clear hx;dsimp only[qi];gi_wp2;exact⟨(vO.refl _ _ W).alloc J _,W.heap.size,by omega,rfl,ja.new _ _ _,hi.1.alloc _,hi.2.1.alloc _,hi.2.2⟩
 case body =>
  rw[A];rintro l b x o U W hx J ⟨g,hB,rfl,L,d,E,C⟩;have f:=GX p.data.toList (b++[x])
  have m:((b++[x]).flatMap Ln.bytes).length<=1000000000:=by rw[hx,show b++x::o=(b++[x])++o by simp,jpo,joK]at u;omega
  have f:=jpg f m;rw[jbt]at f;simp only[joK,<- jo2]at f;have HS:=joI (jbt p.data.toList b x)
  clear hx u m;simp only[jo3,jpF,jpG,qi]at L ⊢;have a7:g≠w.heap.size+3:=by omega
  obtain⟨D,H⟩:∃D,x.ended=D:=⟨_,rfl⟩
  rw[H]at f L ⊢;have c3:=d.1.cell
  have p2:W.cell? ⟨g,2,none⟩=some (.string ⟨x.text.toArray⟩):=L.cell 2;gi_wp2_with fail;refine⟨trivial,((callsIn_wide.2 (Tryz.strings_CutPrefix ⟨x.text.toArray⟩ p W)).inRound l).mono ?_⟩;rintro e V ⟨rfl,rfl⟩;have eh:Lib.hasPrefix (⟨x.text.toArray⟩:ByteArray).data.toList p.data.toList=Lib.hasPrefix x.text p.data.toList:=rfl
  have et:Lib.trimPrefix (⟨x.text.toArray⟩:ByteArray).data.toList p.data.toList=Lib.trimPrefix x.text p.data.toList:=rfl;rw[eh,et];cases N:Lib.hasPrefix x.text p.data.toList
  ·have c4:=d.2.1.cell;have f4:=d.2.1.frozen
   have c5:V.cell? ⟨w.heap.size+1+1,0,none⟩=some (.bool false):=d.2.2.1.cell;have f5:V.frozen? ⟨w.heap.size+1+1,0,none⟩=false:=d.2.2.1.frozen
   gi_wp2;refine⟨((vO.refl _ _ _).setCell (.inl (by show w.heap.size+1<_;omega)) _).setCell (.inl (by show w.heap.size+1+1<_;omega)) _,?_,rfl,x,by simp,N⟩;refine⟨JI (JI d.1 (by omega) _) (by omega) _,JI (jpV _ d.2.1) (by omega) _,jpV _ (JI d.2.2.1 (by omega) _),?_⟩;exact(d.2.2.2.setCell (p:=⟨w.heap.size+1,0,none⟩) (by show _<=w.heap.size+1;omega) _).setCell (p:=⟨w.heap.size+1+1,0,none⟩) (by show _<=w.heap.size+1+1;omega) _
  gi_wp2_with fail;refine⟨trivial,((callsIn_wide.2 (ZD (w.heap.size+3) (w.heap.size+10) _ ⟨(Lib.trimPrefix x.text p.data.toList).toArray⟩ V E (by omega) (by omega) ?_)).inRound l).mono ?_⟩
  ·have e1:(⟨(Lib.trimPrefix x.text p.data.toList).toArray⟩:ByteArray).size=(Lib.trimPrefix x.text p.data.toList).length:=by simp[ByteArray.size]
   omega
  rintro e i ⟨rfl,b2,o2⟩;have O:ja i g 157 _:=o2.other L a7 (by decide)
  have z2:=o2.size;have q0:i.cell? ⟨g,0,none⟩=some (.int .i64 x.no):=O.cell 0
  have q1:i.cell? ⟨g,1,none⟩=some (.int .i64 x.at_):=O.cell 1;have q2:i.cell? ⟨g,2,none⟩=some (.string ⟨x.text.toArray⟩):=O.cell 2
  have q3:i.cell? ⟨g,3,none⟩=some (.bool D):=O.cell 3;gi_wp2_with fail;refine⟨trivial,((callsIn_wide.2 (jcD _ _ _ _ _)).inRound l).mono ?_⟩;rintro e W3 ⟨rfl,rfl⟩;gi_wp2_with fail;refine⟨trivial,((callsIn_wide.2 (ZD (w.heap.size+3) (w.heap.size+10) _ (XJ D) _ (b2.alloc _) (by omega) (by simp;omega) ?_)).inRound l).mono ?_⟩
  ·simp only[joK];omega
  rintro e W4 ⟨rfl,b3,o3⟩;gi_wp2_with fail;have oo:=(o2.alloc (.cells #[.int .i64 x.no,.int .i64 x.at_,.string ⟨x.text.toArray⟩,.bool D] 157)).trans o3
  refine⟨oo.stay (by omega) (by omega) (by omega),d.wrote oo (by omega) (by omega),?_,?_⟩
  ·rw[HS.out,H];exact b3
  intro y hy;rcases List.mem_append.1 hy with h|h
  ·exact C y h
  rw[List.mem_singleton.1 h];exact N
 case done =>
  rw[A];rintro W ⟨d,E,C⟩ hmark;have zW:w.heap.size+5<W.heap.size:=(Array.getElem?_eq_some_iff.1 hmark).1
  gi_wp2_with fail;refine⟨trivial,(callsIn_wide.2 (Tryz.Builder_String_any_k (w.heap.size+3) (w.heap.size+3) _ W (E.library (by omega) (by omega)) (by omega))).mono ?_⟩;rintro e t ⟨rfl,_,g2,g3⟩;have hK:t.heap[w.heap.size+5]?=some (.deferred (some [])):=g3 _ _ hmark (by simp) (fun c fz e=>by cases e)
  have Y:Boxed t (w.heap.size+1) 9 (.string ⟨#[]⟩):=jmF d.2.1 g2 (by omega);have Z:Boxed t (w.heap.size+2) 4 (.bool false):=jmF d.2.2.1 g2 (by omega)
  have G:Below w.heap.size w t:=d.2.2.2.trans (g2.mono (by omega));have c4:=Y.cell
  have f4:=Y.frozen;have c5:t.cell? ⟨w.heap.size+1+1,0,none⟩=some (.bool false):=Z.cell
  have f5:t.frozen? ⟨w.heap.size+1+1,0,none⟩=false:=Z.frozen;clear k1 k2 k3 kb k7 P X r q;gi_wp2;rw[jkN _ _ C];obtain⟨i,j⟩:∃i,(t.setCell ⟨w.heap.size+1,0,none⟩ (.string ⟨(jdU p.data.toList K).toArray⟩)).setCell ⟨w.heap.size+1+1,0,none⟩ (.bool true)=i:=⟨_,rfl⟩
  have e4:Boxed i (w.heap.size+1) 9 (.string ⟨(jdU p.data.toList K).toArray⟩):=by rw[<- j];exact JI (jpV _ Y) (by omega) _
  have e5:Boxed i (w.heap.size+2) 4 (.bool true):=by rw[<- j];exact jpV _ (JI Z (by omega) _)
  have eK:i.heap[w.heap.size+5]?=some (.deferred (some [])):=by rw[<- j];exact(jpw _ _ _ _ (by show w.heap.size+5≠w.heap.size+1+1;omega)).trans ((jpw _ _ _ _ (by show w.heap.size+5≠w.heap.size+1;omega)).trans hK)
  have eB:Below w.heap.size w i:=by rw[<- j];exact(G.setCell (p:=⟨w.heap.size+1,0,none⟩) (by show _<=w.heap.size+1;omega) _).setCell (p:=⟨w.heap.size+1+1,0,none⟩) (by show _<=w.heap.size+1+1;omega) _
  rw[j];exact jkp w i (⟨(jdU p.data.toList K).toArray⟩,true) (⟨#[]⟩,true) _ e4 e5 eK eB rfl rfl
 case stop =>
 rw[A];rintro c b W I ⟨d,rfl,x,hx,N⟩ hmark;gi_wp2;rw[jhP _ _ x (I.subset hx) N];exact jkp w W (⟨#[]⟩,false) (⟨#[]⟩,false) _ d.2.1 d.2.2.1 hmark d.2.2.2 rfl rfl
theorem jif(l:List UInt8)(w:World):Calls prog 195 #[.string (B l)] w fun e A=>e=.returned (.int .i64 (Zb l))/\Below w.heap.size w A:=by
 obtain⟨j,d⟩:∃j,j=w.alloc (.cells #[.int .i64 1,.int .i64 2,.int .i64 3] 3):=⟨_,rfl⟩
 have p:Hid (Below w.heap.size w j):=by show Below _ _ _;rw[d];exact(joL _ w).alloc (joJ _) _
 have C:j.cell? ⟨w.heap.size,0,none⟩=some (.int .i64 1):=by rw[d];simp
 have D:j.cell? ⟨w.heap.size,1,none⟩=some (.int .i64 2):=by rw[d];simp
 have E:j.cell? ⟨w.heap.size,2,none⟩=some (.int .i64 3):=by rw[d];simp
 have t:=joI (Yg 1 j);have u:=joI (Yg 2 j)
 have v:=joI (Yg 3 j);have q:=joI (show Zb l=if l=qx 1 then 1 else if l=qx 2 then 2 else if l=qx 3 then 3 else 0 from rfl)
 have r:∀k,((B (qx k)).toList==(B l).toList)=decide (l=qx k):=fun k=>by rw[jkO,jpI,decide_eq_true_eq,decide_eq_true_eq];exact⟨fun h=>h.symm,fun h=>h.symm⟩
 have x:=r 1;have y:=r 2
 have z:=r 3;clear r;subst d;go_enter func195,ntmps195;go_wp2_with fail;go_loopw [7] (fun i wr=>∃k:Nat,k<=3/\i=.int .i64 k/\wr=w.alloc (.cells #[.int .i64 1,.int .i64 2,.int .i64 3] 3)/\(1<=k->l≠qx 1)/\(2<=k->l≠qx 2)/\(3<=k->l≠qx 3)) (fun i _=>3-(intOf i).toNat)
 case atStart=>exact⟨0,joT _,rfl,rfl,(by omega),(by omega),(by omega)⟩
 case round =>
 obtain⟨k,G,rfl,s,f,g,m⟩:=hrel;subst s;obtain rfl|rfl|rfl|rfl:k=0\/k=1\/k=2\/k=3:=by omega
 ·by_cases a:l=qx 1
  ·rw[decide_eq_true a]at x;have b:Hid (Zb l=1):=by show _=_;rw[q.out,if_pos a]
   clear f g m a;go_wp2_with fail;refine t.out.mono ?_;rintro e o ⟨rfl,rfl⟩;go_wp2_with fail;go_ret;exact⟨by rw[b.out];rfl,p.out⟩
  rw[decide_eq_false a]at x;clear f g m;go_wp2_with fail;refine t.out.mono ?_;rintro e o ⟨rfl,rfl⟩;go_wp2_with fail;go_roundw
  case rel=>exact⟨1,by omega,by go_num,by first | trivial | rfl,(fun _=>a),(by omega),(by omega)⟩
  case measure=>simp[intOf]
 ·have c:=f (by omega);by_cases a:l=qx 2
  ·rw[decide_eq_true a]at y;have b:Hid (Zb l=2):=by show _=_;rw[q.out,if_neg c,if_pos a]
   clear f g m a c;go_wp2_with fail;refine u.out.mono ?_;rintro e o ⟨rfl,rfl⟩;go_wp2_with fail;go_ret;exact⟨by rw[b.out];rfl,p.out⟩
  rw[decide_eq_false a]at y;clear f g m;go_wp2_with fail;refine u.out.mono ?_;rintro e o ⟨rfl,rfl⟩;go_wp2_with fail;go_roundw
  case rel=>exact⟨2,by omega,by go_num,by first | trivial | rfl,(fun _=>c),(fun _=>a),(by omega)⟩
  case measure=>simp[intOf]
 ·have c:=f (by omega);have n:=g (by omega)
  by_cases a:l=qx 3
  ·rw[decide_eq_true a]at z;have b:Hid (Zb l=3):=by show _=_;rw[q.out,if_neg c,if_neg n,if_pos a]
   clear f g m a c n;go_wp2_with fail;refine v.out.mono ?_;rintro e o ⟨rfl,rfl⟩;go_wp2_with fail;go_ret;exact⟨by rw[b.out];rfl,p.out⟩
  rw[decide_eq_false a]at z;clear f g m;go_wp2_with fail;refine v.out.mono ?_;rintro e o ⟨rfl,rfl⟩;go_wp2_with fail;go_roundw
  case rel=>exact⟨3,by omega,by go_num,by first | trivial | rfl,(fun _=>c),(fun _=>n),(fun _=>a)⟩
  case measure=>simp[intOf]
 have b:Hid (Zb l=0):=by show _=_;rw[q.out,if_neg (f (by omega)),if_neg (g (by omega)),if_neg (m (by omega))]
 clear f g m;go_wp2_with fail;go_ret;exact⟨by rw[b.out];rfl,p.out⟩
theorem jn7(p:List UInt8)(xs:List Ln):(dd p (xs.map Ui)).1.length<=(xs.flatMap Ln.bytes).length:=by
 by_cases h:∀x∈xs,Lib.hasPrefix x.text p=true
 ·rw[jkN p xs h];exact GX p xs
 simp only[Classical.not_forall]at h;obtain⟨x,hx,a⟩:=h;rw[jhP p xs x hx (by simpa using a)];exact joT _
theorem jdi(its:List It):(Yl its).length=jfm its:=by unfold Yl jfm;rw[jo8];congr 2
theorem jgP(a:List (List Fld))(n:Nat)(h:∀r∈a,r.length<=n):jag a<=a.length*n:=by
 unfold jag
 induction a with
 | nil=>simp
 | cons r a b =>
 have:=b (fun x hx=>h x (joU _ hx));have:=h r joV
 rw[jpr,jpR,joR,Nat.add_mul];omega
def Kc(w w':World)(u:Value)(fs:List Fld):Prop:=w'.ownsRow w.heap.size 148 2 u fs.length (ju fs)/\Below w.heap.size w w'
theorem jcM(t:List UInt8)(ht:t.length<=60000)(w:World):Calls prog 196 #[.string (B t)] w fun e w'=>∃u,e=.returned u/\Kc w w' u (qS t):=by
 have s:=joI (jfk (B t) ⟨#[32,32]⟩ (by rw[jg];omega) w);rw[jj]at s;rw[show(⟨#[32,32]⟩:ByteArray).data.toList=[32,32] from rfl]at s;obtain⟨d,I⟩:∃d,(dd [32,32] ((jf t).map Ui)).1=d:=⟨_,rfl⟩
 have N:d.length<=60000:=by have:=jn7 [32,32] (jf t);rw[jL,I]at this;omega
 rw[I]at s;have H:Hid (qS t=match jD d with | .error _=>[] | .ok j=>(Yl j).flatten):=by show _=_;unfold qS;rw[I];rfl
 have L:=joI (fun W=>Xa (B d) (by rw[jg];exact N) W);rw[jj]at L;rw[show(⟨d.toArray⟩:ByteArray)=B d from rfl]at s;generalize (dd [32,32] ((jf t).map Ui)).2=aa at *
 clear I;go_enter func196,ntmps196;go_wp2_with fail;refine s.out.mono ?_;rintro e w1 ⟨rfl,V⟩;have G:=joI V
 have l:=joI (L.out w1);clear s V L;go_wp2_with fail;refine l.out.mono ?_;rintro e P J;cases g:jD d with
 | error an =>
  obtain⟨a,n⟩:=an;obtain⟨C,v,rfl,q,_,rfl,_⟩:=jgp J g;rw[g]at H;have A:=joI (YJ [] (.slice none 0 0) P (Its.empty P none 0) (fun i b a8 n a7 m c e=>by cases e) (by simp) (fun K p=>by cases p))
  have y:=joI (G.out.trans (C.mono G.out.size));clear C J l;go_wp2_with fail;refine A.out.mono ?_;rintro e w3 ⟨u,vs,rfl,f⟩;have z:=joI (WT f (by simp[jag,Yl]) (by simp[Yl]))
  have k:=joI (y.out.trans (f.below.mono y.out.size));clear f A;go_wp2_with fail;refine z.out.mono ?_;rintro e Q ⟨x,rfl,hx,D⟩;have R:Hid (Kc w Q x (qS t)):=by show Kc _ _ _ _;rw[H.out];exact⟨jA hx k.out.size,k.out.trans (D.mono k.out.size)⟩
  clear hx D z;go_wp2_with fail;go_ret;exact⟨_,rfl,R.out⟩
 | ok j =>
 obtain⟨C,v,rfl,X,Y⟩:=jdr J g;rw[g]at H;obtain⟨_,O,o⟩:=ye g;have h:=YZ g
 rw[<- jdi]at h;have A:=joI (YJ j v P X Y (by omega) (fun K p=>by have:=(o K p).1;omega))
 have E:jag (Yl j)<=1000000:=by
  have:=jgP (Yl j) 40 (fun r Z=>by
   unfold Yl at Z;obtain⟨K,h1,rfl⟩:=List.mem_map.1 Z;exact(o K (List.mem_filter.1 h1).1).1)
  omega
 have y:=joI (G.out.trans (C.mono G.out.size));have U:=joI (And.intro E h)
 obtain⟨ia,ic,rfl,_,_⟩:=X;clear C J l Y o O E h;go_wp2_with fail;refine A.out.mono ?_;rintro e w3 ⟨u,vs,rfl,f⟩;have z:=joI (WT f U.out.1 (by have:=U.out.2;omega))
 have k:=joI (y.out.trans (f.below.mono y.out.size));clear f A;go_wp2_with fail;refine z.out.mono ?_;rintro e Q ⟨x,rfl,hx,D⟩;have R:Hid (Kc w Q x (qS t)):=by show Kc _ _ _ _;rw[H.out];exact⟨jA hx k.out.size,k.out.trans (D.mono k.out.size)⟩
 clear hx D z;go_wp2_with fail;go_ret;exact⟨_,rfl,R.out⟩
theorem jao(c:UInt8):∀t:List UInt8,c∉t->t.takeWhile (· != c)=t
 | [],_=>rfl
 | x::r,h=>by
  have hx:(x != c)=true:=by have:c≠x:=fun e=>h (e▸joV);simp;exact fun e=>this e.symm
  rw[jpy,if_pos hx,jao c r (fun a=>h (joU _ a))]
theorem jdT(t:List UInt8)(c:UInt8)(i:t.length<=1000000)(w:World):
  Calls prog 86 #[.string (B t),.string ⟨#[c]⟩] w fun e d=>(∃b,e=.returned (.tuple #[.string (B (t.takeWhile (· != c))),.string (B (t.drop ((t.takeWhile (· != c)).length+1))),.bool b]))/\Below w.heap.size w d:=by
 by_cases h:c∈t
 ·refine(GV (B t) c w (by rw[jg];unfold maxLen;omega) (by rw[jj];exact h)).mono ?_;rintro e d ⟨rfl,n,rfl⟩;refine⟨⟨true,?_⟩,yp (joL _ _) n⟩;rw[jj];have a:(B t).extract 0 (t.takeWhile (· != c)).length=B (t.takeWhile (· != c)):=by
   have:∃r,t=t.takeWhile (· != c)++r:=⟨t.dropWhile (· != c),List.takeWhile_append_dropWhile.symm⟩
   obtain⟨r,g⟩:=this;generalize t.takeWhile (· != c)=k at *
   subst g;apply jp5;simp[B,ByteArray.data_extract]
  have f:(B t).extract ((t.takeWhile (· != c)).length+1) (B t).size=B (t.drop ((t.takeWhile (· != c)).length+1)):=by generalize (t.takeWhile (· != c)).length+1=k;apply jp5;rw[jg];simp[B,ByteArray.data_extract];exact jpi (by rw[joX];omega)
  rw[a,f]
 refine(jdS (B t) c w (by rw[jj];exact h)).mono ?_;rintro e d ⟨rfl,n,rfl⟩;refine⟨⟨false,?_⟩,yp (joL _ _) n⟩;have a:t.takeWhile (· != c)=t:=jao c t h
 rw[a,jpE (by omega)];rfl
end
end Go.Proofs.YtbapfpekklcicaaGreatDoor
