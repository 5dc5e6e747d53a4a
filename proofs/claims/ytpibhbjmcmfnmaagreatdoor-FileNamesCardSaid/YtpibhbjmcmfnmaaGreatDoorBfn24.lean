/- Texts put together:AI,AG,WP,AH. -/
import Derived.Lib.AppendZeros
import Derived.Test.YtpibhbjmcmfnmaaGreatDoorBfn23
set_option linter.unusedVariables false
set_option maxRecDepth 100000
set_option maxHeartbeats 16000000
namespace Go.Proofs.YtpibhbjmcmfnmaaGreatDoor
open Go.RowKit Go.Shelf Tryz
section
section
variable {K:Act->World->Prop} {Q:Exit->Act->World->Prop} {o:Oper} {a:Act} {w:World}
theorem jd1{x y z:Operand}{s:ByteArray}{i j:Nat}(ho:o.op=Op.slice 9 x (some y) (some z) none)(hx:a.eval x=.string s)(hy:a.eval y=.int .i64 (i:Nat))(hz:a.eval z=.int .i64 (j:Nat))(hij:i<=j)(hj:j<=s.size)(hK:K (a.put o.dst (.string (s.extract i j))) w):Oper.wp prog o a w K Q:=by
 refine Gn ?_ hK
 have h2:(i:Int)<=(j:Int):=by omega
 have h3:(j:Int)<=(s.size:Int):=by omega
 generalize a.eval=ρ at hx hy hz ⊢
 simp only[execOp,ho]
 simp[go_sem,hx,hy,hz,Result.andThen,h2,h3]
theorem jd2{x y:Operand}{s:ByteArray}{i:Nat}(ho:o.op=Op.slice 9 x (some y) none none)(hx:a.eval x=.string s)(hy:a.eval y=.int .i64 (i:Nat))(hij:i<=s.size)(hK:K (a.put o.dst (.string (s.extract i s.size))) w):Oper.wp prog o a w K Q:=by
 refine Gn ?_ hK
 have h2:(i:Int)<=(s.size:Int):=by omega
 generalize a.eval=ρ at hx hy ⊢
 simp only[execOp,ho]
 simp[go_sem,hx,hy,Result.andThen,h2]
end
def vl:List Oper:=[
 {dst:=some 19,op:=Op.load 22 (Operand.tmp 3),type:=22,pos := "amend.go:74",after:=#[],guard:=none},
 {dst:=some 20,op:=Op.load 9 (Operand.tmp 1),type:=9,pos := "amend.go:74",after:=#[],guard:=none},
 {dst:=some 21,op:=Op.load 3 (Operand.tmp 4),type:=3,pos := "amend.go:74",after:=#[],guard:=none},
 {dst:=some 22,op:=Op.fieldAddr 164 (Operand.tmp 5) 1,type:=0,pos := "amend.go:74",after:=#[],guard:=none},
 {dst:=some 23,op:=Op.load 3 (Operand.tmp 22),type:=3,pos := "amend.go:74",after:=#[{on:=3,ground:=Ground.data}],guard:=none},
 {dst:=some 24,op:=Op.slice 9 (Operand.tmp 20) (some (Operand.tmp 21)) (some (Operand.tmp 23)) none,type:=9,pos := "amend.go:74",after:=#[{on:=1,ground:=Ground.data},{on:=2,ground:=Ground.data},{on:=4,ground:=Ground.data}],guard:=none},
 {dst:=some 25,op:=Op.call {callee:=Callee.value (Operand.func 153),args:=#[Operand.tmp 24],argTypes:=#[9]},type:=63,pos := "amend.go:74",after:=#[{on:=5,ground:=Ground.data}],guard:=none},
 {dst:=some 26,op:=Op.buildSlice 22 1 #[(0,Operand.tmp 25)],type:=22,pos := "amend.go:74",after:=#[{on:=6,ground:=Ground.data}],guard:=none},
 {dst:=some 27,op:=Op.call {callee:=Callee.builtin Builtin.append,args:=#[Operand.tmp 19,Operand.tmp 26],argTypes:=#[22,22]},type:=22,pos := "amend.go:74",after:=#[{on:=0,ground:=Ground.data},{on:=7,ground:=Ground.data},{on:=6,ground:=Ground.chain}],guard:=none},
 {dst:=none,op:=Op.store 22 (Operand.tmp 3) (Operand.tmp 27),type:=0,pos := "amend.go:74",after:=#[{on:=8,ground:=Ground.data},{on:=8,ground:=Ground.chain},{on:=0,ground:=Ground.phase},{on:=1,ground:=Ground.phase},{on:=2,ground:=Ground.phase},{on:=3,ground:=Ground.phase},{on:=4,ground:=Ground.phase},{on:=5,ground:=Ground.phase},{on:=6,ground:=Ground.phase},{on:=7,ground:=Ground.phase},{on:=8,ground:=Ground.phase}],guard:=none}]
def Jp(i:Nat):Option Nat:=(vl[i]?).bind (·.dst)
theorem jiC:∀i,i<8->∀k,k<8->Jp i≠none->Jp i=Jp k->i=k:=by decide +kernel
theorem jj5:∀i,i<8->(Jp i).getD 0<37:=by decide +kernel
theorem jiv:∀i:Fin 10,∀e∈(vl[i.1]'(by exact i.2)).after,Region.binds .any e=true->e.on<i.1:=by decide +kernel
def jhC(bb tb nb eb lo:Nat)(bv:Value)(s:ByteArray)(beg at_:Nat)(PL:Value->World->Prop):List (Value->World->Prop):=[
 fun v w=>v=bv,
 fun v w=>v=.string s,
 fun v w=>v=.int .i64 (beg:Nat),
 fun v w=>v=.pointer (some ⟨eb,1,none⟩),
 fun v w=>v=.int .i64 (at_:Nat),
 fun v w=>v=.string (s.extract beg at_),
 fun v w=>PL v w,
 fun v w=>∃b u cs,v=.slice (some ⟨b,0,none⟩) 1 1/\PL u w/\lo<=b/\u=.agg cs/\ja w b 63 cs]
theorem jb1(a0:Act)(w0:World)(bb tb nb eb lo:Nat)(bv:Value)(s:ByteArray)(beg at_:Nat)(PL:Value->World->Prop)(Q:Exit->Act->World->Prop)
  (hsz:a0.tmps.size=37) (h3:a0.tmps[3]?=some (.pointer (some ⟨bb,0,none⟩))) (h1:a0.tmps[1]?=some (.pointer (some ⟨tb,0,none⟩))) (h4:a0.tmps[4]?=some (.pointer (some ⟨nb,0,none⟩))) (h5:a0.tmps[5]?=some (.pointer (some ⟨eb,0,none⟩)))
  (hS:∀W,Below w0.heap.size w0 W->W.cell? ⟨bb,0,none⟩=some bv/\W.cell? ⟨tb,0,none⟩=some (.string s)/\W.cell? ⟨nb,0,none⟩=some (.int .i64 (beg:Nat))/\W.cell? ⟨eb,1,none⟩=some (.int .i64 (at_:Nat))) (hlo:lo<=w0.heap.size)
  (hle:beg<=at_/\at_<=s.size)
  (hPM:∀v x y,Below x.heap.size x y->PL v x->PL v y) (hPF:∀v w,PL v w->∃k i fa fn fc,v=.agg #[.int .i64 k,.int .i64 i,.slice fa fn fc])
  (hC6:∀(W:World) (_:Below w0.heap.size w0 W),Calls prog 153 #[.string (s.extract beg at_)] W fun e w=>∃v,e=.returned v/\(PL v w)/\Below W.heap.size W w)
  (hQ:∀(y0 y1 y2 y3 y4 y5 y6 y7:Value) (w:World),Below w0.heap.size w0 w->((fun(v:Value) (w:World)=>v=bv) y0 w)->((fun(v:Value) (w:World)=>∃b u cs,v=.slice (some ⟨b,0,none⟩) 1 1/\PL u w/\lo<=b/\u=.agg cs/\ja w b 63 cs) y7 w)->wpList prog vl.toArray Q [{dst:=some 27,op:=Op.call {callee:=Callee.builtin Builtin.append,args:=#[Operand.tmp 19,Operand.tmp 26],argTypes:=#[22,22]},type:=22,pos := "amend.go:74",after:=#[{on:=0,ground:=Ground.data},{on:=7,ground:=Ground.data},{on:=6,ground:=Ground.chain}],guard:=none},{dst:=none,op:=Op.store 22 (Operand.tmp 3) (Operand.tmp 27),type:=0,pos := "amend.go:74",after:=#[{on:=8,ground:=Ground.data},{on:=8,ground:=Ground.chain},{on:=0,ground:=Ground.phase},{on:=1,ground:=Ground.phase},{on:=2,ground:=Ground.phase},{on:=3,ground:=Ground.phase},{on:=4,ground:=Ground.phase},{on:=5,ground:=Ground.phase},{on:=6,ground:=Ground.phase},{on:=7,ground:=Ground.phase},{on:=8,ground:=Ground.phase}],guard:=none}] {a0 with tmps:=[(19,y0),(20,y1),(21,y2),(22,y3),(23,y4),(24,y5),(25,y6),(26,y7)].foldl (fun u p=>u.setIfInBounds p.1 p.2) a0.tmps} w) :
  wpAny prog .any vl.toArray Q vl.toArray.size (Array.replicate vl.toArray.size false) a0 w0:=by
 have M:jjn (jhC bb tb nb eb lo bv s beg at_ PL):=⟨fun v x y hb h=>h,fun v x y hb h=>h,fun v x y hb h=>h,fun v x y hb h=>h,fun v x y hb h=>h,fun v x y hb h=>h,fun v x y hb h=>hPM v x y hb h,fun v x y hb h=>by obtain⟨b,u,cs,e,h1,h2,h3,h4⟩:=h;exact⟨b,u,cs,e,hPM u x y hb h1,h2,h3,jd h4 hb h4.lt⟩,trivial⟩
 refine qy 8 2 (by kernel_rfl) (by decide) a0 w0 Jp (jhC bb tb nb eb lo bv s beg at_ PL) M (by kernel_rfl) (by kernel_rfl) (by kernel_rfl)
  (fun i o _ ho=>by unfold Jp;rw[ho];rfl)
  (fun i k d hi hk h1 h2=>jiC i hi k hk (by rw[h1];intro q;cases q) (by rw[h1,h2]))
  (fun i d hi h=>by have:=jj5 i hi;rw[h]at this;rw[hsz];exact this)
  (fun i o e ho he hb=>by
   obtain⟨hi,rfl⟩:=List.getElem?_eq_some_iff.1 ho
   exact jiv ⟨i,hi⟩ e he hb)
  ?step ?fin
 case fin =>
  intro a w hd hs hf hv hR
  obtain⟨y0,hy0,pv0⟩:=hv 0 19 (by decide) rfl
  obtain⟨y1,hy1,pv1⟩:=hv 1 20 (by decide) rfl
  obtain⟨y2,hy2,pv2⟩:=hv 2 21 (by decide) rfl
  obtain⟨y3,hy3,pv3⟩:=hv 3 22 (by decide) rfl
  obtain⟨y4,hy4,pv4⟩:=hv 4 23 (by decide) rfl
  obtain⟨y5,hy5,pv5⟩:=hv 5 24 (by decide) rfl
  obtain⟨y6,hy6,pv6⟩:=hv 6 25 (by decide) rfl
  obtain⟨y7,hy7,pv7⟩:=hv 7 26 (by decide) rfl
  rw[Zi (a:=a) (a0:=a0) [(19,y0),(20,y1),(21,y2),(22,y3),(23,y4),(24,y5),(25,y6),(26,y7)] hd hs (by
   intro p hp
   simp only[jon,List.not_mem_nil,or_false]at hp
   rcases hp with rfl|rfl|rfl|rfl|rfl|rfl|rfl|rfl
   ·exact hy0
   ·exact hy1
   ·exact hy2
   ·exact hy3
   ·exact hy4
   ·exact hy5
   ·exact hy6
   ·exact hy7
   ) (fun j hj=>hf j (fun k hk q=>hj (by
    have:∀k,k<8->(Jp k).all (fun d=>[19,20,21,22,23,24,25,26].contains d)=true:=by decide +kernel
    have h1:=this k hk
    rw[q]at h1
    simpa using h1)))]
  exact hQ y0 y1 y2 y3 y4 y5 y6 y7 w hR pv0 pv7
 case step =>
 intro i o a w hi ho hs hf dep hR
 have e3:=evT ((hf 3 (by decide +kernel)).trans h3)
 have e1:=evT ((hf 1 (by decide +kernel)).trans h1)
 have e4:=evT ((hf 4 (by decide +kernel)).trans h4)
 have e5:=evT ((hf 5 (by decide +kernel)).trans h5)
 rcases(by omega:i=0\/i=1\/i=2\/i=3\/i=4\/i=5\/i=6\/i=7) with rfl|rfl|rfl|rfl|rfl|rfl|rfl|rfl
 ·have ho2:some _=some o:=ho
  obtain rfl:=jmf ho2
  exact .inl ⟨JC rfl,fun K hK=>xh (by simp[go_sem,(hS w hR).1]) rfl e3 (hK _ _ (jmc _ _) rfl)⟩
 ·have ho2:some _=some o:=ho
  obtain rfl:=jmf ho2
  exact .inl ⟨JC rfl,fun K hK=>xh (by simp[go_sem,(hS w hR).2.1]) rfl e1 (hK _ _ (jmc _ _) rfl)⟩
 ·have ho2:some _=some o:=ho
  obtain rfl:=jmf ho2
  exact .inl ⟨JC rfl,fun K hK=>xh (by simp[go_sem,(hS w hR).2.2.1]) rfl e4 (hK _ _ (jmc _ _) rfl)⟩
 ·have ho2:some _=some o:=ho
  obtain rfl:=jmf ho2
  exact .inl ⟨JC rfl,fun K hK=>jaR (by simp[go_sem]) rfl e5 (hK _ _ (jmc _ _) rfl)⟩
 ·have ho2:some _=some o:=ho
  obtain rfl:=jmf ho2
  obtain⟨_,hv3,rfl⟩:∃v,a.tmps[22]?=some v/\(fun(v:Value) (w:World)=>v=.pointer (some ⟨eb,1,none⟩)) v w:=dep ⟨3,Ground.data⟩ (by first|simp|simp[vl]) rfl 22 rfl
  exact .inl ⟨JC rfl,fun K hK=>xh (by simp[go_sem,(hS w hR).2.2.2]) rfl (evT hv3) (hK _ _ (jmc _ _) rfl)⟩
 ·have ho2:some _=some o:=ho
  obtain rfl:=jmf ho2
  obtain⟨_,hv1,rfl⟩:∃v,a.tmps[20]?=some v/\(fun(v:Value) (w:World)=>v=.string s) v w:=dep ⟨1,Ground.data⟩ (by first|simp|simp[vl]) rfl 20 rfl
  obtain⟨_,hv2,rfl⟩:∃v,a.tmps[21]?=some v/\(fun(v:Value) (w:World)=>v=.int .i64 (beg:Nat)) v w:=dep ⟨2,Ground.data⟩ (by first|simp|simp[vl]) rfl 21 rfl
  obtain⟨_,hv4,rfl⟩:∃v,a.tmps[23]?=some v/\(fun(v:Value) (w:World)=>v=.int .i64 (at_:Nat)) v w:=dep ⟨4,Ground.data⟩ (by first|simp|simp[vl]) rfl 23 rfl
  exact .inl ⟨JC rfl,fun K hK=>jd1 rfl (evT hv1) (evT hv2) (evT hv4) hle.1 hle.2 (hK _ _ (jmc _ _) rfl)⟩
 ·have ho2:some _=some o:=ho
  obtain rfl:=jmf ho2
  obtain⟨_,hv5,rfl⟩:∃v,a.tmps[24]?=some v/\(fun(v:Value) (w:World)=>v=.string (s.extract beg at_)) v w:=dep ⟨5,Ground.data⟩ (by first|simp|simp[vl]) rfl 24 rfl
  exact .inl ⟨JC rfl,fun K hK=>jaS 153 rfl (evT hv5) (enters_of (P:=prog) func153 (by kernel_rfl) rfl) (hC6 w hR) (fun v w' h=>hK v w' h.2 h.1)⟩
 have ho2:some _=some o:=ho
 obtain rfl:=jmf ho2
 obtain⟨z6,hv6,pv6⟩:∃v,a.tmps[25]?=some v/\(fun(v:Value) (w:World)=>PL v w) v w:=dep ⟨6,Ground.data⟩ (by first|simp|simp[vl]) rfl 25 rfl
 exact .inl ⟨JC rfl,fun K hK=>by obtain⟨k1,i1,fa1,fn1,fc1,rfl⟩:=hPF _ _ pv6;exact jd4 rfl (evT hv6) (hK _ _ ((jmc _ _).alloc (jma _) _) ⟨w.heap.size,_,_,rfl,hPM _ _ _ ((jmc _ _).alloc (jma _) _) pv6,jmy hlo hR.size,rfl,ja.new _ _ _⟩)⟩
def yc:List Oper:=[
 {dst:=some 30,op:=Op.load 22 (Operand.tmp 3),type:=22,pos := "amend.go:78",after:=#[],guard:=none},
 {dst:=some 31,op:=Op.load 9 (Operand.tmp 1),type:=9,pos := "amend.go:78",after:=#[],guard:=none},
 {dst:=some 32,op:=Op.load 3 (Operand.tmp 4),type:=3,pos := "amend.go:78",after:=#[],guard:=none},
 {dst:=some 33,op:=Op.slice 9 (Operand.tmp 31) (some (Operand.tmp 32)) none none,type:=9,pos := "amend.go:78",after:=#[{on:=1,ground:=Ground.data},{on:=2,ground:=Ground.data}],guard:=none},
 {dst:=some 34,op:=Op.call {callee:=Callee.value (Operand.func 153),args:=#[Operand.tmp 33],argTypes:=#[9]},type:=63,pos := "amend.go:78",after:=#[{on:=3,ground:=Ground.data}],guard:=none},
 {dst:=some 35,op:=Op.buildSlice 22 1 #[(0,Operand.tmp 34)],type:=22,pos := "amend.go:78",after:=#[{on:=4,ground:=Ground.data}],guard:=none},
 {dst:=some 36,op:=Op.call {callee:=Callee.builtin Builtin.append,args:=#[Operand.tmp 30,Operand.tmp 35],argTypes:=#[22,22]},type:=22,pos := "amend.go:78",after:=#[{on:=0,ground:=Ground.data},{on:=5,ground:=Ground.data},{on:=4,ground:=Ground.chain}],guard:=none},
 {dst:=some 2,op:=Op.assign (Operand.tmp 36),type:=22,pos := "amend.go:78",after:=#[{on:=6,ground:=Ground.data},{on:=6,ground:=Ground.chain},{on:=0,ground:=Ground.phase},{on:=1,ground:=Ground.phase},{on:=2,ground:=Ground.phase},{on:=3,ground:=Ground.phase},{on:=4,ground:=Ground.phase},{on:=5,ground:=Ground.phase},{on:=6,ground:=Ground.phase}],guard:=none}]
def Jo(i:Nat):Option Nat:=(yc[i]?).bind (·.dst)
theorem jiB:∀i,i<6->∀k,k<6->Jo i≠none->Jo i=Jo k->i=k:=by decide +kernel
theorem jj4:∀i,i<6->(Jo i).getD 0<37:=by decide +kernel
theorem jiu:∀i:Fin 8,∀e∈(yc[i.1]'(by exact i.2)).after,Region.binds .any e=true->e.on<i.1:=by decide +kernel
def jhB(bb tb nb lo:Nat)(bv:Value)(s:ByteArray)(beg:Nat)(PL:Value->World->Prop):List (Value->World->Prop):=[
 fun v w=>v=bv,
 fun v w=>v=.string s,
 fun v w=>v=.int .i64 (beg:Nat),
 fun v w=>v=.string (s.extract beg s.size),
 fun v w=>PL v w,
 fun v w=>∃b u cs,v=.slice (some ⟨b,0,none⟩) 1 1/\PL u w/\lo<=b/\u=.agg cs/\ja w b 63 cs]
theorem jb0(a0:Act)(w0:World)(bb tb nb lo:Nat)(bv:Value)(s:ByteArray)(beg:Nat)(PL:Value->World->Prop)(Q:Exit->Act->World->Prop)
  (hsz:a0.tmps.size=37) (h3:a0.tmps[3]?=some (.pointer (some ⟨bb,0,none⟩))) (h1:a0.tmps[1]?=some (.pointer (some ⟨tb,0,none⟩))) (h4:a0.tmps[4]?=some (.pointer (some ⟨nb,0,none⟩)))
  (hS:∀W,Below w0.heap.size w0 W->W.cell? ⟨bb,0,none⟩=some bv/\W.cell? ⟨tb,0,none⟩=some (.string s)/\W.cell? ⟨nb,0,none⟩=some (.int .i64 (beg:Nat))/\True) (hlo:lo<=w0.heap.size)
  (hle:beg<=s.size)
  (hPM:∀v x y,Below x.heap.size x y->PL v x->PL v y) (hPF:∀v w,PL v w->∃k i fa fn fc,v=.agg #[.int .i64 k,.int .i64 i,.slice fa fn fc])
  (hC4:∀(W:World) (_:Below w0.heap.size w0 W),Calls prog 153 #[.string (s.extract beg s.size)] W fun e w=>∃v,e=.returned v/\(PL v w)/\Below W.heap.size W w)
  (hQ:∀(y0 y1 y2 y3 y4 y5:Value) (w:World),Below w0.heap.size w0 w->((fun(v:Value) (w:World)=>v=bv) y0 w)->((fun(v:Value) (w:World)=>∃b u cs,v=.slice (some ⟨b,0,none⟩) 1 1/\PL u w/\lo<=b/\u=.agg cs/\ja w b 63 cs) y5 w)->wpList prog yc.toArray Q [{dst:=some 36,op:=Op.call {callee:=Callee.builtin Builtin.append,args:=#[Operand.tmp 30,Operand.tmp 35],argTypes:=#[22,22]},type:=22,pos := "amend.go:78",after:=#[{on:=0,ground:=Ground.data},{on:=5,ground:=Ground.data},{on:=4,ground:=Ground.chain}],guard:=none},{dst:=some 2,op:=Op.assign (Operand.tmp 36),type:=22,pos := "amend.go:78",after:=#[{on:=6,ground:=Ground.data},{on:=6,ground:=Ground.chain},{on:=0,ground:=Ground.phase},{on:=1,ground:=Ground.phase},{on:=2,ground:=Ground.phase},{on:=3,ground:=Ground.phase},{on:=4,ground:=Ground.phase},{on:=5,ground:=Ground.phase},{on:=6,ground:=Ground.phase}],guard:=none}] {a0 with tmps:=[(30,y0),(31,y1),(32,y2),(33,y3),(34,y4),(35,y5)].foldl (fun u p=>u.setIfInBounds p.1 p.2) a0.tmps} w) :
  wpAny prog .any yc.toArray Q yc.toArray.size (Array.replicate yc.toArray.size false) a0 w0:=by
 have M:jjn (jhB bb tb nb lo bv s beg PL):=⟨fun v x y hb h=>h,fun v x y hb h=>h,fun v x y hb h=>h,fun v x y hb h=>h,fun v x y hb h=>hPM v x y hb h,fun v x y hb h=>by obtain⟨b,u,cs,e,h1,h2,h3,h4⟩:=h;exact⟨b,u,cs,e,hPM u x y hb h1,h2,h3,jd h4 hb h4.lt⟩,trivial⟩
 refine qy 6 2 (by kernel_rfl) (by decide) a0 w0 Jo (jhB bb tb nb lo bv s beg PL) M (by kernel_rfl) (by kernel_rfl) (by kernel_rfl)
  (fun i o _ ho=>by unfold Jo;rw[ho];rfl)
  (fun i k d hi hk h1 h2=>jiB i hi k hk (by rw[h1];intro q;cases q) (by rw[h1,h2]))
  (fun i d hi h=>by have:=jj4 i hi;rw[h]at this;rw[hsz];exact this)
  (fun i o e ho he hb=>by
   obtain⟨hi,rfl⟩:=List.getElem?_eq_some_iff.1 ho
   exact jiu ⟨i,hi⟩ e he hb)
  ?step ?fin
 case fin =>
  intro a w hd hs hf hv hR
  obtain⟨y0,hy0,pv0⟩:=hv 0 30 (by decide) rfl
  obtain⟨y1,hy1,pv1⟩:=hv 1 31 (by decide) rfl
  obtain⟨y2,hy2,pv2⟩:=hv 2 32 (by decide) rfl
  obtain⟨y3,hy3,pv3⟩:=hv 3 33 (by decide) rfl
  obtain⟨y4,hy4,pv4⟩:=hv 4 34 (by decide) rfl
  obtain⟨y5,hy5,pv5⟩:=hv 5 35 (by decide) rfl
  rw[Zi (a:=a) (a0:=a0) [(30,y0),(31,y1),(32,y2),(33,y3),(34,y4),(35,y5)] hd hs (by
   intro p hp
   simp only[jon,List.not_mem_nil,or_false]at hp
   rcases hp with rfl|rfl|rfl|rfl|rfl|rfl
   ·exact hy0
   ·exact hy1
   ·exact hy2
   ·exact hy3
   ·exact hy4
   ·exact hy5
   ) (fun j hj=>hf j (fun k hk q=>hj (by
    have:∀k,k<6->(Jo k).all (fun d=>[30,31,32,33,34,35].contains d)=true:=by decide +kernel
    have h1:=this k hk
    rw[q]at h1
    simpa using h1)))]
  exact hQ y0 y1 y2 y3 y4 y5 w hR pv0 pv5
 case step =>
 intro i o a w hi ho hs hf dep hR
 have e3:=evT ((hf 3 (by decide +kernel)).trans h3)
 have e1:=evT ((hf 1 (by decide +kernel)).trans h1)
 have e4:=evT ((hf 4 (by decide +kernel)).trans h4)
 rcases(by omega:i=0\/i=1\/i=2\/i=3\/i=4\/i=5) with rfl|rfl|rfl|rfl|rfl|rfl
 ·have ho2:some _=some o:=ho
  obtain rfl:=jmf ho2
  exact .inl ⟨JC rfl,fun K hK=>xh (by simp[go_sem,(hS w hR).1]) rfl e3 (hK _ _ (jmc _ _) rfl)⟩
 ·have ho2:some _=some o:=ho
  obtain rfl:=jmf ho2
  exact .inl ⟨JC rfl,fun K hK=>xh (by simp[go_sem,(hS w hR).2.1]) rfl e1 (hK _ _ (jmc _ _) rfl)⟩
 ·have ho2:some _=some o:=ho
  obtain rfl:=jmf ho2
  exact .inl ⟨JC rfl,fun K hK=>xh (by simp[go_sem,(hS w hR).2.2.1]) rfl e4 (hK _ _ (jmc _ _) rfl)⟩
 ·have ho2:some _=some o:=ho
  obtain rfl:=jmf ho2
  obtain⟨_,hv1,rfl⟩:∃v,a.tmps[31]?=some v/\(fun(v:Value) (w:World)=>v=.string s) v w:=dep ⟨1,Ground.data⟩ (by first|simp|simp[yc]) rfl 31 rfl
  obtain⟨_,hv2,rfl⟩:∃v,a.tmps[32]?=some v/\(fun(v:Value) (w:World)=>v=.int .i64 (beg:Nat)) v w:=dep ⟨2,Ground.data⟩ (by first|simp|simp[yc]) rfl 32 rfl
  exact .inl ⟨JC rfl,fun K hK=>jd2 rfl (evT hv1) (evT hv2) hle (hK _ _ (jmc _ _) rfl)⟩
 ·have ho2:some _=some o:=ho
  obtain rfl:=jmf ho2
  obtain⟨_,hv3,rfl⟩:∃v,a.tmps[33]?=some v/\(fun(v:Value) (w:World)=>v=.string (s.extract beg s.size)) v w:=dep ⟨3,Ground.data⟩ (by first|simp|simp[yc]) rfl 33 rfl
  exact .inl ⟨JC rfl,fun K hK=>jaS 153 rfl (evT hv3) (enters_of (P:=prog) func153 (by kernel_rfl) rfl) (hC4 w hR) (fun v w' h=>hK v w' h.2 h.1)⟩
 have ho2:some _=some o:=ho
 obtain rfl:=jmf ho2
 obtain⟨z4,hv4,pv4⟩:∃v,a.tmps[34]?=some v/\(fun(v:Value) (w:World)=>PL v w) v w:=dep ⟨4,Ground.data⟩ (by first|simp|simp[yc]) rfl 34 rfl
 exact .inl ⟨JC rfl,fun K hK=>by obtain⟨k1,i1,fa1,fn1,fc1,rfl⟩:=hPF _ _ pv4;exact jd4 rfl (evT hv4) (hK _ _ ((jmc _ _).alloc (jma _) _) ⟨w.heap.size,_,_,rfl,hPM _ _ _ ((jmc _ _).alloc (jma _) _) pv4,jmy hlo hR.size,rfl,ja.new _ _ _⟩)⟩
end
section
attribute [local go_sem] jmk
theorem jdS{w:World}{lo g cap:Nat}{cur:Array Value}{t:TypeId}{size:Nat}(hlo:lo<=g)(hc:w.heap[g]?=some (.cells cur t (0,0)))(hm:cap<=maxLen)(hs:cur.size=cap*size):w.ownsRow lo t size (.slice (some ⟨g,0,none⟩) 0 cap) 0 [] :=
 ⟨by simp,.inr ⟨g,cap,cur,rfl,hlo,hc,jmo _,hm,hs,by simp⟩⟩
theorem jgG(n:Nat)(hn:n<=1000000)(w:World):
  Calls prog 273 #[.slice none 0 0,.int .i64 n] w fun e w'=>∃v,e=.returned v/\w'.ownsRow w.heap.size 155 2 v 0 []/\Below w.heap.size w w':=by
 obtain⟨i0,hi,hz0,hz1,hz2⟩:=info_parts Gw
 have hw0:IntKind.i64.wrap ((n:Int)-0)=(n:Int):=by rw[Int.sub_zero];exact jmU _ (by omega)
 have hw1:IntKind.i64.wrap (n:Int)=(n:Int):=jmU _ (by omega)
 by_cases h0:n=0
 ·subst h0
  go_enter func273,ntmps273
  go_wp2_with fail
  go_ret
  exact⟨_,rfl,⟨rfl,.inl ⟨rfl,rfl⟩⟩,jmc _ _⟩
 have hp:(0:Int)<(n:Int):=by omega
 have hr:=Lib.run_append_nil_zeros (P:=prog) w 61 3 61 155 i0 (.agg #[.string ⟨#[]⟩,.string ⟨#[]⟩]) .i64 .i64 underlying61 underlying3 hi hz0 n (by omega) (by rw[hz1];decide) (by omega) (by rw[hz2];omega)
 have hge:=grownCap_ge w n 0 155
 have hcm:grownCap w n 0 155<=maxLen:=grownCap_le_maxLen w n 0 155 (by unfold maxLen;omega)
 generalize grownCap w n 0 155=cap at *
 have hZ:(Builtin.zeroCells (Value.agg #[.string ⟨#[]⟩,.string ⟨#[]⟩]).cells n++Builtin.zeroCells (Value.agg #[.string ⟨#[]⟩,.string ⟨#[]⟩]).cells (cap-n)).size=cap*2:=by
  rw[jnV,qS,qS]
  show n*2+(cap-n)*2=cap*2
  omega
 generalize Builtin.zeroCells (Value.agg #[.string ⟨#[]⟩,.string ⟨#[]⟩]).cells n++Builtin.zeroCells (Value.agg #[.string ⟨#[]⟩,.string ⟨#[]⟩]).cells (cap-n)=Z at *
 have FIN:Hid ((w.drew.alloc (.cells Z 155)).ownsRow w.heap.size 155 2 (.slice (some ⟨w.heap.size,0,none⟩) 0 cap) 0 []/\Below w.heap.size w (w.drew.alloc (.cells Z 155))) :=
  ⟨jdS (jma _) (by show(w.drew.heap.push _)[w.drew.heap.size]?=_;exact Array.getElem?_push_size) hcm hZ,(jmc _ w).drew.alloc (jma _) _⟩
 clear hZ
 unfold maxLen at hcm
 go_enter func273,ntmps273
 go_wp2_with (at_builtin;refine Lib.wpList_append_run _ rfl _ _ _ _ rfl _ _ rfl rfl _ _ hr ?_)
 go_wp2_with fail
 go_ret
 exact⟨_,rfl,FIN.out.1,FIN.out.2⟩
def KH(rs:List (List Fld)):Nat:=(rs.map List.length).sum
theorem jed{rs:List (List Fld)}{k:Nat}{r:List Fld}(h:rs[k]?=some r):KH (rs.take (k+1))=KH (rs.take k)+r.length:=by
 unfold KH
 rw[jmO,h,jnh,List.sum_append];simp
theorem Vl(rs:List (List Fld))(k:Nat):KH (rs.take k)<=KH rs:=by
 unfold KH
 conv=>rhs;rw[<- jmQ k rs,jnh,List.sum_append]
 omega
theorem Vu(rs:List (List Fld)):rs.flatten.length=KH rs:=by unfold KH;rw[List.length_flatten]
theorem WR{rs:List (List Fld)}{k:Nat}{r:List Fld}(h:rs[k]?=some r):(rs.take (k+1)).flatten=(rs.take k).flatten++r:=by
 rw[jmO,h];simp
theorem Ky(a b:List Fld):jG (a++b)=jG a++jG b:=by unfold jG;rw[jmL]
theorem Xw{w0 w:World}{v:Value}{vs:List Value}{rs:List (List Fld)}(h:jdc w0 w v vs rs)(hl:KH rs<=1000000)(hn:rs.length<=1000000):
  Calls prog 250 #[v] w fun e w'=>∃u,e=.returned u/\w'.ownsRow w.heap.size 155 2 u rs.flatten.length (jG rs.flatten)/\Below w.heap.size w w':=by
 obtain⟨i0,hi,hz0,hz1,hz2⟩:=info_parts Gw
 have hvl:=h.len
 have hrow:=h.row
 obtain⟨va,vc,rfl,hvc⟩:=jf hrow
 have EACH:=jl9 (fun(k:Nat) (r:List Fld) (hr:rs[k]?=some r)=>show ∃b fv,va=some ⟨b,0,none⟩/\b<w.heap.size/\w.cell? ⟨b,k,none⟩=some fv/\w.ownsRow w0.heap.size 155 2 fv r.length (jG r) from by
  have hk:=(List.getElem?_eq_some_iff.1 hr).1
  obtain⟨x,hx⟩:∃x,vs[k]?=some x:=⟨_,jmd (by omega)⟩
  rcases jnm hrow with ⟨_,hn⟩|⟨g,cap,hg⟩
  ·omega
  injection hg with hg1 _ _
  subst hg1
  refine⟨g,x,rfl,(jnE hrow g rfl).2,by rw[jmG hrow k (by omega)];exact hx,h.each k x r hx hr⟩)
 have h0s:=h.below.size
 clear h hrow
 rw[hvl]at hvc ⊢
 have HL:=jl9 hl
 go_enter func250,ntmps250
 go_wp2_with fail
 go_loopw [3,11] (fun sv i wr=>∃k:Nat,k<=rs.length/\i=.int .i64 k/\sv=.int .i64 (KH (rs.take k):Nat)/\wr=w) (fun _ i _=>rs.length-(intOf i).toNat)
 case atStart=>exact⟨0,jmo _,rfl,rfl,rfl⟩
 case round =>
 obtain⟨k,hk,rfl,rfl,hwr⟩:=hrel
 subst wr
 have hsum:=Vl rs k
 by_cases hlt:k<rs.length
 ·obtain⟨r,hr⟩:∃r,rs[k]?=some r:=⟨_,jmd hlt⟩
  obtain⟨b,fv,rfl,hbb,c0,hf⟩:=EACH.out k r hr
  obtain⟨fa,fc,rfl,_⟩:=jf hf
  have hsum1:=Vl rs (k+1)
  have S1:Hid (KH (rs.take (k+1))=KH (rs.take k)+r.length):=jed hr
  rw[S1.out]at hsum1
  clear hr hf
  generalize hLK:KH (rs.take k)=LK at *
  have hw:IntKind.i64.wrap ((LK:Int)+(r.length:Int))=(LK:Int)+(r.length:Int):=jmU _ (by omega)
  have hge:¬((LK:Int)+(r.length:Int)<0):=by omega
  go_wp2_with fail
  go_roundw
  case rel=>exact⟨k+1,hlt,by go_num,by rw[S1.out];go_num,by first | trivial | rfl⟩
  case measure=>simp[intOf];omega
 obtain rfl:k=rs.length:=by omega
 rw[jmJ]at *
 have GW:=jl9 (jgG (KH rs) hl w)
 go_wp2_with fail
 refine GW.out.mono ?_
 rintro e w2 ⟨u,rfl,hu,b2⟩
 have HB2:=jl9 b2
 have hu':w2.ownsRow w.heap.size 155 2 u (rs.take 0).flatten.length (jG (rs.take 0).flatten):=hu
 clear GW b2 hu
 go_wp2_with fail
 go_loopw [6,27] (fun ux i wr=>∃(j:Nat) (uv:Value),uv=ux/\j<=rs.length/\i=.int .i64 j/\wr.ownsRow w.heap.size 155 2 uv (rs.take j).flatten.length (jG (rs.take j).flatten)/\Below w.heap.size w wr) (fun _ i _=>rs.length-(intOf i).toNat)
 case atStart=>exact⟨0,u,rfl,jmo _,rfl,hu',HB2.out⟩
 case round =>
 obtain⟨j,uv,rfl,hj,rfl,hrow,hb⟩:=hrel
 obtain⟨ua,uc,rfl,huc⟩:=jf hrow
 by_cases hjl:j<rs.length
 ·obtain⟨r,hr⟩:∃r,rs[j]?=some r:=⟨_,jmd hjl⟩
  obtain⟨b,fv,rfl,hbb,c0,hf⟩:=EACH.out j r hr
  have hfq:=qT hf hb (jma _)
  replace c0:=(hb.cell (p:=⟨b,j,none⟩) hbb).trans c0
  have e1:=WR hr
  have s1:=Vl rs (j+1)
  rw[<- Vu,e1,jmb]at s1
  have E1:Hid ((rs.take (j+1)).flatten=(rs.take j).flatten++r):=e1
  have hsz:=hb.size
  have HROW:=jl9 hrow
  have HB:=jl9 hb
  have fle:(rs.take j).flatten.length+r.length<=1000000:=by have:=HL.out;omega
  have hone:∀u∈jG r,u.oneCell'=true:=fun u hu=>by
   obtain⟨f,_,h2⟩:=List.mem_flatMap.1 hu
   simp at h2
   rcases h2 with rfl|rfl<;>rfl
  have hcl:=xN r
  rcases jnm hfq with ⟨rfl,hr0⟩|⟨g,cap,rfl⟩
  ·clear hf hfq hr e1 hrow hb s1
   generalize hFL:(rs.take j).flatten.length=fl at *
   go_wp2_with (at_builtin;refine wpList_append_own_none rfl _ _ 61 rfl w.heap.size 155 i0 2 underlying61 hi _ _ _ rfl HROW.out rfl ?_)
   go_wp2_with fail
   go_roundw
   case rel =>
    have er:r=[]:=List.length_eq_zero_iff.1 hr0
    exact⟨j+1,_,rfl,hjl,by go_num,by rw[E1.out,er,jmT,hFL];exact HROW.out,HB.out⟩
   case measure=>simp[intOf];omega
  have HC:∀(q:Nat) u,(jG r)[q]?=some u->wr.cell? ((⟨g,0,none⟩:Addr).add q)=some u:=fun q u hq=>by
   have hql:=(List.getElem?_eq_some_iff.1 hq).1
   rw[jor,jmP,jmG hfq q (by omega)];exact hq
  have HCH:=jl9 HC
  clear hf hfq hr e1 hrow hb HC s1
  generalize hFL:(rs.take j).flatten.length=fl at *
  go_wp2_with (at_builtin;refine jQ rfl _ _ 61 rfl w.heap.size 155 i0 _ 2 32 underlying61 hi hz0 hz1 hz2 rfl (by decide) _ _ _ rfl HROW.out ⟨g,0,none⟩ r.length cap _ rfl hcl HCH.out hone ?c3 ?c4 ?c5 ?_)
  case c3=>unfold maxLen;omega
  case c4=>omega
  case c5=>exact hsz
  intro v' w3 hown' hgrow hbk
  have HB3:=jl9 (HB.out.grown hgrow hsz (fun k hk=>(HROW.out.lt k hk).1))
  have HO3:=jl9 hown'
  obtain⟨xa,xc,rfl,_⟩:=jf hown'
  clear hown' hgrow hbk
  go_wp2_with fail
  go_roundw
  case rel=>exact⟨j+1,_,rfl,hjl,by go_num,by rw[E1.out,jmb,Ky,hFL];exact HO3.out,HB3.out⟩
  case measure=>simp[intOf];omega
 obtain rfl:j=rs.length:=by omega
 rw[jmJ]at hrow ⊢
 have FIN:Hid (wr.ownsRow w.heap.size 155 2 (.slice ua rs.flatten.length uc) rs.flatten.length (jG rs.flatten)/\Below w.heap.size w wr):=⟨hrow,hb⟩
 clear hrow hb
 generalize hFL:rs.flatten.length=fl at *
 go_wp2_with fail
 go_ret
 obtain⟨f1,f2⟩:=FIN.out
 refine⟨_,rfl,?_,f2⟩
 first | exact f1 | (rw[hFL];exact f1)
def jbk(p:List UInt8)(xs:List Ln):List UInt8:=xs.flatMap fun x=>Lib.trimPrefix x.text p++if x.ended then [10] else []
theorem Uf(p:List UInt8)(pre:List Ln)(x:Ln):jbk p (pre++[x])=jbk p pre++Lib.trimPrefix x.text p++(Kk x.ended).data.toList:=by
 have e:(Kk x.ended).data.toList=if x.ended then [10] else []:=by unfold Kk;cases x.ended<;>rfl
 rw[e]
 simp[jbk]
theorem Ku(p:List UInt8):∀xs:List Ln,(jbk p xs).length<=(xs.flatMap Ln.bytes).length
 | []=>by simp[jbk]
 | x::xs=>by
  have ih:=Ku p xs
  have h1:=Lib.trimPrefix_le x.text p
  have e:jbk p (x::xs)=(Lib.trimPrefix x.text p++if x.ended then [10] else [])++jbk p xs:=by simp[jbk]
  rw[e,jmt]
  simp only[jmb,Ln.bytes]
  omega
theorem jhM(p:List UInt8)(xs:List Ln)(h:∀x∈xs,Lib.hasPrefix x.text p=true):dd p (xs.map XN)=(jbk p xs,true):=by
 unfold dd
 rw[if_pos]
 ·rw[List.flatMap_map]
  congr 1
  unfold jbk
  induction xs with
  | nil=>rfl
  | cons x xs ih =>
  rw[jmt,jmt,ih (fun y hy=>h y (jmj _ hy))]
  have:=h x jml
  simp only[Lib.trimPrefix,this,if_true,XN]
  rfl
 rw[jmR]
 intro y hy
 obtain⟨x,hx,rfl⟩:=List.mem_map.1 hy
 exact h x hx
theorem je2(p:List UInt8)(xs:List Ln)(x:Ln)(hx:x∈xs)(h:Lib.hasPrefix x.text p=false):dd p (xs.map XN)=([],false):=by
 unfold dd
 rw[if_neg]
 intro ha
 have:=(List.all_eq_true.1 ha) (XN x) (List.mem_map.2 ⟨x,hx,rfl⟩)
 have e:Lib.hasPrefix x.text p=true:=this
 rw[h]at e
 cases e
def Qn(w:World)(p:ByteArray)(W:World):Prop :=
 Boxed W w.heap.size 9 (.string p)/\Boxed W (w.heap.size+1) 9 (.string ⟨#[]⟩)/\Boxed W (w.heap.size+2) 4 (.bool false)/\Below w.heap.size w W
theorem Qn.turned{w:World}{p:ByteArray}{W W':World}{B k:Nat}(h:Qn w p W)(ht:jY B k W W')(hB:w.heap.size+2<B):Qn w p W' :=
 ⟨ht.box h.1 (.inl (by omega)),ht.box h.2.1 (.inl (by omega)),ht.box h.2.2.1 (.inl hB),h.2.2.2.trans (ht.below (by omega) h.2.2.2.size)⟩
theorem Qn.alloc{w:World}{p:ByteArray}{W:World}(h:Qn w p W)(o:Obj):Qn w p (W.alloc o):=⟨h.1.alloc _,h.2.1.alloc _,h.2.2.1.alloc _,h.2.2.2.alloc h.2.2.2.size _⟩
theorem Qn.wrote{w:World}{p:ByteArray}{W W':World}{b R:Nat}(h:Qn w p W)(ho:qw b R W W')(hb:w.heap.size+2<b)(hR:w.heap.size+2<R):Qn w p W' :=
 ⟨ho.box h.1 (by omega) (by omega),ho.box h.2.1 (by omega) (by omega),ho.box h.2.2.1 (by omega) (by omega),h.2.2.2.trans (ho.below (by omega) (by omega) h.2.2.2.size)⟩
def jk1(w:World)(p:ByteArray)(R:Nat)(pre:List Ln)(W:World):Prop :=
 Qn w p W/\Bld (w.heap.size+3) R (jbk p.data.toList pre) W/\∀x∈pre,Lib.hasPrefix x.text p.data.toList=true
def jl4(w:World)(p:ByteArray)(c:Code)(pre:List Ln)(W:World):Prop :=
 Qn w p W/\c=.ret/\∃x∈pre,Lib.hasPrefix x.text p.data.toList=false
theorem jhv(w W:World)(a b:ByteArray×Bool)(tmps:Array Value)(h4:Boxed W (w.heap.size+1) 9 (.string a.1))(h5:Boxed W (w.heap.size+2) 4 (.bool b.2))(hK:W.heap[w.heap.size+5]?=some (.deferred (some [])))(hB:Below w.heap.size w W)(t4:tmps[4]?=some (.pointer (some ⟨w.heap.size+1,0,none⟩)))(t5:tmps[5]?=some (.pointer (some ⟨w.heap.size+2,0,none⟩))):
  bodyPostM Fence.wide 9 prog Tryz.f249 (fun e w'=>e=.returned (.tuple #[.string a.1,.bool b.2])/\Below w.heap.size w w') .ret {tmps:=tmps,defers:=[{target:=.collected (w.heap.size+5),args:=#[]}]} W:=by
 have p1:=grownBy_putObj' W (w.heap.size+5) (.deferred none)
 have zW:w.heap.size+5<W.heap.size:=(Array.getElem?_eq_some_iff.1 hK).1
 have r4:Boxed (W.putObj (w.heap.size+5) (.deferred none)) (w.heap.size+1) 9 (.string a.1):=(p1.block _ (by omega) (fun e=>by have:=jmf e;omega)).trans h4
 have r5:Boxed (W.putObj (w.heap.size+5) (.deferred none)) (w.heap.size+2) 4 (.bool b.2):=(p1.block _ (by omega) (fun e=>by have:=jmf e;omega)).trans h5
 have c4:=r4.cell
 have c5:=r5.cell
 refine⟨by simp,.inl ⟨_,_,rfl,run_takeDeferred hK,?_⟩⟩
 exact⟨.tuple #[.string a.1,.bool b.2],by simp[results,Tryz.f249,go_sem,t4,t5,c4,c5],rfl,hB.trans (belowK_b (w:=w) (jma _) W _ _ _ (by omega) hK rfl rfl)⟩
theorem jcI(s p:ByteArray)(hs:s.size<=1000000000)(w:World):
  Calls prog 249 #[.string s,.string p] w fun e w'=>e=.returned (.tuple #[.string ⟨(dd p.data.toList ((je s.data.toList).map XN)).1.toArray⟩,.bool (dd p.data.toList ((je s.data.toList).map XN)).2])/\Below w.heap.size w w':=by
 have hjl:((je s.data.toList).flatMap Ln.bytes).length<=1000000000:=by rw[zg,<- jmq];exact hs
 obtain⟨xs,hxs⟩:∃xs,je s.data.toList=xs:=⟨_,rfl⟩
 rw[hxs]at hjl ⊢
 have HXS:=jl9 hxs
 clear hxs
 refine callsIn_wide (n:=9).1 ?_
 refine callsIn_of_wp_marks func249 rfl trivial ?_ rfl
 simp only[ntmps249,jmN,jme,jmB,Nat.reduceAdd,Nat.reduceSub,jmW,jmX,jm5,jm0,jmS,jmu]
 gi_wp2_with fail
 refine⟨trivial,(callsIn_wide.2 (yj s _)).mono ?_⟩
 rintro e w3 ⟨rfl,rfl⟩
 gi_wp2_with fail
 have k1:=jnr w 9 (.string p)
 have k2:=xC w (.cells #[.string p] 9) 9 (.string ⟨#[]⟩)
 have k3:=ZD w (.cells #[.string p] 9) (.cells #[.string ⟨#[]⟩] 9) 4 (.bool false)
 have kb:=Bld.new (((w.alloc (.cells #[.string p] 9)).alloc (.cells #[.string ⟨#[]⟩] 9)).alloc (.cells #[.bool false] 4)) (w.heap.size+10)
 have kz:(((w.alloc (.cells #[.string p] 9)).alloc (.cells #[.string ⟨#[]⟩] 9)).alloc (.cells #[.bool false] 4)).heap.size=w.heap.size+3:=by simp
 rw[kz]at kb
 have rooms:Qn w p (((w.alloc (.cells #[.string p] 9)).alloc (.cells #[.string ⟨#[]⟩] 9)).alloc (.cells #[.bool false] 4)) :=
  ⟨(k1.alloc _).alloc _,k2.alloc _,k3,((((jmc _ w).alloc (jma _) _).alloc (by simp) _).alloc (by simp;omega) _)⟩
 generalize ((w.alloc (.cells #[.string p] 9)).alloc (.cells #[.string ⟨#[]⟩] 9)).alloc (.cells #[.bool false] 4)=w1 at *
 have k7:=xC w1 (.cells #[.pointer none,.slice none 0 0] 182) 9 (.string s)
 rw[kz]at k7
 have HH:=qL s (w.heap.size+4) _ k7 (by omega)
 rw[HXS.out]at HH
 have hz:((w1.alloc (.cells #[.pointer none,.slice none 0 0] 182)).alloc (.cells #[.string s] 9)).heap.size=w.heap.size+5:=by simp[kz]
 have ab:∀k,k<=5->zD (w.heap.size+5) k (jk1 w p (w.heap.size+10)):=fun k hk pre W W' h ht =>
  ⟨h.1.turned ht (by omega),h.2.1.turned ht (by omega) (by omega),h.2.2⟩
 have init:jk1 w p (w.heap.size+10) [] ((w1.alloc (.cells #[.pointer none,.slice none 0 0] 182)).alloc (.cells #[.string s] 9)) :=
  ⟨(rooms.alloc _).alloc _,kb.alloc _,fun x hx=>by cases hx⟩
 refine vC (gf:=139) (lb:=#[.pointer (some ⟨w.heap.size+4,0,none⟩)]) rfl (enters_of func139 (by kernel_rfl) rfl) HH (fun _=>rfl)
  (jk1 w p (w.heap.size+10)) (jl4 w p) (by rw[hz];exact ab _ (by omega)) (fun c pre W W' h ht=>⟨h.1.turned ht (by rw[hz];omega),h.2⟩) init
  (fun a pre x a' W=>∃Bx,w.heap.size+5+5<=Bx/\a'={tmps:=(a.tmps.setIfInBounds 12 (.agg (qP x))).setIfInBounds 7 (.pointer (some ⟨Bx,0,none⟩)),defers:=[]}/\ja W Bx 164 (qP x) /\
   jk1 w p (w.heap.size+10) pre W)
  ?hM ?assign ?body ?done ?stop
 case hM =>
  rw[hz]
  rintro a pre x a' _ W W' ⟨Bx,h1,h2,h3,h4⟩ ht
  exact⟨Bx,h1,h2,(ht.same Bx h3.lt (.inr (by omega))).trans h3,ab 2 (by omega) pre W W' h4 ht⟩
 case assign =>
  rw[hz]
  intro l pre x post W hx hsz hi
  clear hx
  dsimp only[qP]
  gi_wp2
  exact⟨(vz.refl _ _ W).alloc hsz _,W.heap.size,by omega,rfl,ja.new _ _ _,hi.1.alloc _,hi.2.1.alloc _,hi.2.2⟩
 case body =>
  rw[hz]
  rintro l pre x post a' W hx hsz ⟨Bx,hB,rfl,hc,h1,h2,h3⟩
  have hlen:=Ku p.data.toList (pre++[x])
  have hlen2:((pre++[x]).flatMap Ln.bytes).length<=1000000000:=by
   rw[hx,show pre++x::post=(pre++[x])++post by simp,jmL,jmb]at hjl
   omega
  have hlen:=jmy hlen hlen2
  rw[Uf]at hlen
  simp only[jmb,<- jmq]at hlen
  have HS:=jl9 (Uf p.data.toList pre x)
  clear hx hjl hlen2
  simp only[jms,jm2,jm3,qP]at hc ⊢
  have hne:Bx≠w.heap.size+3:=by omega
  obtain⟨en,hen⟩:∃en,x.ended=en:=⟨_,rfl⟩
  rw[hen]at hlen hc ⊢
  have c3:=h1.1.cell
  have p2:W.cell? ⟨Bx,2,none⟩=some (.string ⟨x.text.toArray⟩):=hc.cell 2
  gi_wp2_with fail
  refine⟨trivial,((callsIn_wide.2 (Tryz.strings_CutPrefix ⟨x.text.toArray⟩ p W)).inRound l).mono ?_⟩
  rintro e V ⟨rfl,rfl⟩
  have eh:Lib.hasPrefix (⟨x.text.toArray⟩:ByteArray).data.toList p.data.toList=Lib.hasPrefix x.text p.data.toList:=rfl
  have et:Lib.trimPrefix (⟨x.text.toArray⟩:ByteArray).data.toList p.data.toList=Lib.trimPrefix x.text p.data.toList:=rfl
  rw[eh,et]
  cases hp:Lib.hasPrefix x.text p.data.toList
  ·have c4:=h1.2.1.cell
   have f4:=h1.2.1.frozen
   have c5:V.cell? ⟨w.heap.size+1+1,0,none⟩=some (.bool false):=h1.2.2.1.cell
   have f5:V.frozen? ⟨w.heap.size+1+1,0,none⟩=false:=h1.2.2.1.frozen
   gi_wp2
   refine⟨((vz.refl _ _ _).setCell (.inl (by show w.heap.size+1<_;omega)) _).setCell (.inl (by show w.heap.size+1+1<_;omega)) _,?_,rfl,x,by simp,hp⟩
   refine⟨xI (xI h1.1 (by omega) _) (by omega) _,xI (jnd _ h1.2.1) (by omega) _,jnd _ (xI h1.2.2.1 (by omega) _),?_⟩
   exact(h1.2.2.2.setCell (p:=⟨w.heap.size+1,0,none⟩) (by show _<=w.heap.size+1;omega) _).setCell (p:=⟨w.heap.size+1+1,0,none⟩) (by show _<=w.heap.size+1+1;omega) _
  gi_wp2_with fail
  refine⟨trivial,((callsIn_wide.2 (ZN (w.heap.size+3) (w.heap.size+10) _ ⟨(Lib.trimPrefix x.text p.data.toList).toArray⟩ V h2 (by omega) (by omega) ?_)).inRound l).mono ?_⟩
  ·have e1:(⟨(Lib.trimPrefix x.text p.data.toList).toArray⟩:ByteArray).size=(Lib.trimPrefix x.text p.data.toList).length:=by simp[ByteArray.size]
   omega
  rintro e W2 ⟨rfl,b2,o2⟩
  have m2:ja W2 Bx 164 _:=o2.other hc hne (by decide)
  have z2:=o2.size
  have q0:W2.cell? ⟨Bx,0,none⟩=some (.int .i64 x.no):=m2.cell 0
  have q1:W2.cell? ⟨Bx,1,none⟩=some (.int .i64 x.at_):=m2.cell 1
  have q2:W2.cell? ⟨Bx,2,none⟩=some (.string ⟨x.text.toArray⟩):=m2.cell 2
  have q3:W2.cell? ⟨Bx,3,none⟩=some (.bool en):=m2.cell 3
  gi_wp2_with fail
  refine⟨trivial,((callsIn_wide.2 (GU _ _ _ _ _)).inRound l).mono ?_⟩
  rintro e W3 ⟨rfl,rfl⟩
  gi_wp2_with fail
  refine⟨trivial,((callsIn_wide.2 (ZN (w.heap.size+3) (w.heap.size+10) _ (Kk en) _ (b2.alloc _) (by omega) (by simp;omega) ?_)).inRound l).mono ?_⟩
  ·simp only[jmb]
   omega
  rintro e W4 ⟨rfl,b3,o3⟩
  gi_wp2_with fail
  have oo:=(o2.alloc (.cells #[.int .i64 x.no,.int .i64 x.at_,.string ⟨x.text.toArray⟩,.bool en] 164)).trans o3
  refine⟨oo.stay (by omega) (by omega) (by omega),h1.wrote oo (by omega) (by omega),?_,?_⟩
  ·rw[HS.out,hen]
   exact b3
  intro y hy
  rcases List.mem_append.1 hy with h|h
  ·exact h3 y h
  rw[List.mem_singleton.1 h];exact hp
 case done =>
  rw[hz]
  rintro W ⟨h1,h2,h3⟩ hmark
  have zW:w.heap.size+5<W.heap.size:=(Array.getElem?_eq_some_iff.1 hmark).1
  gi_wp2_with fail
  refine⟨trivial,(callsIn_wide.2 (Tryz.Builder_String_any_k (w.heap.size+3) (w.heap.size+3) _ W (h2.library (by omega) (by omega)) (by omega))).mono ?_⟩
  rintro e W1 ⟨rfl,_,g2,g3⟩
  have hK:W1.heap[w.heap.size+5]?=some (.deferred (some [])):=g3 _ _ hmark (by simp) (fun c fz e=>by cases e)
  have b4:Boxed W1 (w.heap.size+1) 9 (.string ⟨#[]⟩):=jjI h1.2.1 g2 (by omega)
  have b5:Boxed W1 (w.heap.size+2) 4 (.bool false):=jjI h1.2.2.1 g2 (by omega)
  have hbel:Below w.heap.size w W1:=h1.2.2.2.trans (g2.mono (by omega))
  have c4:=b4.cell
  have f4:=b4.frozen
  have c5:W1.cell? ⟨w.heap.size+1+1,0,none⟩=some (.bool false):=b5.cell
  have f5:W1.frozen? ⟨w.heap.size+1+1,0,none⟩=false:=b5.frozen
  clear k1 k2 k3 kb k7 HH ab init rooms
  gi_wp2
  rw[jhM _ _ h3]
  obtain⟨W2,hW2⟩:∃W2,(W1.setCell ⟨w.heap.size+1,0,none⟩ (.string ⟨(jbk p.data.toList xs).toArray⟩)).setCell ⟨w.heap.size+1+1,0,none⟩ (.bool true)=W2:=⟨_,rfl⟩
  have e4:Boxed W2 (w.heap.size+1) 9 (.string ⟨(jbk p.data.toList xs).toArray⟩):=by rw[<- hW2];exact xI (jnd _ b4) (by omega) _
  have e5:Boxed W2 (w.heap.size+2) 4 (.bool true):=by rw[<- hW2];exact jnd _ (xI b5 (by omega) _)
  have eK:W2.heap[w.heap.size+5]?=some (.deferred (some [])):=by
   rw[<- hW2]
   exact(jmz _ _ _ _ (by show w.heap.size+5≠w.heap.size+1+1;omega)).trans ((jmz _ _ _ _ (by show w.heap.size+5≠w.heap.size+1;omega)).trans hK)
  have eB:Below w.heap.size w W2:=by
   rw[<- hW2]
   exact(hbel.setCell (p:=⟨w.heap.size+1,0,none⟩) (by show _<=w.heap.size+1;omega) _).setCell (p:=⟨w.heap.size+1+1,0,none⟩) (by show _<=w.heap.size+1+1;omega) _
  rw[hW2]
  exact jhv w W2 (⟨(jbk p.data.toList xs).toArray⟩,true) (⟨#[]⟩,true) _ e4 e5 eK eB rfl rfl
 case stop =>
 rw[hz]
 rintro c pre W hpre ⟨h1,rfl,x,hx,hp⟩ hmark
 gi_wp2
 rw[je2 _ _ x (hpre.subset hx) hp]
 exact jhv w W (⟨#[]⟩,false) (⟨#[]⟩,false) _ h1.2.1 h1.2.2.1 hmark h1.2.2.2 rfl rfl
theorem jfn(l:List UInt8)(w:World):Calls prog 198 #[.string (B l)] w fun e w'=>e=.returned (.int .i64 (xV l))/\Below w.heap.size w w':=by
 obtain⟨wa,hwa⟩:∃wa,wa=w.alloc (.cells #[.int .i64 1,.int .i64 2,.int .i64 3] 3):=⟨_,rfl⟩
 have HB:Hid (Below w.heap.size w wa):=by show Below _ _ _;rw[hwa];exact(jmc _ w).alloc (jma _) _
 have c0:wa.cell? ⟨w.heap.size,0,none⟩=some (.int .i64 1):=by rw[hwa];simp
 have c1:wa.cell? ⟨w.heap.size,1,none⟩=some (.int .i64 2):=by rw[hwa];simp
 have c2:wa.cell? ⟨w.heap.size,2,none⟩=some (.int .i64 3):=by rw[hwa];simp
 have W1:=jl9 (Qp 1 wa)
 have W2:=jl9 (Qp 2 wa)
 have W3:=jl9 (Qp 3 wa)
 have KD:=jl9 (show xV l=if l=qr 1 then 1 else if l=qr 2 then 2 else if l=qr 3 then 3 else 0 from rfl)
 have eq:∀k,((B (qr k)).toList==(B l).toList)=decide (l=qr k):=fun k=>by
  rw[jhN,jm8,decide_eq_true_eq,decide_eq_true_eq];exact⟨fun h=>h.symm,fun h=>h.symm⟩
 have e1:=eq 1
 have e2:=eq 2
 have e3:=eq 3
 clear eq
 subst hwa
 go_enter func198,ntmps198
 go_wp2_with fail
 go_loopw [7] (fun i wr=>∃k:Nat,k<=3/\i=.int .i64 k/\wr=w.alloc (.cells #[.int .i64 1,.int .i64 2,.int .i64 3] 3)/\(1<=k->l≠qr 1)/\(2<=k->l≠qr 2)/\(3<=k->l≠qr 3)) (fun i _=>3-(intOf i).toNat)
 case atStart=>exact⟨0,jmo _,rfl,rfl,(by omega),(by omega),(by omega)⟩
 case round =>
 obtain⟨k,hk,rfl,hwr,n1,n2,n3⟩:=hrel
 subst hwr
 obtain rfl|rfl|rfl|rfl:k=0\/k=1\/k=2\/k=3:=by omega
 ·by_cases hq:l=qr 1
  ·rw[decide_eq_true hq]at e1
   have KD1:Hid (xV l=1):=by show _=_;rw[KD.out,if_pos hq]
   clear n1 n2 n3 hq
   go_wp2_with fail
   refine W1.out.mono ?_
   rintro e w2 ⟨rfl,rfl⟩
   go_wp2_with fail
   go_ret
   exact⟨by rw[KD1.out];rfl,HB.out⟩
  rw[decide_eq_false hq]at e1
  clear n1 n2 n3
  go_wp2_with fail
  refine W1.out.mono ?_
  rintro e w2 ⟨rfl,rfl⟩
  go_wp2_with fail
  go_roundw
  case rel=>exact⟨1,by omega,by go_num,by first | trivial | rfl,(fun _=>hq),(by omega),(by omega)⟩
  case measure=>simp[intOf]
 ·have n1':=n1 (by omega)
  by_cases hq:l=qr 2
  ·rw[decide_eq_true hq]at e2
   have KD1:Hid (xV l=2):=by show _=_;rw[KD.out,if_neg n1',if_pos hq]
   clear n1 n2 n3 hq n1'
   go_wp2_with fail
   refine W2.out.mono ?_
   rintro e w2 ⟨rfl,rfl⟩
   go_wp2_with fail
   go_ret
   exact⟨by rw[KD1.out];rfl,HB.out⟩
  rw[decide_eq_false hq]at e2
  clear n1 n2 n3
  go_wp2_with fail
  refine W2.out.mono ?_
  rintro e w2 ⟨rfl,rfl⟩
  go_wp2_with fail
  go_roundw
  case rel=>exact⟨2,by omega,by go_num,by first | trivial | rfl,(fun _=>n1'),(fun _=>hq),(by omega)⟩
  case measure=>simp[intOf]
 ·have n1':=n1 (by omega)
  have n2':=n2 (by omega)
  by_cases hq:l=qr 3
  ·rw[decide_eq_true hq]at e3
   have KD1:Hid (xV l=3):=by show _=_;rw[KD.out,if_neg n1',if_neg n2',if_pos hq]
   clear n1 n2 n3 hq n1' n2'
   go_wp2_with fail
   refine W3.out.mono ?_
   rintro e w2 ⟨rfl,rfl⟩
   go_wp2_with fail
   go_ret
   exact⟨by rw[KD1.out];rfl,HB.out⟩
  rw[decide_eq_false hq]at e3
  clear n1 n2 n3
  go_wp2_with fail
  refine W3.out.mono ?_
  rintro e w2 ⟨rfl,rfl⟩
  go_wp2_with fail
  go_roundw
  case rel=>exact⟨3,by omega,by go_num,by first | trivial | rfl,(fun _=>n1'),(fun _=>n2'),(fun _=>hq)⟩
  case measure=>simp[intOf]
 have KD1:Hid (xV l=0):=by show _=_;rw[KD.out,if_neg (n1 (by omega)),if_neg (n2 (by omega)),if_neg (n3 (by omega))]
 clear n1 n2 n3
 go_wp2_with fail
 go_ret
 exact⟨by rw[KD1.out];rfl,HB.out⟩
theorem jln(p:List UInt8)(xs:List Ln):(dd p (xs.map XN)).1.length<=(xs.flatMap Ln.bytes).length:=by
 by_cases h:∀x∈xs,Lib.hasPrefix x.text p=true
 ·rw[jhM p xs h];exact Ku p xs
 simp only[Classical.not_forall]at h
 obtain⟨x,hx,hp⟩:=h
 rw[je2 p xs x hx (by simpa using hp)];exact jmo _
theorem jaK(its:List It):(Qs its).length=jcN its:=by
 unfold Qs jcN
 rw[jmE]
 congr 2
theorem jee(rs:List (List Fld))(n:Nat)(h:∀r∈rs,r.length<=n):KH rs<=rs.length*n:=by
 unfold KH
 induction rs with
 | nil=>simp
 | cons r rs ih =>
 have:=ih (fun x hx=>h x (jmj _ hx))
 have:=h r jml
 rw[jmD,jni,jme,Nat.add_mul];omega
def Yn(w w':World)(u:Value)(fs:List Fld):Prop:=w'.ownsRow w.heap.size 155 2 u fs.length (jG fs)/\Below w.heap.size w w'
theorem jah(t:List UInt8)(ht:t.length<=60000)(w:World):Calls prog 199 #[.string (B t)] w fun e w'=>∃u,e=.returned u/\Yn w w' u (qt t):=by
 have DE:=jl9 (jcI (B t) ⟨#[32,32]⟩ (by rw[jq];omega) w)
 rw[ju]at DE
 rw[show(⟨#[32,32]⟩:ByteArray).data.toList=[32,32] from rfl]at DE
 obtain⟨d,hd⟩:∃d,(dd [32,32] ((je t).map XN)).1=d:=⟨_,rfl⟩
 have hdl:d.length<=60000:=by
  have:=jln [32,32] (je t)
  rw[zg,hd]at this
  omega
 rw[hd]at DE
 have UN:Hid (qt t=match jI d with | .error _=>[] | .ok its=>(Qs its).flatten):=by show _=_;unfold qt;rw[hd];rfl
 have PR:=jl9 (fun W=>QZ (B d) (by rw[jq];exact hdl) W)
 rw[ju]at PR
 rw[show(⟨d.toArray⟩:ByteArray)=B d from rfl]at DE
 generalize (dd [32,32] ((je t).map XN)).2=okd at *
 clear hd
 go_enter func199,ntmps199
 go_wp2_with fail
 refine DE.out.mono ?_
 rintro e w1 ⟨rfl,b1⟩
 have B1:=jl9 b1
 have PR1:=jl9 (PR.out w1)
 clear DE b1 PR
 go_wp2_with fail
 refine PR1.out.mono ?_
 rintro e w2 hp
 cases hpl:jI d with
 | error an =>
  obtain⟨a,n⟩:=an
  obtain⟨b2,v,rfl,q,_,rfl,_⟩:=jdR hp hpl
  rw[hpl]at UN
  have SZ:=jl9 (QT [] (.slice none 0 0) w2 (Its.empty w2 none 0) (fun i b off n cap m c e=>by cases e) (by simp) (fun it hit=>by cases hit))
  have B2:=jl9 (B1.out.trans (b2.mono B1.out.size))
  clear b2 hp PR1
  go_wp2_with fail
  refine SZ.out.mono ?_
  rintro e w3 ⟨u,vs,rfl,hacc⟩
  have CC:=jl9 (Xw hacc (by simp[KH,Qs]) (by simp[Qs]))
  have B3:=jl9 (B2.out.trans (hacc.below.mono B2.out.size))
  clear hacc SZ
  go_wp2_with fail
  refine CC.out.mono ?_
  rintro e w4 ⟨x,rfl,hx,b4⟩
  have R:Hid (Yn w w4 x (qt t)):=by
   show Yn _ _ _ _
   rw[UN.out]
   exact⟨ze hx B3.out.size,B3.out.trans (b4.mono B3.out.size)⟩
  clear hx b4 CC
  go_wp2_with fail
  go_ret
  exact⟨_,rfl,R.out⟩
 | ok its =>
 obtain⟨b2,v,rfl,hI,hN⟩:=jaO hp hpl
 rw[hpl]at UN
 obtain⟨_,hil,hif⟩:=xJ hpl
 have hcnt:=QY hpl
 rw[<- jaK]at hcnt
 have SZ:=jl9 (QT its v w2 hI hN (by omega) (fun it hit=>by have:=(hif it hit).1;omega))
 have hrl:KH (Qs its)<=1000000:=by
  have:=jee (Qs its) 40 (fun r hr=>by
   unfold Qs at hr
   obtain⟨it,h1,rfl⟩:=List.mem_map.1 hr
   exact(hif it (List.mem_filter.1 h1).1).1)
  omega
 have B2:=jl9 (B1.out.trans (b2.mono B1.out.size))
 have HN:=jl9 (And.intro hrl hcnt)
 obtain⟨ia,ic,rfl,_,_⟩:=hI
 clear b2 hp PR1 hN hif hil hrl hcnt
 go_wp2_with fail
 refine SZ.out.mono ?_
 rintro e w3 ⟨u,vs,rfl,hacc⟩
 have CC:=jl9 (Xw hacc HN.out.1 (by have:=HN.out.2;omega))
 have B3:=jl9 (B2.out.trans (hacc.below.mono B2.out.size))
 clear hacc SZ
 go_wp2_with fail
 refine CC.out.mono ?_
 rintro e w4 ⟨x,rfl,hx,b4⟩
 have R:Hid (Yn w w4 x (qt t)):=by
  show Yn _ _ _ _
  rw[UN.out]
  exact⟨ze hx B3.out.size,B3.out.trans (b4.mono B3.out.size)⟩
 clear hx b4 CC
 go_wp2_with fail
 go_ret
 exact⟨_,rfl,R.out⟩
theorem KU(c:UInt8):∀t:List UInt8,c∉t->t.takeWhile (· != c)=t
 | [],_=>rfl
 | x::r,h=>by
  have hx:(x != c)=true:=by
   have:c≠x:=fun e=>h (e▸jml)
   simp;exact fun e=>this e.symm
  rw[jnc,if_pos hx,KU c r (fun hm=>h (jmj _ hm))]
theorem jbj(t:List UInt8)(c:UInt8)(ht:t.length<=1000000)(w:World):
  Calls prog 104 #[.string (B t),.string ⟨#[c]⟩] w fun e w'=>(∃b,e=.returned (.tuple #[.string (B (t.takeWhile (· != c))),.string (B (t.drop ((t.takeWhile (· != c)).length+1))),.bool b]))/\Below w.heap.size w w':=by
 by_cases h:c∈t
 ·refine(Kt (B t) c w (by rw[jq];unfold maxLen;omega) (by rw[ju];exact h)).mono ?_
  rintro e w' ⟨rfl,n,rfl⟩
  refine⟨⟨true,?_⟩,qd (jmc _ _) n⟩
  rw[ju]
  have e1:(B t).extract 0 (t.takeWhile (· != c)).length=B (t.takeWhile (· != c)):=by
   have:∃r,t=t.takeWhile (· != c)++r:=⟨t.dropWhile (· != c),List.takeWhile_append_dropWhile.symm⟩
   obtain⟨r,hr⟩:=this
   generalize t.takeWhile (· != c)=k at *
   subst hr
   apply jns
   simp[B,ByteArray.data_extract]
  have e2:(B t).extract ((t.takeWhile (· != c)).length+1) (B t).size=B (t.drop ((t.takeWhile (· != c)).length+1)):=by
   generalize (t.takeWhile (· != c)).length+1=k
   apply jns
   rw[jq]
   simp[B,ByteArray.data_extract]
   exact jmH (by rw[jmn];omega)
  rw[e1,e2]
 refine(jbi (B t) c w (by rw[ju];exact h)).mono ?_
 rintro e w' ⟨rfl,n,rfl⟩
 refine⟨⟨false,?_⟩,qd (jmc _ _) n⟩
 have e1:t.takeWhile (· != c)=t:=KU c t h
 rw[e1,jm1 (by omega)];rfl
end
end Go.Proofs.YtpibhbjmcmfnmaaGreatDoor
