/- Texts put together:AI,AG,WP,AH. -/
import Derived.Lib.AppendZeros
import Derived.Test.YtimfhnfcmhmjcaaGreatDoorBgr20
set_option linter.unusedVariables false
set_option maxRecDepth 100000
set_option maxHeartbeats 16000000
namespace Go.Proofs.YtimfhnfcmhmjcaaGreatDoor
open Go.RowKit Go.Shelf
section
variable {K:Act->World->Prop} {Q:Exit->Act->World->Prop} {o:Oper} {a:Act} {w:World}
theorem jbA{x y z:Operand}{s:ByteArray}{i j:Nat}(ho:o.op=Op.slice 9 x (some y) (some z) none)(hx:a.eval x=.string s)(hy:a.eval y=.int .i64 (i:Nat))(hz:a.eval z=.int .i64 (j:Nat))(hij:i<=j)(hj:j<=s.size)(hK:K (a.put o.dst (.string (s.extract i j))) w):Oper.wp Tryz.prog o a w K Q:=by
 refine Ki ?_ hK
 have h2:(i:Int)<=(j:Int):=by omega
 have h3:(j:Int)<=(s.size:Int):=by omega
 generalize a.eval=ρ at hx hy hz ⊢
 simp only[execOp,ho]
 simp[go_sem,hx,hy,hz,Result.andThen,h2,h3]
theorem jbB{x y:Operand}{s:ByteArray}{i:Nat}(ho:o.op=Op.slice 9 x (some y) none none)(hx:a.eval x=.string s)(hy:a.eval y=.int .i64 (i:Nat))(hij:i<=s.size)(hK:K (a.put o.dst (.string (s.extract i s.size))) w):Oper.wp Tryz.prog o a w K Q:=by
 refine Ki ?_ hK
 have h2:(i:Int)<=(s.size:Int):=by omega
 generalize a.eval=ρ at hx hy ⊢
 simp only[execOp,ho]
 simp[go_sem,hx,hy,Result.andThen,h2]
end
def qD:List Oper:=[
 {dst:=some 19,op:=Op.load 55 (Operand.tmp 3),type:=55,pos := "amend.go:74",after:=#[],guard:=none},
 {dst:=some 20,op:=Op.load 9 (Operand.tmp 1),type:=9,pos := "amend.go:74",after:=#[],guard:=none},
 {dst:=some 21,op:=Op.load 3 (Operand.tmp 4),type:=3,pos := "amend.go:74",after:=#[],guard:=none},
 {dst:=some 22,op:=Op.fieldAddr 182 (Operand.tmp 5) 1,type:=0,pos := "amend.go:74",after:=#[],guard:=none},
 {dst:=some 23,op:=Op.load 3 (Operand.tmp 22),type:=3,pos := "amend.go:74",after:=#[{on:=3,ground:=Ground.data}],guard:=none},
 {dst:=some 24,op:=Op.slice 9 (Operand.tmp 20) (some (Operand.tmp 21)) (some (Operand.tmp 23)) none,type:=9,pos := "amend.go:74",after:=#[{on:=1,ground:=Ground.data},{on:=2,ground:=Ground.data},{on:=4,ground:=Ground.data}],guard:=none},
 {dst:=some 25,op:=Op.call {callee:=Callee.value (Operand.func 172),args:=#[Operand.tmp 24],argTypes:=#[9]},type:=80,pos := "amend.go:74",after:=#[{on:=5,ground:=Ground.data}],guard:=none},
 {dst:=some 26,op:=Op.buildSlice 55 1 #[(0,Operand.tmp 25)],type:=55,pos := "amend.go:74",after:=#[{on:=6,ground:=Ground.data}],guard:=none},
 {dst:=some 27,op:=Op.call {callee:=Callee.builtin Builtin.append,args:=#[Operand.tmp 19,Operand.tmp 26],argTypes:=#[55,55]},type:=55,pos := "amend.go:74",after:=#[{on:=0,ground:=Ground.data},{on:=7,ground:=Ground.data},{on:=6,ground:=Ground.chain}],guard:=none},
 {dst:=none,op:=Op.store 55 (Operand.tmp 3) (Operand.tmp 27),type:=0,pos := "amend.go:74",after:=#[{on:=8,ground:=Ground.data},{on:=8,ground:=Ground.chain},{on:=0,ground:=Ground.phase},{on:=1,ground:=Ground.phase},{on:=2,ground:=Ground.phase},{on:=3,ground:=Ground.phase},{on:=4,ground:=Ground.phase},{on:=5,ground:=Ground.phase},{on:=6,ground:=Ground.phase},{on:=7,ground:=Ground.phase},{on:=8,ground:=Ground.phase}],guard:=none}]
def xe(i:Nat):Option Nat:=(qD[i]?).bind (·.dst)
theorem jfI:∀i,i<8->∀k,k<8->xe i≠none->xe i=xe k->i=k:=by decide +kernel
theorem jgW:∀i,i<8->(xe i).getD 0<37:=by decide +kernel
theorem jfB:∀i:Fin 10,∀e∈(qD[i.1]'(by exact i.2)).after,Region.binds .any e=true->e.on<i.1:=by decide +kernel
def jeN(bb tb nb eb lo:Nat)(bv:Value)(s:ByteArray)(beg at_:Nat)(PL:Value->World->Prop):List (Value->World->Prop):=[
 fun v w=>v=bv,
 fun v w=>v=.string s,
 fun v w=>v=.int .i64 (beg:Nat),
 fun v w=>v=.pointer (some ⟨eb,1,none⟩),
 fun v w=>v=.int .i64 (at_:Nat),
 fun v w=>v=.string (s.extract beg at_),
 fun v w=>PL v w,
 fun v w=>∃b u cs,v=.slice (some ⟨b,0,none⟩) 1 1/\PL u w/\lo<=b/\u=.agg cs/\ja w b 80 cs]
theorem Gt(a0:Act)(w0:World)(bb tb nb eb lo:Nat)(bv:Value)(s:ByteArray)(beg at_:Nat)(PL:Value->World->Prop)(Q:Exit->Act->World->Prop)
  (hsz:a0.tmps.size=37) (h3:a0.tmps[3]?=some (.pointer (some ⟨bb,0,none⟩))) (h1:a0.tmps[1]?=some (.pointer (some ⟨tb,0,none⟩))) (h4:a0.tmps[4]?=some (.pointer (some ⟨nb,0,none⟩))) (h5:a0.tmps[5]?=some (.pointer (some ⟨eb,0,none⟩)))
  (hS:∀W,Below w0.heap.size w0 W->W.cell? ⟨bb,0,none⟩=some bv/\W.cell? ⟨tb,0,none⟩=some (.string s)/\W.cell? ⟨nb,0,none⟩=some (.int .i64 (beg:Nat))/\W.cell? ⟨eb,1,none⟩=some (.int .i64 (at_:Nat))) (hlo:lo<=w0.heap.size)
  (hle:beg<=at_/\at_<=s.size)
  (hPM:∀v x y,Below x.heap.size x y->PL v x->PL v y) (hPF:∀v w,PL v w->∃k i fa fn fc,v=.agg #[.int .i64 k,.int .i64 i,.slice fa fn fc])
  (hC6:∀(W:World) (_:Below w0.heap.size w0 W),Calls Tryz.prog 172 #[.string (s.extract beg at_)] W fun e w=>∃v,e=.returned v/\(PL v w)/\Below W.heap.size W w)
  (hQ:∀(y0 y1 y2 y3 y4 y5 y6 y7:Value) (w:World),Below w0.heap.size w0 w->((fun(v:Value) (w:World)=>v=bv) y0 w)->((fun(v:Value) (w:World)=>∃b u cs,v=.slice (some ⟨b,0,none⟩) 1 1/\PL u w/\lo<=b/\u=.agg cs/\ja w b 80 cs) y7 w)->wpList Tryz.prog qD.toArray Q [{dst:=some 27,op:=Op.call {callee:=Callee.builtin Builtin.append,args:=#[Operand.tmp 19,Operand.tmp 26],argTypes:=#[55,55]},type:=55,pos := "amend.go:74",after:=#[{on:=0,ground:=Ground.data},{on:=7,ground:=Ground.data},{on:=6,ground:=Ground.chain}],guard:=none},{dst:=none,op:=Op.store 55 (Operand.tmp 3) (Operand.tmp 27),type:=0,pos := "amend.go:74",after:=#[{on:=8,ground:=Ground.data},{on:=8,ground:=Ground.chain},{on:=0,ground:=Ground.phase},{on:=1,ground:=Ground.phase},{on:=2,ground:=Ground.phase},{on:=3,ground:=Ground.phase},{on:=4,ground:=Ground.phase},{on:=5,ground:=Ground.phase},{on:=6,ground:=Ground.phase},{on:=7,ground:=Ground.phase},{on:=8,ground:=Ground.phase}],guard:=none}] {a0 with tmps:=[(19,y0),(20,y1),(21,y2),(22,y3),(23,y4),(24,y5),(25,y6),(26,y7)].foldl (fun u p=>u.setIfInBounds p.1 p.2) a0.tmps} w) :
  wpAny Tryz.prog .any qD.toArray Q qD.toArray.size (Array.replicate qD.toArray.size false) a0 w0:=by
 have M:jhq (jeN bb tb nb eb lo bv s beg at_ PL):=⟨fun v x y hb h=>h,fun v x y hb h=>h,fun v x y hb h=>h,fun v x y hb h=>h,fun v x y hb h=>h,fun v x y hb h=>h,fun v x y hb h=>hPM v x y hb h,fun v x y hb h=>by obtain⟨b,u,cs,e,h1,h2,h3,h4⟩:=h;exact⟨b,u,cs,e,hPM u x y hb h1,h2,h3,jb h4 hb h4.lt⟩,trivial⟩
 refine yg 8 2 (by kernel_rfl) (by decide) a0 w0 xe (jeN bb tb nb eb lo bv s beg at_ PL) M (by kernel_rfl) (by kernel_rfl) (by kernel_rfl)
  (fun i o _ ho=>by unfold xe;rw[ho];rfl)
  (fun i k d hi hk h1 h2=>jfI i hi k hk (by rw[h1];intro q;cases q) (by rw[h1,h2]))
  (fun i d hi h=>by have:=jgW i hi;rw[h]at this;rw[hsz];exact this)
  (fun i o e ho he hb=>by
   obtain⟨hi,rfl⟩:=List.getElem?_eq_some_iff.1 ho
   exact jfB ⟨i,hi⟩ e he hb)
  ?step ?fin
 case fin =>
  intro a w hd hs hf hv hR
  obtain⟨y0,hy0,pv0⟩:=hv 0 19 (by decide) rfl
  obtain⟨y1,hy1,pv1⟩:=hv 1 20 (by decide) rfl
  obtain⟨y2,hy2,pv2⟩:=hv 2 21 (by decide) rfl
  obtain⟨y3,hy3,pv3⟩:=hv 3 22 (by decide) rfl
  obtain⟨y4,hy4,pv4⟩:=hv 4 23 (by decide) rfl
  obtain⟨y5,hy5,pv5⟩:=hv 5 24 (by decide) rfl
  obtain⟨y6,hy6,pv6⟩:=hv 6 25 (by decide) rfl
  obtain⟨y7,hy7,pv7⟩:=hv 7 26 (by decide) rfl
  rw[Uv (a:=a) (a0:=a0) [(19,y0),(20,y1),(21,y2),(22,y3),(23,y4),(24,y5),(25,y6),(26,y7)] hd hs (by
   intro p hp
   simp only[List.mem_cons,List.not_mem_nil,or_false]at hp
   rcases hp with rfl|rfl|rfl|rfl|rfl|rfl|rfl|rfl
   ·exact hy0
   ·exact hy1
   ·exact hy2
   ·exact hy3
   ·exact hy4
   ·exact hy5
   ·exact hy6
   ·exact hy7
   ) (fun j hj=>hf j (fun k hk q=>hj (by
    have:∀k,k<8->(xe k).all (fun d=>[19,20,21,22,23,24,25,26].contains d)=true:=by decide +kernel
    have h1:=this k hk
    rw[q]at h1
    simpa using h1)))]
  exact hQ y0 y1 y2 y3 y4 y5 y6 y7 w hR pv0 pv7
 case step =>
 intro i o a w hi ho hs hf dep hR
 have e3:=evT ((hf 3 (by decide +kernel)).trans h3)
 have e1:=evT ((hf 1 (by decide +kernel)).trans h1)
 have e4:=evT ((hf 4 (by decide +kernel)).trans h4)
 have e5:=evT ((hf 5 (by decide +kernel)).trans h5)
 rcases(by omega:i=0\/i=1\/i=2\/i=3\/i=4\/i=5\/i=6\/i=7) with rfl|rfl|rfl|rfl|rfl|rfl|rfl|rfl
 ·have ho2:some _=some o:=ho
  obtain rfl:=jip ho2
  exact .inl ⟨xo rfl,fun K hK=>yT (by simp[go_sem,(hS w hR).1]) rfl e3 (hK _ _ (jil _ _) rfl)⟩
 ·have ho2:some _=some o:=ho
  obtain rfl:=jip ho2
  exact .inl ⟨xo rfl,fun K hK=>yT (by simp[go_sem,(hS w hR).2.1]) rfl e1 (hK _ _ (jil _ _) rfl)⟩
 ·have ho2:some _=some o:=ho
  obtain rfl:=jip ho2
  exact .inl ⟨xo rfl,fun K hK=>yT (by simp[go_sem,(hS w hR).2.2.1]) rfl e4 (hK _ _ (jil _ _) rfl)⟩
 ·have ho2:some _=some o:=ho
  obtain rfl:=jip ho2
  exact .inl ⟨xo rfl,fun K hK=>jdH (by simp[go_sem]) rfl e5 (hK _ _ (jil _ _) rfl)⟩
 ·have ho2:some _=some o:=ho
  obtain rfl:=jip ho2
  obtain⟨_,hv3,rfl⟩:∃v,a.tmps[22]?=some v/\(fun(v:Value) (w:World)=>v=.pointer (some ⟨eb,1,none⟩)) v w:=dep ⟨3,Ground.data⟩ (by first|simp|simp[qD]) rfl 22 rfl
  exact .inl ⟨xo rfl,fun K hK=>yT (by simp[go_sem,(hS w hR).2.2.2]) rfl (evT hv3) (hK _ _ (jil _ _) rfl)⟩
 ·have ho2:some _=some o:=ho
  obtain rfl:=jip ho2
  obtain⟨_,hv1,rfl⟩:∃v,a.tmps[20]?=some v/\(fun(v:Value) (w:World)=>v=.string s) v w:=dep ⟨1,Ground.data⟩ (by first|simp|simp[qD]) rfl 20 rfl
  obtain⟨_,hv2,rfl⟩:∃v,a.tmps[21]?=some v/\(fun(v:Value) (w:World)=>v=.int .i64 (beg:Nat)) v w:=dep ⟨2,Ground.data⟩ (by first|simp|simp[qD]) rfl 21 rfl
  obtain⟨_,hv4,rfl⟩:∃v,a.tmps[23]?=some v/\(fun(v:Value) (w:World)=>v=.int .i64 (at_:Nat)) v w:=dep ⟨4,Ground.data⟩ (by first|simp|simp[qD]) rfl 23 rfl
  exact .inl ⟨xo rfl,fun K hK=>jbA rfl (evT hv1) (evT hv2) (evT hv4) hle.1 hle.2 (hK _ _ (jil _ _) rfl)⟩
 ·have ho2:some _=some o:=ho
  obtain rfl:=jip ho2
  obtain⟨_,hv5,rfl⟩:∃v,a.tmps[24]?=some v/\(fun(v:Value) (w:World)=>v=.string (s.extract beg at_)) v w:=dep ⟨5,Ground.data⟩ (by first|simp|simp[qD]) rfl 24 rfl
  exact .inl ⟨xo rfl,fun K hK=>Wx 172 rfl (evT hv5) (enters_of (P:=Tryz.prog) Tryz.func172 (by kernel_rfl) rfl) (hC6 w hR) (fun v w' h=>hK v w' h.2 h.1)⟩
 have ho2:some _=some o:=ho
 obtain rfl:=jip ho2
 obtain⟨z6,hv6,pv6⟩:∃v,a.tmps[25]?=some v/\(fun(v:Value) (w:World)=>PL v w) v w:=dep ⟨6,Ground.data⟩ (by first|simp|simp[qD]) rfl 25 rfl
 exact .inl ⟨xo rfl,fun K hK=>by obtain⟨k1,i1,fa1,fn1,fc1,rfl⟩:=hPF _ _ pv6;exact jbC rfl (evT hv6) (hK _ _ ((jil _ _).alloc (jij _) _) ⟨w.heap.size,_,_,rfl,hPM _ _ _ ((jil _ _).alloc (jij _) _) pv6,jiI hlo hR.size,rfl,ja.new _ _ _⟩)⟩
def vr:List Oper:=[
 {dst:=some 30,op:=Op.load 55 (Operand.tmp 3),type:=55,pos := "amend.go:78",after:=#[],guard:=none},
 {dst:=some 31,op:=Op.load 9 (Operand.tmp 1),type:=9,pos := "amend.go:78",after:=#[],guard:=none},
 {dst:=some 32,op:=Op.load 3 (Operand.tmp 4),type:=3,pos := "amend.go:78",after:=#[],guard:=none},
 {dst:=some 33,op:=Op.slice 9 (Operand.tmp 31) (some (Operand.tmp 32)) none none,type:=9,pos := "amend.go:78",after:=#[{on:=1,ground:=Ground.data},{on:=2,ground:=Ground.data}],guard:=none},
 {dst:=some 34,op:=Op.call {callee:=Callee.value (Operand.func 172),args:=#[Operand.tmp 33],argTypes:=#[9]},type:=80,pos := "amend.go:78",after:=#[{on:=3,ground:=Ground.data}],guard:=none},
 {dst:=some 35,op:=Op.buildSlice 55 1 #[(0,Operand.tmp 34)],type:=55,pos := "amend.go:78",after:=#[{on:=4,ground:=Ground.data}],guard:=none},
 {dst:=some 36,op:=Op.call {callee:=Callee.builtin Builtin.append,args:=#[Operand.tmp 30,Operand.tmp 35],argTypes:=#[55,55]},type:=55,pos := "amend.go:78",after:=#[{on:=0,ground:=Ground.data},{on:=5,ground:=Ground.data},{on:=4,ground:=Ground.chain}],guard:=none},
 {dst:=some 2,op:=Op.assign (Operand.tmp 36),type:=55,pos := "amend.go:78",after:=#[{on:=6,ground:=Ground.data},{on:=6,ground:=Ground.chain},{on:=0,ground:=Ground.phase},{on:=1,ground:=Ground.phase},{on:=2,ground:=Ground.phase},{on:=3,ground:=Ground.phase},{on:=4,ground:=Ground.phase},{on:=5,ground:=Ground.phase},{on:=6,ground:=Ground.phase}],guard:=none}]
def xd(i:Nat):Option Nat:=(vr[i]?).bind (·.dst)
theorem jfH:∀i,i<6->∀k,k<6->xd i≠none->xd i=xd k->i=k:=by decide +kernel
theorem jgV:∀i,i<6->(xd i).getD 0<37:=by decide +kernel
theorem jfA:∀i:Fin 8,∀e∈(vr[i.1]'(by exact i.2)).after,Region.binds .any e=true->e.on<i.1:=by decide +kernel
def jeM(bb tb nb lo:Nat)(bv:Value)(s:ByteArray)(beg:Nat)(PL:Value->World->Prop):List (Value->World->Prop):=[
 fun v w=>v=bv,
 fun v w=>v=.string s,
 fun v w=>v=.int .i64 (beg:Nat),
 fun v w=>v=.string (s.extract beg s.size),
 fun v w=>PL v w,
 fun v w=>∃b u cs,v=.slice (some ⟨b,0,none⟩) 1 1/\PL u w/\lo<=b/\u=.agg cs/\ja w b 80 cs]
theorem Gs(a0:Act)(w0:World)(bb tb nb lo:Nat)(bv:Value)(s:ByteArray)(beg:Nat)(PL:Value->World->Prop)(Q:Exit->Act->World->Prop)
  (hsz:a0.tmps.size=37) (h3:a0.tmps[3]?=some (.pointer (some ⟨bb,0,none⟩))) (h1:a0.tmps[1]?=some (.pointer (some ⟨tb,0,none⟩))) (h4:a0.tmps[4]?=some (.pointer (some ⟨nb,0,none⟩)))
  (hS:∀W,Below w0.heap.size w0 W->W.cell? ⟨bb,0,none⟩=some bv/\W.cell? ⟨tb,0,none⟩=some (.string s)/\W.cell? ⟨nb,0,none⟩=some (.int .i64 (beg:Nat))/\True) (hlo:lo<=w0.heap.size)
  (hle:beg<=s.size)
  (hPM:∀v x y,Below x.heap.size x y->PL v x->PL v y) (hPF:∀v w,PL v w->∃k i fa fn fc,v=.agg #[.int .i64 k,.int .i64 i,.slice fa fn fc])
  (hC4:∀(W:World) (_:Below w0.heap.size w0 W),Calls Tryz.prog 172 #[.string (s.extract beg s.size)] W fun e w=>∃v,e=.returned v/\(PL v w)/\Below W.heap.size W w)
  (hQ:∀(y0 y1 y2 y3 y4 y5:Value) (w:World),Below w0.heap.size w0 w->((fun(v:Value) (w:World)=>v=bv) y0 w)->((fun(v:Value) (w:World)=>∃b u cs,v=.slice (some ⟨b,0,none⟩) 1 1/\PL u w/\lo<=b/\u=.agg cs/\ja w b 80 cs) y5 w)->wpList Tryz.prog vr.toArray Q [{dst:=some 36,op:=Op.call {callee:=Callee.builtin Builtin.append,args:=#[Operand.tmp 30,Operand.tmp 35],argTypes:=#[55,55]},type:=55,pos := "amend.go:78",after:=#[{on:=0,ground:=Ground.data},{on:=5,ground:=Ground.data},{on:=4,ground:=Ground.chain}],guard:=none},{dst:=some 2,op:=Op.assign (Operand.tmp 36),type:=55,pos := "amend.go:78",after:=#[{on:=6,ground:=Ground.data},{on:=6,ground:=Ground.chain},{on:=0,ground:=Ground.phase},{on:=1,ground:=Ground.phase},{on:=2,ground:=Ground.phase},{on:=3,ground:=Ground.phase},{on:=4,ground:=Ground.phase},{on:=5,ground:=Ground.phase},{on:=6,ground:=Ground.phase}],guard:=none}] {a0 with tmps:=[(30,y0),(31,y1),(32,y2),(33,y3),(34,y4),(35,y5)].foldl (fun u p=>u.setIfInBounds p.1 p.2) a0.tmps} w) :
  wpAny Tryz.prog .any vr.toArray Q vr.toArray.size (Array.replicate vr.toArray.size false) a0 w0:=by
 have M:jhq (jeM bb tb nb lo bv s beg PL):=⟨fun v x y hb h=>h,fun v x y hb h=>h,fun v x y hb h=>h,fun v x y hb h=>h,fun v x y hb h=>hPM v x y hb h,fun v x y hb h=>by obtain⟨b,u,cs,e,h1,h2,h3,h4⟩:=h;exact⟨b,u,cs,e,hPM u x y hb h1,h2,h3,jb h4 hb h4.lt⟩,trivial⟩
 refine yg 6 2 (by kernel_rfl) (by decide) a0 w0 xd (jeM bb tb nb lo bv s beg PL) M (by kernel_rfl) (by kernel_rfl) (by kernel_rfl)
  (fun i o _ ho=>by unfold xd;rw[ho];rfl)
  (fun i k d hi hk h1 h2=>jfH i hi k hk (by rw[h1];intro q;cases q) (by rw[h1,h2]))
  (fun i d hi h=>by have:=jgV i hi;rw[h]at this;rw[hsz];exact this)
  (fun i o e ho he hb=>by
   obtain⟨hi,rfl⟩:=List.getElem?_eq_some_iff.1 ho
   exact jfA ⟨i,hi⟩ e he hb)
  ?step ?fin
 case fin =>
  intro a w hd hs hf hv hR
  obtain⟨y0,hy0,pv0⟩:=hv 0 30 (by decide) rfl
  obtain⟨y1,hy1,pv1⟩:=hv 1 31 (by decide) rfl
  obtain⟨y2,hy2,pv2⟩:=hv 2 32 (by decide) rfl
  obtain⟨y3,hy3,pv3⟩:=hv 3 33 (by decide) rfl
  obtain⟨y4,hy4,pv4⟩:=hv 4 34 (by decide) rfl
  obtain⟨y5,hy5,pv5⟩:=hv 5 35 (by decide) rfl
  rw[Uv (a:=a) (a0:=a0) [(30,y0),(31,y1),(32,y2),(33,y3),(34,y4),(35,y5)] hd hs (by
   intro p hp
   simp only[List.mem_cons,List.not_mem_nil,or_false]at hp
   rcases hp with rfl|rfl|rfl|rfl|rfl|rfl
   ·exact hy0
   ·exact hy1
   ·exact hy2
   ·exact hy3
   ·exact hy4
   ·exact hy5
   ) (fun j hj=>hf j (fun k hk q=>hj (by
    have:∀k,k<6->(xd k).all (fun d=>[30,31,32,33,34,35].contains d)=true:=by decide +kernel
    have h1:=this k hk
    rw[q]at h1
    simpa using h1)))]
  exact hQ y0 y1 y2 y3 y4 y5 w hR pv0 pv5
 case step =>
 intro i o a w hi ho hs hf dep hR
 have e3:=evT ((hf 3 (by decide +kernel)).trans h3)
 have e1:=evT ((hf 1 (by decide +kernel)).trans h1)
 have e4:=evT ((hf 4 (by decide +kernel)).trans h4)
 rcases(by omega:i=0\/i=1\/i=2\/i=3\/i=4\/i=5) with rfl|rfl|rfl|rfl|rfl|rfl
 ·have ho2:some _=some o:=ho
  obtain rfl:=jip ho2
  exact .inl ⟨xo rfl,fun K hK=>yT (by simp[go_sem,(hS w hR).1]) rfl e3 (hK _ _ (jil _ _) rfl)⟩
 ·have ho2:some _=some o:=ho
  obtain rfl:=jip ho2
  exact .inl ⟨xo rfl,fun K hK=>yT (by simp[go_sem,(hS w hR).2.1]) rfl e1 (hK _ _ (jil _ _) rfl)⟩
 ·have ho2:some _=some o:=ho
  obtain rfl:=jip ho2
  exact .inl ⟨xo rfl,fun K hK=>yT (by simp[go_sem,(hS w hR).2.2.1]) rfl e4 (hK _ _ (jil _ _) rfl)⟩
 ·have ho2:some _=some o:=ho
  obtain rfl:=jip ho2
  obtain⟨_,hv1,rfl⟩:∃v,a.tmps[31]?=some v/\(fun(v:Value) (w:World)=>v=.string s) v w:=dep ⟨1,Ground.data⟩ (by first|simp|simp[vr]) rfl 31 rfl
  obtain⟨_,hv2,rfl⟩:∃v,a.tmps[32]?=some v/\(fun(v:Value) (w:World)=>v=.int .i64 (beg:Nat)) v w:=dep ⟨2,Ground.data⟩ (by first|simp|simp[vr]) rfl 32 rfl
  exact .inl ⟨xo rfl,fun K hK=>jbB rfl (evT hv1) (evT hv2) hle (hK _ _ (jil _ _) rfl)⟩
 ·have ho2:some _=some o:=ho
  obtain rfl:=jip ho2
  obtain⟨_,hv3,rfl⟩:∃v,a.tmps[33]?=some v/\(fun(v:Value) (w:World)=>v=.string (s.extract beg s.size)) v w:=dep ⟨3,Ground.data⟩ (by first|simp|simp[vr]) rfl 33 rfl
  exact .inl ⟨xo rfl,fun K hK=>Wx 172 rfl (evT hv3) (enters_of (P:=Tryz.prog) Tryz.func172 (by kernel_rfl) rfl) (hC4 w hR) (fun v w' h=>hK v w' h.2 h.1)⟩
 have ho2:some _=some o:=ho
 obtain rfl:=jip ho2
 obtain⟨z4,hv4,pv4⟩:∃v,a.tmps[34]?=some v/\(fun(v:Value) (w:World)=>PL v w) v w:=dep ⟨4,Ground.data⟩ (by first|simp|simp[vr]) rfl 34 rfl
 exact .inl ⟨xo rfl,fun K hK=>by obtain⟨k1,i1,fa1,fn1,fc1,rfl⟩:=hPF _ _ pv4;exact jbC rfl (evT hv4) (hK _ _ ((jil _ _).alloc (jij _) _) ⟨w.heap.size,_,_,rfl,hPM _ _ _ ((jil _ _).alloc (jij _) _) pv4,jiI hlo hR.size,rfl,ja.new _ _ _⟩)⟩
end Go.Proofs.YtimfhnfcmhmjcaaGreatDoor
namespace Go.Proofs.YtimfhnfcmhmjcaaGreatDoor
open Go.RowKit Go.Shelf
attribute [local go_sem] jit
theorem jbq{w:World}{lo g cap:Nat}{cur:Array Value}{t:TypeId}{size:Nat}(hlo:lo<=g)(hc:w.heap[g]?=some (.cells cur t (0,0)))(hm:cap<=maxLen)(hs:cur.size=cap*size):w.ownsRow lo t size (.slice (some ⟨g,0,none⟩) 0 cap) 0 [] :=
 ⟨by simp,.inr ⟨g,cap,cur,rfl,hlo,hc,jiD _,hm,hs,by simp⟩⟩
theorem jdZ(n:Nat)(hn:n<=1000000)(w:World):
  Calls Tryz.prog 273 #[.slice none 0 0,.int .i64 n] w fun e w'=>∃v,e=.returned v/\w'.ownsRow w.heap.size 155 2 v 0 []/\Below w.heap.size w w':=by
 obtain⟨i0,hi,hz0,hz1,hz2⟩:=info_parts Kq
 have hw0:IntKind.i64.wrap ((n:Int)-0)=(n:Int):=by rw[Int.sub_zero];exact jiM _ (by omega)
 have hw1:IntKind.i64.wrap (n:Int)=(n:Int):=jiM _ (by omega)
 by_cases h0:n=0
 ·subst h0
  go_enter Tryz.func273,Tryz.ntmps273
  go_wp2_with fail
  go_ret
  exact⟨_,rfl,⟨rfl,.inl ⟨rfl,rfl⟩⟩,jil _ _⟩
 have hp:(0:Int)<(n:Int):=by omega
 have hr:=Lib.run_append_nil_zeros (P:=Tryz.prog) w 78 3 78 155 i0 (.agg #[.string ⟨#[]⟩,.string ⟨#[]⟩]) .i64 .i64 Tryz.underlying78 Tryz.underlying3 hi hz0 n (by omega) (by rw[hz1];decide) (by omega) (by rw[hz2];omega)
 have hge:=grownCap_ge w n 0 155
 have hcm:grownCap w n 0 155<=maxLen:=grownCap_le_maxLen w n 0 155 (by unfold maxLen;omega)
 generalize grownCap w n 0 155=cap at *
 have hZ:(Builtin.zeroCells (Value.agg #[.string ⟨#[]⟩,.string ⟨#[]⟩]).cells n++Builtin.zeroCells (Value.agg #[.string ⟨#[]⟩,.string ⟨#[]⟩]).cells (cap-n)).size=cap*2:=by
  rw[Array.size_append,qx,qx]
  show n*2+(cap-n)*2=cap*2
  omega
 generalize Builtin.zeroCells (Value.agg #[.string ⟨#[]⟩,.string ⟨#[]⟩]).cells n++Builtin.zeroCells (Value.agg #[.string ⟨#[]⟩,.string ⟨#[]⟩]).cells (cap-n)=Z at *
 have FIN:Hid ((w.drew.alloc (.cells Z 155)).ownsRow w.heap.size 155 2 (.slice (some ⟨w.heap.size,0,none⟩) 0 cap) 0 []/\Below w.heap.size w (w.drew.alloc (.cells Z 155))) :=
  ⟨jbq (jij _) (by show(w.drew.heap.push _)[w.drew.heap.size]?=_;exact Array.getElem?_push_size) hcm hZ,(jil _ w).drew.alloc (jij _) _⟩
 clear hZ
 unfold maxLen at hcm
 go_enter Tryz.func273,Tryz.ntmps273
 go_wp2_with (at_builtin;refine Lib.wpList_append_run _ rfl _ _ _ _ rfl _ _ rfl rfl _ _ hr ?_)
 go_wp2_with fail
 go_ret
 exact⟨_,rfl,FIN.out.1,FIN.out.2⟩
def Yx(rs:List (List Fld)):Nat:=(rs.map List.length).sum
theorem jbJ{rs:List (List Fld)}{k:Nat}{r:List Fld}(h:rs[k]?=some r):Yx (rs.take (k+1))=Yx (rs.take k)+r.length:=by
 unfold Yx
 rw[jiU,h,jjh,List.sum_append];simp
theorem ZD(rs:List (List Fld))(k:Nat):Yx (rs.take k)<=Yx rs:=by
 unfold Yx
 conv=>rhs;rw[<- jiT k rs,jjh,List.sum_append]
 omega
theorem ZM(rs:List (List Fld)):rs.flatten.length=Yx rs:=by unfold Yx;rw[List.length_flatten]
theorem Xn{rs:List (List Fld)}{k:Nat}{r:List Fld}(h:rs[k]?=some r):(rs.take (k+1)).flatten=(rs.take k).flatten++r:=by
 rw[jiU,h];simp
theorem Yp(a b:List Fld):js (a++b)=js a++js b:=by unfold js;rw[jiN]
theorem Vn{w0 w:World}{v:Value}{vs:List Value}{rs:List (List Fld)}(h:jaL w0 w v vs rs)(hl:Yx rs<=1000000)(hn:rs.length<=1000000):
  Calls Tryz.prog 252 #[v] w fun e w'=>∃u,e=.returned u/\w'.ownsRow w.heap.size 155 2 u rs.flatten.length (js rs.flatten)/\Below w.heap.size w w':=by
 obtain⟨i0,hi,hz0,hz1,hz2⟩:=info_parts Kq
 have hvl:=h.len
 have hrow:=h.row
 obtain⟨va,vc,rfl,hvc⟩:=je hrow
 have EACH:=jii (fun(k:Nat) (r:List Fld) (hr:rs[k]?=some r)=>show ∃b fv,va=some ⟨b,0,none⟩/\b<w.heap.size/\w.cell? ⟨b,k,none⟩=some fv/\w.ownsRow w0.heap.size 155 2 fv r.length (js r) from by
  have hk:=(List.getElem?_eq_some_iff.1 hr).1
  obtain⟨x,hx⟩:∃x,vs[k]?=some x:=⟨_,jim (by omega)⟩
  rcases jjd hrow with ⟨_,hn⟩|⟨g,cap,hg⟩
  ·omega
  injection hg with hg1 _ _
  subst hg1
  refine⟨g,x,rfl,(jjr hrow g rfl).2,by rw[jiG hrow k (by omega)];exact hx,h.each k x r hx hr⟩)
 have h0s:=h.below.size
 clear h hrow
 rw[hvl]at hvc ⊢
 have HL:=jii hl
 go_enter Tryz.func252,Tryz.ntmps252
 go_wp2_with fail
 go_loopw [3,11] (fun sv i wr=>∃k:Nat,k<=rs.length/\i=.int .i64 k/\sv=.int .i64 (Yx (rs.take k):Nat)/\wr=w) (fun _ i _=>rs.length-(intOf i).toNat)
 case atStart=>exact⟨0,jiD _,rfl,rfl,rfl⟩
 case round =>
 obtain⟨k,hk,rfl,rfl,hwr⟩:=hrel
 subst wr
 have hsum:=ZD rs k
 by_cases hlt:k<rs.length
 ·obtain⟨r,hr⟩:∃r,rs[k]?=some r:=⟨_,jim hlt⟩
  obtain⟨b,fv,rfl,hbb,c0,hf⟩:=EACH.out k r hr
  obtain⟨fa,fc,rfl,_⟩:=je hf
  have hsum1:=ZD rs (k+1)
  have S1:Hid (Yx (rs.take (k+1))=Yx (rs.take k)+r.length):=jbJ hr
  rw[S1.out]at hsum1
  clear hr hf
  generalize hLK:Yx (rs.take k)=LK at *
  have hw:IntKind.i64.wrap ((LK:Int)+(r.length:Int))=(LK:Int)+(r.length:Int):=jiM _ (by omega)
  have hge:¬((LK:Int)+(r.length:Int)<0):=by omega
  go_wp2_with fail
  go_roundw
  case rel=>exact⟨k+1,hlt,by go_num,by rw[S1.out];go_num,by first | trivial | rfl⟩
  case measure=>simp[intOf];omega
 obtain rfl:k=rs.length:=by omega
 rw[jiL]at *
 have GW:=jii (jdZ (Yx rs) hl w)
 go_wp2_with fail
 refine GW.out.mono ?_
 rintro e w2 ⟨u,rfl,hu,b2⟩
 have HB2:=jii b2
 have hu':w2.ownsRow w.heap.size 155 2 u (rs.take 0).flatten.length (js (rs.take 0).flatten):=hu
 clear GW b2 hu
 go_wp2_with fail
 go_loopw [6,27] (fun ux i wr=>∃(j:Nat) (uv:Value),uv=ux/\j<=rs.length/\i=.int .i64 j/\wr.ownsRow w.heap.size 155 2 uv (rs.take j).flatten.length (js (rs.take j).flatten)/\Below w.heap.size w wr) (fun _ i _=>rs.length-(intOf i).toNat)
 case atStart=>exact⟨0,u,rfl,jiD _,rfl,hu',HB2.out⟩
 case round =>
 obtain⟨j,uv,rfl,hj,rfl,hrow,hb⟩:=hrel
 obtain⟨ua,uc,rfl,huc⟩:=je hrow
 by_cases hjl:j<rs.length
 ·obtain⟨r,hr⟩:∃r,rs[j]?=some r:=⟨_,jim hjl⟩
  obtain⟨b,fv,rfl,hbb,c0,hf⟩:=EACH.out j r hr
  have hfq:=zl hf hb (jij _)
  replace c0:=(hb.cell (p:=⟨b,j,none⟩) hbb).trans c0
  have e1:=Xn hr
  have s1:=ZD rs (j+1)
  rw[<- ZM,e1,jik]at s1
  have E1:Hid ((rs.take (j+1)).flatten=(rs.take j).flatten++r):=e1
  have hsz:=hb.size
  have HROW:=jii hrow
  have HB:=jii hb
  have fle:(rs.take j).flatten.length+r.length<=1000000:=by have:=HL.out;omega
  have hone:∀u∈js r,u.oneCell'=true:=fun u hu=>by
   obtain⟨f,_,h2⟩:=List.mem_flatMap.1 hu
   simp at h2
   rcases h2 with rfl|rfl<;>rfl
  have hcl:=yE r
  rcases jjd hfq with ⟨rfl,hr0⟩|⟨g,cap,rfl⟩
  ·clear hf hfq hr e1 hrow hb s1
   generalize hFL:(rs.take j).flatten.length=fl at *
   go_wp2_with (at_builtin;refine wpList_append_own_none rfl _ _ 78 rfl w.heap.size 155 i0 2 Tryz.underlying78 hi _ _ _ rfl HROW.out rfl ?_)
   go_wp2_with fail
   go_roundw
   case rel =>
    have er:r=[]:=List.length_eq_zero_iff.1 hr0
    exact⟨j+1,_,rfl,hjl,by go_num,by rw[E1.out,er,jiO,hFL];exact HROW.out,HB.out⟩
   case measure=>simp[intOf];omega
  have HC:∀(q:Nat) u,(js r)[q]?=some u->wr.cell? ((⟨g,0,none⟩:Addr).add q)=some u:=fun q u hq=>by
   have hql:=(List.getElem?_eq_some_iff.1 hq).1
   rw[Addr.add_lit,jiP,jiG hfq q (by omega)];exact hq
  have HCH:=jii HC
  clear hf hfq hr e1 hrow hb HC s1
  generalize hFL:(rs.take j).flatten.length=fl at *
  go_wp2_with (at_builtin;refine jI rfl _ _ 78 rfl w.heap.size 155 i0 _ 2 32 Tryz.underlying78 hi hz0 hz1 hz2 rfl (by decide) _ _ _ rfl HROW.out ⟨g,0,none⟩ r.length cap _ rfl hcl HCH.out hone ?c3 ?c4 ?c5 ?_)
  case c3=>unfold maxLen;omega
  case c4=>omega
  case c5=>exact hsz
  intro v' w3 hown' hgrow hbk
  have HB3:=jii (HB.out.grown hgrow hsz (fun k hk=>(HROW.out.lt k hk).1))
  have HO3:=jii hown'
  obtain⟨xa,xc,rfl,_⟩:=je hown'
  clear hown' hgrow hbk
  go_wp2_with fail
  go_roundw
  case rel=>exact⟨j+1,_,rfl,hjl,by go_num,by rw[E1.out,jik,Yp,hFL];exact HO3.out,HB3.out⟩
  case measure=>simp[intOf];omega
 obtain rfl:j=rs.length:=by omega
 rw[jiL]at hrow ⊢
 have FIN:Hid (wr.ownsRow w.heap.size 155 2 (.slice ua rs.flatten.length uc) rs.flatten.length (js rs.flatten)/\Below w.heap.size w wr):=⟨hrow,hb⟩
 clear hrow hb
 generalize hFL:rs.flatten.length=fl at *
 go_wp2_with fail
 go_ret
 obtain⟨f1,f2⟩:=FIN.out
 refine⟨_,rfl,?_,f2⟩
 first | exact f1 | (rw[hFL];exact f1)
def Uk(p:List UInt8)(xs:List Ln):List UInt8:=xs.flatMap fun x=>Lib.trimPrefix x.text p++if x.ended then [10] else []
theorem XB(p:List UInt8)(pre:List Ln)(x:Ln):Uk p (pre++[x])=Uk p pre++Lib.trimPrefix x.text p++(Yh x.ended).data.toList:=by
 have e:(Yh x.ended).data.toList=if x.ended then [10] else []:=by unfold Yh;cases x.ended<;>rfl
 rw[e]
 simp[Uk]
theorem Yn(p:List UInt8):∀xs:List Ln,(Uk p xs).length<=(xs.flatMap Ln.bytes).length
 | []=>by simp[Uk]
 | x::xs=>by
  have ih:=Yn p xs
  have h1:=Lib.trimPrefix_le x.text p
  have e:Uk p (x::xs)=(Lib.trimPrefix x.text p++if x.ended then [10] else [])++Uk p xs:=by simp[Uk]
  rw[e,jiy]
  simp only[jik,Ln.bytes]
  omega
theorem jeW(p:List UInt8)(xs:List Ln)(h:∀x∈xs,Lib.hasPrefix x.text p=true):dd p (xs.map VF)=(Uk p xs,true):=by
 unfold dd
 rw[if_pos]
 ·rw[List.flatMap_map]
  congr 1
  unfold Uk
  induction xs with
  | nil=>rfl
  | cons x xs ih =>
  rw[jiy,jiy,ih (fun y hy=>h y (jir _ hy))]
  have:=h x jis
  simp only[Lib.trimPrefix,this,if_true,VF]
  rfl
 rw[jj4]
 intro y hy
 obtain⟨x,hx,rfl⟩:=List.mem_map.1 hy
 exact h x hx
theorem jcv(p:List UInt8)(xs:List Ln)(x:Ln)(hx:x∈xs)(h:Lib.hasPrefix x.text p=false):dd p (xs.map VF)=([],false):=by
 unfold dd
 rw[if_neg]
 intro ha
 have:=(List.all_eq_true.1 ha) (VF x) (List.mem_map.2 ⟨x,hx,rfl⟩)
 have e:Lib.hasPrefix x.text p=true:=this
 rw[h]at e
 cases e
def JP(w:World)(p:ByteArray)(W:World):Prop :=
 Boxed W w.heap.size 9 (.string p)/\Boxed W (w.heap.size+1) 9 (.string ⟨#[]⟩)/\Boxed W (w.heap.size+2) 4 (.bool false)/\Below w.heap.size w W
theorem JP.turned{w:World}{p:ByteArray}{W W':World}{B k:Nat}(h:JP w p W)(ht:jS B k W W')(hB:w.heap.size+2<B):JP w p W' :=
 ⟨ht.box h.1 (.inl (by omega)),ht.box h.2.1 (.inl (by omega)),ht.box h.2.2.1 (.inl hB),h.2.2.2.trans (ht.below (by omega) h.2.2.2.size)⟩
theorem JP.alloc{w:World}{p:ByteArray}{W:World}(h:JP w p W)(o:Obj):JP w p (W.alloc o):=⟨h.1.alloc _,h.2.1.alloc _,h.2.2.1.alloc _,h.2.2.2.alloc h.2.2.2.size _⟩
theorem JP.wrote{w:World}{p:ByteArray}{W W':World}{b R:Nat}(h:JP w p W)(ho:qb b R W W')(hb:w.heap.size+2<b)(hR:w.heap.size+2<R):JP w p W' :=
 ⟨ho.box h.1 (by omega) (by omega),ho.box h.2.1 (by omega) (by omega),ho.box h.2.2.1 (by omega) (by omega),h.2.2.2.trans (ho.below (by omega) (by omega) h.2.2.2.size)⟩
def jhy(w:World)(p:ByteArray)(R:Nat)(pre:List Ln)(W:World):Prop :=
 JP w p W/\Bld (w.heap.size+3) R (Uk p.data.toList pre) W/\∀x∈pre,Lib.hasPrefix x.text p.data.toList=true
def jid(w:World)(p:ByteArray)(c:Code)(pre:List Ln)(W:World):Prop :=
 JP w p W/\c=.ret/\∃x∈pre,Lib.hasPrefix x.text p.data.toList=false
theorem jeJ(w W:World)(a b:ByteArray×Bool)(tmps:Array Value)(h4:Boxed W (w.heap.size+1) 9 (.string a.1))(h5:Boxed W (w.heap.size+2) 4 (.bool b.2))(hK:W.heap[w.heap.size+5]?=some (.deferred (some [])))(hB:Below w.heap.size w W)(t4:tmps[4]?=some (.pointer (some ⟨w.heap.size+1,0,none⟩)))(t5:tmps[5]?=some (.pointer (some ⟨w.heap.size+2,0,none⟩))):
  bodyPostM Fence.wide 9 Tryz.prog Tryz.f251 (fun e w'=>e=.returned (.tuple #[.string a.1,.bool b.2])/\Below w.heap.size w w') .ret {tmps:=tmps,defers:=[{target:=.collected (w.heap.size+5),args:=#[]}]} W:=by
 have p1:=grownBy_putObj' W (w.heap.size+5) (.deferred none)
 have zW:w.heap.size+5<W.heap.size:=(Array.getElem?_eq_some_iff.1 hK).1
 have r4:Boxed (W.putObj (w.heap.size+5) (.deferred none)) (w.heap.size+1) 9 (.string a.1):=(p1.block _ (by omega) (fun e=>by have:=jip e;omega)).trans h4
 have r5:Boxed (W.putObj (w.heap.size+5) (.deferred none)) (w.heap.size+2) 4 (.bool b.2):=(p1.block _ (by omega) (fun e=>by have:=jip e;omega)).trans h5
 have c4:=r4.cell
 have c5:=r5.cell
 refine⟨by simp,.inl ⟨_,_,rfl,run_takeDeferred hK,?_⟩⟩
 exact⟨.tuple #[.string a.1,.bool b.2],by simp[results,Tryz.f251,go_sem,t4,t5,c4,c5],rfl,hB.trans (belowK_b (w:=w) (jij _) W _ _ _ (by omega) hK rfl rfl)⟩
theorem jap(s p:ByteArray)(hs:s.size<=1000000000)(w:World):
  Calls Tryz.prog 251 #[.string s,.string p] w fun e w'=>e=.returned (.tuple #[.string ⟨(dd p.data.toList ((jg s.data.toList).map VF)).1.toArray⟩,.bool (dd p.data.toList ((jg s.data.toList).map VF)).2])/\Below w.heap.size w w':=by
 have hjl:((jg s.data.toList).flatMap Ln.bytes).length<=1000000000:=by rw[jT,<- jiV];exact hs
 obtain⟨xs,hxs⟩:∃xs,jg s.data.toList=xs:=⟨_,rfl⟩
 rw[hxs]at hjl ⊢
 have HXS:=jii hxs
 clear hxs
 refine callsIn_wide (n:=9).1 ?_
 refine callsIn_of_wp_marks Tryz.func251 rfl trivial ?_ rfl
 simp only[Tryz.ntmps251,ji5,jin,jiJ,Nat.reduceAdd,Nat.reduceSub,ji3,ji4,jje,ji6,jiZ,jiz]
 gi_wp2_with fail
 refine⟨trivial,(callsIn_wide.2 (vx s _)).mono ?_⟩
 rintro e w3 ⟨rfl,rfl⟩
 gi_wp2_with fail
 have k1:=jjs w 9 (.string p)
 have k2:=vX w (.cells #[.string p] 9) 9 (.string ⟨#[]⟩)
 have k3:=Jj w (.cells #[.string p] 9) (.cells #[.string ⟨#[]⟩] 9) 4 (.bool false)
 have kb:=Bld.new (((w.alloc (.cells #[.string p] 9)).alloc (.cells #[.string ⟨#[]⟩] 9)).alloc (.cells #[.bool false] 4)) (w.heap.size+10)
 have kz:(((w.alloc (.cells #[.string p] 9)).alloc (.cells #[.string ⟨#[]⟩] 9)).alloc (.cells #[.bool false] 4)).heap.size=w.heap.size+3:=by simp
 rw[kz]at kb
 have rooms:JP w p (((w.alloc (.cells #[.string p] 9)).alloc (.cells #[.string ⟨#[]⟩] 9)).alloc (.cells #[.bool false] 4)) :=
  ⟨(k1.alloc _).alloc _,k2.alloc _,k3,((((jil _ w).alloc (jij _) _).alloc (by simp) _).alloc (by simp;omega) _)⟩
 generalize ((w.alloc (.cells #[.string p] 9)).alloc (.cells #[.string ⟨#[]⟩] 9)).alloc (.cells #[.bool false] 4)=w1 at *
 have k7:=vX w1 (.cells #[.pointer none,.slice none 0 0] 167) 9 (.string s)
 rw[kz]at k7
 have HH:=qq s (w.heap.size+4) _ k7 (by omega)
 rw[HXS.out]at HH
 have hz:((w1.alloc (.cells #[.pointer none,.slice none 0 0] 167)).alloc (.cells #[.string s] 9)).heap.size=w.heap.size+5:=by simp[kz]
 have ab:∀k,k<=5->zo (w.heap.size+5) k (jhy w p (w.heap.size+10)):=fun k hk pre W W' h ht =>
  ⟨h.1.turned ht (by omega),h.2.1.turned ht (by omega) (by omega),h.2.2⟩
 have init:jhy w p (w.heap.size+10) [] ((w1.alloc (.cells #[.pointer none,.slice none 0 0] 167)).alloc (.cells #[.string s] 9)) :=
  ⟨(rooms.alloc _).alloc _,kb.alloc _,fun x hx=>by cases hx⟩
 refine qS (gf:=159) (lb:=#[.pointer (some ⟨w.heap.size+4,0,none⟩)]) rfl (enters_of Tryz.func159 (by kernel_rfl) rfl) HH (fun _=>rfl)
  (jhy w p (w.heap.size+10)) (jid w p) (by rw[hz];exact ab _ (by omega)) (fun c pre W W' h ht=>⟨h.1.turned ht (by rw[hz];omega),h.2⟩) init
  (fun a pre x a' W=>∃Bx,w.heap.size+5+5<=Bx/\a'={tmps:=(a.tmps.setIfInBounds 12 (.agg (qu x))).setIfInBounds 7 (.pointer (some ⟨Bx,0,none⟩)),defers:=[]}/\ja W Bx 182 (qu x) /\
   jhy w p (w.heap.size+10) pre W)
  ?hM ?assign ?body ?done ?stop
 case hM =>
  rw[hz]
  rintro a pre x a' _ W W' ⟨Bx,h1,h2,h3,h4⟩ ht
  exact⟨Bx,h1,h2,(ht.same Bx h3.lt (.inr (by omega))).trans h3,ab 2 (by omega) pre W W' h4 ht⟩
 case assign =>
  rw[hz]
  intro l pre x post W hx hsz hi
  clear hx
  dsimp only[qu]
  gi_wp2
  exact⟨(qC.refl _ _ W).alloc hsz _,W.heap.size,by omega,rfl,ja.new _ _ _,hi.1.alloc _,hi.2.1.alloc _,hi.2.2⟩
 case body =>
  rw[hz]
  rintro l pre x post a' W hx hsz ⟨Bx,hB,rfl,hc,h1,h2,h3⟩
  have hlen:=Yn p.data.toList (pre++[x])
  have hlen2:((pre++[x]).flatMap Ln.bytes).length<=1000000000:=by
   rw[hx,show pre++x::post=(pre++[x])++post by simp,jiN,jik]at hjl
   omega
  have hlen:=jiI hlen hlen2
  rw[XB]at hlen
  simp only[jik,<- jiV]at hlen
  have HS:=jii (XB p.data.toList pre x)
  clear hx hjl hlen2
  simp only[jiC,jjj,jjk,qu]at hc ⊢
  have hne:Bx≠w.heap.size+3:=by omega
  obtain⟨en,hen⟩:∃en,x.ended=en:=⟨_,rfl⟩
  rw[hen]at hlen hc ⊢
  have c3:=h1.1.cell
  have p2:W.cell? ⟨Bx,2,none⟩=some (.string ⟨x.text.toArray⟩):=hc.cell 2
  gi_wp2_with fail
  refine⟨trivial,((callsIn_wide.2 (Tryz.strings_CutPrefix ⟨x.text.toArray⟩ p W)).inRound l).mono ?_⟩
  rintro e V ⟨rfl,rfl⟩
  have eh:Lib.hasPrefix (⟨x.text.toArray⟩:ByteArray).data.toList p.data.toList=Lib.hasPrefix x.text p.data.toList:=rfl
  have et:Lib.trimPrefix (⟨x.text.toArray⟩:ByteArray).data.toList p.data.toList=Lib.trimPrefix x.text p.data.toList:=rfl
  rw[eh,et]
  cases hp:Lib.hasPrefix x.text p.data.toList
  ·have c4:=h1.2.1.cell
   have f4:=h1.2.1.frozen
   have c5:V.cell? ⟨w.heap.size+1+1,0,none⟩=some (.bool false):=h1.2.2.1.cell
   have f5:V.frozen? ⟨w.heap.size+1+1,0,none⟩=false:=h1.2.2.1.frozen
   gi_wp2
   refine⟨((qC.refl _ _ _).setCell (.inl (by show w.heap.size+1<_;omega)) _).setCell (.inl (by show w.heap.size+1+1<_;omega)) _,?_,rfl,x,by simp,hp⟩
   refine⟨yA (yA h1.1 (by omega) _) (by omega) _,yA (jjg _ h1.2.1) (by omega) _,jjg _ (yA h1.2.2.1 (by omega) _),?_⟩
   exact(h1.2.2.2.setCell (p:=⟨w.heap.size+1,0,none⟩) (by show _<=w.heap.size+1;omega) _).setCell (p:=⟨w.heap.size+1+1,0,none⟩) (by show _<=w.heap.size+1+1;omega) _
  gi_wp2_with fail
  refine⟨trivial,((callsIn_wide.2 (xn (w.heap.size+3) (w.heap.size+10) _ ⟨(Lib.trimPrefix x.text p.data.toList).toArray⟩ V h2 (by omega) (by omega) ?_)).inRound l).mono ?_⟩
  ·have e1:(⟨(Lib.trimPrefix x.text p.data.toList).toArray⟩:ByteArray).size=(Lib.trimPrefix x.text p.data.toList).length:=by simp[ByteArray.size]
   omega
  rintro e W2 ⟨rfl,b2,o2⟩
  have m2:ja W2 Bx 182 _:=o2.other hc hne (by decide)
  have z2:=o2.size
  have q0:W2.cell? ⟨Bx,0,none⟩=some (.int .i64 x.no):=m2.cell 0
  have q1:W2.cell? ⟨Bx,1,none⟩=some (.int .i64 x.at_):=m2.cell 1
  have q2:W2.cell? ⟨Bx,2,none⟩=some (.string ⟨x.text.toArray⟩):=m2.cell 2
  have q3:W2.cell? ⟨Bx,3,none⟩=some (.bool en):=m2.cell 3
  gi_wp2_with fail
  refine⟨trivial,((callsIn_wide.2 (KC _ _ _ _ _)).inRound l).mono ?_⟩
  rintro e W3 ⟨rfl,rfl⟩
  gi_wp2_with fail
  refine⟨trivial,((callsIn_wide.2 (xn (w.heap.size+3) (w.heap.size+10) _ (Yh en) _ (b2.alloc _) (by omega) (by simp;omega) ?_)).inRound l).mono ?_⟩
  ·simp only[jik]
   omega
  rintro e W4 ⟨rfl,b3,o3⟩
  gi_wp2_with fail
  have oo:=(o2.alloc (.cells #[.int .i64 x.no,.int .i64 x.at_,.string ⟨x.text.toArray⟩,.bool en] 182)).trans o3
  refine⟨oo.stay (by omega) (by omega) (by omega),h1.wrote oo (by omega) (by omega),?_,?_⟩
  ·rw[HS.out,hen]
   exact b3
  intro y hy
  rcases List.mem_append.1 hy with h|h
  ·exact h3 y h
  rw[List.mem_singleton.1 h];exact hp
 case done =>
  rw[hz]
  rintro W ⟨h1,h2,h3⟩ hmark
  have zW:w.heap.size+5<W.heap.size:=(Array.getElem?_eq_some_iff.1 hmark).1
  gi_wp2_with fail
  refine⟨trivial,(callsIn_wide.2 (Tryz.Builder_String_any_k (w.heap.size+3) (w.heap.size+3) _ W (h2.library (by omega) (by omega)) (by omega))).mono ?_⟩
  rintro e W1 ⟨rfl,_,g2,g3⟩
  have hK:W1.heap[w.heap.size+5]?=some (.deferred (some [])):=g3 _ _ hmark (by simp) (fun c fz e=>by cases e)
  have b4:Boxed W1 (w.heap.size+1) 9 (.string ⟨#[]⟩):=jgB h1.2.1 g2 (by omega)
  have b5:Boxed W1 (w.heap.size+2) 4 (.bool false):=jgB h1.2.2.1 g2 (by omega)
  have hbel:Below w.heap.size w W1:=h1.2.2.2.trans (g2.mono (by omega))
  have c4:=b4.cell
  have f4:=b4.frozen
  have c5:W1.cell? ⟨w.heap.size+1+1,0,none⟩=some (.bool false):=b5.cell
  have f5:W1.frozen? ⟨w.heap.size+1+1,0,none⟩=false:=b5.frozen
  clear k1 k2 k3 kb k7 HH ab init rooms
  gi_wp2
  rw[jeW _ _ h3]
  obtain⟨W2,hW2⟩:∃W2,(W1.setCell ⟨w.heap.size+1,0,none⟩ (.string ⟨(Uk p.data.toList xs).toArray⟩)).setCell ⟨w.heap.size+1+1,0,none⟩ (.bool true)=W2:=⟨_,rfl⟩
  have e4:Boxed W2 (w.heap.size+1) 9 (.string ⟨(Uk p.data.toList xs).toArray⟩):=by rw[<- hW2];exact yA (jjg _ b4) (by omega) _
  have e5:Boxed W2 (w.heap.size+2) 4 (.bool true):=by rw[<- hW2];exact jjg _ (yA b5 (by omega) _)
  have eK:W2.heap[w.heap.size+5]?=some (.deferred (some [])):=by
   rw[<- hW2]
   exact(jiS _ _ _ _ (by show w.heap.size+5≠w.heap.size+1+1;omega)).trans ((jiS _ _ _ _ (by show w.heap.size+5≠w.heap.size+1;omega)).trans hK)
  have eB:Below w.heap.size w W2:=by
   rw[<- hW2]
   exact(hbel.setCell (p:=⟨w.heap.size+1,0,none⟩) (by show _<=w.heap.size+1;omega) _).setCell (p:=⟨w.heap.size+1+1,0,none⟩) (by show _<=w.heap.size+1+1;omega) _
  rw[hW2]
  exact jeJ w W2 (⟨(Uk p.data.toList xs).toArray⟩,true) (⟨#[]⟩,true) _ e4 e5 eK eB rfl rfl
 case stop =>
 rw[hz]
 rintro c pre W hpre ⟨h1,rfl,x,hx,hp⟩ hmark
 have zW:w.heap.size+5<W.heap.size:=(Array.getElem?_eq_some_iff.1 hmark).1
 gi_wp2
 rw[jcv _ _ x (hpre.subset hx) hp]
 exact jeJ w W (⟨#[]⟩,false) (⟨#[]⟩,false) _ h1.2.1 h1.2.2.1 hmark h1.2.2.2 rfl rfl
theorem jcT(l:List UInt8)(w:World):Calls Tryz.prog 216 #[.string (B l)] w fun e w'=>e=.returned (.int .i64 (yL l))/\Below w.heap.size w w':=by
 obtain⟨wa,hwa⟩:∃wa,wa=w.alloc (.cells #[.int .i64 1,.int .i64 2,.int .i64 3] 3):=⟨_,rfl⟩
 have HB:Hid (Below w.heap.size w wa):=by show Below _ _ _;rw[hwa];exact(jil _ w).alloc (jij _) _
 have c0:wa.cell? ⟨w.heap.size,0,none⟩=some (.int .i64 1):=by rw[hwa];simp
 have c1:wa.cell? ⟨w.heap.size,1,none⟩=some (.int .i64 2):=by rw[hwa];simp
 have c2:wa.cell? ⟨w.heap.size,2,none⟩=some (.int .i64 3):=by rw[hwa];simp
 have W1:=jii (JR 1 wa)
 have W2:=jii (JR 2 wa)
 have W3:=jii (JR 3 wa)
 have KD:=jii (show yL l=if l=zT 1 then 1 else if l=zT 2 then 2 else if l=zT 3 then 3 else 0 from rfl)
 have eq:∀k,((B (zT k)).toList==(B l).toList)=decide (l=zT k):=fun k=>by
  rw[jeY,jjm,decide_eq_true_eq,decide_eq_true_eq];exact⟨fun h=>h.symm,fun h=>h.symm⟩
 have e1:=eq 1
 have e2:=eq 2
 have e3:=eq 3
 clear eq
 subst hwa
 go_enter Tryz.func216,Tryz.ntmps216
 go_wp2_with fail
 go_loopw [7] (fun i wr=>∃k:Nat,k<=3/\i=.int .i64 k/\wr=w.alloc (.cells #[.int .i64 1,.int .i64 2,.int .i64 3] 3)/\(1<=k->l≠zT 1)/\(2<=k->l≠zT 2)/\(3<=k->l≠zT 3)) (fun i _=>3-(intOf i).toNat)
 case atStart=>exact⟨0,jiD _,rfl,rfl,(by omega),(by omega),(by omega)⟩
 case round =>
 obtain⟨k,hk,rfl,hwr,n1,n2,n3⟩:=hrel
 subst hwr
 obtain rfl|rfl|rfl|rfl:k=0\/k=1\/k=2\/k=3:=by omega
 ·by_cases hq:l=zT 1
  ·rw[decide_eq_true hq]at e1
   have KD1:Hid (yL l=1):=by show _=_;rw[KD.out,if_pos hq]
   clear n1 n2 n3 hq
   go_wp2_with fail
   refine W1.out.mono ?_
   rintro e w2 ⟨rfl,rfl⟩
   go_wp2_with fail
   go_ret
   exact⟨by rw[KD1.out];rfl,HB.out⟩
  rw[decide_eq_false hq]at e1
  clear n1 n2 n3
  go_wp2_with fail
  refine W1.out.mono ?_
  rintro e w2 ⟨rfl,rfl⟩
  go_wp2_with fail
  go_roundw
  case rel=>exact⟨1,by omega,by go_num,by first | trivial | rfl,(fun _=>hq),(by omega),(by omega)⟩
  case measure=>simp[intOf]
 ·have n1':=n1 (by omega)
  by_cases hq:l=zT 2
  ·rw[decide_eq_true hq]at e2
   have KD1:Hid (yL l=2):=by show _=_;rw[KD.out,if_neg n1',if_pos hq]
   clear n1 n2 n3 hq n1'
   go_wp2_with fail
   refine W2.out.mono ?_
   rintro e w2 ⟨rfl,rfl⟩
   go_wp2_with fail
   go_ret
   exact⟨by rw[KD1.out];rfl,HB.out⟩
  rw[decide_eq_false hq]at e2
  clear n1 n2 n3
  go_wp2_with fail
  refine W2.out.mono ?_
  rintro e w2 ⟨rfl,rfl⟩
  go_wp2_with fail
  go_roundw
  case rel=>exact⟨2,by omega,by go_num,by first | trivial | rfl,(fun _=>n1'),(fun _=>hq),(by omega)⟩
  case measure=>simp[intOf]
 ·have n1':=n1 (by omega)
  have n2':=n2 (by omega)
  by_cases hq:l=zT 3
  ·rw[decide_eq_true hq]at e3
   have KD1:Hid (yL l=3):=by show _=_;rw[KD.out,if_neg n1',if_neg n2',if_pos hq]
   clear n1 n2 n3 hq n1' n2'
   go_wp2_with fail
   refine W3.out.mono ?_
   rintro e w2 ⟨rfl,rfl⟩
   go_wp2_with fail
   go_ret
   exact⟨by rw[KD1.out];rfl,HB.out⟩
  rw[decide_eq_false hq]at e3
  clear n1 n2 n3
  go_wp2_with fail
  refine W3.out.mono ?_
  rintro e w2 ⟨rfl,rfl⟩
  go_wp2_with fail
  go_roundw
  case rel=>exact⟨3,by omega,by go_num,by first | trivial | rfl,(fun _=>n1'),(fun _=>n2'),(fun _=>hq)⟩
  case measure=>simp[intOf]
 have KD1:Hid (yL l=0):=by show _=_;rw[KD.out,if_neg (n1 (by omega)),if_neg (n2 (by omega)),if_neg (n3 (by omega))]
 clear n1 n2 n3
 go_wp2_with fail
 go_ret
 exact⟨by rw[KD1.out];rfl,HB.out⟩
theorem jhM(p:List UInt8)(xs:List Ln):(dd p (xs.map VF)).1.length<=(xs.flatMap Ln.bytes).length:=by
 by_cases h:∀x∈xs,Lib.hasPrefix x.text p=true
 ·rw[jeW p xs h];exact Yn p xs
 simp only[Classical.not_forall]at h
 obtain⟨x,hx,hp⟩:=h
 rw[jcv p xs x hx (by simpa using hp)];exact jiD _
theorem Wq(its:List It):(JW its).length=jas its:=by
 unfold JW jas
 rw[jiQ]
 congr 2
theorem jbK(rs:List (List Fld))(n:Nat)(h:∀r∈rs,r.length<=n):Yx rs<=rs.length*n:=by
 unfold Yx
 induction rs with
 | nil=>simp
 | cons r rs ih =>
 have:=ih (fun x hx=>h x (jir _ hx))
 have:=h r jis
 rw[jiX,jjP,jin,Nat.add_mul];omega
def Qe(w w':World)(u:Value)(fs:List Fld):Prop:=w'.ownsRow w.heap.size 155 2 u fs.length (js fs)/\Below w.heap.size w w'
theorem KQ(t:List UInt8)(ht:t.length<=60000)(w:World):Calls Tryz.prog 217 #[.string (B t)] w fun e w'=>∃u,e=.returned u/\Qe w w' u (zU t):=by
 have DE:=jii (jap (B t) ⟨#[32,32]⟩ (by rw[jm];omega) w)
 rw[jo]at DE
 rw[show(⟨#[32,32]⟩:ByteArray).data.toList=[32,32] from rfl]at DE
 obtain⟨d,hd⟩:∃d,(dd [32,32] ((jg t).map VF)).1=d:=⟨_,rfl⟩
 have hdl:d.length<=60000:=by
  have:=jhM [32,32] (jg t)
  rw[jT,hd]at this
  omega
 rw[hd]at DE
 have UN:Hid (zU t=match jA d with | .error _=>[] | .ok its=>(JW its).flatten):=by show _=_;unfold zU;rw[hd];rfl
 have PR:=jii (fun W=>Zr (B d) (by rw[jm];exact hdl) W)
 rw[jo]at PR
 rw[show(⟨d.toArray⟩:ByteArray)=B d from rfl]at DE
 generalize (dd [32,32] ((jg t).map VF)).2=okd at *
 clear hd
 go_enter Tryz.func217,Tryz.ntmps217
 go_wp2_with fail
 refine DE.out.mono ?_
 rintro e w1 ⟨rfl,b1⟩
 have B1:=jii b1
 have PR1:=jii (PR.out w1)
 clear DE b1 PR
 go_wp2_with fail
 refine PR1.out.mono ?_
 rintro e w2 hp
 cases hpl:jA d with
 | error an =>
  obtain⟨a,n⟩:=an
  obtain⟨b2,v,rfl,q,_,rfl,_⟩:=jbp hp hpl
  rw[hpl]at UN
  have SZ:=jii (Zl [] (.slice none 0 0) w2 (Its.empty w2 none 0) (fun i b off n cap m c e=>by cases e) (by simp) (fun it hit=>by cases hit))
  have B2:=jii (B1.out.trans (b2.mono B1.out.size))
  clear b2 hp PR1
  go_wp2_with fail
  refine SZ.out.mono ?_
  rintro e w3 ⟨u,vs,rfl,hacc⟩
  have CC:=jii (Vn hacc (by simp[Yx,JW]) (by simp[JW]))
  have B3:=jii (B2.out.trans (hacc.below.mono B2.out.size))
  clear hacc SZ
  go_wp2_with fail
  refine CC.out.mono ?_
  rintro e w4 ⟨x,rfl,hx,b4⟩
  have R:Hid (Qe w w4 x (zU t)):=by
   show Qe _ _ _ _
   rw[UN.out]
   exact⟨jC hx B3.out.size,B3.out.trans (b4.mono B3.out.size)⟩
  clear hx b4 CC
  go_wp2_with fail
  go_ret
  exact⟨_,rfl,R.out⟩
 | ok its =>
 obtain⟨b2,v,rfl,hI,hN⟩:=Wu hp hpl
 rw[hpl]at UN
 obtain⟨_,hil,hif⟩:=yB hpl
 have hcnt:=Zq hpl
 rw[<- Wq]at hcnt
 have SZ:=jii (Zl its v w2 hI hN (by omega) (fun it hit=>by have:=(hif it hit).1;omega))
 have hrl:Yx (JW its)<=1000000:=by
  have:=jbK (JW its) 40 (fun r hr=>by
   unfold JW at hr
   obtain⟨it,h1,rfl⟩:=List.mem_map.1 hr
   exact(hif it (List.mem_filter.1 h1).1).1)
  omega
 have B2:=jii (B1.out.trans (b2.mono B1.out.size))
 have HN:=jii (And.intro hrl hcnt)
 obtain⟨ia,ic,rfl,_,_⟩:=hI
 clear b2 hp PR1 hN hif hil hrl hcnt
 go_wp2_with fail
 refine SZ.out.mono ?_
 rintro e w3 ⟨u,vs,rfl,hacc⟩
 have CC:=jii (Vn hacc HN.out.1 (by have:=HN.out.2;omega))
 have B3:=jii (B2.out.trans (hacc.below.mono B2.out.size))
 clear hacc SZ
 go_wp2_with fail
 refine CC.out.mono ?_
 rintro e w4 ⟨x,rfl,hx,b4⟩
 have R:Hid (Qe w w4 x (zU t)):=by
  show Qe _ _ _ _
  rw[UN.out]
  exact⟨jC hx B3.out.size,B3.out.trans (b4.mono B3.out.size)⟩
 clear hx b4 CC
 go_wp2_with fail
 go_ret
 exact⟨_,rfl,R.out⟩
theorem YF(c:UInt8):∀t:List UInt8,c∉t->t.takeWhile (· != c)=t
 | [],_=>rfl
 | x::r,h=>by
  have hx:(x != c)=true:=by
   have:c≠x:=fun e=>h (e▸jis)
   simp;exact fun e=>this e.symm
  rw[jjc,if_pos hx,YF c r (fun hm=>h (jir _ hm))]
theorem Uj(t:List UInt8)(c:UInt8)(ht:t.length<=1000000)(w:World):
  Calls Tryz.prog 105 #[.string (B t),.string ⟨#[c]⟩] w fun e w'=>(∃b,e=.returned (.tuple #[.string (B (t.takeWhile (· != c))),.string (B (t.drop ((t.takeWhile (· != c)).length+1))),.bool b]))/\Below w.heap.size w w':=by
 by_cases h:c∈t
 ·refine(Ym (B t) c w (by rw[jm];unfold maxLen;omega) (by rw[jo];exact h)).mono ?_
  rintro e w' ⟨rfl,n,rfl⟩
  refine⟨⟨true,?_⟩,vf (jil _ _) n⟩
  rw[jo]
  have e1:(B t).extract 0 (t.takeWhile (· != c)).length=B (t.takeWhile (· != c)):=by
   have:∃r,t=t.takeWhile (· != c)++r:=⟨t.dropWhile (· != c),List.takeWhile_append_dropWhile.symm⟩
   obtain⟨r,hr⟩:=this
   generalize t.takeWhile (· != c)=k at *
   subst hr
   apply jkc
   simp[B,ByteArray.data_extract]
  have e2:(B t).extract ((t.takeWhile (· != c)).length+1) (B t).size=B (t.drop ((t.takeWhile (· != c)).length+1)):=by
   generalize (t.takeWhile (· != c)).length+1=k
   apply jkc
   rw[jm]
   simp[B,ByteArray.data_extract]
   exact ji2 (by rw[jiw];omega)
  rw[e1,e2]
 refine(Ui (B t) c w (by rw[jo];exact h)).mono ?_
 rintro e w' ⟨rfl,n,rfl⟩
 refine⟨⟨false,?_⟩,vf (jil _ _) n⟩
 have e1:t.takeWhile (· != c)=t:=YF c t h
 rw[e1,jjf (by omega)];rfl
end Go.Proofs.YtimfhnfcmhmjcaaGreatDoor
