/- Texts put together:AQ,HF,ES,HA,EL,EZ,AS,AT,AU,AW,BJ,AN,AR,FV. -/
import Derived.Lib.SliceRun
import Derived.Test.YtbapfpekklcicaaGreatDoorBbx29
import Derived.Test.YtbapfpekklcicaaGreatDoorBbx30
set_option linter.unusedVariables false
set_option maxRecDepth 100000
set_option maxHeartbeats 16000000
namespace Go.Proofs.YtbapfpekklcicaaGreatDoor
open Go.RowKit Go.Shelf Tryz
section
section
variable {K:Act->World->Prop} {Q:Exit->Act->World->Prop} {o:Oper} {a:Act} {w:World}
theorem jbT{x y:Operand}{m n:ByteArray}(e:o.op=Op.binOp BinOp.add 9 x y 9)(hx:a.eval x=.string m)(b:a.eval y=.string n)(f:m.size<=1000000000)(g:n.size<=1000000000)(d:K (a.put o.dst (.string (m++n))) w):Oper.wp prog o a w K Q :=
 KS (by
  generalize a.eval=h at hx b ⊢;have c:m.size+n.size<=9223372036854775807:=by omega
  simp only[execOp,e,hx,b];simp[go_sem,c]) d
end
theorem jgw{b a n c i:Nat}{w:World}(h:i<n):(Instr.indexAt 55 (.slice (some ⟨b,a,none⟩) n c) (.int .i64 (i:Nat))).run prog w=.ok (.pointer (some ⟨b,a+i*3,none⟩)) w:=by
 have d:(i:Int)<(n:Int):=by omega
 have e:(0:Int)<=(i:Int):=by omega
 simp[go_sem,d,e]
def zK:List Oper:=[
 {dst:=some 11,op:=Op.move (Operand.tmp 3),type:=9,pos := "ref.go:69",after:=#[],guard:=none},
 {dst:=some 12,op:=Op.move (Operand.tmp 0),type:=55,pos := "ref.go:69",after:=#[],guard:=none},
 {dst:=some 13,op:=Op.move (Operand.tmp 4),type:=3,pos := "ref.go:69",after:=#[],guard:=none},
 {dst:=some 14,op:=Op.indexAddr 55 (Operand.tmp 12) (Operand.tmp 13),type:=0,pos := "ref.go:69",after:=#[{on:=1,ground:=Ground.data},{on:=2,ground:=Ground.data}],guard:=none},
 {dst:=some 15,op:=Op.load 75 (Operand.tmp 14),type:=75,pos := "ref.go:69",after:=#[{on:=3,ground:=Ground.data}],guard:=none},
 {dst:=some 16,op:=Op.call {callee:=Callee.value (Operand.func 112),args:=#[Operand.tmp 15],argTypes:=#[75]},type:=9,pos := "ref.go:69",after:=#[{on:=4,ground:=Ground.data}],guard:=none},
 {dst:=some 17,op:=Op.binOp BinOp.add 9 (Operand.tmp 11) (Operand.tmp 16) 9,type:=9,pos := "ref.go:69",after:=#[{on:=0,ground:=Ground.data},{on:=5,ground:=Ground.data}],guard:=none},
 {dst:=some 18,op:=Op.binOp BinOp.add 9 (Operand.tmp 17) (Operand.const (Value.string {data:=#[10]})) 9,type:=9,pos := "ref.go:69",after:=#[{on:=6,ground:=Ground.data}],guard:=none},
 {dst:=some 19,op:=Op.move (Operand.tmp 0),type:=55,pos := "ref.go:69",after:=#[],guard:=none},
 {dst:=some 20,op:=Op.move (Operand.tmp 4),type:=3,pos := "ref.go:69",after:=#[],guard:=none},
 {dst:=some 21,op:=Op.indexAddr 55 (Operand.tmp 19) (Operand.tmp 20),type:=0,pos := "ref.go:69",after:=#[{on:=8,ground:=Ground.data},{on:=9,ground:=Ground.data}],guard:=none},
 {dst:=some 22,op:=Op.fieldAddr 75 (Operand.tmp 21) 2,type:=0,pos := "ref.go:69",after:=#[{on:=10,ground:=Ground.data}],guard:=none},
 {dst:=some 23,op:=Op.load 73 (Operand.tmp 22),type:=73,pos := "ref.go:69",after:=#[{on:=11,ground:=Ground.data}],guard:=none},
 {dst:=some 24,op:=Op.call {callee:=Callee.value (Operand.func 160),args:=#[Operand.tmp 23],argTypes:=#[73]},type:=9,pos := "ref.go:69",after:=#[{on:=12,ground:=Ground.data},{on:=5,ground:=Ground.chain}],guard:=none},
 {dst:=some 25,op:=Op.call {callee:=Callee.value (Operand.func 159),args:=#[Operand.tmp 24,Operand.const (Value.string {data:=#[32,32]})],argTypes:=#[9,9]},type:=9,pos := "ref.go:69",after:=#[{on:=13,ground:=Ground.data},{on:=13,ground:=Ground.chain}],guard:=none},
 {dst:=some 26,op:=Op.binOp BinOp.add 9 (Operand.tmp 18) (Operand.tmp 25) 9,type:=9,pos := "ref.go:69",after:=#[{on:=7,ground:=Ground.data},{on:=14,ground:=Ground.data}],guard:=none},
 {dst:=some 3,op:=Op.assign (Operand.tmp 26),type:=9,pos := "ref.go:69",after:=#[{on:=15,ground:=Ground.data},{on:=14,ground:=Ground.chain},{on:=0,ground:=Ground.phase},{on:=1,ground:=Ground.phase},{on:=2,ground:=Ground.phase},{on:=3,ground:=Ground.phase},{on:=4,ground:=Ground.phase},{on:=5,ground:=Ground.phase},{on:=6,ground:=Ground.phase},{on:=7,ground:=Ground.phase},{on:=8,ground:=Ground.phase},{on:=9,ground:=Ground.phase},{on:=10,ground:=Ground.phase},{on:=11,ground:=Ground.phase},{on:=12,ground:=Ground.phase},{on:=13,ground:=Ground.phase},{on:=14,ground:=Ground.phase},{on:=15,ground:=Ground.phase}],guard:=none}]
def Zq(i:Nat):Option Nat:=(zK[i]?).bind (·.dst)
theorem jk6:∀i,i<16->∀k,k<16->Zq i≠none->Zq i=Zq k->i=k:=by decide +kernel
theorem jmi:∀i,i<16->(Zq i).getD 0<28:=by decide +kernel
theorem jkX:∀i:Fin 17,∀e∈(zK[i.1]'(by exact i.2)).after,Region.binds .any e=true->e.on<i.1:=by decide +kernel
def jj3(b off n c j:Nat)(k i:Int)(fv:Value)(acc la fo ind:ByteArray):List (Value->World->Prop):=[
 fun v w=>v=.string acc,
 fun v w=>v=.slice (some ⟨b,off,none⟩) n c,
 fun v w=>v=.int .i64 (j:Nat),
 fun v w=>v=.pointer (some ⟨b,off+j*3,none⟩),
 fun v w=>v=.agg #[.int .i64 k,.int .i64 i,fv],
 fun v w=>v=.string la,
 fun v w=>v=.string (acc++la),
 fun v w=>v=.string (acc++la ++ ⟨#[10]⟩),
 fun v w=>v=.slice (some ⟨b,off,none⟩) n c,
 fun v w=>v=.int .i64 (j:Nat),
 fun v w=>v=.pointer (some ⟨b,off+j*3,none⟩),
 fun v w=>v=.pointer (some ⟨b,off+j*3+2,none⟩),
 fun v w=>v=fv,
 fun v w=>v=.string fo,
 fun v w=>v=.string ind,
 fun v w=>v=.string (acc++la ++ ⟨#[10]⟩++ind)]
theorem jd0(a0:Act)(C:World)(b m n c j:Nat)(k i:Int)(L:Value)(s N U A:ByteArray)(Q:Exit->Act->World->Prop)
  (ar:a0.tmps.size=28) (h3:a0.tmps[3]?=some (.string s)) (h0:a0.tmps[0]?=some (.slice (some ⟨b,m,none⟩) n c)) (h4:a0.tmps[4]?=some (.int .i64 (j:Nat)))
  (hj:j<n) (hE:∀W,Below C.heap.size C W->(Instr.loadAt 75 (.pointer (some ⟨b,m+j*3,none⟩))).run prog W=.ok (.agg #[.int .i64 k,.int .i64 i,L]) W/\(Instr.loadAt 73 (.pointer (some ⟨b,m+j*3+2,none⟩))).run prog W=.ok L W)
  (s1:s.size<=100000000) (s2:N.size<=1000000) (s3:A.size<=1000000)
  (aq:∀(W:World) (_:Below C.heap.size C W),Calls prog 112 #[.agg #[.int .i64 k,.int .i64 i,L]] W fun e w=>∃v,e=.returned v/\(v=.string N)/\Below W.heap.size W w)
  (X:∀(W:World) (_:Below C.heap.size C W),Calls prog 160 #[L] W fun e w=>∃v,e=.returned v/\(v=.string U)/\Below W.heap.size W w)
  (Y:∀(W:World) (_:Below C.heap.size C W),Calls prog 159 #[.string U,Value.string {data:=#[32,32]}] W fun e w=>∃v,e=.returned v/\(v=.string A)/\Below W.heap.size W w)
  (hQ:∀(y0 y1 y2 y3 y4 y5 y6 y7 y8 y9 E G H I J D:Value) (w:World),Below C.heap.size C w->((fun(v:Value) (w:World)=>v=.string (s++N ++ ⟨#[10]⟩++A)) D w)->wpList prog zK.toArray Q [{dst:=some 3,op:=Op.assign (Operand.tmp 26),type:=9,pos := "ref.go:69",after:=#[{on:=15,ground:=Ground.data},{on:=14,ground:=Ground.chain},{on:=0,ground:=Ground.phase},{on:=1,ground:=Ground.phase},{on:=2,ground:=Ground.phase},{on:=3,ground:=Ground.phase},{on:=4,ground:=Ground.phase},{on:=5,ground:=Ground.phase},{on:=6,ground:=Ground.phase},{on:=7,ground:=Ground.phase},{on:=8,ground:=Ground.phase},{on:=9,ground:=Ground.phase},{on:=10,ground:=Ground.phase},{on:=11,ground:=Ground.phase},{on:=12,ground:=Ground.phase},{on:=13,ground:=Ground.phase},{on:=14,ground:=Ground.phase},{on:=15,ground:=Ground.phase}],guard:=none}] {a0 with tmps:=[(11,y0),(12,y1),(13,y2),(14,y3),(15,y4),(16,y5),(17,y6),(18,y7),(19,y8),(20,y9),(21,E),(22,G),(23,H),(24,I),(25,J),(26,D)].foldl (fun u p=>u.setIfInBounds p.1 p.2) a0.tmps} w) :
  wpAny prog .any zK.toArray Q zK.toArray.size (Array.replicate zK.toArray.size false) a0 C:=by
 have M:jlW (jj3 b m n c j k i L s N U A):=⟨fun v x y t h=>h,fun v x y t h=>h,fun v x y t h=>h,fun v x y t h=>h,fun v x y t h=>h,fun v x y t h=>h,fun v x y t h=>h,fun v x y t h=>h,fun v x y t h=>h,fun v x y t h=>h,fun v x y t h=>h,fun v x y t h=>h,fun v x y t h=>h,fun v x y t h=>h,fun v x y t h=>h,fun v x y t h=>h,trivial⟩
 refine yd 16 1 (by kernel_rfl) (by decide) a0 C Zq (jj3 b m n c j k i L s N U A) M (by kernel_rfl) (by kernel_rfl) (by kernel_rfl)
  (fun i o _ r=>by unfold Zq;rw[r];rfl)
  (fun i k d R hk V h2=>jk6 i R k hk (by rw[V];intro q;cases q) (by rw[V,h2]))
  (fun i d R h=>by have:=jmi i R;rw[h]at this;rw[ar];exact this)
  (fun i o e r he t=>by
   obtain⟨R,rfl⟩:=List.getElem?_eq_some_iff.1 r;exact jkX ⟨i,R⟩ e he t)
  ?step ?fin
 case fin =>
  intro a w hd hs Z z O;obtain⟨y0,aF,aU⟩:=z 0 11 (by decide) rfl;obtain⟨y1,aG,aV⟩:=z 1 12 (by decide) rfl;obtain⟨y2,aH,aW⟩:=z 2 13 (by decide) rfl;obtain⟨y3,aI,aX⟩:=z 3 14 (by decide) rfl;obtain⟨y4,aJ,aY⟩:=z 4 15 (by decide) rfl;obtain⟨y5,aK,aZ⟩:=z 5 16 (by decide) rfl;obtain⟨y6,aL,be⟩:=z 6 17 (by decide) rfl;obtain⟨y7,aM,bg⟩:=z 7 18 (by decide) rfl;obtain⟨y8,aN,bi⟩:=z 8 19 (by decide) rfl;obtain⟨y9,aO,bj⟩:=z 9 20 (by decide) rfl;obtain⟨E,ag,aP⟩:=z 10 21 (by decide) rfl;obtain⟨G,ah,aQ⟩:=z 11 22 (by decide) rfl;obtain⟨H,ai,aR⟩:=z 12 23 (by decide) rfl;obtain⟨I,aj,aS⟩:=z 13 24 (by decide) rfl;obtain⟨J,ak,aT⟩:=z 14 25 (by decide) rfl;obtain⟨D,am,ap⟩:=z 15 26 (by decide) rfl;rw[Gt (a:=a) (a0:=a0) [(11,y0),(12,y1),(13,y2),(14,y3),(15,y4),(16,y5),(17,y6),(18,y7),(19,y8),(20,y9),(21,E),(22,G),(23,H),(24,I),(25,J),(26,D)] hd hs (by
   intro p hp;simp only[List.mem_cons,List.not_mem_nil,or_false]at hp;rcases hp with rfl|rfl|rfl|rfl|rfl|rfl|rfl|rfl|rfl|rfl|rfl|rfl|rfl|rfl|rfl|rfl
   ·exact aF
   ·exact aG
   ·exact aH
   ·exact aI
   ·exact aJ
   ·exact aK
   ·exact aL
   ·exact aM
   ·exact aN
   ·exact aO
   ·exact ag
   ·exact ah
   ·exact ai
   ·exact aj
   ·exact ak
   ·exact am
   ) (fun j hj=>Z j (fun k hk q=>hj (by
    have:∀k,k<16->(Zq k).all (fun d=>[11,12,13,14,15,16,17,18,19,20,21,22,23,24,25,26].contains d)=true:=by decide +kernel
    have V:=this k hk;rw[q]at V;simpa using V)))]
  exact hQ y0 y1 y2 y3 y4 y5 y6 y7 y8 y9 E G H I J D w O ap
 case step =>
 intro i o a w R r hs Z g O;have e3:=evT ((Z 3 (by decide +kernel)).trans h3)
 have e0:=evT ((Z 0 (by decide +kernel)).trans h0);have e4:=evT ((Z 4 (by decide +kernel)).trans h4)
 rcases(by omega:i=0\/i=1\/i=2\/i=3\/i=4\/i=5\/i=6\/i=7\/i=8\/i=9\/i=10\/i=11\/i=12\/i=13\/i=14\/i=15) with rfl|rfl|rfl|rfl|rfl|rfl|rfl|rfl|rfl|rfl|rfl|rfl|rfl|rfl|rfl|rfl
 ·have f:some _=some o:=r;obtain rfl:=jnY f;exact .inl ⟨qV rfl,fun K l=>YV rfl e3 (l _ _ (jnV _ _) rfl)⟩
 ·have f:some _=some o:=r;obtain rfl:=jnY f;exact .inl ⟨qV rfl,fun K l=>YV rfl e0 (l _ _ (jnV _ _) rfl)⟩
 ·have f:some _=some o:=r;obtain rfl:=jnY f;exact .inl ⟨qV rfl,fun K l=>YV rfl e4 (l _ _ (jnV _ _) rfl)⟩
 ·have f:some _=some o:=r;obtain rfl:=jnY f;obtain⟨_,av,rfl⟩:∃v,a.tmps[12]?=some v/\(fun(v:Value) (w:World)=>v=.slice (some ⟨b,m,none⟩) n c) v w:=g ⟨1,Ground.data⟩ (by first|simp|simp[zK]) rfl 12 rfl;obtain⟨_,aw,rfl⟩:∃v,a.tmps[13]?=some v/\(fun(v:Value) (w:World)=>v=.int .i64 (j:Nat)) v w:=g ⟨2,Ground.data⟩ (by first|simp|simp[zK]) rfl 13 rfl;exact .inl ⟨qV rfl,fun K l=>jda (jgw hj) rfl (evT av) (evT aw) (l _ _ (jnV _ _) rfl)⟩
 ·have f:some _=some o:=r;obtain rfl:=jnY f;obtain⟨_,ax,rfl⟩:∃v,a.tmps[14]?=some v/\(fun(v:Value) (w:World)=>v=.pointer (some ⟨b,m+j*3,none⟩)) v w:=g ⟨3,Ground.data⟩ (by first|simp|simp[zK]) rfl 14 rfl;exact .inl ⟨qV rfl,fun K l=>jc9 (hE w O).1 rfl (evT ax) (l _ _ (jnV _ _) rfl)⟩
 ·have f:some _=some o:=r;obtain rfl:=jnY f;obtain⟨_,ay,rfl⟩:∃v,a.tmps[15]?=some v/\(fun(v:Value) (w:World)=>v=.agg #[.int .i64 k,.int .i64 i,L]) v w:=g ⟨4,Ground.data⟩ (by first|simp|simp[zK]) rfl 15 rfl;exact .inl ⟨qV rfl,fun K l=>Yf 112 rfl (evT ay) (enters_of (P:=prog) func112 (by kernel_rfl) rfl) (aq w O) (fun v w' h=>l v w' h.2 h.1)⟩
 ·have f:some _=some o:=r;obtain rfl:=jnY f;obtain⟨_,au,rfl⟩:∃v,a.tmps[11]?=some v/\(fun(v:Value) (w:World)=>v=.string s) v w:=g ⟨0,Ground.data⟩ (by first|simp|simp[zK]) rfl 11 rfl;obtain⟨_,aA,rfl⟩:∃v,a.tmps[16]?=some v/\(fun(v:Value) (w:World)=>v=.string N) v w:=g ⟨5,Ground.data⟩ (by first|simp|simp[zK]) rfl 16 rfl;exact .inl ⟨qV rfl,fun K l=>jbT rfl (evT au) (evT aA) (by omega) (by omega) (l _ _ (jnV _ _) rfl)⟩
 ·have f:some _=some o:=r;obtain rfl:=jnY f;obtain⟨_,aB,rfl⟩:∃v,a.tmps[17]?=some v/\(fun(v:Value) (w:World)=>v=.string (s++N)) v w:=g ⟨6,Ground.data⟩ (by first|simp|simp[zK]) rfl 17 rfl;exact .inl ⟨qV rfl,fun K l=>jbT rfl (evT aB) rfl (by rw[joK];omega) (by decide) (l _ _ (jnV _ _) rfl)⟩
 ·have f:some _=some o:=r;obtain rfl:=jnY f;exact .inl ⟨qV rfl,fun K l=>YV rfl e0 (l _ _ (jnV _ _) rfl)⟩
 ·have f:some _=some o:=r;obtain rfl:=jnY f;exact .inl ⟨qV rfl,fun K l=>YV rfl e4 (l _ _ (jnV _ _) rfl)⟩
 ·have f:some _=some o:=r;obtain rfl:=jnY f;obtain⟨_,aD,rfl⟩:∃v,a.tmps[19]?=some v/\(fun(v:Value) (w:World)=>v=.slice (some ⟨b,m,none⟩) n c) v w:=g ⟨8,Ground.data⟩ (by first|simp|simp[zK]) rfl 19 rfl;obtain⟨_,aE,rfl⟩:∃v,a.tmps[20]?=some v/\(fun(v:Value) (w:World)=>v=.int .i64 (j:Nat)) v w:=g ⟨9,Ground.data⟩ (by first|simp|simp[zK]) rfl 20 rfl;exact .inl ⟨qV rfl,fun K l=>jda (jgw hj) rfl (evT aD) (evT aE) (l _ _ (jnV _ _) rfl)⟩
 ·have f:some _=some o:=r;obtain rfl:=jnY f;obtain⟨_,a7,rfl⟩:∃v,a.tmps[21]?=some v/\(fun(v:Value) (w:World)=>v=.pointer (some ⟨b,m+j*3,none⟩)) v w:=g ⟨10,Ground.data⟩ (by first|simp|simp[zK]) rfl 21 rfl;exact .inl ⟨qV rfl,fun K l=>jdb (by simp[go_sem]) rfl (evT a7) (l _ _ (jnV _ _) rfl)⟩
 ·have f:some _=some o:=r;obtain rfl:=jnY f;obtain⟨_,a8,rfl⟩:∃v,a.tmps[22]?=some v/\(fun(v:Value) (w:World)=>v=.pointer (some ⟨b,m+j*3+2,none⟩)) v w:=g ⟨11,Ground.data⟩ (by first|simp|simp[zK]) rfl 22 rfl;exact .inl ⟨qV rfl,fun K l=>jc9 (hE w O).2 rfl (evT a8) (l _ _ (jnV _ _) rfl)⟩
 ·have f:some _=some o:=r;obtain rfl:=jnY f;obtain⟨_,aa,rfl⟩:∃v,a.tmps[23]?=some v/\(fun(v:Value) (w:World)=>v=L) v w:=g ⟨12,Ground.data⟩ (by first|simp|simp[zK]) rfl 23 rfl;exact .inl ⟨qV rfl,fun K l=>Yf 160 rfl (evT aa) (enters_of (P:=prog) func160 (by kernel_rfl) rfl) (X w O) (fun v w' h=>l v w' h.2 h.1)⟩
 ·have f:some _=some o:=r;obtain rfl:=jnY f;obtain⟨_,ae,rfl⟩:∃v,a.tmps[24]?=some v/\(fun(v:Value) (w:World)=>v=.string U) v w:=g ⟨13,Ground.data⟩ (by first|simp|simp[zK]) rfl 24 rfl;exact .inl ⟨qV rfl,fun K l=>jiy 159 rfl (evT ae) rfl (enters_of (P:=prog) func159 (by kernel_rfl) rfl) (Y w O) (fun v w' h=>l v w' h.2 h.1)⟩
 have f:some _=some o:=r;obtain rfl:=jnY f;obtain⟨_,aC,rfl⟩:∃v,a.tmps[18]?=some v/\(fun(v:Value) (w:World)=>v=.string (s++N ++ ⟨#[10]⟩)) v w:=g ⟨7,Ground.data⟩ (by first|simp|simp[zK]) rfl 18 rfl;obtain⟨_,af,rfl⟩:∃v,a.tmps[25]?=some v/\(fun(v:Value) (w:World)=>v=.string A) v w:=g ⟨14,Ground.data⟩ (by first|simp|simp[zK]) rfl 25 rfl;exact .inl ⟨qV rfl,fun K l=>jbT rfl (evT aC) (evT af) (by rw[joK,joK];show _+1<=_;omega) (by omega) (l _ _ (jnV _ _) rfl)⟩
end
section
attribute [local go_sem] jn9
theorem Zc(ed:Ed)(p:Value)(w:World)(h:vK w p ed.fields)(s:jjQ ed.fields):
  Calls prog 128 #[.agg #[.int .i64 ed.kind,.int .i64 ed.id,p]] w fun e z=>e=.returned (.int .i64 (zG ed:Nat))/\Below w.heap.size w z:=by
 obtain⟨n,o,rfl,_,_⟩:=_root_.id h;obtain⟨k,a⟩:∃k,k=w.alloc (.cells #[.int .i64 ed.kind,.int .i64 ed.id,.slice n ed.fields.length o] 75):=⟨_,rfl⟩
 have c:Below w.heap.size w k:=by rw[a];exact(jnV _ w).alloc (jnT _) _
 have l:=jnS (yH ed.fields (.slice n ed.fields.length o) k (h.below c (jnT _)) (by have:=s.len;omega) (fun f y=>by have:=s.each f y;omega));have d:=jnS c
 have g:=jnS (show zG ed=if ed.kind=1\/ed.kind=3 then qA ed.fields else if ed.kind=2/\ed.fields.length=0 then 0 else 2 from rfl);clear c h;generalize zG ed=i at *
 generalize qA ed.fields=u at *
 generalize vv ed.fields=A at *
 generalize ed.fields.length=fl at *
 generalize ed.kind=j at *
 generalize ed.id=D at *
 by_cases x:j<1
 ·have b:i=2:=by rw[g.out,if_neg (by omega),if_neg (by omega)]
  subst b a;go_enter func128,ntmps128;go_wp2_with fail;go_ret;exact⟨rfl,d.out⟩
 by_cases v:3<j
 ·have b:i=2:=by rw[g.out,if_neg (by omega),if_neg (by omega)]
  subst b a;go_enter func128,ntmps128;go_wp2_with fail;go_ret;exact⟨rfl,d.out⟩
 by_cases r:j=2
 ·subst r;by_cases q:fl=0
  ·have b:i=0:=by rw[g.out,if_neg (by omega),if_pos ⟨rfl,q⟩]
   subst b q a;go_enter func128,ntmps128;go_wp2_with fail;go_ret;exact⟨rfl,d.out⟩
  have b:i=2:=by rw[g.out,if_neg (by omega),if_neg (by omega)]
  have C:(0:Int)<(fl:Int):=by omega
  subst b a;go_enter func128,ntmps128;go_wp2_with fail;go_ret;exact⟨rfl,d.out⟩
 have b:i=u:=by rw[g.out,if_pos (by omega)]
 have E:(j==2)=false:=by simpa using r
 subst b a;go_enter func128,ntmps128;go_wp2_with fail;refine l.out.mono ?_;rintro e G ⟨rfl,m⟩;have t:=jnS (d.out.trans (m.mono d.out.size))
 clear m l;go_wp2_with fail;go_ret;exact⟨rfl,t.out⟩
theorem JS(eds:List Ed)(v:Value)(w:World)(h:EdV w v eds)(hl:eds.length<=1000000)(N:VQ eds):
  Calls prog 67 #[v] w fun e X=>e=.returned (.tuple #[.int .i64 (qu eds).1,.int .i64 (qu eds).2])/\Below w.heap.size w X:=by
 obtain⟨A,P,rfl,W,L⟩:=h;have G:=jnS L
 have O:=jnS N;clear L N;by_cases Z:eds.length<1
 ·have y:qu eds=(-9,1):=by unfold qu;rw[if_pos (by omega)]
  have z0:eds.length=0:=by omega
  rw[y,z0];go_enter func67,ntmps67;go_wp2_with fail;go_ret2;exact⟨rfl,jnV _ _⟩
 have q0:¬((eds.length:Int)<1):=by omega
 by_cases V:40<eds.length
 ·have y:qu eds=(-9,1):=by unfold qu;rw[if_pos (by omega)]
  rw[y];go_enter func67,ntmps67;go_wp2_with fail;go_ret2;exact⟨rfl,jnV _ _⟩
 have Q:qu eds=yB 0 eds:=by unfold qu;rw[if_neg (by omega)]
 rw[Q];go_enter func67,ntmps67;go_wp2_with fail;go_loopw [4] (fun i wr=>∃k:Nat,k<=eds.length/\i=.int .i64 k/\(∀x∈eds.take k,zG x=0)/\Below w.heap.size w wr) (fun i _=>eds.length-(intOf i).toNat)
 case atStart=>exact⟨0,jn3 _,rfl,(fun x hx=>by simp at hx),jnV _ _⟩
 case round =>
 obtain⟨k,hk,rfl,a,g⟩:=hrel;by_cases r:k<eds.length
 ·obtain⟨c,d⟩:∃c,eds[k]?=some c:=⟨_,jnW r⟩
  obtain⟨b,n,Y,rfl,j,I,J,K,l⟩:=G.out k c d;obtain⟨R,U,rfl,_,_⟩:=_root_.id l.1;replace I:=(g.cell (p:=⟨b,n+k*3,none⟩) j).trans I;replace J:=(g.cell (p:=⟨b,n+k*3+1,none⟩) j).trans J;replace K:=(g.cell (p:=⟨b,n+k*3+1+1,none⟩) j).trans K;have E:=jnS (Zc c (.slice R c.fields.length U) wr (l.1.below g (jnT _)) (O.out c (jn7 d)))
  have t:Hid (zG c=0->∀x∈eds.take (k+1),zG x=0):=fun C x hx=>by
   rw[take_snoc d]at hx;rcases List.mem_append.1 hx with hx|hx
   ·exact a x hx
   rw[List.mem_singleton.1 hx];exact C
  have s:Hid (zG c≠0->yB 0 eds=(((k:Nat):Int),zG c)):=fun C=>by rw[Gn eds 0 k c a d C,jov]
  have q:=jnS g;clear d a l g;generalize zG c=z at *
  go_wp2_with fail;refine E.out.mono ?_;rintro e w2 ⟨rfl,H⟩;have D:=jnS (q.out.trans (H.mono q.out.size))
  clear H E;by_cases m:z=0
  ·subst m;have u:=jnS (t.out rfl)
   clear t s;go_wp2_with fail;go_roundw
   case rel=>exact⟨k+1,r,by go_num,u.out,D.out⟩
   case measure=>simp[intOf];omega
  have o:=jnS (s.out m);have qn:((z:Int)==0)=false:=by simpa using m
  have f:Hid (Ending.returned (.tuple #[.int .i64 (k:Nat),.int .i64 (z:Nat)])=.returned (.tuple #[.int .i64 (yB 0 eds).1,.int .i64 (yB 0 eds).2])):=by show _=_;rw[o.out]
  clear t s o;go_wp2_with fail;go_ret2;exact⟨f.out,D.out⟩
 obtain rfl:k=eds.length:=by omega
 rw[jom]at a;have f:Hid (Ending.returned (.tuple #[.int .i64 (-9),.int .i64 0])=.returned (.tuple #[.int .i64 (yB 0 eds).1,.int .i64 (yB 0 eds).2])):=by show _=_;rw[Qe eds 0 a];rfl
 clear G a;go_wp2_with fail;go_ret2;exact⟨f.out,g⟩
theorem Ue(eds:List Ed)(v:Value)(w:World)(h:EdV w v eds)(hl:eds.length<=1000000)(a:XO eds):
  Calls prog 67 #[v] w fun e b=>e=.returned (.tuple #[.int .i64 (qu eds).1,.int .i64 (qu eds).2])/\Below w.heap.size w b:=JS eds v w h hl a.eight
theorem WrQ.end2{w m d:World}{v z x:Value}{i g:List Pr}{es:List En}{fs:List Fld}{b:Nat}(h:WrQ m v i x es d z g)(G:Below w.heap.size w m)(u:zN w v i)(hx:vK w x fs)(H:w.heap.size<=b)(I:b<m.heap.size)(o:Obj)(j l:Value):
  WrQ w v i x es (((d.alloc o).setCell ⟨b,0,none⟩ j).setCell ⟨b,1,none⟩ l) z g:=by
 have a:=h.from G;have C:Below d.heap.size d (d.alloc o):=(jnV _ d).alloc (jnT _) _
 have y:jI (· = b) d (((d.alloc o).setCell ⟨b,0,none⟩ j).setCell ⟨b,1,none⟩ l):=((jI.of_below (S:=(· = b)) C (jnT _)).cellS 0 j).cellS 1 l;refine⟨a.ents.only y (fun r e q => ?_) (fun p t f r e q => ?_),a.es,?_,a.blk,a.mem⟩
 ·rcases h.blk with k|k
  ·rw[k]at e;have:=(u.row.lt r e).2;omega
  have:=k r e;omega
 ·rcases a.mem p t with k|k
  ·have:=(u.each p k).lt f r e;omega
  have J:fs≠[]:=by intro D;obtain⟨A,c,n,_⟩:=a.ents.each p t;obtain⟨K,L,E,_⟩:=hx;rw[k,E]at n;injection n with _ s _;rw[D]at s;exact f (List.length_eq_zero_iff.1 s.symm)
  rw[k]at e;have:=hx.lt J r e;omega
 exact a.below.trans (y.to_below a.below.size (fun r N e=>by omega))
theorem jd3(b:List Pr)(v K:Value)(g:Int)(ed:Ed)(w:World)(h:zN w v b)(t:b.length<=1000000)(L : -1000000<=g/\g<=1000000)(hx:vK w K ed.fields)(V:jbx ed.fields):
  Calls prog 68 #[.agg #[v,.int .i64 g],.agg #[.int .i64 ed.kind,.int .i64 ed.id,K]] w fun e w'=>∃c a x,e=.returned (.tuple #[.agg #[c,.int .i64 (jL ⟨b.map Prod.fst,g⟩ ed).ls.next],.int .i64 (jL ⟨b.map Prod.fst,g⟩ ed).id,.int .i64 (jL ⟨b.map Prod.fst,g⟩ ed).bad])/\WrQ w v b x (jL ⟨b.map Prod.fst,g⟩ ed).ls.es w' c a/\(x=K\/x=.slice none 0 0):=by
 obtain⟨y,z,rfl,_⟩:=h.empty;obtain⟨E,G,rfl,_,_⟩:=_root_.id hx;obtain⟨r,d⟩:∃r,r=((w.alloc (.cells #[.slice y b.length z,.int .i64 g] 37)).alloc (.cells #[.int .i64 ed.kind,.int .i64 ed.id,.slice E ed.fields.length G] 75)).alloc (.cells #[.slice none 0 0,.int .i64 0] 37):=⟨_,rfl⟩
 have l:Below w.heap.size w r:=by rw[d];exact(((jnV _ w).alloc (jnT _) _).alloc (by simp) _).alloc (by simp;omega) _
 have u:r.heap.size=w.heap.size+3:=by rw[d];simp
 have c4:jd r (w.heap.size+1+1) 37 #[.slice none 0 0,.int .i64 0]:=by
  rw[d];have:=(jd.new ((w.alloc (.cells #[.slice y b.length z,.int .i64 g] 37)).alloc (.cells #[.int .i64 ed.kind,.int .i64 ed.id,.slice E ed.fields.length G] 75)) 37 #[.slice none 0 0,.int .i64 0])
  simp only[joe]at this;exact this
 have m:=h.below l (jnT _);have q:=hx.below l (jnT _)
 have k:Hid (∀(j:World) (c x:Value) (a:List Pr) (J:List En) (n:Int) (Q:List Fld),WrQ r (.slice y b.length z) b x J j c a->vK w x Q ->
   WrQ w (.slice y b.length z) b x J (((j.alloc (.cells #[c,.int .i64 n] 37)).setCell ⟨w.heap.size+1+1,0,none⟩ c).setCell ⟨w.heap.size+1+1,1,none⟩ (.int .i64 n)) c a/\jd (((j.alloc (.cells #[c,.int .i64 n] 37)).setCell ⟨w.heap.size+1+1,0,none⟩ c).setCell ⟨w.heap.size+1+1,1,none⟩ (.int .i64 n)) (w.heap.size+1+1) 37 #[c,.int .i64 n] /\
   (j.alloc (.cells #[c,.int .i64 n] 37)).cell? ⟨w.heap.size+1+1,0,none⟩=some (.slice none 0 0)/\(j.alloc (.cells #[c,.int .i64 n] 37)).cell? ⟨w.heap.size+1+1,1,none⟩=some (.int .i64 0)/\(j.alloc (.cells #[c,.int .i64 n] 37)).frozen? ⟨w.heap.size+1+1,0,none⟩=false/\(j.alloc (.cells #[c,.int .i64 n] 37)).frozen? ⟨w.heap.size+1+1,1,none⟩=false):=by
  intro j c x a J n Q p N;have P:=jb c4 p.below (by omega)
  have U:=((P.alloc (.cells #[c,.int .i64 n] 37)).set 0 c).set 1 (.int .i64 n);rw[Vo]at U;have D:=P.alloc (.cells #[c,.int .i64 n] 37)
  exact⟨p.end2 l h N (by omega) (by omega) _ _ _,U,by rw[D.cell];rfl,by rw[D.cell];rfl,D.frozen 0,D.frozen 1⟩
 have O:=jnS hx;have HN:Hid (vK w (.slice none 0 0) []):=⟨none,0,rfl,jnT _,fun i f h=>by simp at h⟩
 have hl:(⟨b.map Prod.fst,g⟩:LS)=⟨b.map Prod.fst,g⟩:=rfl;by_cases H:ed.kind=1
 ·have R:=jnS (XV b (.slice y b.length z) (.slice E ed.fields.length G) g ed.id ed.fields r m t q V);rw[jfA _ H,Vu];generalize zu ⟨b.map Prod.fst,g⟩ ed.id ed.fields=dd at *
  rw[H]at d ⊢;clear l u c4 m q h hx hl;subst d;go_enter func68,ntmps68;go_wp2_with fail;refine R.out.mono ?_;rintro e j ⟨c,a,rfl,p⟩;obtain⟨o,s,W,X,Y,Z⟩:=k.out j c _ a _ dd.ls.next ed.fields p O.out;obtain⟨xa,xc,rfl,_⟩:=o.ents.empty;have A:=jnS o
  have C:=jnS s;clear p o s k R;go_wp2_with fail;refine bodyPost_ret (Vq rfl _ _ (w.heap.size+1+1) _ rfl C.out rfl) rfl ?_;exact⟨_,a,_,rfl,A.out,.inl rfl⟩
 have q1:(ed.kind==1)=false:=by simpa using H
 by_cases I:ed.kind=2
 ·have R:=jnS (Ud b (.slice y b.length z) g ed.id r m t);rw[jfz _ I,Xw];generalize zR ⟨b.map Prod.fst,g⟩ ed.id=dd at *
  rw[I]at d ⊢;clear l u c4 m q h hx hl q1;subst d;go_enter func68,ntmps68;go_wp2_with fail;refine R.out.mono ?_;rintro e j ⟨c,a,rfl,p⟩;obtain⟨o,s,W,X,Y,Z⟩:=k.out j c _ a _ dd.ls.next [] p HN.out;obtain⟨xa,xc,rfl,_⟩:=o.ents.empty;have A:=jnS o
  have C:=jnS s;clear p o s k R;go_wp2_with fail;refine bodyPost_ret (Vq rfl _ _ (w.heap.size+1+1) _ rfl C.out rfl) rfl ?_;exact⟨_,a,_,rfl,A.out,.inr rfl⟩
 have q2:(ed.kind==2)=false:=by simpa using I
 have R:=jnS (Ub b (.slice y b.length z) (.slice E ed.fields.length G) g ed.id ed.fields r m t L q V);rw[jfy _ H I];generalize zh ⟨b.map Prod.fst,g⟩ ed.id ed.fields=dd at *
 clear l u c4 m q h hx hl;subst d;go_enter func68,ntmps68;go_wp2_with fail;refine R.out.mono ?_;rintro e j ⟨c,a,rfl,p⟩;obtain⟨o,s,W,X,Y,Z⟩:=k.out j c _ a _ dd.ls.next ed.fields p O.out;obtain⟨xa,xc,rfl,_⟩:=o.ents.empty;have A:=jnS o
 have C:=jnS s;clear p o s k R;go_wp2_with fail;refine bodyPost_ret (Vq rfl _ _ (w.heap.size+1+1) _ rfl C.out rfl) rfl ?_;exact⟨_,a,_,rfl,A.out,.inl rfl⟩
theorem jkH{W:World}{base size n g cap i:Nat}{e:TypeId}{xs:List Value}(h:W.ownsRow base e size (.slice (some ⟨g,0,none⟩) n cap) n xs)(u:Value):(W.setCell ⟨g,i,none⟩ u).ownsRow base e size (.slice (some ⟨g,0,none⟩) n cap) n (xs.set i u):=by
 refine⟨by rw[jqz];exact h.1,?_⟩;rcases h.2 with ⟨q,o⟩|⟨m,c,a,q,d,f,b,j,k,l⟩
 ·cases q
 cases q;refine .inr ⟨g,cap,a.setIfInBounds i u,rfl,d,?_,b,j,by simp[k],?_⟩
 ·show(W.heap.modify g _)[g]?=_;rw[jpP];simp[f]
 rw[<- l];simp[List.take_set]
theorem jba:∀(a:List Ed) (f:List Value) (k:Nat) (u:Value),f.length=a.length->(yT a f).set (k*3+1+1) u=yT a (f.set k u)
 | [],[],_,_,_=>rfl
 | x::a,y::f,0,u,_=>rfl
 | x::a,y::f,k+1,u,h=>by
  rw[show(k+1)*3+1+1=(k*3+1+1)+1+1+1 by omega];have:=jba a f k u (by simpa using h)
  show(_::_::_::yT a f).set _ u=_::_::_::yT a (f.set k u);simp only[joU,this]
 | [],_::_,_,_,h=>by simp at h
 | _::_,[],_,_,h=>by simp at h
end
theorem ji9{s s':StD}(h:zJ s=some s'):s'.2=[]:=by
 unfold zJ at h;split at h
 ·rename_i q;injection h with h;subst h;exact q
 split at h
 ·injection h with h;subst h;rfl
 cases h
theorem jgb{s s':StD}{x:List UInt8}(h:s.2≠[]->s.1≠[])(a:xo s x=some s'):s'.2≠[]->s'.1≠[]:=by
 unfold xo at a;split at a
 ·split at a
  ·cases a
  rename_i q;injection a with a;subst a;exact fun _=>q
 split at a
 ·cases a
 injection a with a;subst a;intro _;simp
theorem jkx{s s':StD}{x:List UInt8}(h:s.2≠[]->s.1≠[])(a:vl s x=some s'):s'.2≠[]->s'.1≠[]:=by
 unfold vl at a;split at a
 ·exact jgb h a
 cases b:zJ s with
 | none=>rw[b]at a;cases a
 | some c =>
 rw[b]at a;exact jgb (fun q=>absurd (ji9 b) q) a
theorem jjZ:∀(d:List (List UInt8)) {s b:StD},(s.2≠[]->s.1≠[])->xX d s=some b->b.2≠[]->b.1≠[]
 | [],s,b,h,a=>by injection a with a;subst a;exact h
 | x::r,s,b,h,a=>by
  rw[xX]at a;cases c:vl s x with
  | none=>rw[c]at a;cases a
  | some e =>
  rw[c]at a;exact jjZ r (jkx h c) a
theorem Wp:∀(p:List Ed) (e a:Ed) (F:List Value),e.kind=a.kind->e.id=a.id->yT (p++[e]) F=yT (p++[a]) F
 | [],e,a,F,b,c=>by
  cases F with
  | nil=>rfl
  | cons f r =>
  show(Value.int .i64 e.kind :: .int .i64 e.id::f::yT [] r)=(Value.int .i64 a.kind :: .int .i64 a.id::f::yT [] r)
  rw[b,c]
 | x::p,e,a,F,b,c=>by
  cases F with
  | nil=>rfl
  | cons f r =>
  show(_::_::_::yT (p++[e]) r)=(_::_::_::yT (p++[a]) r)
  rw[Wp p e a r b c]
theorem jbj(fs:List Fld)(f:Fld):jA (fs++[f])=jA fs++[.string (B f.1),.string (B f.2)]:=by unfold jA;simp
theorem jaE{lo:Nat}{W w2:World}{k r g c:Nat}{p:List Ed}{e:Ed}{fvs:List Value}{f:Fld}(h:yn lo W (.slice (some ⟨k,0,none⟩) (p.length+1) r) (p++[e]) fvs)(o:Below W.heap.size W w2)(n:lo<=W.heap.size)
  (v:w2.ownsRow W.heap.size 148 2 (.slice (some ⟨g,0,none⟩) (e.fields.length+1) c) (e.fields.length+1) (jA e.fields++[.string (B f.1),.string (B f.2)])) :
  yn lo (w2.setCell ⟨k,p.length*3+2,none⟩ (.slice (some ⟨g,0,none⟩) (e.fields.length+1) c)) (.slice (some ⟨k,0,none⟩) (p.length+1) r) (p++[⟨e.kind,e.id,e.fields++[f]⟩]) (fvs.set p.length (.slice (some ⟨g,0,none⟩) (e.fields.length+1) c)):=by
 have d:=h.len;rw[jnU,joN]at d;have a:=jO h.row o (jnT _)
 rw[jnU,joN]at a;refine⟨?_,by rw[jqz,jnU,joN];exact d,fun i s t b l => ?_⟩
 ·rw[jnU,joN,<- Wp p e ⟨e.kind,e.id,e.fields++[f]⟩ _ rfl rfl,<- jba (p++[e]) fvs p.length _ h.len];exact jkH a _
 have m:=b;rcases joo i p.length with q|q
 ·rw[joq q]at b;rw[List.getElem?_set_ne (by omega)]at l;have hx:=jO (h.each i s t (by rw[joq q];exact b) l) o (jnT _)
  exact jy hx (fun z=>jX a hx (by decide) k rfl z) _
 have u:i=p.length:=by have:=(List.getElem?_eq_some_iff.1 m).1;rw[jnU,joN]at this;omega
 subst u;rw[joh (jnT _),Nat.sub_self]at b;cases b;rw[List.getElem?_set_self (by omega)]at l;cases l;have j:=jE v n
 show World.ownsRow _ lo _ 2 _ (e.fields++[f]).length (jA (e.fields++[f]));rw[jbj,jnU,joN];exact jy j (fun z=>jX a j (by decide) k rfl z) _
theorem jgc{l:List UInt8}{k:Nat}{x:List UInt8}(h:(zQ l)[k]?=some x):(cellsOf (jf l))[k*4+2]?=some (.string (B x)):=by
 unfold zQ at h;rw[joI]at h;cases b:(jf l)[k]? with
 | none=>rw[b]at h;cases h
 | some y =>
 rw[b]at h;cases h;obtain⟨d,c⟩:=List.getElem?_eq_some_iff.1 b;have e:jf l=(jf l).take k++y::(jf l).drop (k+1):=by rw[<- c];simp
 have a:((jf l).take k).length=k:=by rw[jn2];omega
 have:=vx ((jf l).take k) y ((jf l).drop (k+1)) 2 (by decide);rw[<- e,a]at this;rw[this];rfl
section
attribute [local go_sem] jn9
theorem jnj:Lib.itoa 0=[48]:=by rw[show(0:Int)=((0:Nat):Int) from rfl,jpb,jpB (by decide)];rfl
theorem jjG{eds:List Ed}(c:∀b∈eds,zG b=0)(d:∀b∈eds,I64 b.id):(jo eds).length<=600000*eds.length:=by
 induction eds with
 | nil=>exact jnT _
 | cons a r e =>
 have f:=jg3 (Zk (c a jn5)) (d a jn5);have g:=e (fun x hx=>c x (jn4 _ hx)) (fun x hx=>d x (jn4 _ hx))
 rw[xF,jnU,jn1];omega
theorem XY(eds:List Ed)(v:Value)(w:World)(h:EdV w v eds)(hl:eds.length<=51)(hg:∀a∈eds,zG a=0)(hi:∀a∈eds,I64 a.id):
  Calls prog 113 #[v] w fun e E=>e=.returned (.string (B (jo eds)))/\Below w.heap.size w E:=by
 obtain⟨A,K,rfl,a7,hc⟩:=h;have P:=jnS hc
 have I:=jnS hg;have J:=jnS hi
 clear hc hg hi;go_enter func113,ntmps113;go_wp2_with fail;go_loopw [3,4] (fun sv i wr=>∃k:Nat,k<=eds.length/\i=.int .i64 k/\sv=.string (B (jo (eds.take k)))/\Below w.heap.size w wr) (fun _ i _=>eds.length-(intOf i).toNat)
 case atStart=>exact⟨0,jn3 _,rfl,rfl,jnV _ _⟩
 case round =>
 obtain⟨k,hk,rfl,rfl,c⟩:=hrel;by_cases t:k<eds.length
 ·obtain⟨a,f⟩:∃a,eds[k]?=some a:=⟨_,jnW t⟩
  obtain⟨b,d,u,rfl,q,R,U,V,r⟩:=P.out k a f;have s:=J.out a (jn7 f)
  have l:=Zk (I.out a (jn7 f));have Q:Hid (jo (eds.take (k+1))=jo (eds.take k)++((zg a.kind a.id++[10])++Jh [32,32] (jf (jM a.fields)))):=by show _=_;rw[take_snoc f,XI,Qb l]
  have y:=jg3 l s;rw[Qb l,jnU,jnU]at y;have G:(jo (eds.take k)).length<=600000*51:=by
   have h1:=jjG (eds:=eds.take k) (fun x hx=>I.out x (joR hx)) (fun x hx=>J.out x (joR hx));rw[jn2]at h1;have:min k eds.length<=51:=by omega
   omega
  have L:=Ga l;have Z:=l.len
  have z:∀W,Below wr.drew.heap.size wr.drew W->(Instr.loadAt 75 (.pointer (some ⟨b,d+k*3,none⟩))).run prog W=.ok (.agg #[.int .i64 a.kind,.int .i64 a.id,u]) W/\(Instr.loadAt 73 (.pointer (some ⟨b,d+k*3+2,none⟩))).run prog W=.ok u W:=fun W m=>by
   have n:Below w.heap.size w W:=c.drew.trans (m.mono c.size);have d0:=(n.cell (p:=⟨b,d+k*3,none⟩) q).trans R
   have d1:=(n.cell (p:=⟨b,d+k*3+1,none⟩) q).trans U;have Y:=(n.cell (p:=⟨b,d+k*3+1+1,none⟩) q).trans V
   obtain⟨fa,fc,rfl,_,_⟩:=_root_.id r.1;exact⟨by simp[go_sem,d0,d1,Y],by simp[go_sem,Y]⟩
  have g:∀W,Below wr.drew.heap.size wr.drew W->vK W u a.fields:=fun W m=>r.1.below (c.drew.trans (m.mono c.size)) (jnT _);have D:=t
  go_upto_region 5 with fail;refine wp_region_any (by kernel_rfl) ?_;refine jd0 _ wr.drew b d eds.length K k a.kind a.id u (B (jo (eds.take k))) (B (zg a.kind a.id)) (B (jM a.fields)) (B (Jh [32,32] (jf (jM a.fields)))) _ rfl rfl rfl rfl D z (by rw[jg];omega) (by rw[jg];omega) (by rw[jg];omega) ?h5 ?h13 ?h14 ?hQ
  case h5=>exact fun W m=>(Vy a.kind a.id u s W).mono fun e E ⟨N,c⟩=>⟨_,N,rfl,c⟩
  case h13=>exact fun W m=>(YG a.fields u W (g W m) (by omega) l.small).mono fun e E ⟨N,c⟩=>⟨_,N,rfl,c⟩
  case h14 =>
   intro W m;refine(Uc (B (jM a.fields)) ⟨#[32,32]⟩ (by rw[jg];omega) (by decide) W).mono ?_;rintro e E ⟨rfl,c⟩;exact⟨_,rfl,by rw[jj];rfl,c⟩
  case hQ =>
  intro y0 y1 y2 y3 y4 y5 y6 y7 y8 y9 a8 aa ae af ag O w2 C j;have hy:O=.string (B (jo (eds.take k))++B (zg a.kind a.id) ++ ⟨#[10]⟩++B (Jh [32,32] (jf (jM a.fields)))):=j
  rw[show(⟨#[10]⟩:ByteArray)=B [10] from rfl,jn,jn,jn,show jo (eds.take k)++zg a.kind a.id++[10]++Jh [32,32] (jf (jM a.fields))=jo (eds.take (k+1)) by rw[Q.out];simp]at hy;subst hy;have H:=jnS (c.drew.trans (C.mono c.size))
  clear C j z g r l s f R U V Q y G L;simp only[List.foldl,jof,joT,joU];generalize o:B (jo (eds.take (k+1)))=X at *
  go_wp2_with fail;go_roundw
  case rel=>exact⟨k+1,t,by go_num,by rw[o],H.out⟩
  case measure=>simp[intOf];omega
 obtain rfl:k=eds.length:=by omega
 rw[jom]at *
 have HB:=jnS c;clear c P I J;generalize o:B (jo eds)=X at *
 go_wp2_with fail;go_ret;exact⟨by rw[o];rfl,HB.out⟩
end
theorem ZC(ls:List (List UInt8))(v:Value)(w:World)(i:Strs w v (ls.map B))(hl:∀l∈ls,l.length<=100000)(h:ls.length<=100000)(j:(qE ls).length<=1000000):
  Calls prog 99 #[v] w fun e k=>e=.returned (.tuple #[zC (jU ls) (jT ls),.int .i64 (jt ls:Nat)])/\Below w.heap.size w k:=by
 cases ls with
 | nil =>
  have g:GA []=false:=rfl;obtain⟨c,d,f⟩:=xQ g;rw[c,d,f];exact Vw [] v w i hl h (.inl rfl)
 | cons a r =>
 by_cases b:jm a=4
 ·exact xe a r v w i hl h j b
 have g:GA (a::r)=false:=by
  rw[jbI];show(decide (0<(a::r).length)&&((jm a==4)&&WT 3 r))=_
  simp[b]
 obtain⟨c,d,f⟩:=xQ g;rw[c,d,f];exact Vw (a::r) v w i hl h (.inr ⟨a,r,rfl,b⟩)
end Go.Proofs.YtbapfpekklcicaaGreatDoor
