/- Texts put together:AQ,HF,EL,EZ,AS,AT,AU,AW,BJ,AN,AR,FV. -/
import Derived.Lib.SliceRun
import Derived.Test.YtbapfpekklcicaaGreatDoorBtx33
import Derived.Test.YtbapfpekklcicaaGreatDoorBtx34
set_option linter.unusedVariables false
set_option maxRecDepth 100000
set_option maxHeartbeats 16000000
namespace Go.Proofs.YtbapfpekklcicaaGreatDoor
open Go.RowKit Go.Shelf Tryz
section
section
variable {K:Act->World->Prop} {Q:Exit->Act->World->Prop} {o:Oper} {a:Act} {w:World}
theorem jcd{x y:Operand}{m n:ByteArray}(e:o.op=Op.binOp BinOp.add 9 x y 9)(hx:a.eval x=.string m)(b:a.eval y=.string n)(f:m.size<=1000000000)(g:n.size<=1000000000)(d:K (a.put o.dst (.string (m++n))) w):Oper.wp prog o a w K Q :=
 JZ (by
  generalize a.eval=h at hx b ⊢;have c:m.size+n.size<=9223372036854775807:=by omega
  simp only[execOp,e,hx,b];simp[go_sem,c]) d
end
theorem jg4{b a n c i:Nat}{w:World}(h:i<n):(Instr.indexAt 55 (.slice (some ⟨b,a,none⟩) n c) (.int .i64 (i:Nat))).run prog w=.ok (.pointer (some ⟨b,a+i*3,none⟩)) w:=by
 have d:(i:Int)<(n:Int):=by omega
 have e:(0:Int)<=(i:Int):=by omega
 simp[go_sem,d,e]
def zN:List Oper:=[
 {dst:=some 11,op:=Op.move (Operand.tmp 3),type:=9,pos := "ref.go:69",after:=#[],guard:=none},
 {dst:=some 12,op:=Op.move (Operand.tmp 0),type:=55,pos := "ref.go:69",after:=#[],guard:=none},
 {dst:=some 13,op:=Op.move (Operand.tmp 4),type:=3,pos := "ref.go:69",after:=#[],guard:=none},
 {dst:=some 14,op:=Op.indexAddr 55 (Operand.tmp 12) (Operand.tmp 13),type:=0,pos := "ref.go:69",after:=#[{on:=1,ground:=Ground.data},{on:=2,ground:=Ground.data}],guard:=none},
 {dst:=some 15,op:=Op.load 75 (Operand.tmp 14),type:=75,pos := "ref.go:69",after:=#[{on:=3,ground:=Ground.data}],guard:=none},
 {dst:=some 16,op:=Op.call {callee:=Callee.value (Operand.func 112),args:=#[Operand.tmp 15],argTypes:=#[75]},type:=9,pos := "ref.go:69",after:=#[{on:=4,ground:=Ground.data}],guard:=none},
 {dst:=some 17,op:=Op.binOp BinOp.add 9 (Operand.tmp 11) (Operand.tmp 16) 9,type:=9,pos := "ref.go:69",after:=#[{on:=0,ground:=Ground.data},{on:=5,ground:=Ground.data}],guard:=none},
 {dst:=some 18,op:=Op.binOp BinOp.add 9 (Operand.tmp 17) (Operand.const (Value.string {data:=#[10]})) 9,type:=9,pos := "ref.go:69",after:=#[{on:=6,ground:=Ground.data}],guard:=none},
 {dst:=some 19,op:=Op.move (Operand.tmp 0),type:=55,pos := "ref.go:69",after:=#[],guard:=none},
 {dst:=some 20,op:=Op.move (Operand.tmp 4),type:=3,pos := "ref.go:69",after:=#[],guard:=none},
 {dst:=some 21,op:=Op.indexAddr 55 (Operand.tmp 19) (Operand.tmp 20),type:=0,pos := "ref.go:69",after:=#[{on:=8,ground:=Ground.data},{on:=9,ground:=Ground.data}],guard:=none},
 {dst:=some 22,op:=Op.fieldAddr 75 (Operand.tmp 21) 2,type:=0,pos := "ref.go:69",after:=#[{on:=10,ground:=Ground.data}],guard:=none},
 {dst:=some 23,op:=Op.load 73 (Operand.tmp 22),type:=73,pos := "ref.go:69",after:=#[{on:=11,ground:=Ground.data}],guard:=none},
 {dst:=some 24,op:=Op.call {callee:=Callee.value (Operand.func 160),args:=#[Operand.tmp 23],argTypes:=#[73]},type:=9,pos := "ref.go:69",after:=#[{on:=12,ground:=Ground.data},{on:=5,ground:=Ground.chain}],guard:=none},
 {dst:=some 25,op:=Op.call {callee:=Callee.value (Operand.func 159),args:=#[Operand.tmp 24,Operand.const (Value.string {data:=#[32,32]})],argTypes:=#[9,9]},type:=9,pos := "ref.go:69",after:=#[{on:=13,ground:=Ground.data},{on:=13,ground:=Ground.chain}],guard:=none},
 {dst:=some 26,op:=Op.binOp BinOp.add 9 (Operand.tmp 18) (Operand.tmp 25) 9,type:=9,pos := "ref.go:69",after:=#[{on:=7,ground:=Ground.data},{on:=14,ground:=Ground.data}],guard:=none},
 {dst:=some 3,op:=Op.assign (Operand.tmp 26),type:=9,pos := "ref.go:69",after:=#[{on:=15,ground:=Ground.data},{on:=14,ground:=Ground.chain},{on:=0,ground:=Ground.phase},{on:=1,ground:=Ground.phase},{on:=2,ground:=Ground.phase},{on:=3,ground:=Ground.phase},{on:=4,ground:=Ground.phase},{on:=5,ground:=Ground.phase},{on:=6,ground:=Ground.phase},{on:=7,ground:=Ground.phase},{on:=8,ground:=Ground.phase},{on:=9,ground:=Ground.phase},{on:=10,ground:=Ground.phase},{on:=11,ground:=Ground.phase},{on:=12,ground:=Ground.phase},{on:=13,ground:=Ground.phase},{on:=14,ground:=Ground.phase},{on:=15,ground:=Ground.phase}],guard:=none}]
def Zx(i:Nat):Option Nat:=(zN[i]?).bind (·.dst)
theorem jlK:∀i,i<16->∀k,k<16->Zx i≠none->Zx i=Zx k->i=k:=by decide +kernel
theorem jm1:∀i,i<16->(Zx i).getD 0<28:=by decide +kernel
theorem jlB:∀i:Fin 17,∀e∈(zN[i.1]'(by exact i.2)).after,Region.binds .any e=true->e.on<i.1:=by decide +kernel
def jkz(b off n c j:Nat)(k i:Int)(fv:Value)(acc la fo ind:ByteArray):List (Value->World->Prop):=[
 fun v w=>v=.string acc,
 fun v w=>v=.slice (some ⟨b,off,none⟩) n c,
 fun v w=>v=.int .i64 (j:Nat),
 fun v w=>v=.pointer (some ⟨b,off+j*3,none⟩),
 fun v w=>v=.agg #[.int .i64 k,.int .i64 i,fv],
 fun v w=>v=.string la,
 fun v w=>v=.string (acc++la),
 fun v w=>v=.string (acc++la ++ ⟨#[10]⟩),
 fun v w=>v=.slice (some ⟨b,off,none⟩) n c,
 fun v w=>v=.int .i64 (j:Nat),
 fun v w=>v=.pointer (some ⟨b,off+j*3,none⟩),
 fun v w=>v=.pointer (some ⟨b,off+j*3+2,none⟩),
 fun v w=>v=fv,
 fun v w=>v=.string fo,
 fun v w=>v=.string ind,
 fun v w=>v=.string (acc++la ++ ⟨#[10]⟩++ind)]
theorem jet(a0:Act)(C:World)(b m n c j:Nat)(k i:Int)(L:Value)(s N U A:ByteArray)(Q:Exit->Act->World->Prop)
  (au:a0.tmps.size=28) (h3:a0.tmps[3]?=some (.string s)) (h0:a0.tmps[0]?=some (.slice (some ⟨b,m,none⟩) n c)) (h4:a0.tmps[4]?=some (.int .i64 (j:Nat)))
  (hj:j<n) (hE:∀W,Below C.heap.size C W->(Instr.loadAt 75 (.pointer (some ⟨b,m+j*3,none⟩))).run prog W=.ok (.agg #[.int .i64 k,.int .i64 i,L]) W/\(Instr.loadAt 73 (.pointer (some ⟨b,m+j*3+2,none⟩))).run prog W=.ok L W)
  (s1:s.size<=100000000) (s2:N.size<=1000000) (s3:A.size<=1000000)
  (ar:∀(W:World) (_:Below C.heap.size C W),Calls prog 112 #[.agg #[.int .i64 k,.int .i64 i,L]] W fun e w=>∃v,e=.returned v/\(v=.string N)/\Below W.heap.size W w)
  (X:∀(W:World) (_:Below C.heap.size C W),Calls prog 160 #[L] W fun e w=>∃v,e=.returned v/\(v=.string U)/\Below W.heap.size W w)
  (Y:∀(W:World) (_:Below C.heap.size C W),Calls prog 159 #[.string U,Value.string {data:=#[32,32]}] W fun e w=>∃v,e=.returned v/\(v=.string A)/\Below W.heap.size W w)
  (hQ:∀(y0 y1 y2 y3 y4 y5 y6 y7 y8 y9 E G H I J D:Value) (w:World),Below C.heap.size C w->((fun(v:Value) (w:World)=>v=.string (s++N ++ ⟨#[10]⟩++A)) D w)->wpList prog zN.toArray Q [{dst:=some 3,op:=Op.assign (Operand.tmp 26),type:=9,pos := "ref.go:69",after:=#[{on:=15,ground:=Ground.data},{on:=14,ground:=Ground.chain},{on:=0,ground:=Ground.phase},{on:=1,ground:=Ground.phase},{on:=2,ground:=Ground.phase},{on:=3,ground:=Ground.phase},{on:=4,ground:=Ground.phase},{on:=5,ground:=Ground.phase},{on:=6,ground:=Ground.phase},{on:=7,ground:=Ground.phase},{on:=8,ground:=Ground.phase},{on:=9,ground:=Ground.phase},{on:=10,ground:=Ground.phase},{on:=11,ground:=Ground.phase},{on:=12,ground:=Ground.phase},{on:=13,ground:=Ground.phase},{on:=14,ground:=Ground.phase},{on:=15,ground:=Ground.phase}],guard:=none}] {a0 with tmps:=[(11,y0),(12,y1),(13,y2),(14,y3),(15,y4),(16,y5),(17,y6),(18,y7),(19,y8),(20,y9),(21,E),(22,G),(23,H),(24,I),(25,J),(26,D)].foldl (fun u p=>u.setIfInBounds p.1 p.2) a0.tmps} w) :
  wpAny prog .any zN.toArray Q zN.toArray.size (Array.replicate zN.toArray.size false) a0 C:=by
 have M:jmB (jkz b m n c j k i L s N U A):=⟨fun v x y t h=>h,fun v x y t h=>h,fun v x y t h=>h,fun v x y t h=>h,fun v x y t h=>h,fun v x y t h=>h,fun v x y t h=>h,fun v x y t h=>h,fun v x y t h=>h,fun v x y t h=>h,fun v x y t h=>h,fun v x y t h=>h,fun v x y t h=>h,fun v x y t h=>h,fun v x y t h=>h,fun v x y t h=>h,trivial⟩
 refine yh 16 1 (by kernel_rfl) (by decide) a0 C Zx (jkz b m n c j k i L s N U A) M (by kernel_rfl) (by kernel_rfl) (by kernel_rfl)
  (fun i o _ r=>by unfold Zx;rw[r];rfl)
  (fun i k d R hk V h2=>jlK i R k hk (by rw[V];intro q;cases q) (by rw[V,h2]))
  (fun i d R h=>by have:=jm1 i R;rw[h]at this;rw[au];exact this)
  (fun i o e r he t=>by
   obtain⟨R,rfl⟩:=List.getElem?_eq_some_iff.1 r;exact jlB ⟨i,R⟩ e he t)
  ?step ?fin
 case fin =>
  intro a w hd hs Z z O;obtain⟨y0,aG,aV⟩:=z 0 11 (by decide) rfl;obtain⟨y1,aH,aW⟩:=z 1 12 (by decide) rfl;obtain⟨y2,aI,aX⟩:=z 2 13 (by decide) rfl;obtain⟨y3,aJ,aY⟩:=z 3 14 (by decide) rfl;obtain⟨y4,aK,aZ⟩:=z 4 15 (by decide) rfl;obtain⟨y5,aL,be⟩:=z 5 16 (by decide) rfl;obtain⟨y6,aM,bg⟩:=z 6 17 (by decide) rfl;obtain⟨y7,aN,bi⟩:=z 7 18 (by decide) rfl;obtain⟨y8,aO,bj⟩:=z 8 19 (by decide) rfl;obtain⟨y9,aP,bm⟩:=z 9 20 (by decide) rfl;obtain⟨E,ag,aQ⟩:=z 10 21 (by decide) rfl;obtain⟨G,ah,aR⟩:=z 11 22 (by decide) rfl;obtain⟨H,ai,aS⟩:=z 12 23 (by decide) rfl;obtain⟨I,aj,aT⟩:=z 13 24 (by decide) rfl;obtain⟨J,ak,aU⟩:=z 14 25 (by decide) rfl;obtain⟨D,am,aq⟩:=z 15 26 (by decide) rfl;rw[Yz (a:=a) (a0:=a0) [(11,y0),(12,y1),(13,y2),(14,y3),(15,y4),(16,y5),(17,y6),(18,y7),(19,y8),(20,y9),(21,E),(22,G),(23,H),(24,I),(25,J),(26,D)] hd hs (by
   intro p hp;simp only[List.mem_cons,List.not_mem_nil,or_false]at hp;rcases hp with rfl|rfl|rfl|rfl|rfl|rfl|rfl|rfl|rfl|rfl|rfl|rfl|rfl|rfl|rfl|rfl
   ·exact aG
   ·exact aH
   ·exact aI
   ·exact aJ
   ·exact aK
   ·exact aL
   ·exact aM
   ·exact aN
   ·exact aO
   ·exact aP
   ·exact ag
   ·exact ah
   ·exact ai
   ·exact aj
   ·exact ak
   ·exact am
   ) (fun j hj=>Z j (fun k hk q=>hj (by
    have:∀k,k<16->(Zx k).all (fun d=>[11,12,13,14,15,16,17,18,19,20,21,22,23,24,25,26].contains d)=true:=by decide +kernel
    have V:=this k hk;rw[q]at V;simpa using V)))]
  exact hQ y0 y1 y2 y3 y4 y5 y6 y7 y8 y9 E G H I J D w O aq
 case step =>
 intro i o a w R r hs Z g O;have e3:=evT ((Z 3 (by decide +kernel)).trans h3)
 have e0:=evT ((Z 0 (by decide +kernel)).trans h0);have e4:=evT ((Z 4 (by decide +kernel)).trans h4)
 rcases(by omega:i=0\/i=1\/i=2\/i=3\/i=4\/i=5\/i=6\/i=7\/i=8\/i=9\/i=10\/i=11\/i=12\/i=13\/i=14\/i=15) with rfl|rfl|rfl|rfl|rfl|rfl|rfl|rfl|rfl|rfl|rfl|rfl|rfl|rfl|rfl|rfl
 ·have f:some _=some o:=r;obtain rfl:=joN f;exact .inl ⟨vd rfl,fun K l=>Xh rfl e3 (l _ _ (joL _ _) rfl)⟩
 ·have f:some _=some o:=r;obtain rfl:=joN f;exact .inl ⟨vd rfl,fun K l=>Xh rfl e0 (l _ _ (joL _ _) rfl)⟩
 ·have f:some _=some o:=r;obtain rfl:=joN f;exact .inl ⟨vd rfl,fun K l=>Xh rfl e4 (l _ _ (joL _ _) rfl)⟩
 ·have f:some _=some o:=r;obtain rfl:=joN f;obtain⟨_,aw,rfl⟩:∃v,a.tmps[12]?=some v/\(fun(v:Value) (w:World)=>v=.slice (some ⟨b,m,none⟩) n c) v w:=g ⟨1,Ground.data⟩ (by first|simp|simp[zN]) rfl 12 rfl;obtain⟨_,ax,rfl⟩:∃v,a.tmps[13]?=some v/\(fun(v:Value) (w:World)=>v=.int .i64 (j:Nat)) v w:=g ⟨2,Ground.data⟩ (by first|simp|simp[zN]) rfl 13 rfl;exact .inl ⟨vd rfl,fun K l=>jdw (jg4 hj) rfl (evT aw) (evT ax) (l _ _ (joL _ _) rfl)⟩
 ·have f:some _=some o:=r;obtain rfl:=joN f;obtain⟨_,ay,rfl⟩:∃v,a.tmps[14]?=some v/\(fun(v:Value) (w:World)=>v=.pointer (some ⟨b,m+j*3,none⟩)) v w:=g ⟨3,Ground.data⟩ (by first|simp|simp[zN]) rfl 14 rfl;exact .inl ⟨vd rfl,fun K l=>jdv (hE w O).1 rfl (evT ay) (l _ _ (joL _ _) rfl)⟩
 ·have f:some _=some o:=r;obtain rfl:=joN f;obtain⟨_,aA,rfl⟩:∃v,a.tmps[15]?=some v/\(fun(v:Value) (w:World)=>v=.agg #[.int .i64 k,.int .i64 i,L]) v w:=g ⟨4,Ground.data⟩ (by first|simp|simp[zN]) rfl 15 rfl;exact .inl ⟨vd rfl,fun K l=>ZQ 112 rfl (evT aA) (enters_of (P:=prog) func112 (by kernel_rfl) rfl) (ar w O) (fun v w' h=>l v w' h.2 h.1)⟩
 ·have f:some _=some o:=r;obtain rfl:=joN f;obtain⟨_,av,rfl⟩:∃v,a.tmps[11]?=some v/\(fun(v:Value) (w:World)=>v=.string s) v w:=g ⟨0,Ground.data⟩ (by first|simp|simp[zN]) rfl 11 rfl;obtain⟨_,aB,rfl⟩:∃v,a.tmps[16]?=some v/\(fun(v:Value) (w:World)=>v=.string N) v w:=g ⟨5,Ground.data⟩ (by first|simp|simp[zN]) rfl 16 rfl;exact .inl ⟨vd rfl,fun K l=>jcd rfl (evT av) (evT aB) (by omega) (by omega) (l _ _ (joL _ _) rfl)⟩
 ·have f:some _=some o:=r;obtain rfl:=joN f;obtain⟨_,aC,rfl⟩:∃v,a.tmps[17]?=some v/\(fun(v:Value) (w:World)=>v=.string (s++N)) v w:=g ⟨6,Ground.data⟩ (by first|simp|simp[zN]) rfl 17 rfl;exact .inl ⟨vd rfl,fun K l=>jcd rfl (evT aC) rfl (by rw[jpB];omega) (by decide) (l _ _ (joL _ _) rfl)⟩
 ·have f:some _=some o:=r;obtain rfl:=joN f;exact .inl ⟨vd rfl,fun K l=>Xh rfl e0 (l _ _ (joL _ _) rfl)⟩
 ·have f:some _=some o:=r;obtain rfl:=joN f;exact .inl ⟨vd rfl,fun K l=>Xh rfl e4 (l _ _ (joL _ _) rfl)⟩
 ·have f:some _=some o:=r;obtain rfl:=joN f;obtain⟨_,aE,rfl⟩:∃v,a.tmps[19]?=some v/\(fun(v:Value) (w:World)=>v=.slice (some ⟨b,m,none⟩) n c) v w:=g ⟨8,Ground.data⟩ (by first|simp|simp[zN]) rfl 19 rfl;obtain⟨_,aF,rfl⟩:∃v,a.tmps[20]?=some v/\(fun(v:Value) (w:World)=>v=.int .i64 (j:Nat)) v w:=g ⟨9,Ground.data⟩ (by first|simp|simp[zN]) rfl 20 rfl;exact .inl ⟨vd rfl,fun K l=>jdw (jg4 hj) rfl (evT aE) (evT aF) (l _ _ (joL _ _) rfl)⟩
 ·have f:some _=some o:=r;obtain rfl:=joN f;obtain⟨_,a7,rfl⟩:∃v,a.tmps[21]?=some v/\(fun(v:Value) (w:World)=>v=.pointer (some ⟨b,m+j*3,none⟩)) v w:=g ⟨10,Ground.data⟩ (by first|simp|simp[zN]) rfl 21 rfl;exact .inl ⟨vd rfl,fun K l=>Gc (by simp[go_sem]) rfl (evT a7) (l _ _ (joL _ _) rfl)⟩
 ·have f:some _=some o:=r;obtain rfl:=joN f;obtain⟨_,a8,rfl⟩:∃v,a.tmps[22]?=some v/\(fun(v:Value) (w:World)=>v=.pointer (some ⟨b,m+j*3+2,none⟩)) v w:=g ⟨11,Ground.data⟩ (by first|simp|simp[zN]) rfl 22 rfl;exact .inl ⟨vd rfl,fun K l=>jdv (hE w O).2 rfl (evT a8) (l _ _ (joL _ _) rfl)⟩
 ·have f:some _=some o:=r;obtain rfl:=joN f;obtain⟨_,aa,rfl⟩:∃v,a.tmps[23]?=some v/\(fun(v:Value) (w:World)=>v=L) v w:=g ⟨12,Ground.data⟩ (by first|simp|simp[zN]) rfl 23 rfl;exact .inl ⟨vd rfl,fun K l=>ZQ 160 rfl (evT aa) (enters_of (P:=prog) func160 (by kernel_rfl) rfl) (X w O) (fun v w' h=>l v w' h.2 h.1)⟩
 ·have f:some _=some o:=r;obtain rfl:=joN f;obtain⟨_,ae,rfl⟩:∃v,a.tmps[24]?=some v/\(fun(v:Value) (w:World)=>v=.string U) v w:=g ⟨13,Ground.data⟩ (by first|simp|simp[zN]) rfl 24 rfl;exact .inl ⟨vd rfl,fun K l=>ji9 159 rfl (evT ae) rfl (enters_of (P:=prog) func159 (by kernel_rfl) rfl) (Y w O) (fun v w' h=>l v w' h.2 h.1)⟩
 have f:some _=some o:=r;obtain rfl:=joN f;obtain⟨_,aD,rfl⟩:∃v,a.tmps[18]?=some v/\(fun(v:Value) (w:World)=>v=.string (s++N ++ ⟨#[10]⟩)) v w:=g ⟨7,Ground.data⟩ (by first|simp|simp[zN]) rfl 18 rfl;obtain⟨_,af,rfl⟩:∃v,a.tmps[25]?=some v/\(fun(v:Value) (w:World)=>v=.string A) v w:=g ⟨14,Ground.data⟩ (by first|simp|simp[zN]) rfl 25 rfl;exact .inl ⟨vd rfl,fun K l=>jcd rfl (evT aD) (evT af) (by rw[jpB,jpB];show _+1<=_;omega) (by omega) (l _ _ (joL _ _) rfl)⟩
end
section
attribute [local go_sem] joY
theorem jlf{W:World}{base size n g cap i:Nat}{e:TypeId}{xs:List Value}(h:W.ownsRow base e size (.slice (some ⟨g,0,none⟩) n cap) n xs)(u:Value):(W.setCell ⟨g,i,none⟩ u).ownsRow base e size (.slice (some ⟨g,0,none⟩) n cap) n (xs.set i u):=by
 refine⟨by rw[jrp];exact h.1,?_⟩;rcases h.2 with ⟨q,o⟩|⟨m,c,a,q,d,f,b,j,k,l⟩
 ·cases q
 cases q;refine .inr ⟨g,cap,a.setIfInBounds i u,rfl,d,?_,b,j,by simp[k],?_⟩
 ·show(W.heap.modify g _)[g]?=_;rw[jqE];simp[f]
 rw[<- l];simp[List.take_set]
theorem jbo:∀(a:List Ed) (f:List Value) (k:Nat) (u:Value),f.length=a.length->(xg a f).set (k*3+1+1) u=xg a (f.set k u)
 | [],[],_,_,_=>rfl
 | x::a,y::f,0,u,_=>rfl
 | x::a,y::f,k+1,u,h=>by
  rw[show(k+1)*3+1+1=(k*3+1+1)+1+1+1 by omega];have:=jbo a f k u (by simpa using h)
  show(_::_::_::xg a f).set _ u=_::_::_::xg a (f.set k u);simp only[jpG,this]
 | [],_::_,_,_,h=>by simp at h
 | _::_,[],_,_,h=>by simp at h
end
theorem jjF{s s':StD}(h:zL s=some s'):s'.2=[]:=by
 unfold zL at h;split at h
 ·rename_i q;injection h with h;subst h;exact q
 split at h
 ·injection h with h;subst h;rfl
 cases h
theorem jgK{s s':StD}{x:List UInt8}(h:s.2≠[]->s.1≠[])(a:xy s x=some s'):s'.2≠[]->s'.1≠[]:=by
 unfold xy at a;split at a
 ·split at a
  ·cases a
  rename_i q;injection a with a;subst a;exact fun _=>q
 split at a
 ·cases a
 injection a with a;subst a;intro _;simp
theorem jk5{s s':StD}{x:List UInt8}(h:s.2≠[]->s.1≠[])(a:vq s x=some s'):s'.2≠[]->s'.1≠[]:=by
 unfold vq at a;split at a
 ·exact jgK h a
 cases b:zL s with
 | none=>rw[b]at a;cases a
 | some c =>
 rw[b]at a;exact jgK (fun q=>absurd (jjF b) q) a
theorem jkv:∀(d:List (List UInt8)) {s b:StD},(s.2≠[]->s.1≠[])->Jd d s=some b->b.2≠[]->b.1≠[]
 | [],s,b,h,a=>by injection a with a;subst a;exact h
 | x::r,s,b,h,a=>by
  rw[Jd]at a;cases c:vq s x with
  | none=>rw[c]at a;cases a
  | some e =>
  rw[c]at a;exact jkv r (jk5 h c) a
theorem WJ:∀(p:List Ed) (e a:Ed) (F:List Value),e.kind=a.kind->e.id=a.id->xg (p++[e]) F=xg (p++[a]) F
 | [],e,a,F,b,c=>by
  cases F with
  | nil=>rfl
  | cons f r =>
  show(Value.int .i64 e.kind :: .int .i64 e.id::f::xg [] r)=(Value.int .i64 a.kind :: .int .i64 a.id::f::xg [] r)
  rw[b,c]
 | x::p,e,a,F,b,c=>by
  cases F with
  | nil=>rfl
  | cons f r =>
  show(_::_::_::xg (p++[e]) r)=(_::_::_::xg (p++[a]) r)
  rw[WJ p e a r b c]
theorem jbx(fs:List Fld)(f:Fld):ju (fs++[f])=ju fs++[.string (B f.1),.string (B f.2)]:=by unfold ju;simp
theorem jaQ{lo:Nat}{W w2:World}{k r g c:Nat}{p:List Ed}{e:Ed}{fvs:List Value}{f:Fld}(h:yr lo W (.slice (some ⟨k,0,none⟩) (p.length+1) r) (p++[e]) fvs)(o:Below W.heap.size W w2)(n:lo<=W.heap.size)
  (v:w2.ownsRow W.heap.size 148 2 (.slice (some ⟨g,0,none⟩) (e.fields.length+1) c) (e.fields.length+1) (ju e.fields++[.string (B f.1),.string (B f.2)])) :
  yr lo (w2.setCell ⟨k,p.length*3+2,none⟩ (.slice (some ⟨g,0,none⟩) (e.fields.length+1) c)) (.slice (some ⟨k,0,none⟩) (p.length+1) r) (p++[⟨e.kind,e.id,e.fields++[f]⟩]) (fvs.set p.length (.slice (some ⟨g,0,none⟩) (e.fields.length+1) c)):=by
 have d:=h.len;rw[joK,jpA]at d;have a:=jN h.row o (joJ _)
 rw[joK,jpA]at a;refine⟨?_,by rw[jrp,joK,jpA];exact d,fun i s t b l => ?_⟩
 ·rw[joK,jpA,<- WJ p e ⟨e.kind,e.id,e.fields++[f]⟩ _ rfl rfl,<- jbo (p++[e]) fvs p.length _ h.len];exact jlf a _
 have m:=b;rcases jpc i p.length with q|q
 ·rw[jpf q]at b;rw[List.getElem?_set_ne (by omega)]at l;have hx:=jN (h.each i s t (by rw[jpf q];exact b) l) o (joJ _)
  exact js hx (fun z=>jZ a hx (by decide) k rfl z) _
 have u:i=p.length:=by have:=(List.getElem?_eq_some_iff.1 m).1;rw[joK,jpA]at this;omega
 subst u;rw[jo7 (joJ _),Nat.sub_self]at b;cases b;rw[List.getElem?_set_self (by omega)]at l;cases l;have j:=jA v n
 show World.ownsRow _ lo _ 2 _ (e.fields++[f]).length (ju (e.fields++[f]));rw[jbx,joK,jpA];exact js j (fun z=>jZ a j (by decide) k rfl z) _
theorem jgL{l:List UInt8}{k:Nat}{x:List UInt8}(h:(zS l)[k]?=some x):(cellsOf (jf l))[k*4+2]?=some (.string (B x)):=by
 unfold zS at h;rw[jpx]at h;cases b:(jf l)[k]? with
 | none=>rw[b]at h;cases h
 | some y =>
 rw[b]at h;cases h;obtain⟨d,c⟩:=List.getElem?_eq_some_iff.1 b;have e:jf l=(jf l).take k++y::(jf l).drop (k+1):=by rw[<- c];simp
 have a:((jf l).take k).length=k:=by rw[joS];omega
 have:=vA ((jf l).take k) y ((jf l).drop (k+1)) 2 (by decide);rw[<- e,a]at this;rw[this];rfl
section
attribute [local go_sem] joY
theorem jn2:Lib.itoa 0=[48]:=by rw[show(0:Int)=((0:Nat):Int) from rfl,jpZ,jqt (by decide)];rfl
theorem jkb{eds:List Ed}(c:∀b∈eds,zG b=0)(d:∀b∈eds,I64 b.id):(jo eds).length<=600000*eds.length:=by
 induction eds with
 | nil=>exact joJ _
 | cons a r e =>
 have f:=jhD (Zr (c a joV)) (d a joV);have g:=e (fun x hx=>c x (joU _ hx)) (fun x hx=>d x (joU _ hx))
 rw[xJ,joK,joR];omega
theorem Km(eds:List Ed)(v:Value)(w:World)(h:EdV w v eds)(hl:eds.length<=51)(hg:∀a∈eds,zG a=0)(hi:∀a∈eds,I64 a.id):
  Calls prog 113 #[v] w fun e E=>e=.returned (.string (B (jo eds)))/\Below w.heap.size w E:=by
 obtain⟨A,K,rfl,a7,hc⟩:=h;have P:=joI hc
 have I:=joI hg;have J:=joI hi
 clear hc hg hi;go_enter func113,ntmps113;go_wp2_with fail;go_loopw [3,4] (fun sv i wr=>∃k:Nat,k<=eds.length/\i=.int .i64 k/\sv=.string (B (jo (eds.take k)))/\Below w.heap.size w wr) (fun _ i _=>eds.length-(intOf i).toNat)
 case atStart=>exact⟨0,joT _,rfl,rfl,joL _ _⟩
 case round =>
 obtain⟨k,hk,rfl,rfl,c⟩:=hrel;by_cases t:k<eds.length
 ·obtain⟨a,f⟩:∃a,eds[k]?=some a:=⟨_,joM t⟩
  obtain⟨b,d,u,rfl,q,R,U,V,r⟩:=P.out k a f;have s:=J.out a (joW f)
  have l:=Zr (I.out a (joW f));have Q:Hid (jo (eds.take (k+1))=jo (eds.take k)++((zi a.kind a.id++[10])++Jq [32,32] (jf (jO a.fields)))):=by show _=_;rw[take_snoc f,XU,Qd l]
  have y:=jhD l s;rw[Qd l,joK,joK]at y;have G:(jo (eds.take k)).length<=600000*51:=by
   have h1:=jkb (eds:=eds.take k) (fun x hx=>I.out x (jpM hx)) (fun x hx=>J.out x (jpM hx));rw[joS]at h1;have:min k eds.length<=51:=by omega
   omega
  have L:=Gu l;have Z:=l.len
  have z:∀W,Below wr.drew.heap.size wr.drew W->(Instr.loadAt 75 (.pointer (some ⟨b,d+k*3,none⟩))).run prog W=.ok (.agg #[.int .i64 a.kind,.int .i64 a.id,u]) W/\(Instr.loadAt 73 (.pointer (some ⟨b,d+k*3+2,none⟩))).run prog W=.ok u W:=fun W m=>by
   have n:Below w.heap.size w W:=c.drew.trans (m.mono c.size);have d0:=(n.cell (p:=⟨b,d+k*3,none⟩) q).trans R
   have d1:=(n.cell (p:=⟨b,d+k*3+1,none⟩) q).trans U;have Y:=(n.cell (p:=⟨b,d+k*3+1+1,none⟩) q).trans V
   obtain⟨fa,fc,rfl,_,_⟩:=_root_.id r.1;exact⟨by simp[go_sem,d0,d1,Y],by simp[go_sem,Y]⟩
  have g:∀W,Below wr.drew.heap.size wr.drew W->vP W u a.fields:=fun W m=>r.1.below (c.drew.trans (m.mono c.size)) (joJ _);have D:=t
  go_upto_region 5 with fail;refine wp_region_any (by kernel_rfl) ?_;refine jet _ wr.drew b d eds.length K k a.kind a.id u (B (jo (eds.take k))) (B (zi a.kind a.id)) (B (jO a.fields)) (B (Jq [32,32] (jf (jO a.fields)))) _ rfl rfl rfl rfl D z (by rw[jg];omega) (by rw[jg];omega) (by rw[jg];omega) ?h5 ?h13 ?h14 ?hQ
  case h5=>exact fun W m=>(VB a.kind a.id u s W).mono fun e E ⟨N,c⟩=>⟨_,N,rfl,c⟩
  case h13=>exact fun W m=>(YR a.fields u W (g W m) (by omega) l.small).mono fun e E ⟨N,c⟩=>⟨_,N,rfl,c⟩
  case h14 =>
   intro W m;refine(Uu (B (jO a.fields)) ⟨#[32,32]⟩ (by rw[jg];omega) (by decide) W).mono ?_;rintro e E ⟨rfl,c⟩;exact⟨_,rfl,by rw[jj];rfl,c⟩
  case hQ =>
  intro y0 y1 y2 y3 y4 y5 y6 y7 y8 y9 a8 aa ae af ag O w2 C j;have hy:O=.string (B (jo (eds.take k))++B (zi a.kind a.id) ++ ⟨#[10]⟩++B (Jq [32,32] (jf (jO a.fields)))):=j
  rw[show(⟨#[10]⟩:ByteArray)=B [10] from rfl,jn,jn,jn,show jo (eds.take k)++zi a.kind a.id++[10]++Jq [32,32] (jf (jO a.fields))=jo (eds.take (k+1)) by rw[Q.out];simp]at hy;subst hy;have H:=joI (c.drew.trans (C.mono c.size))
  clear C j z g r l s f R U V Q y G L;simp only[List.foldl,jo3,jpF,jpG];generalize o:B (jo (eds.take (k+1)))=X at *
  go_wp2_with fail;go_roundw
  case rel=>exact⟨k+1,t,by go_num,by rw[o],H.out⟩
  case measure=>simp[intOf];omega
 obtain rfl:k=eds.length:=by omega
 rw[jpa]at *
 have HB:=joI c;clear c P I J;generalize o:B (jo eds)=X at *
 go_wp2_with fail;go_ret;exact⟨by rw[o];rfl,HB.out⟩
end
theorem ZK(ls:List (List UInt8))(v:Value)(w:World)(i:Strs w v (ls.map B))(hl:∀l∈ls,l.length<=100000)(h:ls.length<=100000)(j:(qI ls).length<=1000000):
  Calls prog 99 #[v] w fun e k=>e=.returned (.tuple #[zC (jW ls) (jV ls),.int .i64 (jy ls:Nat)])/\Below w.heap.size w k:=by
 cases ls with
 | nil =>
  have g:jaf []=false:=rfl;obtain⟨c,d,f⟩:=xX g;rw[c,d,f];exact Vz [] v w i hl h (.inl rfl)
 | cons a r =>
 by_cases b:jm a=4
 ·exact xm a r v w i hl h j b
 have g:jaf (a::r)=false:=by
  rw[jb1];show(decide (0<(a::r).length)&&((jm a==4)&&Uj 3 r))=_
  simp[b]
 obtain⟨c,d,f⟩:=xX g;rw[c,d,f];exact Vz (a::r) v w i hl h (.inr ⟨a,r,rfl,b⟩)
end Go.Proofs.YtbapfpekklcicaaGreatDoor
