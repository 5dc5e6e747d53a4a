/- Texts put together:EY,EU,AQ,HF,ES,HA,EL,EZ,AS,AT,AU,AW,BJ,AN,AR,FV. -/
import Derived.Lib.SliceRun
import Derived.Test.YtmdhainabeljpaaGreatDoorBxr20
import Derived.Test.YtmdhainabeljpaaGreatDoorBxr22
import Derived.Test.YtmdhainabeljpaaGreatDoorBxr25
import Derived.Test.YtmdhainabeljpaaGreatDoorBxr26
set_option linter.unusedVariables false
set_option maxRecDepth 100000
set_option maxHeartbeats 16000000
namespace Go.Proofs.YtmdhainabeljpaaGreatDoor
open Go.RowKit Go.Shelf
attribute [local go_sem] jil
section
variable {o:Oper} {a:Act} {w:World} {K:Act->World->Prop} {Q:Exit->Act->World->Prop}
end
end Go.Proofs.YtmdhainabeljpaaGreatDoor
namespace Go.Proofs.YtmdhainabeljpaaGreatDoor
open Go.RowKit Go.Shelf
section
variable {K:Act->World->Prop} {Q:Exit->Act->World->Prop} {o:Oper} {a:Act} {w:World}
theorem WU{x y:Operand}{m n:ByteArray}(ho:o.op=Op.binOp BinOp.add 9 x y 9)(hx:a.eval x=.string m)(hy:a.eval y=.string n)(hm:m.size<=1000000000)(hn:n.size<=1000000000)(hK:K (a.put o.dst (.string (m++n))) w):Oper.wp Tryz.prog o a w K Q :=
 xl (by
  generalize a.eval=ρ at hx hy ⊢
  have h1:m.size+n.size<=9223372036854775807:=by omega
  simp only[execOp,ho,hx,hy]
  simp[go_sem,h1]) hK
end
theorem jcu{b off n c i:Nat}{w:World}(h:i<n):(Instr.indexAt 37 (.slice (some ⟨b,off,none⟩) n c) (.int .i64 (i:Nat))).run Tryz.prog w=.ok (.pointer (some ⟨b,off+i*3,none⟩)) w:=by
 have h1:(i:Int)<(n:Int):=by omega
 have h2:(0:Int)<=(i:Int):=by omega
 simp[go_sem,h1,h2]
def zC:List Oper:=[
 {dst:=some 11,op:=Op.move (Operand.tmp 3),type:=9,pos := "ref.go:69",after:=#[],guard:=none},
 {dst:=some 12,op:=Op.move (Operand.tmp 0),type:=37,pos := "ref.go:69",after:=#[],guard:=none},
 {dst:=some 13,op:=Op.move (Operand.tmp 4),type:=3,pos := "ref.go:69",after:=#[],guard:=none},
 {dst:=some 14,op:=Op.indexAddr 37 (Operand.tmp 12) (Operand.tmp 13),type:=0,pos := "ref.go:69",after:=#[{on:=1,ground:=Ground.data},{on:=2,ground:=Ground.data}],guard:=none},
 {dst:=some 15,op:=Op.load 40 (Operand.tmp 14),type:=40,pos := "ref.go:69",after:=#[{on:=3,ground:=Ground.data}],guard:=none},
 {dst:=some 16,op:=Op.call {callee:=Callee.value (Operand.func 61),args:=#[Operand.tmp 15],argTypes:=#[40]},type:=9,pos := "ref.go:69",after:=#[{on:=4,ground:=Ground.data}],guard:=none},
 {dst:=some 17,op:=Op.binOp BinOp.add 9 (Operand.tmp 11) (Operand.tmp 16) 9,type:=9,pos := "ref.go:69",after:=#[{on:=0,ground:=Ground.data},{on:=5,ground:=Ground.data}],guard:=none},
 {dst:=some 18,op:=Op.binOp BinOp.add 9 (Operand.tmp 17) (Operand.const (Value.string {data:=#[10]})) 9,type:=9,pos := "ref.go:69",after:=#[{on:=6,ground:=Ground.data}],guard:=none},
 {dst:=some 19,op:=Op.move (Operand.tmp 0),type:=37,pos := "ref.go:69",after:=#[],guard:=none},
 {dst:=some 20,op:=Op.move (Operand.tmp 4),type:=3,pos := "ref.go:69",after:=#[],guard:=none},
 {dst:=some 21,op:=Op.indexAddr 37 (Operand.tmp 19) (Operand.tmp 20),type:=0,pos := "ref.go:69",after:=#[{on:=8,ground:=Ground.data},{on:=9,ground:=Ground.data}],guard:=none},
 {dst:=some 22,op:=Op.fieldAddr 40 (Operand.tmp 21) 2,type:=0,pos := "ref.go:69",after:=#[{on:=10,ground:=Ground.data}],guard:=none},
 {dst:=some 23,op:=Op.load 38 (Operand.tmp 22),type:=38,pos := "ref.go:69",after:=#[{on:=11,ground:=Ground.data}],guard:=none},
 {dst:=some 24,op:=Op.call {callee:=Callee.value (Operand.func 100),args:=#[Operand.tmp 23],argTypes:=#[38]},type:=9,pos := "ref.go:69",after:=#[{on:=12,ground:=Ground.data},{on:=5,ground:=Ground.chain}],guard:=none},
 {dst:=some 25,op:=Op.call {callee:=Callee.value (Operand.func 99),args:=#[Operand.tmp 24,Operand.const (Value.string {data:=#[32,32]})],argTypes:=#[9,9]},type:=9,pos := "ref.go:69",after:=#[{on:=13,ground:=Ground.data},{on:=13,ground:=Ground.chain}],guard:=none},
 {dst:=some 26,op:=Op.binOp BinOp.add 9 (Operand.tmp 18) (Operand.tmp 25) 9,type:=9,pos := "ref.go:69",after:=#[{on:=7,ground:=Ground.data},{on:=14,ground:=Ground.data}],guard:=none},
 {dst:=some 3,op:=Op.assign (Operand.tmp 26),type:=9,pos := "ref.go:69",after:=#[{on:=15,ground:=Ground.data},{on:=14,ground:=Ground.chain},{on:=0,ground:=Ground.phase},{on:=1,ground:=Ground.phase},{on:=2,ground:=Ground.phase},{on:=3,ground:=Ground.phase},{on:=4,ground:=Ground.phase},{on:=5,ground:=Ground.phase},{on:=6,ground:=Ground.phase},{on:=7,ground:=Ground.phase},{on:=8,ground:=Ground.phase},{on:=9,ground:=Ground.phase},{on:=10,ground:=Ground.phase},{on:=11,ground:=Ground.phase},{on:=12,ground:=Ground.phase},{on:=13,ground:=Ground.phase},{on:=14,ground:=Ground.phase},{on:=15,ground:=Ground.phase}],guard:=none}]
def Jl(i:Nat):Option Nat:=(zC[i]?).bind (·.dst)
theorem jfY:∀i,i<16->∀k,k<16->Jl i≠none->Jl i=Jl k->i=k:=by decide +kernel
theorem jgU:∀i,i<16->(Jl i).getD 0<28:=by decide +kernel
theorem jfO:∀i:Fin 17,∀e∈(zC[i.1]'(by exact i.2)).after,Region.binds .any e=true->e.on<i.1:=by decide +kernel
def je1(b off n c j:Nat)(k i:Int)(fv:Value)(acc la fo ind:ByteArray):List (Value->World->Prop):=[
 fun v w=>v=.string acc,
 fun v w=>v=.slice (some ⟨b,off,none⟩) n c,
 fun v w=>v=.int .i64 (j:Nat),
 fun v w=>v=.pointer (some ⟨b,off+j*3,none⟩),
 fun v w=>v=.agg #[.int .i64 k,.int .i64 i,fv],
 fun v w=>v=.string la,
 fun v w=>v=.string (acc++la),
 fun v w=>v=.string (acc++la ++ ⟨#[10]⟩),
 fun v w=>v=.slice (some ⟨b,off,none⟩) n c,
 fun v w=>v=.int .i64 (j:Nat),
 fun v w=>v=.pointer (some ⟨b,off+j*3,none⟩),
 fun v w=>v=.pointer (some ⟨b,off+j*3+2,none⟩),
 fun v w=>v=fv,
 fun v w=>v=.string fo,
 fun v w=>v=.string ind,
 fun v w=>v=.string (acc++la ++ ⟨#[10]⟩++ind)]
theorem jaq(a0:Act)(w0:World)(b off n c j:Nat)(k i:Int)(fv:Value)(acc la fo ind:ByteArray)(Q:Exit->Act->World->Prop)
  (hsz:a0.tmps.size=28) (h3:a0.tmps[3]?=some (.string acc)) (h0:a0.tmps[0]?=some (.slice (some ⟨b,off,none⟩) n c)) (h4:a0.tmps[4]?=some (.int .i64 (j:Nat)))
  (hj:j<n) (hE:∀W,Below w0.heap.size w0 W->(Instr.loadAt 40 (.pointer (some ⟨b,off+j*3,none⟩))).run Tryz.prog W=.ok (.agg #[.int .i64 k,.int .i64 i,fv]) W/\(Instr.loadAt 38 (.pointer (some ⟨b,off+j*3+2,none⟩))).run Tryz.prog W=.ok fv W)
  (s1:acc.size<=100000000) (s2:la.size<=1000000) (s3:ind.size<=1000000)
  (hC5:∀(W:World) (_:Below w0.heap.size w0 W),Calls Tryz.prog 61 #[.agg #[.int .i64 k,.int .i64 i,fv]] W fun e w=>∃v,e=.returned v/\(v=.string la)/\Below W.heap.size W w)
  (hC13:∀(W:World) (_:Below w0.heap.size w0 W),Calls Tryz.prog 100 #[fv] W fun e w=>∃v,e=.returned v/\(v=.string fo)/\Below W.heap.size W w)
  (hC14:∀(W:World) (_:Below w0.heap.size w0 W),Calls Tryz.prog 99 #[.string fo,Value.string {data:=#[32,32]}] W fun e w=>∃v,e=.returned v/\(v=.string ind)/\Below W.heap.size W w)
  (hQ:∀(y0 y1 y2 y3 y4 y5 y6 y7 y8 y9 y10 y11 y12 y13 y14 y15:Value) (w:World),Below w0.heap.size w0 w->((fun(v:Value) (w:World)=>v=.string (acc++la ++ ⟨#[10]⟩++ind)) y15 w)->wpList Tryz.prog zC.toArray Q [{dst:=some 3,op:=Op.assign (Operand.tmp 26),type:=9,pos := "ref.go:69",after:=#[{on:=15,ground:=Ground.data},{on:=14,ground:=Ground.chain},{on:=0,ground:=Ground.phase},{on:=1,ground:=Ground.phase},{on:=2,ground:=Ground.phase},{on:=3,ground:=Ground.phase},{on:=4,ground:=Ground.phase},{on:=5,ground:=Ground.phase},{on:=6,ground:=Ground.phase},{on:=7,ground:=Ground.phase},{on:=8,ground:=Ground.phase},{on:=9,ground:=Ground.phase},{on:=10,ground:=Ground.phase},{on:=11,ground:=Ground.phase},{on:=12,ground:=Ground.phase},{on:=13,ground:=Ground.phase},{on:=14,ground:=Ground.phase},{on:=15,ground:=Ground.phase}],guard:=none}] {a0 with tmps:=[(11,y0),(12,y1),(13,y2),(14,y3),(15,y4),(16,y5),(17,y6),(18,y7),(19,y8),(20,y9),(21,y10),(22,y11),(23,y12),(24,y13),(25,y14),(26,y15)].foldl (fun u p=>u.setIfInBounds p.1 p.2) a0.tmps} w) :
  wpAny Tryz.prog .any zC.toArray Q zC.toArray.size (Array.replicate zC.toArray.size false) a0 w0:=by
 have M:jff (je1 b off n c j k i fv acc la fo ind):=⟨fun v x y hb h=>h,fun v x y hb h=>h,fun v x y hb h=>h,fun v x y hb h=>h,fun v x y hb h=>h,fun v x y hb h=>h,fun v x y hb h=>h,fun v x y hb h=>h,fun v x y hb h=>h,fun v x y hb h=>h,fun v x y hb h=>h,fun v x y hb h=>h,fun v x y hb h=>h,fun v x y hb h=>h,fun v x y hb h=>h,fun v x y hb h=>h,trivial⟩
 refine vC 16 1 (by kernel_rfl) (by decide) a0 w0 Jl (je1 b off n c j k i fv acc la fo ind) M (by kernel_rfl) (by kernel_rfl) (by kernel_rfl)
  (fun i o _ ho=>by unfold Jl;rw[ho];rfl)
  (fun i k d hi hk h1 h2=>jfY i hi k hk (by rw[h1];intro q;cases q) (by rw[h1,h2]))
  (fun i d hi h=>by have:=jgU i hi;rw[h]at this;rw[hsz];exact this)
  (fun i o e ho he hb=>by
   obtain⟨hi,rfl⟩:=List.getElem?_eq_some_iff.1 ho
   exact jfO ⟨i,hi⟩ e he hb)
  ?step ?fin
 case fin =>
  intro a w hd hs hf hv hR
  obtain⟨y0,hy0,pv0⟩:=hv 0 11 (by decide) rfl
  obtain⟨y1,hy1,pv1⟩:=hv 1 12 (by decide) rfl
  obtain⟨y2,hy2,pv2⟩:=hv 2 13 (by decide) rfl
  obtain⟨y3,hy3,pv3⟩:=hv 3 14 (by decide) rfl
  obtain⟨y4,hy4,pv4⟩:=hv 4 15 (by decide) rfl
  obtain⟨y5,hy5,pv5⟩:=hv 5 16 (by decide) rfl
  obtain⟨y6,hy6,pv6⟩:=hv 6 17 (by decide) rfl
  obtain⟨y7,hy7,pv7⟩:=hv 7 18 (by decide) rfl
  obtain⟨y8,hy8,pv8⟩:=hv 8 19 (by decide) rfl
  obtain⟨y9,hy9,pv9⟩:=hv 9 20 (by decide) rfl
  obtain⟨y10,hy10,pv10⟩:=hv 10 21 (by decide) rfl
  obtain⟨y11,hy11,pv11⟩:=hv 11 22 (by decide) rfl
  obtain⟨y12,hy12,pv12⟩:=hv 12 23 (by decide) rfl
  obtain⟨y13,hy13,pv13⟩:=hv 13 24 (by decide) rfl
  obtain⟨y14,hy14,pv14⟩:=hv 14 25 (by decide) rfl
  obtain⟨y15,hy15,pv15⟩:=hv 15 26 (by decide) rfl
  rw[Zc (a:=a) (a0:=a0) [(11,y0),(12,y1),(13,y2),(14,y3),(15,y4),(16,y5),(17,y6),(18,y7),(19,y8),(20,y9),(21,y10),(22,y11),(23,y12),(24,y13),(25,y14),(26,y15)] hd hs (by
   intro p hp
   simp only[jkl,jj7,or_false]at hp
   rcases hp with rfl|rfl|rfl|rfl|rfl|rfl|rfl|rfl|rfl|rfl|rfl|rfl|rfl|rfl|rfl|rfl
   ·exact hy0
   ·exact hy1
   ·exact hy2
   ·exact hy3
   ·exact hy4
   ·exact hy5
   ·exact hy6
   ·exact hy7
   ·exact hy8
   ·exact hy9
   ·exact hy10
   ·exact hy11
   ·exact hy12
   ·exact hy13
   ·exact hy14
   ·exact hy15
   ) (fun j hj=>hf j (fun k hk q=>hj (by
    have:∀k,k<16->(Jl k).all (fun d=>[11,12,13,14,15,16,17,18,19,20,21,22,23,24,25,26].contains d)=true:=by decide +kernel
    have h1:=this k hk
    rw[q]at h1
    simpa using h1)))]
  exact hQ y0 y1 y2 y3 y4 y5 y6 y7 y8 y9 y10 y11 y12 y13 y14 y15 w hR pv15
 case step =>
 intro i o a w hi ho hs hf dep hR
 have e3:=evT ((hf 3 (by decide +kernel)).trans h3)
 have e0:=evT ((hf 0 (by decide +kernel)).trans h0)
 have e4:=evT ((hf 4 (by decide +kernel)).trans h4)
 rcases(by omega:i=0\/i=1\/i=2\/i=3\/i=4\/i=5\/i=6\/i=7\/i=8\/i=9\/i=10\/i=11\/i=12\/i=13\/i=14\/i=15) with rfl|rfl|rfl|rfl|rfl|rfl|rfl|rfl|rfl|rfl|rfl|rfl|rfl|rfl|rfl|rfl
 ·have ho2:some _=some o:=ho
  obtain rfl:=jh9 ho2
  exact .inl ⟨zj rfl,fun K hK=>yd rfl e3 (hK _ _ (jh8 _ _) rfl)⟩
 ·have ho2:some _=some o:=ho
  obtain rfl:=jh9 ho2
  exact .inl ⟨zj rfl,fun K hK=>yd rfl e0 (hK _ _ (jh8 _ _) rfl)⟩
 ·have ho2:some _=some o:=ho
  obtain rfl:=jh9 ho2
  exact .inl ⟨zj rfl,fun K hK=>yd rfl e4 (hK _ _ (jh8 _ _) rfl)⟩
 ·have ho2:some _=some o:=ho
  obtain rfl:=jh9 ho2
  obtain⟨_,hv1,rfl⟩:∃v,a.tmps[12]?=some v/\(fun(v:Value) (w:World)=>v=.slice (some ⟨b,off,none⟩) n c) v w:=dep ⟨1,Ground.data⟩ (by first|simp|simp[zC]) rfl 12 rfl
  obtain⟨_,hv2,rfl⟩:∃v,a.tmps[13]?=some v/\(fun(v:Value) (w:World)=>v=.int .i64 (j:Nat)) v w:=dep ⟨2,Ground.data⟩ (by first|simp|simp[zC]) rfl 13 rfl
  exact .inl ⟨zj rfl,fun K hK=>Qm (jcu hj) rfl (evT hv1) (evT hv2) (hK _ _ (jh8 _ _) rfl)⟩
 ·have ho2:some _=some o:=ho
  obtain rfl:=jh9 ho2
  obtain⟨_,hv3,rfl⟩:∃v,a.tmps[14]?=some v/\(fun(v:Value) (w:World)=>v=.pointer (some ⟨b,off+j*3,none⟩)) v w:=dep ⟨3,Ground.data⟩ (by first|simp|simp[zC]) rfl 14 rfl
  exact .inl ⟨zj rfl,fun K hK=>Gu (hE w hR).1 rfl (evT hv3) (hK _ _ (jh8 _ _) rfl)⟩
 ·have ho2:some _=some o:=ho
  obtain rfl:=jh9 ho2
  obtain⟨_,hv4,rfl⟩:∃v,a.tmps[15]?=some v/\(fun(v:Value) (w:World)=>v=.agg #[.int .i64 k,.int .i64 i,fv]) v w:=dep ⟨4,Ground.data⟩ (by first|simp|simp[zC]) rfl 15 rfl
  exact .inl ⟨zj rfl,fun K hK=>xK 61 rfl (evT hv4) (enters_of (P:=Tryz.prog) Tryz.func61 (by kernel_rfl) rfl) (hC5 w hR) (fun v w' h=>hK v w' h.2 h.1)⟩
 ·have ho2:some _=some o:=ho
  obtain rfl:=jh9 ho2
  obtain⟨_,hv0,rfl⟩:∃v,a.tmps[11]?=some v/\(fun(v:Value) (w:World)=>v=.string acc) v w:=dep ⟨0,Ground.data⟩ (by first|simp|simp[zC]) rfl 11 rfl
  obtain⟨_,hv5,rfl⟩:∃v,a.tmps[16]?=some v/\(fun(v:Value) (w:World)=>v=.string la) v w:=dep ⟨5,Ground.data⟩ (by first|simp|simp[zC]) rfl 16 rfl
  exact .inl ⟨zj rfl,fun K hK=>WU rfl (evT hv0) (evT hv5) (by omega) (by omega) (hK _ _ (jh8 _ _) rfl)⟩
 ·have ho2:some _=some o:=ho
  obtain rfl:=jh9 ho2
  obtain⟨_,hv6,rfl⟩:∃v,a.tmps[17]?=some v/\(fun(v:Value) (w:World)=>v=.string (acc++la)) v w:=dep ⟨6,Ground.data⟩ (by first|simp|simp[zC]) rfl 17 rfl
  exact .inl ⟨zj rfl,fun K hK=>WU rfl (evT hv6) rfl (by rw[jiN];omega) (by decide) (hK _ _ (jh8 _ _) rfl)⟩
 ·have ho2:some _=some o:=ho
  obtain rfl:=jh9 ho2
  exact .inl ⟨zj rfl,fun K hK=>yd rfl e0 (hK _ _ (jh8 _ _) rfl)⟩
 ·have ho2:some _=some o:=ho
  obtain rfl:=jh9 ho2
  exact .inl ⟨zj rfl,fun K hK=>yd rfl e4 (hK _ _ (jh8 _ _) rfl)⟩
 ·have ho2:some _=some o:=ho
  obtain rfl:=jh9 ho2
  obtain⟨_,hv8,rfl⟩:∃v,a.tmps[19]?=some v/\(fun(v:Value) (w:World)=>v=.slice (some ⟨b,off,none⟩) n c) v w:=dep ⟨8,Ground.data⟩ (by first|simp|simp[zC]) rfl 19 rfl
  obtain⟨_,hv9,rfl⟩:∃v,a.tmps[20]?=some v/\(fun(v:Value) (w:World)=>v=.int .i64 (j:Nat)) v w:=dep ⟨9,Ground.data⟩ (by first|simp|simp[zC]) rfl 20 rfl
  exact .inl ⟨zj rfl,fun K hK=>Qm (jcu hj) rfl (evT hv8) (evT hv9) (hK _ _ (jh8 _ _) rfl)⟩
 ·have ho2:some _=some o:=ho
  obtain rfl:=jh9 ho2
  obtain⟨_,hv10,rfl⟩:∃v,a.tmps[21]?=some v/\(fun(v:Value) (w:World)=>v=.pointer (some ⟨b,off+j*3,none⟩)) v w:=dep ⟨10,Ground.data⟩ (by first|simp|simp[zC]) rfl 21 rfl
  exact .inl ⟨zj rfl,fun K hK=>JJ (by simp[go_sem]) rfl (evT hv10) (hK _ _ (jh8 _ _) rfl)⟩
 ·have ho2:some _=some o:=ho
  obtain rfl:=jh9 ho2
  obtain⟨_,hv11,rfl⟩:∃v,a.tmps[22]?=some v/\(fun(v:Value) (w:World)=>v=.pointer (some ⟨b,off+j*3+2,none⟩)) v w:=dep ⟨11,Ground.data⟩ (by first|simp|simp[zC]) rfl 22 rfl
  exact .inl ⟨zj rfl,fun K hK=>Gu (hE w hR).2 rfl (evT hv11) (hK _ _ (jh8 _ _) rfl)⟩
 ·have ho2:some _=some o:=ho
  obtain rfl:=jh9 ho2
  obtain⟨_,hv12,rfl⟩:∃v,a.tmps[23]?=some v/\(fun(v:Value) (w:World)=>v=fv) v w:=dep ⟨12,Ground.data⟩ (by first|simp|simp[zC]) rfl 23 rfl
  exact .inl ⟨zj rfl,fun K hK=>xK 100 rfl (evT hv12) (enters_of (P:=Tryz.prog) Tryz.func100 (by kernel_rfl) rfl) (hC13 w hR) (fun v w' h=>hK v w' h.2 h.1)⟩
 ·have ho2:some _=some o:=ho
  obtain rfl:=jh9 ho2
  obtain⟨_,hv13,rfl⟩:∃v,a.tmps[24]?=some v/\(fun(v:Value) (w:World)=>v=.string fo) v w:=dep ⟨13,Ground.data⟩ (by first|simp|simp[zC]) rfl 24 rfl
  exact .inl ⟨zj rfl,fun K hK=>Gv 99 rfl (evT hv13) rfl (enters_of (P:=Tryz.prog) Tryz.func99 (by kernel_rfl) rfl) (hC14 w hR) (fun v w' h=>hK v w' h.2 h.1)⟩
 have ho2:some _=some o:=ho
 obtain rfl:=jh9 ho2
 obtain⟨_,hv7,rfl⟩:∃v,a.tmps[18]?=some v/\(fun(v:Value) (w:World)=>v=.string (acc++la ++ ⟨#[10]⟩)) v w:=dep ⟨7,Ground.data⟩ (by first|simp|simp[zC]) rfl 18 rfl
 obtain⟨_,hv14,rfl⟩:∃v,a.tmps[25]?=some v/\(fun(v:Value) (w:World)=>v=.string ind) v w:=dep ⟨14,Ground.data⟩ (by first|simp|simp[zC]) rfl 25 rfl
 exact .inl ⟨zj rfl,fun K hK=>WU rfl (evT hv7) (evT hv14) (by rw[jiN,jiN];show _+1<=_;omega) (by omega) (hK _ _ (jh8 _ _) rfl)⟩
end Go.Proofs.YtmdhainabeljpaaGreatDoor
namespace Go.Proofs.YtmdhainabeljpaaGreatDoor
open Go.RowKit Go.Shelf
attribute [local go_sem] jil
theorem xY(ed:Ed)(fv:Value)(w:World)(h:Wo w fv ed.fields)(hf:jeQ ed.fields):
  Calls Tryz.prog 98 #[.agg #[.int .i64 ed.kind,.int .i64 ed.id,fv]] w fun e w'=>e=.returned (.int .i64 (zw ed:Nat))/\Below w.heap.size w w':=by
 obtain⟨fa,fc,rfl,_,_⟩:=_root_.id h
 obtain⟨wa,hwa⟩:∃wa,wa=w.alloc (.cells #[.int .i64 ed.kind,.int .i64 ed.id,.slice fa ed.fields.length fc] 40):=⟨_,rfl⟩
 have hba:Below w.heap.size w wa:=by rw[hwa];exact(jh8 _ w).alloc (jh6 _) _
 have HC:=jh5 (jau ed.fields (.slice fa ed.fields.length fc) wa (h.below hba (jh6 _)) (by have:=hf.len;omega) (fun f hm=>by have:=hf.each f hm;omega))
 have HB:=jh5 hba
 have GE:=jh5 (show zw ed=if ed.kind=1\/ed.kind=3 then Ju ed.fields else if ed.kind=2/\ed.fields.length=0 then 0 else 2 from rfl)
 clear hba h
 generalize zw ed=ge at *
 generalize Ju ed.fields=cn at *
 generalize Jo ed.fields=ca at *
 generalize ed.fields.length=fl at *
 generalize ed.kind=kk at *
 generalize ed.id=ii at *
 by_cases hlo:kk<1
 ·have hg:ge=2:=by rw[GE.out,if_neg (by omega),if_neg (by omega)]
  subst hg hwa
  go_enter Tryz.func98,Tryz.ntmps98
  go_wp2_with fail
  go_ret
  exact⟨rfl,HB.out⟩
 by_cases hhi:3<kk
 ·have hg:ge=2:=by rw[GE.out,if_neg (by omega),if_neg (by omega)]
  subst hg hwa
  go_enter Tryz.func98,Tryz.ntmps98
  go_wp2_with fail
  go_ret
  exact⟨rfl,HB.out⟩
 by_cases h2:kk=2
 ·subst h2
  by_cases h0:fl=0
  ·have hg:ge=0:=by rw[GE.out,if_neg (by omega),if_pos ⟨rfl,h0⟩]
   subst hg h0 hwa
   go_enter Tryz.func98,Tryz.ntmps98
   go_wp2_with fail
   go_ret
   exact⟨rfl,HB.out⟩
  have hg:ge=2:=by rw[GE.out,if_neg (by omega),if_neg (by omega)]
  have hp:(0:Int)<(fl:Int):=by omega
  subst hg hwa
  go_enter Tryz.func98,Tryz.ntmps98
  go_wp2_with fail
  go_ret
  exact⟨rfl,HB.out⟩
 have hg:ge=cn:=by rw[GE.out,if_pos (by omega)]
 have q2:(kk==2)=false:=by simpa using h2
 subst hg hwa
 go_enter Tryz.func98,Tryz.ntmps98
 go_wp2_with fail
 refine HC.out.mono ?_
 rintro e w2 ⟨rfl,b2⟩
 have B2:=jh5 (HB.out.trans (b2.mono HB.out.size))
 clear b2 HC
 go_wp2_with fail
 go_ret
 exact⟨rfl,B2.out⟩
theorem VK(eds:List Ed)(v:Value)(w:World)(h:EdV w v eds)(hl:eds.length<=1000000)(hf:Wp eds):
  Calls Tryz.prog 62 #[v] w fun e w'=>e=.returned (.tuple #[.int .i64 (yx eds).1,.int .i64 (yx eds).2])/\Below w.heap.size w w':=by
 obtain⟨A,cap,rfl,hle,hc⟩:=h
 have PC:=jh5 hc
 have HF:=jh5 hf
 clear hc hf
 by_cases h0:eds.length<1
 ·have e0:yx eds=(-9,1):=by unfold yx;rw[if_pos (by omega)]
  have z0:eds.length=0:=by omega
  rw[e0,z0]
  go_enter Tryz.func62,Tryz.ntmps62
  go_wp2_with fail
  go_ret2
  exact⟨rfl,jh8 _ _⟩
 have q0:¬((eds.length:Int)<1):=by omega
 by_cases h40:40<eds.length
 ·have e0:yx eds=(-9,1):=by unfold yx;rw[if_pos (by omega)]
  rw[e0]
  go_enter Tryz.func62,Tryz.ntmps62
  go_wp2_with fail
  go_ret2
  exact⟨rfl,jh8 _ _⟩
 have e1:yx eds=ye 0 eds:=by unfold yx;rw[if_neg (by omega)]
 rw[e1]
 go_enter Tryz.func62,Tryz.ntmps62
 go_wp2_with fail
 go_loopw [4] (fun i wr=>∃k:Nat,k<=eds.length/\i=.int .i64 k/\(∀x∈eds.take k,zw x=0)/\Below w.heap.size w wr) (fun i _=>eds.length-(intOf i).toNat)
 case atStart=>exact⟨0,jii _,rfl,(fun x hx=>by simp at hx),jh8 _ _⟩
 case round =>
 obtain⟨k,hk,rfl,hsm,hb⟩:=hrel
 by_cases hlt:k<eds.length
 ·obtain⟨ed,hed⟩:∃ed,eds[k]?=some ed:=⟨_,jia hlt⟩
  obtain⟨b,off,fv,rfl,hbb,c0,c1,c2,hfl⟩:=PC.out k ed hed
  obtain⟨fa,fc,rfl,_,_⟩:=_root_.id hfl.1
  replace c0:=(hb.cell (p:=⟨b,off+k*3,none⟩) hbb).trans c0
  replace c1:=(hb.cell (p:=⟨b,off+k*3+1,none⟩) hbb).trans c1
  replace c2:=(hb.cell (p:=⟨b,off+k*3+1+1,none⟩) hbb).trans c2
  have CK:=jh5 (xY ed (.slice fa ed.fields.length fc) wr (hfl.1.below hb (jh6 _)) (HF.out ed (jim hed)))
  have SM:Hid (zw ed=0->∀x∈eds.take (k+1),zw x=0):=fun hz x hx=>by
   rw[take_snoc hed]at hx
   rcases List.mem_append.1 hx with hx|hx
   ·exact hsm x hx
   rw[List.mem_singleton.1 hx];exact hz
  have AT:Hid (zw ed≠0->ye 0 eds=(((k:Nat):Int),zw ed)):=fun hz=>by rw[XH eds 0 k ed hsm hed hz,jiH]
  have HBA:=jh5 hb
  clear hed hsm hfl hb
  generalize zw ed=ge at *
  go_wp2_with fail
  refine CK.out.mono ?_
  rintro e w2 ⟨rfl,b2⟩
  have B2:=jh5 (HBA.out.trans (b2.mono HBA.out.size))
  clear b2 CK
  by_cases hg0:ge=0
  ·subst hg0
   have SM1:=jh5 (SM.out rfl)
   clear SM AT
   go_wp2_with fail
   go_roundw
   case rel=>exact⟨k+1,hlt,by go_num,SM1.out,B2.out⟩
   case measure=>simp[intOf];omega
  have AT1:=jh5 (AT.out hg0)
  have qn:((ge:Int)==0)=false:=by simpa using hg0
  have FIN:Hid (Ending.returned (.tuple #[.int .i64 (k:Nat),.int .i64 (ge:Nat)])=.returned (.tuple #[.int .i64 (ye 0 eds).1,.int .i64 (ye 0 eds).2])):=by
   show _=_
   rw[AT1.out]
  clear SM AT AT1
  go_wp2_with fail
  go_ret2
  exact⟨FIN.out,B2.out⟩
 obtain rfl:k=eds.length:=by omega
 rw[jiF]at hsm
 have FIN:Hid (Ending.returned (.tuple #[.int .i64 (-9),.int .i64 0])=.returned (.tuple #[.int .i64 (ye 0 eds).1,.int .i64 (ye 0 eds).2])):=by
  show _=_
  rw[Vn eds 0 hsm];rfl
 clear PC hsm
 go_wp2_with fail
 go_ret2
 exact⟨FIN.out,hb⟩
theorem Uj(eds:List Ed)(v v':Value)(w:World)(h:EdV w v eds)(h':EdV w v' eds)(hn:eds.length<=1000000)(hf:jgw eds):
  Calls Tryz.prog 25 #[v,v'] w fun e w'=>e=.returned (.bool true)/\∃m,w'=w.drewN m:=by
 obtain⟨A,cap,rfl,hle,hc⟩:=h
 obtain⟨A',cap',rfl,hle',hc'⟩:=h'
 have PC:=jh5 hc
 have PC':=jh5 hc'
 have HF:=jh5 hf
 clear hc hc' hf
 go_enter Tryz.func25,Tryz.ntmps25
 go_wp2_with fail
 go_loopw [13] (fun i wr=>∃k:Nat,k<=eds.length/\i=.int .i64 k/\∃m,wr=w.drewN m) (fun i _=>eds.length-(intOf i).toNat)
 case atStart=>exact⟨0,jii _,rfl,0,rfl⟩
 case round =>
 obtain⟨k,hk,rfl,nd,hwr⟩:=hrel
 by_cases hlt:k<eds.length
 ·obtain⟨ed,hed⟩:∃ed,eds[k]?=some ed:=⟨_,jia hlt⟩
  obtain⟨b,off,fv,rfl,hbb,c0,c1,c2,hfl⟩:=PC.out k ed hed
  obtain⟨b',off',fv',rfl,hbb',c0',c1',c2',hfl'⟩:=PC'.out k ed hed
  have hm:=(HF.out ed (jim hed)).len
  have FQ0:∀n,Calls Tryz.prog 64 #[fv,fv'] (wr.drewN n) fun e w'=>e=.returned (.bool true)/\∃m,w'=(wr.drewN n).drewN m:=by
   intro n
   rw[hwr]
   exact KT ed.fields fv fv' ((w.drewN nd).drewN n) hfl.1 hfl'.1 (by omega)
  have FQ:=jh5 FQ0
  clear FQ0
  replace c0:wr.cell? ⟨b,off+k*3,none⟩=some (.int .i64 ed.kind):=by rw[hwr];exact c0
  replace c1:wr.cell? ⟨b,off+k*3+1,none⟩=some (.int .i64 ed.id):=by rw[hwr];exact c1
  replace c2:wr.cell? ⟨b,off+k*3+1+1,none⟩=some fv:=by rw[hwr];exact c2
  replace c0':wr.cell? ⟨b',off'+k*3,none⟩=some (.int .i64 ed.kind):=by rw[hwr];exact c0'
  replace c1':wr.cell? ⟨b',off'+k*3+1,none⟩=some (.int .i64 ed.id):=by rw[hwr];exact c1'
  replace c2':wr.cell? ⟨b',off'+k*3+1+1,none⟩=some fv':=by rw[hwr];exact c2'
  have HW:=jh5 hwr
  clear hed PC PC' hwr hfl hfl' HF
  generalize ed.id=X at *
  generalize ed.kind=K at *
  go_wp2_with (go_quiet ((go_at_call 64;exact Calls.quiet_of (FQ.out _))))
  go_roundw
  case rel=>exact⟨k+1,hlt,by go_num,_,by rw[HW.out];exact World.drewN_drewN _ _ _⟩
  case measure=>simp[intOf];omega
 obtain rfl:k=eds.length:=by omega
 clear PC PC'
 go_wp2_with fail
 go_ret
 exact⟨rfl,nd,by first | rfl | exact hwr⟩
theorem jfw{W:World}{base size n g cap i:Nat}{e:TypeId}{xs:List Value}(h:W.ownsRow base e size (.slice (some ⟨g,0,none⟩) n cap) n xs)(u:Value):(W.setCell ⟨g,i,none⟩ u).ownsRow base e size (.slice (some ⟨g,0,none⟩) n cap) n (xs.set i u):=by
 refine⟨by rw[List.length_set];exact h.1,?_⟩
 rcases h.2 with ⟨q,hn⟩|⟨g',cap',cur,q,hb,hc,hle,hm,hs,ht⟩
 ·cases q
 cases q
 refine .inr ⟨g,cap,cur.setIfInBounds i u,rfl,hb,?_,hle,hm,by simp[hs],?_⟩
 ·show(W.heap.modify g _)[g]?=_
  rw[jjJ];simp[hc]
 rw[<- ht];simp[List.take_set]
theorem KW:∀(a:List Ed) (f:List Value) (k:Nat) (u:Value),f.length=a.length->(yv a f).set (k*3+1+1) u=yv a (f.set k u)
 | [],[],_,_,_=>rfl
 | x::a,y::f,0,u,_=>rfl
 | x::a,y::f,k+1,u,h=>by
  rw[show(k+1)*3+1+1=(k*3+1+1)+1+1+1 by omega]
  have:=KW a f k u (by simpa using h)
  show(_::_::_::yv a f).set _ u=_::_::_::yv a (f.set k u)
  simp only[jiV,this]
 | [],_::_,_,_,h=>by simp at h
 | _::_,[],_,_,h=>by simp at h
end Go.Proofs.YtmdhainabeljpaaGreatDoor
namespace Go.Proofs.YtmdhainabeljpaaGreatDoor
open Go.RowKit Go.Shelf
theorem jei{s s':StD}(h:zx s=some s'):s'.2=[]:=by
 unfold zx at h
 split at h
 ·rename_i q;injection h with h;subst h;exact q
 split at h
 ·injection h with h;subst h;rfl
 cases h
theorem jcf{s s':StD}{x:List UInt8}(h:s.2≠[]->s.1≠[])(hf:yF s x=some s'):s'.2≠[]->s'.1≠[]:=by
 unfold yF at hf
 split at hf
 ·split at hf
  ·cases hf
  rename_i q
  injection hf with hf
  subst hf
  exact fun _=>q
 split at hf
 ·cases hf
 injection hf with hf
 subst hf
 intro _
 simp
theorem jfq{s s':StD}{x:List UInt8}(h:s.2≠[]->s.1≠[])(hf:qN s x=some s'):s'.2≠[]->s'.1≠[]:=by
 unfold qN at hf
 split at hf
 ·exact jcf h hf
 cases hs:zx s with
 | none=>rw[hs]at hf;cases hf
 | some s1 =>
 rw[hs]at hf
 exact jcf (fun q=>absurd (jei hs) q) hf
theorem jeZ:∀(xs:List (List UInt8)) {s s':StD},(s.2≠[]->s.1≠[])->xg xs s=some s'->s'.2≠[]->s'.1≠[]
 | [],s,s',h,hr=>by
  injection hr with hr
  subst hr
  exact h
 | x::r,s,s',h,hr=>by
  rw[xg]at hr
  cases hs:qN s x with
  | none=>rw[hs]at hr;cases hr
  | some s1 =>
  rw[hs]at hr
  exact jeZ r (jfq h hs) hr
theorem YF:∀(p:List Ed) (e e':Ed) (F:List Value),e.kind=e'.kind->e.id=e'.id->yv (p++[e]) F=yv (p++[e']) F
 | [],e,e',F,h1,h2=>by
  cases F with
  | nil=>rfl
  | cons f r =>
  show(Value.int .i64 e.kind :: .int .i64 e.id::f::yv [] r)=(Value.int .i64 e'.kind :: .int .i64 e'.id::f::yv [] r)
  rw[h1,h2]
 | x::p,e,e',F,h1,h2=>by
  cases F with
  | nil=>rfl
  | cons f r =>
  show(_::_::_::yv (p++[e]) r)=(_::_::_::yv (p++[e']) r)
  rw[YF p e e' r h1 h2]
theorem We(fs:List Fld)(f:Fld):jt (fs++[f])=jt fs++[.string (B f.1),.string (B f.2)]:=by unfold jt;simp
theorem Ku{lo:Nat}{W w2:World}{og oc g c:Nat}{p:List Ed}{e:Ed}{fvs:List Value}{f:Fld}(h:vM lo W (.slice (some ⟨og,0,none⟩) (p.length+1) oc) (p++[e]) fvs)(hb:Below W.heap.size W w2)(hlo:lo<=W.heap.size)
  (hr:w2.ownsRow W.heap.size 71 2 (.slice (some ⟨g,0,none⟩) (e.fields.length+1) c) (e.fields.length+1) (jt e.fields++[.string (B f.1),.string (B f.2)])) :
  vM lo (w2.setCell ⟨og,p.length*3+2,none⟩ (.slice (some ⟨g,0,none⟩) (e.fields.length+1) c)) (.slice (some ⟨og,0,none⟩) (p.length+1) oc) (p++[⟨e.kind,e.id,e.fields++[f]⟩]) (fvs.set p.length (.slice (some ⟨g,0,none⟩) (e.fields.length+1) c)):=by
 have hl0:=h.len
 rw[jh7,jiS]at hl0
 have hrow:=jJ h.row hb (jh6 _)
 rw[jh7,jiS]at hrow
 refine⟨?_,by rw[List.length_set,jh7,jiS];exact hl0,fun i ed fv h1 h2 => ?_⟩
 ·rw[jh7,jiS,<- YF p e ⟨e.kind,e.id,e.fields++[f]⟩ _ rfl rfl,<- KW (p++[e]) fvs p.length _ h.len]
  exact jfw hrow _
 have h1':=h1
 rcases jir i p.length with q|q
 ·rw[jiT q]at h1
  rw[List.getElem?_set_ne (by omega)]at h2
  have hx:=jJ (h.each i ed fv (by rw[jiT q];exact h1) h2) hb (jh6 _)
  exact jT hx (fun z=>zq hrow hx (by decide) og rfl z) _
 have hi:i=p.length:=by
  have:=(List.getElem?_eq_some_iff.1 h1').1
  rw[jh7,jiS]at this
  omega
 subst hi
 rw[jiD (jh6 _),Nat.sub_self]at h1
 cases h1
 rw[List.getElem?_set_self (by omega)]at h2
 cases h2
 have hr':=zd hr hlo
 show World.ownsRow _ lo _ 2 _ (e.fields++[f]).length (jt (e.fields++[f]))
 rw[We,jh7,jiS]
 exact jT hr' (fun z=>zq hrow hr' (by decide) og rfl z) _
theorem jcg{l:List UInt8}{k:Nat}{x:List UInt8}(h:(zG l)[k]?=some x):(cellsOf (jf l))[k*4+2]?=some (.string (B x)):=by
 unfold zG at h
 rw[ji3]at h
 cases hy:(jf l)[k]? with
 | none=>rw[hy]at h;cases h
 | some y =>
 rw[hy]at h
 cases h
 obtain⟨hk,hyy⟩:=List.getElem?_eq_some_iff.1 hy
 have e:jf l=(jf l).take k++y::(jf l).drop (k+1):=by
  rw[<- hyy];simp
 have hkl:((jf l).take k).length=k:=by rw[jiE];omega
 have:=qU ((jf l).take k) y ((jf l).drop (k+1)) 2 (by decide)
 rw[<- e,hkl]at this
 rw[this]
 rfl
end Go.Proofs.YtmdhainabeljpaaGreatDoor
namespace Go.Proofs.YtmdhainabeljpaaGreatDoor
open Go.RowKit Go.Shelf
attribute [local go_sem] jil
theorem jhF:Lib.itoa 0=[48]:=by
 rw[show(0:Int)=((0:Nat):Int) from rfl,jjc,jjv (by decide)];rfl
theorem jeF{eds:List Ed}(hg:∀ed∈eds,zw ed=0)(hi:∀ed∈eds,I64 ed.id):(jC eds).length<=600000*eds.length:=by
 induction eds with
 | nil=>exact jh6 _
 | cons a r ih =>
 have h1:=jcQ (Jd (hg a jig)) (hi a jig)
 have h2:=ih (fun x hx=>hg x (jif _ hx)) (fun x hx=>hi x (jif _ hx))
 rw[yO,jh7,jic];omega
theorem VJ(eds:List Ed)(v:Value)(w:World)(h:EdV w v eds)(hl:eds.length<=51)(hg:∀ed∈eds,zw ed=0)(hi:∀ed∈eds,I64 ed.id):
  Calls Tryz.prog 63 #[v] w fun e w'=>e=.returned (.string (B (jC eds)))/\Below w.heap.size w w':=by
 obtain⟨A,cap,rfl,hle,hc⟩:=h
 have PC:=jh5 hc
 have HG:=jh5 hg
 have HI:=jh5 hi
 clear hc hg hi
 go_enter Tryz.func63,Tryz.ntmps63
 go_wp2_with fail
 go_loopw [3,4] (fun sv i wr=>∃k:Nat,k<=eds.length/\i=.int .i64 k/\sv=.string (B (jC (eds.take k)))/\Below w.heap.size w wr) (fun _ i _=>eds.length-(intOf i).toNat)
 case atStart=>exact⟨0,jii _,rfl,rfl,jh8 _ _⟩
 case round =>
 obtain⟨k,hk,rfl,rfl,hb⟩:=hrel
 by_cases hlt:k<eds.length
 ·obtain⟨ed,hed⟩:∃ed,eds[k]?=some ed:=⟨_,jia hlt⟩
  obtain⟨b,off,fv,rfl,hbb,c0,c1,c2,hfl⟩:=PC.out k ed hed
  have hie:=HI.out ed (jim hed)
  have GF:=Jd (HG.out ed (jim hed))
  have TK:Hid (jC (eds.take (k+1))=jC (eds.take k)++((jV ed.kind ed.id++[10])++xn [32,32] (jf (zo ed.fields)))):=by
   show _=_
   rw[take_snoc hed,Vt,JS GF]
  have ELE:=jcQ GF hie
  rw[JS GF,jh7,jh7]at ELE
  have BLE:(jC (eds.take k)).length<=600000*51:=by
   have h1:=jeF (eds:=eds.take k) (fun x hx=>HG.out x (List.mem_of_mem_take hx)) (fun x hx=>HI.out x (List.mem_of_mem_take hx))
   rw[jiE]at h1
   have:min k eds.length<=51:=by omega
   omega
  have fle:=Xz GF
  have fl40:=GF.len
  have hEE:∀W,Below wr.drew.heap.size wr.drew W->(Instr.loadAt 40 (.pointer (some ⟨b,off+k*3,none⟩))).run Tryz.prog W=.ok (.agg #[.int .i64 ed.kind,.int .i64 ed.id,fv]) W/\(Instr.loadAt 38 (.pointer (some ⟨b,off+k*3+2,none⟩))).run Tryz.prog W=.ok fv W:=fun W hW=>by
   have hW':Below w.heap.size w W:=hb.drew.trans (hW.mono hb.size)
   have d0:=(hW'.cell (p:=⟨b,off+k*3,none⟩) hbb).trans c0
   have d1:=(hW'.cell (p:=⟨b,off+k*3+1,none⟩) hbb).trans c1
   have d2:=(hW'.cell (p:=⟨b,off+k*3+1+1,none⟩) hbb).trans c2
   obtain⟨fa,fc,rfl,_,_⟩:=_root_.id hfl.1
   exact⟨by simp[go_sem,d0,d1,d2],by simp[go_sem,d2]⟩
  have hfv':∀W,Below wr.drew.heap.size wr.drew W->Wo W fv ed.fields:=fun W hW=>hfl.1.below (hb.drew.trans (hW.mono hb.size)) (jh6 _)
  have hlt2:=hlt
  go_upto_region 5 with fail
  refine wp_region_any (by kernel_rfl) ?_
  refine jaq _ wr.drew b off eds.length cap k ed.kind ed.id fv (B (jC (eds.take k))) (B (jV ed.kind ed.id)) (B (zo ed.fields)) (B (xn [32,32] (jf (zo ed.fields)))) _ rfl rfl rfl rfl hlt2 hEE (by rw[je];omega) (by rw[je];omega) (by rw[je];omega) ?h5 ?h13 ?h14 ?hQ
  case h5=>exact fun W hW=>(ZN ed.kind ed.id fv hie W).mono fun e w' ⟨he,hb⟩=>⟨_,he,rfl,hb⟩
  case h13=>exact fun W hW=>(WI ed.fields fv W (hfv' W hW) (by omega) GF.small).mono fun e w' ⟨he,hb⟩=>⟨_,he,rfl,hb⟩
  case h14 =>
   intro W hW
   refine(Xd (B (zo ed.fields)) ⟨#[32,32]⟩ (by rw[je];omega) (by decide) W).mono ?_
   rintro e w' ⟨rfl,hb⟩
   exact⟨_,rfl,by rw[ji];rfl,hb⟩
  case hQ =>
  intro y0 y1 y2 y3 y4 y5 y6 y7 y8 y9 y10 y11 y12 y13 y14 y15 w2 hb2 hy15
  have hy:y15=.string (B (jC (eds.take k))++B (jV ed.kind ed.id) ++ ⟨#[10]⟩++B (xn [32,32] (jf (zo ed.fields)))):=hy15
  rw[show(⟨#[10]⟩:ByteArray)=B [10] from rfl,jj,jj,jj,show jC (eds.take k)++jV ed.kind ed.id++[10]++xn [32,32] (jf (zo ed.fields))=jC (eds.take (k+1)) by rw[TK.out];simp]at hy
  subst hy
  have HB2:=jh5 (hb.drew.trans (hb2.mono hb.size))
  clear hb2 hy15 hEE hfv' hfl GF hie hed c0 c1 c2 TK ELE BLE fle
  simp only[List.foldl,jiw,jiU,jiV]
  generalize hXe:B (jC (eds.take (k+1)))=X at *
  go_wp2_with fail
  go_roundw
  case rel=>exact⟨k+1,hlt,by go_num,by rw[hXe],HB2.out⟩
  case measure=>simp[intOf];omega
 obtain rfl:k=eds.length:=by omega
 rw[jiF]at *
 have HB:=jh5 hb
 clear hb PC HG HI
 generalize hXe:B (jC eds)=X at *
 go_wp2_with fail
 go_ret
 exact⟨by rw[hXe];rfl,HB.out⟩
end Go.Proofs.YtmdhainabeljpaaGreatDoor
namespace Go.Proofs.YtmdhainabeljpaaGreatDoor
open Go.RowKit Go.Shelf
theorem JA(ls:List (List UInt8))(v:Value)(w:World)(hs:Strs w v (ls.map B))(hl:∀l∈ls,l.length<=100000)(hn:ls.length<=100000)(hj:(zy ls).length<=1000000):
  Calls Tryz.prog 48 #[v] w fun e w'=>e=.returned (.tuple #[zi (jF ls) (jE ls),.int .i64 (jo ls:Nat)])/\Below w.heap.size w w':=by
 cases ls with
 | nil =>
  have hF:VB []=false:=rfl
  obtain⟨e1,e2,e3⟩:=vE hF
  rw[e1,e2,e3]
  exact ZM [] v w hs hl hn (.inl rfl)
 | cons a r =>
 by_cases hka:jk a=4
 ·exact vn a r v w hs hl hn hj hka
 have hF:VB (a::r)=false:=by
  rw[Ww]
  show(decide (0<(a::r).length)&&((jk a==4)&&Zh 3 r))=_
  simp[hka]
 obtain⟨e1,e2,e3⟩:=vE hF
 rw[e1,e2,e3]
 exact ZM (a::r) v w hs hl hn (.inr ⟨a,r,rfl,hka⟩)
end Go.Proofs.YtmdhainabeljpaaGreatDoor
