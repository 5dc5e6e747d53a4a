/- Texts put together:SR,ST,SU. -/
import Derived.Test.YtmdhainabeljpaaGreatDoorBxr29
set_option linter.unusedVariables false
set_option maxRecDepth 100000
set_option maxHeartbeats 16000000
namespace Go.Proofs.YtmdhainabeljpaaGreatDoor
open Go.RowKit Go.Shelf
def jv:Array Oper:=#[
 {dst:=some 52,op:=Op.load 26 (Operand.tmp 3),type:=26,pos := "law.go:46",after:=#[],guard:=none},
 {dst:=some 53,op:=Op.call {callee:=Callee.value (Operand.func 10),args:=#[Operand.tmp 52],argTypes:=#[26]},type:=3,pos := "law.go:46",after:=#[{on:=0,ground:=Ground.data}],guard:=none},
 {dst:=some 54,op:=Op.move (Operand.tmp 0),type:=9,pos := "law.go:46",after:=#[],guard:=none},
 {dst:=some 55,op:=Op.call {callee:=Callee.builtin Builtin.len,args:=#[Operand.tmp 54],argTypes:=#[9]},type:=3,pos := "law.go:46",after:=#[{on:=2,ground:=Ground.data}],guard:=none},
 {dst:=some 56,op:=Op.binOp BinOp.neq 3 (Operand.tmp 53) (Operand.tmp 55) 3,type:=4,pos := "law.go:46",after:=#[{on:=1,ground:=Ground.data},{on:=3,ground:=Ground.data}],guard:=none},
 {dst:=some 57,op:=Op.move (Operand.tmp 56),type:=4,pos := "law.go:46",after:=#[{on:=4,ground:=Ground.data},{on:=1,ground:=Ground.chain}],guard:=none},
 {dst:=some 58,op:=Op.load 26 (Operand.tmp 3),type:=26,pos := "law.go:46",after:=#[{on:=5,ground:=Ground.guard}],guard:=some (5,false)},
 {dst:=some 59,op:=Op.call {callee:=Callee.value (Operand.func 11),args:=#[Operand.tmp 58],argTypes:=#[26]},type:=3,pos := "law.go:46",after:=#[{on:=6,ground:=Ground.data},{on:=5,ground:=Ground.chain},{on:=5,ground:=Ground.guard}],guard:=some (5,false)},
 {dst:=some 60,op:=Op.move (Operand.tmp 0),type:=9,pos := "law.go:46",after:=#[{on:=5,ground:=Ground.guard}],guard:=some (5,false)},
 {dst:=some 61,op:=Op.call {callee:=Callee.builtin Builtin.len,args:=#[Operand.tmp 60],argTypes:=#[9]},type:=3,pos := "law.go:46",after:=#[{on:=8,ground:=Ground.data},{on:=5,ground:=Ground.guard}],guard:=some (5,false)},
 {dst:=some 62,op:=Op.fieldAddr 26 (Operand.tmp 3) 4,type:=0,pos := "law.go:46",after:=#[{on:=5,ground:=Ground.guard}],guard:=some (5,false)},
 {dst:=some 63,op:=Op.load 9 (Operand.tmp 62),type:=9,pos := "law.go:46",after:=#[{on:=10,ground:=Ground.data},{on:=5,ground:=Ground.guard}],guard:=some (5,false)},
 {dst:=some 64,op:=Op.call {callee:=Callee.builtin Builtin.len,args:=#[Operand.tmp 63],argTypes:=#[9]},type:=3,pos := "law.go:46",after:=#[{on:=11,ground:=Ground.data},{on:=5,ground:=Ground.guard}],guard:=some (5,false)},
 {dst:=some 65,op:=Op.binOp BinOp.sub 3 (Operand.tmp 61) (Operand.tmp 64) 3,type:=3,pos := "law.go:46",after:=#[{on:=9,ground:=Ground.data},{on:=12,ground:=Ground.data},{on:=5,ground:=Ground.guard}],guard:=some (5,false)},
 {dst:=some 66,op:=Op.binOp BinOp.neq 3 (Operand.tmp 59) (Operand.tmp 65) 3,type:=4,pos := "law.go:46",after:=#[{on:=7,ground:=Ground.data},{on:=13,ground:=Ground.data},{on:=5,ground:=Ground.guard}],guard:=some (5,false)},
 {dst:=some 67,op:=Op.pick (Operand.tmp 57) (Operand.const (Value.bool true)) (Operand.tmp 66),type:=4,pos := "law.go:46",after:=#[{on:=5,ground:=Ground.data},{on:=14,ground:=Ground.data}],guard:=none}]
def yK(i:Nat):Option Nat:=(jv[i]?).bind (·.dst)
theorem jd1:∀i,i<16->∀k,k<16->yK i≠none->yK i=yK k->i=k:=by decide +kernel
theorem jfM:∀i,i<16->(yK i).getD 0<98:=by decide +kernel
theorem jdT:∀i:Fin 16,∀e∈(jv[i.1]'(by exact i.2)).after,Region.binds .any e=true->e.on<i.1:=by decide +kernel
def jbW(pb z L m g bc ec:Nat)(ba ea:Option Addr)(X base tl:ByteArray):List (Value->World->Prop):=[
 fun v w=>v=.agg #[.int .i64 (g:Nat),.string base,.slice ba m bc,.slice ea m ec,.string tl],
 fun v w=>v=.int .i64 (L:Nat),
 fun v w=>v=.string X,
 fun v w=>v=.int .i64 (X.size:Nat),
 fun v w=>v=.bool false,
 fun v w=>v=.bool false,
 fun v w=>v=.agg #[.int .i64 (g:Nat),.string base,.slice ba m bc,.slice ea m ec,.string tl],
 fun v w=>v=.int .i64 (z:Nat),
 fun v w=>v=.string X,
 fun v w=>v=.int .i64 (X.size:Nat),
 fun v w=>v=.pointer (some ⟨pb,4,none⟩),
 fun v w=>v=.string tl,
 fun v w=>v=.int .i64 (tl.size:Nat),
 fun v w=>v=.int .i64 (((X.size:Nat):Int)-((tl.size:Nat):Int)),
 fun v w=>v=.bool false,
 fun v w=>v=.bool false]
theorem Wz(a0:Act)(w0:World)(pb z L m g bc ec:Nat)(ba ea:Option Addr)(X base tl:ByteArray)(Q:Exit->Act->World->Prop)
  (hsz:a0.tmps.size=98) (h0:a0.tmps[0]?=some (.string X)) (h3:a0.tmps[3]?=some (.pointer (some ⟨pb,0,none⟩)))
  (hS:∀W,Below w0.heap.size w0 W->W.cell? ⟨pb,4,none⟩=some (.string tl))
  (hLb:∀W,Below w0.heap.size w0 W->(Instr.loadAt 26 (.pointer (some ⟨pb,0,none⟩))).run Tryz.prog W=.ok (.agg #[.int .i64 (g:Nat),.string base,.slice ba m bc,.slice ea m ec,.string tl]) W)
  (h4:(((L:Nat):Int) != ((X.size:Nat):Int))=false) (hw:IntKind.i64.wrap (((X.size:Nat):Int)-((tl.size:Nat):Int))=((X.size:Nat):Int)-((tl.size:Nat):Int)) (h14:(((z:Nat):Int) != ((X.size:Nat):Int)-((tl.size:Nat):Int))=false)
  (hC1:∀(W:World) (_:Below w0.heap.size w0 W),Calls Tryz.prog 10 #[.agg #[.int .i64 (g:Nat),.string base,.slice ba m bc,.slice ea m ec,.string tl]] W fun e w=>∃v,e=.returned v/\(v=.int .i64 (L:Nat))/\Below W.heap.size W w)
  (hC7:∀(W:World) (_:Below w0.heap.size w0 W),Calls Tryz.prog 11 #[.agg #[.int .i64 (g:Nat),.string base,.slice ba m bc,.slice ea m ec,.string tl]] W fun e w=>∃v,e=.returned v/\(v=.int .i64 (z:Nat))/\Below W.heap.size W w)
  (hQ:∀(y0 y1 y2 y3 y4 y5 y6 y7 y8 y9 y10 y11 y12 y13 y14 y15:Value) (w:World),Below w0.heap.size w0 w->((fun(v:Value) (w:World)=>v=.bool false) y15 w)->Q .normal {a0 with tmps:=[(52,y0),(53,y1),(54,y2),(55,y3),(56,y4),(57,y5),(58,y6),(59,y7),(60,y8),(61,y9),(62,y10),(63,y11),(64,y12),(65,y13),(66,y14),(67,y15)].foldl (fun u p=>u.setIfInBounds p.1 p.2) a0.tmps} w) :
  wpAny Tryz.prog .any jv Q jv.size (Array.replicate jv.size false) a0 w0:=by
 have M:jff (jbW pb z L m g bc ec ba ea X base tl):=⟨fun v x y hb h=>h,fun v x y hb h=>h,fun v x y hb h=>h,fun v x y hb h=>h,fun v x y hb h=>h,fun v x y hb h=>h,fun v x y hb h=>h,fun v x y hb h=>h,fun v x y hb h=>h,fun v x y hb h=>h,fun v x y hb h=>h,fun v x y hb h=>h,fun v x y hb h=>h,fun v x y hb h=>h,fun v x y hb h=>h,fun v x y hb h=>h,trivial⟩
 refine VT a0 w0 yK (pvL (jbW pb z L m g bc ec ba ea X base tl)) (fun x y=>Below x.heap.size x y) (jh8 _ _) (fun x y h g=>h.trans (g.mono h.size)) (fun i v x y _ g h=>JF M g h)
  (fun i o ho=>by unfold yK;rw[ho];rfl)
  (fun i k d hi hk h1 h2=>jd1 i hi k hk (by rw[h1];intro q;cases q) (by rw[h1,h2]))
  (fun i d hi h=>by have:=jfM i hi;rw[h]at this;rw[hsz];exact this)
  (fun i o e ho he hb=>by
   obtain⟨hi,rfl⟩:=Array.getElem?_eq_some_iff.1 ho
   exact jdT ⟨i,hi⟩ e he hb)
  ?step (fun w _=>jh8 _ _) ?fin
 case fin =>
  intro a w hd hs hf hv hR
  obtain⟨y0,hy0,pv0⟩:=hv 0 52 (by decide) rfl
  obtain⟨y1,hy1,pv1⟩:=hv 1 53 (by decide) rfl
  obtain⟨y2,hy2,pv2⟩:=hv 2 54 (by decide) rfl
  obtain⟨y3,hy3,pv3⟩:=hv 3 55 (by decide) rfl
  obtain⟨y4,hy4,pv4⟩:=hv 4 56 (by decide) rfl
  obtain⟨y5,hy5,pv5⟩:=hv 5 57 (by decide) rfl
  obtain⟨y6,hy6,pv6⟩:=hv 6 58 (by decide) rfl
  obtain⟨y7,hy7,pv7⟩:=hv 7 59 (by decide) rfl
  obtain⟨y8,hy8,pv8⟩:=hv 8 60 (by decide) rfl
  obtain⟨y9,hy9,pv9⟩:=hv 9 61 (by decide) rfl
  obtain⟨y10,hy10,pv10⟩:=hv 10 62 (by decide) rfl
  obtain⟨y11,hy11,pv11⟩:=hv 11 63 (by decide) rfl
  obtain⟨y12,hy12,pv12⟩:=hv 12 64 (by decide) rfl
  obtain⟨y13,hy13,pv13⟩:=hv 13 65 (by decide) rfl
  obtain⟨y14,hy14,pv14⟩:=hv 14 66 (by decide) rfl
  obtain⟨y15,hy15,pv15⟩:=hv 15 67 (by decide) rfl
  rw[Zc (a:=a) (a0:=a0) [(52,y0),(53,y1),(54,y2),(55,y3),(56,y4),(57,y5),(58,y6),(59,y7),(60,y8),(61,y9),(62,y10),(63,y11),(64,y12),(65,y13),(66,y14),(67,y15)] hd hs (by
   intro p hp
   simp only[jkl,jj7,or_false]at hp
   rcases hp with rfl|rfl|rfl|rfl|rfl|rfl|rfl|rfl|rfl|rfl|rfl|rfl|rfl|rfl|rfl|rfl
   ·exact hy0
   ·exact hy1
   ·exact hy2
   ·exact hy3
   ·exact hy4
   ·exact hy5
   ·exact hy6
   ·exact hy7
   ·exact hy8
   ·exact hy9
   ·exact hy10
   ·exact hy11
   ·exact hy12
   ·exact hy13
   ·exact hy14
   ·exact hy15
   ) (fun j hj=>hf j (fun k hk q=>hj (by
    have:∀k,k<16->(yK k).all (fun d=>[52,53,54,55,56,57,58,59,60,61,62,63,64,65,66,67].contains d)=true:=by decide +kernel
    have h1:=this k hk
    rw[q]at h1
    simpa using h1)))]
  exact hQ y0 y1 y2 y3 y4 y5 y6 y7 y8 y9 y10 y11 y12 y13 y14 y15 w hR pv15
 case step =>
 intro i o a w ho hs hf dep hR
 have hi:i<16:=(Array.getElem?_eq_some_iff.1 ho).1
 have e0:=evT ((hf 0 (by decide +kernel)).trans h0)
 have e3:=evT ((hf 3 (by decide +kernel)).trans h3)
 rcases(by omega:i=0\/i=1\/i=2\/i=3\/i=4\/i=5\/i=6\/i=7\/i=8\/i=9\/i=10\/i=11\/i=12\/i=13\/i=14\/i=15) with rfl|rfl|rfl|rfl|rfl|rfl|rfl|rfl|rfl|rfl|rfl|rfl|rfl|rfl|rfl|rfl
 ·have ho2:some _=some o:=ho
  obtain rfl:=jh9 ho2
  exact .inl ⟨zj rfl,fun K hK=>qI (hLb w hR) rfl e3 (hK _ _ (jh8 _ _) rfl)⟩
 ·have ho2:some _=some o:=ho
  obtain rfl:=jh9 ho2
  obtain⟨_,hv0,rfl⟩:∃v,a.tmps[52]?=some v/\(fun(v:Value) (w:World)=>v=.agg #[.int .i64 (g:Nat),.string base,.slice ba m bc,.slice ea m ec,.string tl]) v w:=dep ⟨0,Ground.data⟩ (by first|simp|simp[jv]) rfl 52 rfl
  exact .inl ⟨zj rfl,fun K hK=>xK 10 rfl (evT hv0) (enters_of (P:=Tryz.prog) Tryz.func10 (by kernel_rfl) rfl) (hC1 w hR) (fun v w' h=>hK v w' h.2 h.1)⟩
 ·have ho2:some _=some o:=ho
  obtain rfl:=jh9 ho2
  exact .inl ⟨zj rfl,fun K hK=>yd rfl e0 (hK _ _ (jh8 _ _) rfl)⟩
 ·have ho2:some _=some o:=ho
  obtain rfl:=jh9 ho2
  obtain⟨_,hv2,rfl⟩:∃v,a.tmps[54]?=some v/\(fun(v:Value) (w:World)=>v=.string X) v w:=dep ⟨2,Ground.data⟩ (by first|simp|simp[jv]) rfl 54 rfl
  exact .inl ⟨zj rfl,fun K hK=>QS rfl (evT hv2) (hK _ _ (jh8 _ _) rfl)⟩
 ·have ho2:some _=some o:=ho
  obtain rfl:=jh9 ho2
  obtain⟨_,hv1,rfl⟩:∃v,a.tmps[53]?=some v/\(fun(v:Value) (w:World)=>v=.int .i64 (L:Nat)) v w:=dep ⟨1,Ground.data⟩ (by first|simp|simp[jv]) rfl 53 rfl
  obtain⟨_,hv3,rfl⟩:∃v,a.tmps[55]?=some v/\(fun(v:Value) (w:World)=>v=.int .i64 (X.size:Nat)) v w:=dep ⟨3,Ground.data⟩ (by first|simp|simp[jv]) rfl 55 rfl
  exact .inl ⟨zj rfl,fun K hK=>jca rfl (evT hv1) (evT hv3) (hK _ _ (jh8 _ _) (congrArg Value.bool (h4)))⟩
 ·have ho2:some _=some o:=ho
  obtain rfl:=jh9 ho2
  obtain⟨_,hv4,rfl⟩:∃v,a.tmps[56]?=some v/\(fun(v:Value) (w:World)=>v=.bool false) v w:=dep ⟨4,Ground.data⟩ (by first|simp|simp[jv]) rfl 56 rfl
  exact .inl ⟨zj rfl,fun K hK=>yd rfl (evT hv4) (hK _ _ (jh8 _ _) rfl)⟩
 ·have ho2:some _=some o:=ho
  obtain rfl:=jh9 ho2
  obtain⟨_,hv5,rfl⟩:∃v,a.tmps[57]?=some v/\(fun(v:Value) (w:World)=>v=.bool false) v w:=dep ⟨5,Ground.guard⟩ (by first|simp|simp[jv]) rfl 57 rfl
  exact .inl ⟨YP (b:=false) rfl (show((jv[5]?).bind (·.dst))=some 57 from rfl) hv5,fun K hK=>qI (hLb w hR) rfl e3 (hK _ _ (jh8 _ _) rfl)⟩
 ·have ho2:some _=some o:=ho
  obtain rfl:=jh9 ho2
  obtain⟨_,hv6,rfl⟩:∃v,a.tmps[58]?=some v/\(fun(v:Value) (w:World)=>v=.agg #[.int .i64 (g:Nat),.string base,.slice ba m bc,.slice ea m ec,.string tl]) v w:=dep ⟨6,Ground.data⟩ (by first|simp|simp[jv]) rfl 58 rfl
  obtain⟨_,hv5,rfl⟩:∃v,a.tmps[57]?=some v/\(fun(v:Value) (w:World)=>v=.bool false) v w:=dep ⟨5,Ground.guard⟩ (by first|simp|simp[jv]) rfl 57 rfl
  exact .inl ⟨YP (b:=false) rfl (show((jv[5]?).bind (·.dst))=some 57 from rfl) hv5,fun K hK=>xK 11 rfl (evT hv6) (enters_of (P:=Tryz.prog) Tryz.func11 (by kernel_rfl) rfl) (hC7 w hR) (fun v w' h=>hK v w' h.2 h.1)⟩
 ·have ho2:some _=some o:=ho
  obtain rfl:=jh9 ho2
  obtain⟨_,hv5,rfl⟩:∃v,a.tmps[57]?=some v/\(fun(v:Value) (w:World)=>v=.bool false) v w:=dep ⟨5,Ground.guard⟩ (by first|simp|simp[jv]) rfl 57 rfl
  exact .inl ⟨YP (b:=false) rfl (show((jv[5]?).bind (·.dst))=some 57 from rfl) hv5,fun K hK=>yd rfl e0 (hK _ _ (jh8 _ _) rfl)⟩
 ·have ho2:some _=some o:=ho
  obtain rfl:=jh9 ho2
  obtain⟨_,hv8,rfl⟩:∃v,a.tmps[60]?=some v/\(fun(v:Value) (w:World)=>v=.string X) v w:=dep ⟨8,Ground.data⟩ (by first|simp|simp[jv]) rfl 60 rfl
  obtain⟨_,hv5,rfl⟩:∃v,a.tmps[57]?=some v/\(fun(v:Value) (w:World)=>v=.bool false) v w:=dep ⟨5,Ground.guard⟩ (by first|simp|simp[jv]) rfl 57 rfl
  exact .inl ⟨YP (b:=false) rfl (show((jv[5]?).bind (·.dst))=some 57 from rfl) hv5,fun K hK=>QS rfl (evT hv8) (hK _ _ (jh8 _ _) rfl)⟩
 ·have ho2:some _=some o:=ho
  obtain rfl:=jh9 ho2
  obtain⟨_,hv5,rfl⟩:∃v,a.tmps[57]?=some v/\(fun(v:Value) (w:World)=>v=.bool false) v w:=dep ⟨5,Ground.guard⟩ (by first|simp|simp[jv]) rfl 57 rfl
  exact .inl ⟨YP (b:=false) rfl (show((jv[5]?).bind (·.dst))=some 57 from rfl) hv5,fun K hK=>JJ (by simp[go_sem]) rfl e3 (hK _ _ (jh8 _ _) rfl)⟩
 ·have ho2:some _=some o:=ho
  obtain rfl:=jh9 ho2
  obtain⟨_,hv10,rfl⟩:∃v,a.tmps[62]?=some v/\(fun(v:Value) (w:World)=>v=.pointer (some ⟨pb,4,none⟩)) v w:=dep ⟨10,Ground.data⟩ (by first|simp|simp[jv]) rfl 62 rfl
  obtain⟨_,hv5,rfl⟩:∃v,a.tmps[57]?=some v/\(fun(v:Value) (w:World)=>v=.bool false) v w:=dep ⟨5,Ground.guard⟩ (by first|simp|simp[jv]) rfl 57 rfl
  exact .inl ⟨YP (b:=false) rfl (show((jv[5]?).bind (·.dst))=some 57 from rfl) hv5,fun K hK=>qI (by simp[go_sem,hS w hR]) rfl (evT hv10) (hK _ _ (jh8 _ _) rfl)⟩
 ·have ho2:some _=some o:=ho
  obtain rfl:=jh9 ho2
  obtain⟨_,hv11,rfl⟩:∃v,a.tmps[63]?=some v/\(fun(v:Value) (w:World)=>v=.string tl) v w:=dep ⟨11,Ground.data⟩ (by first|simp|simp[jv]) rfl 63 rfl
  obtain⟨_,hv5,rfl⟩:∃v,a.tmps[57]?=some v/\(fun(v:Value) (w:World)=>v=.bool false) v w:=dep ⟨5,Ground.guard⟩ (by first|simp|simp[jv]) rfl 57 rfl
  exact .inl ⟨YP (b:=false) rfl (show((jv[5]?).bind (·.dst))=some 57 from rfl) hv5,fun K hK=>QS rfl (evT hv11) (hK _ _ (jh8 _ _) rfl)⟩
 ·have ho2:some _=some o:=ho
  obtain rfl:=jh9 ho2
  obtain⟨_,hv9,rfl⟩:∃v,a.tmps[61]?=some v/\(fun(v:Value) (w:World)=>v=.int .i64 (X.size:Nat)) v w:=dep ⟨9,Ground.data⟩ (by first|simp|simp[jv]) rfl 61 rfl
  obtain⟨_,hv12,rfl⟩:∃v,a.tmps[64]?=some v/\(fun(v:Value) (w:World)=>v=.int .i64 (tl.size:Nat)) v w:=dep ⟨12,Ground.data⟩ (by first|simp|simp[jv]) rfl 64 rfl
  obtain⟨_,hv5,rfl⟩:∃v,a.tmps[57]?=some v/\(fun(v:Value) (w:World)=>v=.bool false) v w:=dep ⟨5,Ground.guard⟩ (by first|simp|simp[jv]) rfl 57 rfl
  exact .inl ⟨YP (b:=false) rfl (show((jv[5]?).bind (·.dst))=some 57 from rfl) hv5,fun K hK=>jfK hw rfl (evT hv9) (evT hv12) (hK _ _ (jh8 _ _) rfl)⟩
 ·have ho2:some _=some o:=ho
  obtain rfl:=jh9 ho2
  obtain⟨_,hv7,rfl⟩:∃v,a.tmps[59]?=some v/\(fun(v:Value) (w:World)=>v=.int .i64 (z:Nat)) v w:=dep ⟨7,Ground.data⟩ (by first|simp|simp[jv]) rfl 59 rfl
  obtain⟨_,hv13,rfl⟩:∃v,a.tmps[65]?=some v/\(fun(v:Value) (w:World)=>v=.int .i64 (((X.size:Nat):Int)-((tl.size:Nat):Int))) v w:=dep ⟨13,Ground.data⟩ (by first|simp|simp[jv]) rfl 65 rfl
  obtain⟨_,hv5,rfl⟩:∃v,a.tmps[57]?=some v/\(fun(v:Value) (w:World)=>v=.bool false) v w:=dep ⟨5,Ground.guard⟩ (by first|simp|simp[jv]) rfl 57 rfl
  exact .inl ⟨YP (b:=false) rfl (show((jv[5]?).bind (·.dst))=some 57 from rfl) hv5,fun K hK=>jca rfl (evT hv7) (evT hv13) (hK _ _ (jh8 _ _) (congrArg Value.bool (h14)))⟩
 have ho2:some _=some o:=ho
 obtain rfl:=jh9 ho2
 obtain⟨_,hv5,rfl⟩:∃v,a.tmps[57]?=some v/\(fun(v:Value) (w:World)=>v=.bool false) v w:=dep ⟨5,Ground.data⟩ (by first|simp|simp[jv]) rfl 57 rfl
 obtain⟨_,hv14,rfl⟩:∃v,a.tmps[66]?=some v/\(fun(v:Value) (w:World)=>v=.bool false) v w:=dep ⟨14,Ground.data⟩ (by first|simp|simp[jv]) rfl 66 rfl
 exact .inl ⟨zj rfl,fun K hK=>jfL rfl (evT hv5) rfl (evT hv14) rfl (hK _ _ (jh8 _ _) rfl)⟩
end Go.Proofs.YtmdhainabeljpaaGreatDoor
namespace Go.Proofs.YtmdhainabeljpaaGreatDoor.Bk
open Go.RowKit Go.Shelf
attribute [local go_sem] jil
theorem YL(lo:Nat)(w:World):yg lo w Ze 0 [] [] []:=⟨_,_,[],rfl,Qs.nil _ _,⟨rfl,.inl ⟨rfl,rfl⟩⟩⟩
theorem yg.only{lo:Nat}{w w':World}{S:Nat->Prop}{v:Value}{n:Nat}{base tail:List UInt8}{bds:List (List UInt8)}(h:yg lo w v n base bds tail)(o:zH S w w')(hS:∀r,lo<=r->¬S r):yg lo w' v n base bds tail:=by
 obtain⟨bv,ev,us,h1,h2,h3⟩:=h.is
 refine⟨bv,ev,us,h1,⟨zf h2.row o (fun b e q=>hS b (h2.row.lt b e).1 q),fun i b u e1 e2 => ?_⟩,zf h3 o (fun b e q=>hS b (h3.lt b e).1 q)⟩
 obtain⟨fvs,ho⟩:=h2.each i b u e1 e2
 exact⟨fvs,zf ho.row o (fun b e q=>hS b (ho.row.lt b e).1 q),ho.len,fun i ed fv h1 h2=>zf (ho.each i ed fv h1 h2) o (fun b e q=>hS b ((ho.each i ed fv h1 h2).lt b e).1 q)⟩
theorem XJ(t:List UInt8)(ht:120000<t.length)(w:World):
  Calls Tryz.prog 5 #[.string (B t)] w fun e w'=>Below w.heap.size w w'/\e=.returned (.tuple #[Ze,Zy 1]):=by
 have hsz:(B t).size=t.length:=je t
 have q1:(120000:Int)<((B t).size:Int):=by omega
 obtain⟨w0,hw0⟩:∃z,w.alloc (.cells #[.int .i64 0,.string ⟨#[]⟩,.slice none 0 0,.slice none 0 0,.string ⟨#[]⟩] 26)=z:=⟨_,rfl⟩
 have hb0:Below w.heap.size w w0:=by rw[<- hw0];exact(jh8 _ w).alloc (jh6 _) _
 have C0:jd w0 w.heap.size 26 #[.int .i64 0,.string ⟨#[]⟩,.slice none 0 0,.slice none 0 0,.string ⟨#[]⟩]:=by rw[<- hw0];exact jd.new _ _ _
 obtain⟨hput,honly⟩:=jdD C0 (.int .i64 0) (.string ⟨#[]⟩) (.slice none 0 0) (.slice none 0 0) (.string ⟨#[]⟩)
 have HBF:=jh5 (hb0.trans (honly.to_below hb0.size (fun r hr e=>by omega)))
 have HPUT:=jh5 hput
 have HW0:=jh5 hw0
 have c0:=C0.cell 0
 have c1:=C0.cell 1
 have c2:=C0.cell 2
 have c3:=C0.cell 3
 have c4:=C0.cell 4
 have f0:=C0.frozen 0
 have f1:=C0.frozen 1
 have f2:=C0.frozen 2
 have f3:=C0.frozen 3
 have f4:=C0.frozen 4
 simp only[jie,jid,jib]at c0 c1 c2 c3 c4
 rw[zk 1 (by decide)]
 clear hb0 C0 hput honly hw0
 go_enter Tryz.func5,Tryz.ntmps5
 go_upto_region 1 with fail
 rw[HW0.out]
 go_wp2_with fail
 refine bodyPost_ret (QB rfl _ _ w.heap.size _ rfl HPUT.out rfl) rfl ?_
 exact⟨HBF.out,rfl⟩
theorem VG(t:List UInt8)(ht:120000<t.length)(w:World):
  Calls Tryz.prog 6 #[.string (B t)] w fun e w'=>Below w.heap.size w w'/\e=.returned (.tuple #[Ze,.int .i64 (-9),.int .i64 1]):=by
 have hsz:(B t).size=t.length:=je t
 have q1:(120000:Int)<((B t).size:Int):=by omega
 obtain⟨w0,hw0⟩:∃z,w.alloc (.cells #[.int .i64 0,.string ⟨#[]⟩,.slice none 0 0,.slice none 0 0,.string ⟨#[]⟩] 31)=z:=⟨_,rfl⟩
 have hb0:Below w.heap.size w w0:=by rw[<- hw0];exact(jh8 _ w).alloc (jh6 _) _
 have C0:jd w0 w.heap.size 31 #[.int .i64 0,.string ⟨#[]⟩,.slice none 0 0,.slice none 0 0,.string ⟨#[]⟩]:=by rw[<- hw0];exact jd.new _ _ _
 obtain⟨hput,honly⟩:=jdD C0 (.int .i64 0) (.string ⟨#[]⟩) (.slice none 0 0) (.slice none 0 0) (.string ⟨#[]⟩)
 have HBF:=jh5 (hb0.trans (honly.to_below hb0.size (fun r hr e=>by omega)))
 have HPUT:=jh5 hput
 have HW0:=jh5 hw0
 have c0:=C0.cell 0
 have c1:=C0.cell 1
 have c2:=C0.cell 2
 have c3:=C0.cell 3
 have c4:=C0.cell 4
 have f0:=C0.frozen 0
 have f1:=C0.frozen 1
 have f2:=C0.frozen 2
 have f3:=C0.frozen 3
 have f4:=C0.frozen 4
 simp only[jie,jid,jib]at c0 c1 c2 c3 c4
 clear hb0 C0 hput honly hw0
 go_enter Tryz.func6,Tryz.ntmps6
 go_upto_region 1 with fail
 rw[HW0.out]
 go_wp2_with fail
 refine bodyPost_ret (Kf rfl _ _ w.heap.size _ rfl HPUT.out rfl) rfl ?_
 exact⟨HBF.out,rfl⟩
theorem Km(t:List UInt8)(hlen:t.length<=6000\/120000<t.length)(a:Int)(k:Nat)(hk:k≠0)(w:World)(hT:XP w)
  (P:∀W,Below w.heap.size w W->Calls Tryz.prog 5 #[.string (B t)] W fun e W'=>Below W.heap.size W W'/\∃u,e=.returned (.tuple #[Ze,u])/\yR W.heap.size W' u a k)
  (R:∀W,Calls Tryz.prog 6 #[.string (B t)] W fun e W'=>Below W.heap.size W W'/\e=.returned (.tuple #[Ze,.int .i64 a,.int .i64 k])) :
  Calls Tryz.prog 3 #[.string (B t)] w fun e w'=>e=.returned (.bool true)/\Below w.heap.size w w':=by
 have AL:=jh5 (Uv w hT)
 have HP:=jh5 P
 have HR:=jh5 R
 have hsz:(B t).size=t.length:=je t
 have hnn:∀t:Int,((t==t)=true):=fun t=>by simp
 have q9:((k:Int) != 0)=true:=by simp;exact hk
 have SM:Hid (∀W,Calls Tryz.prog 7 #[Ze,Ze] W fun e w'=>e=.returned (.bool true)/\Below W.heap.size W w'):=fun W=>YV (YL 0 W) (YL 0 W) (fun b h=>by cases h) (by decide)
 have hq:(¬(6000:Int)<((B t).size:Int))\/((6000:Int)<((B t).size:Int)/\¬((B t).size:Int)<=120000):=by
  rcases hlen with h|h
  ·exact .inl (by omega)
  exact .inr ⟨by omega,by omega⟩
 unfold Ze Jr at *
 clear P R hT hlen hk
 rcases hq with q1|⟨q1,q2⟩
 all_goals
  go_enter Tryz.func3,Tryz.ntmps3
  go_wp2_with fail
  refine AL.out.mono ?_
  rintro e w1 ⟨rfl,b1⟩
  have B1:=jh5 b1
  clear b1
  go_wp2_with fail
  refine(HP.out w1 B1.out).mono ?_
  rintro e w2 ⟨b2,u,rfl,ez⟩
  obtain⟨w3,hw3⟩:∃z,w2.alloc (.cells #[.int .i64 0,.string (B []),.slice none 0 0,.slice none 0 0,.string (B [])] 26)=z:=⟨_,rfl⟩
  have b23:Below w2.heap.size w2 w3:=by rw[<- hw3];exact(jh8 _ _).alloc (jh6 _) _
  have C3:jd w3 w2.heap.size 26 #[.int .i64 0,.string (B []),.slice none 0 0,.slice none 0 0,.string (B [])]:=by rw[<- hw3];exact jd.new _ _ _
  have B2:=jh5 (B1.out.trans (b2.mono B1.out.size))
  have B3:=jh5 (B2.out.trans (b23.mono B2.out.size))
  have EZ:=jh5 (ez.below b23 (jh6 _))
  have HW3:=jh5 hw3
  have HC3:=jh5 C3
  clear b2 ez b23 hw3 C3
  go_wp2_with fail
  rw[HW3.out]
  refine(HR.out w3).mono ?_
  rintro e w4 ⟨b4,rfl⟩
  obtain⟨w5,hw5⟩:∃z,w4.alloc (.cells #[.int .i64 0,.string (B []),.slice none 0 0,.slice none 0 0,.string (B [])] 31)=z:=⟨_,rfl⟩
  have b45:Below w4.heap.size w4 w5:=by rw[<- hw5];exact(jh8 _ _).alloc (jh6 _) _
  have C5:jd w5 w4.heap.size 31 #[.int .i64 0,.string (B []),.slice none 0 0,.slice none 0 0,.string (B [])]:=by rw[<- hw5];exact jd.new _ _ _
  have b35:=b4.trans (b45.mono b4.size)
  have B5:=jh5 (B3.out.trans (b35.mono B3.out.size))
  have EZ5:=jh5 (EZ.out.below b35 (jh6 _))
  have HW5:=jh5 hw5
  have k3:=jb HC3.out b35 HC3.out.lt
  have a0:=k3.cell 0
  have a1:=k3.cell 1
  have a2:=k3.cell 2
  have a3:=k3.cell 3
  have a4:=k3.cell 4
  simp only[jie,jid,jib]at a0 a1 a2 a3 a4
  rw[<- hw5]at a0 a1 a2 a3 a4
  clear b4 b45 C5 hw5 b35 k3 EZ
  go_wp2_with fail
  rw[HW5.out]
  refine(SM.out w5).mono ?_
  rintro e w6 ⟨rfl,b6⟩
  have B6:=jh5 (B5.out.trans (b6.mono B5.out.size))
  have EZ6:=jh5 (EZ5.out.below b6 (jh6 _))
  clear b6 EZ5 a0 a1 a2 a3 a4
  go_wp2_with fail
  refine(jgN EZ6.out).mono ?_
  rintro e V ⟨rfl,rfl⟩
  go_wp2_with fail
  refine(jhW EZ6.out).mono ?_
  rintro e V ⟨rfl,rfl⟩
  go_wp2_with fail
  go_ret
  exact⟨rfl,B6.out⟩
theorem jhs.sound{w w':World}{t base tail:List UInt8}{n:Nat}{bds:List (List UInt8)}{e:Ending}(h:jhs w w' t e)(s:xO Dc t n base bds tail):
  Below w.heap.size w w'/\∃v,e=.returned (.tuple #[v,.int .i64 (-9),.int .i64 0])/\yg w.heap.size w' v n base bds tail:=by
 have h0:=h
 obtain⟨hb,_⟩:=h0
 refine⟨hb,?_⟩
 obtain⟨_,h⟩:=h
 rcases h with ⟨a,k,h1,_⟩|⟨its,bds',r,h1,h2,h3,_⟩|⟨base',bds',tail',v,s',e1,hB⟩
 ·exact(Qf.not (.inl h1) s).elim
 ·exact(Qf.not (.inr ⟨rfl,its,bds',r,h1,h2,h3,rfl⟩) s).elim
 obtain⟨e2,rfl,rfl,rfl⟩:=s.same s'
 rw[e2]
 exact⟨v,e1,hB⟩
theorem jax(t:List UInt8)(ht:t.length<=6000){n:Nat}{base tail:List UInt8}{bds:List (List UInt8)}(hS:xO Dc t n base bds tail)(w:World)(hT:XP w):
  Calls Tryz.prog 3 #[.string (B t)] w fun e w'=>e=.returned (.bool true)/\Below w.heap.size w w':=by
 have AL:=jh5 (Uv w hT)
 have TB:Hid (∀W,Below w.heap.size w W->XP W):=fun W hW=>hT.below hW (jh6 _)
 have HS:=jh5 hS
 have hsz:(B t).size=t.length:=je t
 have htz:(B tail).size=tail.length:=je tail
 have hnn:∀t:Int,((t==t)=true):=fun t=>by simp
 have q1:¬(6000:Int)<((B t).size:Int):=by omega
 have PT:=hS.parts
 have hWl:jN n base bds<=t.length:=by have:=PT.len;omega
 have hbl:bds.length<=jN n base bds:=by have:=Vs bds;unfold jN;omega
 have hPL:=PT.len
 have RD:Hid (∀W,Below w.heap.size w W->Calls Tryz.prog 5 #[.string (B t)] W fun e w'=>jbf W w' t e):=fun W hW=>vY t (by omega) (by have:=xM t (hl (Hd.genP t));omega) W (TB.out W hW)
 have RR:Hid (∀W,Calls Tryz.prog 6 #[.string (B t)] W fun e w'=>jhs W w' t e):=fun W=>JD t ht W
 have HD:=jh5 (fun(b:List UInt8) (h:b∈bds)=>(hS.recd.good b h).2)
 clear hT hS PT
 go_enter Tryz.func3,Tryz.ntmps3
 go_wp2_with fail
 refine AL.out.mono ?_
 rintro e w1 ⟨rfl,b1⟩
 have B1:=jh5 b1
 clear b1 AL
 go_wp2_with fail
 refine(RD.out w1 B1.out).mono ?_
 rintro e w2 hr
 obtain⟨b2,v2,rfl,hBR⟩:=hr.sound HS.out
 have BRa:=jh5 hBR
 obtain⟨bv,ev,us,rfl,hBt,hEv⟩:=hBR.is
 obtain⟨ba,bc,rfl,_⟩:=jg hBt.row
 obtain⟨ea,ec,rfl,_⟩:=jg hEv
 unfold Jr at *
 obtain⟨w3,hw3⟩:∃z,w2.alloc (.cells #[.int .i64 (n:Int),.string (B base),.slice ba bds.length bc,.slice ea bds.length ec,.string (B tail)] 26)=z:=⟨_,rfl⟩
 obtain⟨b23,C3⟩:=jc7 hw3
 have B2:=jh5 (B1.out.trans (b2.mono B1.out.size))
 have B3:=jh5 (B2.out.trans (b23.mono B2.out.size))
 have HB23:=jh5 b23
 have HBT:=jh5 hBt
 have HW3:=jh5 hw3
 have HC3:=jh5 C3
 have hz12:=b2.size
 have hz23:=b23.size
 clear hr hBR hBt hEv b2 b23 C3 hw3
 go_wp2_with fail
 rw[HW3.out]
 refine(RR.out w3).mono ?_
 rintro e w4 hr
 obtain⟨b4,v4,rfl,hBR⟩:=hr.sound HS.out
 have BRb:=jh5 hBR
 obtain⟨bv',ev',us',rfl,hBt',hEv'⟩:=hBR.is
 obtain⟨ba',bc',rfl,_⟩:=jg hBt'.row
 obtain⟨ea',ec',rfl,_⟩:=jg hEv'
 unfold Jr at *
 obtain⟨w5,hw5⟩:∃z,w4.alloc (.cells #[.int .i64 (n:Int),.string (B base),.slice ba' bds.length bc',.slice ea' bds.length ec',.string (B tail)] 31)=z:=⟨_,rfl⟩
 have b45:Below w4.heap.size w4 w5:=by rw[<- hw5];exact(jh8 _ _).alloc (jh6 _) _
 have C5:jd w5 w4.heap.size 31 #[.int .i64 (n:Int),.string (B base),.slice ba' bds.length bc',.slice ea' bds.length ec',.string (B tail)]:=by rw[<- hw5];exact jd.new _ _ _
 have b35:=b4.trans (b45.mono b4.size)
 have B5:=jh5 (B3.out.trans (b35.mono B3.out.size))
 have B25:=jh5 (HB23.out.trans (b35.mono HB23.out.size))
 have BRb5:=jh5 (BRb.out.below b45)
 have HW5:=jh5 hw5
 have HC5:=jh5 C5
 have HC35:=jh5 (jb HC3.out b35 HC3.out.lt)
 have SM:=jh5 (YV (BRa.out.below B25.out) BRb5.out HD.out (by omega))
 have hz34:=b4.size
 have hz45:=b45.size
 have a0:=HC35.out.cell 0
 have a1:=HC35.out.cell 1
 have a2:=HC35.out.cell 2
 have a3:=HC35.out.cell 3
 have a4:=HC35.out.cell 4
 simp only[jie,jid,jib]at a0 a1 a2 a3 a4
 rw[<- hw5]at a0 a1 a2 a3 a4
 clear hr hBR hBt' hEv' b4 b45 b35 C5 hw5 BRb
 go_wp2_with fail
 rw[HW5.out]
 refine SM.out.mono ?_
 rintro e w6 ⟨rfl,b6⟩
 have B6:=jh5 (B5.out.trans (b6.mono B5.out.size))
 have HB56:=jh5 b6
 have B26:=jh5 (B25.out.trans (b6.mono B25.out.size))
 clear b6 a0 a1 a2 a3 a4 SM
 go_wp2_with fail
 refine(jgN (yR.none 0 w6)).mono ?_
 rintro e w6 ⟨rfl,rfl⟩
 go_wp2_with fail
 refine(jhW (yR.none 0 w6)).mono ?_
 rintro e w6 ⟨rfl,rfl⟩
 go_upto_region 11 with fail
 have DR:Hid (Below w6.heap.size w6 w6.drew):=(jh8 _ _).drew
 have HCb:=jh5 (jb HC35.out HB56.out HC35.out.lt)
 have HSx:Hid (∀W',Below w6.drew.heap.size w6.drew W'->W'.cell? ⟨w2.heap.size,4,none⟩=some (.string (B tail))):=fun W' hW=>by
  have t4:=(jb HCb.out (DR.out.trans hW) HCb.out.lt).cell 4
  simp only[jie,jid,jib]at t4
  exact t4
 have HLb:Hid (∀W',Below w6.drew.heap.size w6.drew W'->(Instr.loadAt 26 (.pointer (some ⟨w2.heap.size,0,none⟩))).run Tryz.prog W'=.ok (.agg #[.int .i64 (n:Nat),.string (B base),.slice ba bds.length bc,.slice ea bds.length ec,.string (B tail)]) W'):=fun W' hW=>by
  have kb:=jb HCb.out (DR.out.trans hW) HCb.out.lt
  have t0:=kb.cell 0
  have t1:=kb.cell 1
  have t2:=kb.cell 2
  have t3:=kb.cell 3
  have t4:=kb.cell 4
  simp only[jie,jid,jib]at t0 t1 t2 t3 t4
  simp[go_sem,t0,t1,t2,t3,t4]
 have BR6:Hid (∀W',Below w6.drew.heap.size w6.drew W'->yg w1.heap.size W' (.agg #[.int .i64 (n:Int),.string (B base),.slice ba bds.length bc,.slice ea bds.length ec,.string (B tail)]) n base bds tail/\XP W'):=fun W' hW =>
  ⟨BRa.out.below (B26.out.trans ((DR.out.trans hW).mono B26.out.size)),TB.out W' (B6.out.trans ((DR.out.trans hW).mono B6.out.size))⟩
 have h4:(((jN n base bds+tail.length:Nat):Int) != (((B t).size:Nat):Int))=false:=by rw[hsz,hPL];simp
 have hw:IntKind.i64.wrap ((((B t).size:Nat):Int)-(((B tail).size:Nat):Int))=(((B t).size:Nat):Int)-(((B tail).size:Nat):Int):=jiz _ (by omega)
 have h14:(((jN n base bds:Nat):Int) != (((B t).size:Nat):Int)-(((B tail).size:Nat):Int))=false:=by
  rw[hsz,htz,hPL,show(((jN n base bds+tail.length:Nat):Int)-(tail.length:Int))=((jN n base bds:Nat):Int) by omega];simp
 refine wp_region_any (by kernel_rfl) ?_
 refine Wz _ w6.drew w2.heap.size (jN n base bds) (jN n base bds+tail.length) bds.length n bc ec ba ea (B t) (B base) (B tail) _ rfl rfl rfl HSx.out HLb.out h4 hw h14
  (fun W' hW=>(Bk.size_any (BR6.out W' hW).1 (by omega) (BR6.out W' hW).2).mono fun e w' ⟨h1,h2⟩=>⟨_,h1,rfl,h2⟩)
  (fun W' hW=>(Jw (BR6.out W' hW).1 (by omega) (BR6.out W' hW).2).mono fun e w' ⟨h1,h2⟩=>⟨_,h1,rfl,h2⟩) ?hQ
 case hQ =>
 intro y0 y1 y2 y3 y4 y5 y6 y7 y8 y9 y10 y11 y12 y13 y14 y15 w7 hb7 hy15
 have hy:y15=.bool false:=hy15
 subst hy
 have H67:=jh5 (DR.out.trans hb7)
 have B7:=jh5 (B6.out.trans (H67.out.mono B6.out.size))
 have B27:=jh5 (B26.out.trans (H67.out.mono B26.out.size))
 have B57:=jh5 (HB56.out.trans (H67.out.mono HB56.out.size))
 have HCb7:=jh5 (jb HCb.out H67.out HCb.out.lt)
 have HCw7:=jh5 (jb HC5.out B57.out HC5.out.lt)
 have BRb7:=jh5 (BRb5.out.below B57.out)
 have hz27:=B27.out.size
 have z2:=HCb7.out.cell 2
 simp only[jie,jid,jib]at z2
 clear hb7 hy15 HSx HLb BR6 h4 hw h14 DR
 simp only[List.foldl,jiw,jiU,jiV]
 go_wp2_with fail
 go_loopw [71] (fun iv wr=>∃j:Nat,j<=bds.length/\iv=.int .i64 (j:Nat)/\zn (fun r=>w1.heap.size<=r/\r<w2.heap.size) w7 wr) (fun iv _=>bds.length-(intOf iv).toNat)
 case atStart=>exact⟨0,jii _,rfl,zn.refl _ _⟩
 case round =>
 obtain⟨j,hj,rfl,hs⟩:=hrel
 by_cases hlt:j<bds.length
 ·obtain⟨b,hbj⟩:∃b,bds[j]?=some b:=⟨_,jia hlt⟩
  have T7:=jh5 (HBT.out.below B27.out)
  obtain⟨u,hu⟩:∃u,us[j]?=some u:=⟨_,jia (by rw[T7.out.len];exact hlt)⟩
  obtain⟨fvs,ho2⟩:=HBT.out.each j b u hbj hu
  have HO2:=jh5 ho2
  obtain⟨oa,oc,rfl,_⟩:=jg ho2.row
  have rowB:=Yd T7.out.row hs (by decide)
  obtain⟨gb,ob,rfl,hgb,v1⟩:=Ur rowB hu hlt
  have hdb:=HD.out b (jim hbj)
  have hfin:(vO b).length<=40/\jgw (vO b):=by
   unfold Dc at hdb
   cases he:Jt b with
   | none=>rw[he]at hdb;cases hdb
   | some eds=>unfold vO;rw[he];exact KS he
  have HFI:=jh5 hfin
  have hl40:=hfin.1
  have HSP:=jh5 hs
  clear ho2 rowB hdb hbj hu hs hfin
  go_wp2_with fail
  go_loopw [77] (fun iv wi=>∃i:Nat,i<=(vO b).length/\iv=.int .i64 (i:Nat)/\zn (fun r=>w1.heap.size<=r/\r<w2.heap.size) w7 wi) (fun iv _=>(vO b).length-(intOf iv).toNat)
  case atStart=>exact⟨0,jii _,rfl,HSP.out⟩
  case round =>
  obtain⟨i,hi,rfl,hs⟩:=hrel
  by_cases hlt2:i<(vO b).length
  ·obtain⟨ed,hed⟩:∃ed,(vO b)[i]?=some ed:=⟨_,jia hlt2⟩
   obtain⟨fv,hfv⟩:∃fv,fvs[i]?=some fv:=⟨_,jia (by rw[HO2.out.len];exact hlt2)⟩
   have rowE:=Yd (jJ HO2.out.row B27.out (jh6 _)) hs (by decide)
   obtain⟨a0,a1,a2⟩:=JT (vO b) fvs i ed fv hed hfv
   have hfr:=HO2.out.each i ed fv hed hfv
   obtain⟨fa,fc,rfl,_⟩:=jg hfr
   have hm:=(HFI.out.2 ed (jim hed)).len
   have MP:=((Kx hfr (jh6 _)).below B27.out (jh6 _)).spoils hs
   have SP:Hid (∀o,Calls Tryz.prog 12 #[.slice fa ed.fields.length fc] (wr.alloc o) fun e w'=>e=.returned (.tuple #[])/\zn (fun r=>w1.heap.size<=r/\r<w2.heap.size) (wr.alloc o) w'):=fun o =>
    jal ed.fields.length _ _ _ (MP.below ((jh8 wr.heap.size wr).alloc (jh6 _) o) (jh6 _)) (by omega)
   have HS2:=jh5 hs
   rcases jiY rowE with ⟨_,hn⟩|⟨g,cap,e⟩
   ·omega
   injection e with e3 _ e4
   subst e3
   subst e4
   have c0:wr.cell? ⟨g,i*3,none⟩=some (.int .i64 ed.kind):=by rw[jin rowE (i*3) (by omega)];exact a0
   have c1:wr.cell? ⟨g,i*3+1,none⟩=some (.int .i64 ed.id):=by rw[jin rowE (i*3+1) (by omega)];exact a1
   have c2:wr.cell? ⟨g,i*3+1+1,none⟩=some (.slice fa ed.fields.length fc):=by rw[jin rowE (i*3+1+1) (by omega)];exact a2
   clear rowE a0 a1 a2 hfr MP hs hed hfv
   go_wp2_with fail
   refine(SP.out _).mono ?_
   rintro e w12 ⟨rfl,hs2⟩
   have HS3:=jh5 ((HS2.out.alloc _).trans hs2)
   clear hs2 SP
   go_wp2_with fail
   go_roundw
   case rel=>exact⟨i+1,hlt2,by go_num,HS3.out⟩
   case measure=>simp[intOf];omega
  have HS2:=jh5 hs
  clear hs
  go_wp2_with fail
  go_roundw
  case rel=>exact⟨j+1,hlt,by go_num,HS2.out⟩
  case measure=>simp[intOf];omega
 have bs:=hs.below (lo:=w1.heap.size) (fun r q=>q.1) (by omega)
 have BF:=jh5 (B7.out.trans (bs.mono B1.out.size))
 have BRR:=jh5 (BRb7.out.only hs.only (fun r hr q=>by omega))
 have HCR:=jh5 (hs.kept HCw7.out (by decide))
 have RDR:=jh5 (RD.out wr BF.out)
 clear hs bs
 go_wp2_with fail
 refine RDR.out.mono ?_
 rintro e w8 hr
 obtain⟨b8,v8,rfl,hBR⟩:=hr.sound HS.out
 have BRc:=jh5 hBR
 obtain⟨bvz,evz,usz,rfl,hBtz,hEvz⟩:=hBR.is
 obtain⟨baz,bcz,rfl,_⟩:=jg hBtz.row
 obtain⟨eaz,ecz,rfl,_⟩:=jg hEvz
 unfold Jr at *
 obtain⟨w9,hw9⟩:∃z,w8.alloc (.cells #[.int .i64 (n:Int),.string (B base),.slice baz bds.length bcz,.slice eaz bds.length ecz,.string (B tail)] 26)=z:=⟨_,rfl⟩
 obtain⟨b89,C9⟩:=jc7 hw9
 have b9:=b8.trans (b89.mono b8.size)
 have B9:=jh5 (BF.out.trans (b9.mono BF.out.size))
 have SM9:=jh5 (YV (BRc.out.below b89) (BRR.out.below b9) HD.out (by omega))
 have HW9:=jh5 hw9
 have kw:=jb HCR.out b9 HCR.out.lt
 have a0:=kw.cell 0
 have a1:=kw.cell 1
 have a2:=kw.cell 2
 have a3:=kw.cell 3
 have a4:=kw.cell 4
 simp only[jie,jid,jib]at a0 a1 a2 a3 a4
 rw[<- hw9]at a0 a1 a2 a3 a4
 clear hr hBR hBtz hEvz b8 b89 b9 C9 hw9 kw BRc
 go_wp2_with fail
 rw[HW9.out]
 refine SM9.out.mono ?_
 rintro e w10 ⟨rfl,b10⟩
 have B10:=jh5 (B9.out.trans (b10.mono B9.out.size))
 clear b10 SM9 a0 a1 a2 a3 a4
 go_wp2_with fail
 go_ret
 exact⟨rfl,B10.out⟩
theorem readsCall(s:ByteArray)(W:World)(_:s.size<=maxLen)(hT:XP W):
  Calls Tryz.prog 3 #[.string s] W fun e w'=>e=.returned (.bool true)/\Below W.heap.size W w':=by
 obtain⟨t,ht⟩:∃t,s.data.toList=t:=⟨_,rfl⟩
 have es:s=B t:=by rw[<- ht,jbh]
 subst es
 have hsz:(B t).size=t.length:=je t
 by_cases hmid:6000<t.length/\t.length<=120000
 ·have AL:=jh5 (Uv W hT)
  have q1:(6000:Int)<((B t).size:Int):=by omega
  have q2:((B t).size:Int)<=120000:=by omega
  clear hT
  go_enter Tryz.func3,Tryz.ntmps3
  go_wp2_with fail
  refine AL.out.mono ?_
  rintro e w1 ⟨rfl,b1⟩
  go_wp2_with fail
  go_ret
  exact⟨rfl,b1⟩
 by_cases hlong:120000<t.length
 ·exact Km t (.inr hlong) (-9) 1 (by decide) W hT
   (fun W' _=>(XJ t hlong W').mono fun e w' ⟨hb,he⟩=>⟨hb,_,he,yR.err _ _ 1 (by decide)⟩)
   (fun W'=>VG t hlong W')
 have h6:t.length<=6000:=by omega
 by_cases hs:∃n base bds tail,xO Dc t n base bds tail
 ·obtain⟨n,base,bds,tail,hS⟩:=hs
  exact jax t h6 hS W hT
 by_cases hb:∃a k,Qf t a k
 ·obtain⟨a,k,hbad⟩:=hb
  refine Km t (.inl h6) a k hbad.num.1 W hT (fun W' hW => ?_) (fun W' => ?_)
  ·refine(vY t (by omega) (by have:=xM t (hl (Hd.genP t));omega) W' (hT.below hW (jh6 _))).mono fun e w' hr => ?_
   obtain⟨hb,h⟩:=hr.two
   rcases h with ⟨a',k',u,h1,h2,h3⟩|⟨n,base,bds,tail,v,hS,_⟩
   ·obtain⟨rfl,rfl⟩:=hbad.one h1
    exact⟨hb,u,h2,hbad.num.2,.inr ⟨a,h3,rfl,hbad.num.1⟩⟩
   exact(hs ⟨_,_,_,_,hS⟩).elim
  refine(JD t h6 W').mono fun e w' hr => ?_
  obtain⟨hb,h⟩:=hr
  refine⟨hb,?_⟩
  rcases h with ⟨a',k',h1,h2⟩|⟨its,bds',r,h1,h2,h3,h4⟩|⟨base',bds',tail',v,s',_⟩
  ·obtain⟨rfl,rfl⟩:=hbad.one (.inl h1)
   exact h2
  ·obtain⟨rfl,rfl⟩:=hbad.one (.inr ⟨rfl,its,bds',r,h1,h2,h3,rfl⟩)
   exact h4
  exact(hs ⟨_,_,_,_,s'⟩).elim
 obtain⟨e,w',_,hr,_⟩:=(vY t (by omega) (by have:=xM t (hl (Hd.genP t));omega) W hT) []
 obtain⟨_,h⟩:=hr.two
 rcases h with ⟨a,k,u,h1,_⟩|⟨n,base,bds,tail,v,hS,_⟩
 ·exact(hb ⟨a,k,h1⟩).elim
 exact(hs ⟨n,base,bds,tail,hS⟩).elim
end Go.Proofs.YtmdhainabeljpaaGreatDoor.Bk
