/- Texts put together:OB,VA,VM,VE,VB. -/
import Derived.Test.YtpibhbjmcmfnmaaGreatDoorProg
import Derived.WalkKit
import Derived.Maps.Own
import Derived.Maps.OwnSet
import Derived.Maps.AppendAt
import Derived.Lib.Hide
import Derived.Below
import Derived.Deep.Quiet
import Derived.Deep.WholeRow
import Derived.Lib.ConvBytes
import Derived.Lib.AppendStr
import Derived.Lib.Bytes
import Derived.Lib.UnsafeStr
import Derived.Deep.Upon
import Derived.Laws.IdiomCopy
set_option linter.unusedVariables false
set_option maxRecDepth 100000
set_option maxHeartbeats 16000000
namespace Go.Proofs.YtpibhbjmcmfnmaaGreatDoor
abbrev jma:=@Nat.le_refl
abbrev jmb:=@List.length_append
abbrev jmd:=@List.getElem?_eq_getElem
abbrev jmh:=@List.getElem?_toArray
abbrev jmi:=@List.length_take
abbrev jmp:=@Nat.lt_of_lt_of_le
abbrev jmq:=@Go.Lib.size_eq
abbrev jmy:=@Nat.le_trans
abbrev jmz:=@Go.RowKit.Below.heap_setCell
abbrev jmC:=@List.getElem?_map
abbrev jmD:=@List.map_cons
abbrev jmM:=@Array.getElem?_eq_getElem
abbrev jmN:=@List.size_toArray
abbrev jnf:=@Go.World.cell?_of_block
abbrev jnp:=@Go.RowKit.Below.heap_alloc
abbrev jnF:=@Go.Sem.run_bind
abbrev jnG:=@Go.WideMaps.keyOf_string_mk
abbrev jnV:=@Array.size_append
abbrev jnW:=@Nat.add_zero
abbrev job:=@List.getElem_append_left
abbrev jop:=@List.length_filter_le
abbrev jos:=@Go.Lib.byteCells_length
end Go.Proofs.YtpibhbjmcmfnmaaGreatDoor
namespace Go.RowKit
end Go.RowKit
namespace Go.Proofs.YtpibhbjmcmfnmaaGreatDoor
open Go.RowKit
structure jt(S:Nat->Prop)(W W':World):Prop where
 os:W'.os=W.os
 tape:W'.tape=W.tape
 output:W'.output=W.output
 size:W.heap.size<=W'.heap.size
 same:∀r,r<W.heap.size->¬S r->W'.heap[r]?=W.heap[r]?
section
variable {S:Nat->Prop} {X Y Z:World}
theorem jt.refl(S:Nat->Prop)(W:World):jt S W W:=⟨rfl,rfl,rfl,jma _,fun _ _ _=>rfl⟩
theorem jt.trans{S':Nat->Prop}(h:jt S X Y)(g:jt S' Y Z)(hs:∀r,r<X.heap.size->S' r->S r):jt S X Z :=
 ⟨g.os.trans h.os,g.tape.trans h.tape,g.output.trans h.output,jmy h.size g.size,fun r a b=>(g.same r (jmp a h.size) (fun c=>b (hs r a c))).trans (h.same r a b)⟩
theorem jt.alloc(h:jt S X Y)(o:Obj):jt S X (Y.alloc o) :=
 ⟨h.os,h.tape,h.output,by simp;have:=h.size;omega,fun r a b=>(jnp _ _ _ (jmp a h.size)).trans (h.same r a b)⟩
theorem jt.setCell(h:jt S X Y){p:Addr}(hp:S p.block\/X.heap.size<=p.block)(u:Value):jt S X (Y.setCell p u) :=
 ⟨h.os,h.tape,h.output,by simp only[World.setCell,Array.size_modify];exact h.size,fun r a b=>(jmz _ _ _ _ (by rintro rfl;rcases hp with hp | hp;exact b hp;omega)).trans (h.same r a b)⟩
theorem jt.cellS{p:Nat}(h:jt (· = p) X Y)(o:Nat)(u:Value):jt (· = p) X (Y.setCell ⟨p,o,none⟩ u):=h.setCell (p:=⟨p,o,none⟩) (.inl rfl) u
theorem jt.drew(h:jt S X Y):jt S X Y.drew:=⟨h.os,h.tape,h.output,h.size,h.same⟩
theorem jt.drewN(h:jt S X Y)(n:Nat):jt S X (Y.drewN n):=⟨h.os,h.tape,h.output,h.size,h.same⟩
theorem jt.grown(h:jt S X Y){row:Option Nat}(g:Y.grownBy Z row)(hr:∀k,row=some k->S k\/X.heap.size<=k):jt S X Z :=
 ⟨g.os.trans h.os,g.tape.trans h.tape,g.output.trans h.output,jmy h.size g.size,fun r a b=>(g.block r (jmp a h.size) (fun e=>by rcases hr r e.symm with c | c;exact b c;omega)).trans (h.same r a b)⟩
theorem jt.below(h:jt S X Y){B:Nat}(g:Below B Y Z)(hB:X.heap.size<=B):jt S X Z :=
 ⟨g.os.trans h.os,g.tape.trans h.tape,g.output.trans h.output,jmy h.size g.size,fun r a b=>(g.block r (by omega)).trans (h.same r a b)⟩
theorem jt.to_below(h:jt S X Y){B:Nat}(hB:B<=X.heap.size)(hs:∀r,r<B->¬S r):Below B X Y :=
 ⟨h.os,h.tape,h.output,h.size,fun r a=>h.same r (by omega) (hs r a)⟩
theorem jt.of_below{B:Nat}(g:Below B X Y)(hB:X.heap.size<=B):jt S X Y:=(jt.refl S X).below g hB
theorem jt.mono{S':Nat->Prop}(h:jt S X Y)(hs:∀r,r<X.heap.size->S r->S' r):jt S' X Y:=⟨h.os,h.tape,h.output,h.size,fun r a b=>h.same r a (fun c=>b (hs r a c))⟩
end
theorem jm{W W':World}{base:Nat}{e:TypeId}{size:Nat}{v:Value}{n:Nat}{xs:List Value}(h:W.ownsRow base e size v n xs)(hs:∀b,v.ownBlock=some b->W'.heap[b]?=W.heap[b]?):W'.ownsRow base e size v n xs:=by
 refine⟨h.1,?_⟩
 rcases h.2 with hn|⟨g,cap,cur,rfl,hbase,hg,rest⟩
 ·exact .inl hn
 exact .inr ⟨g,cap,cur,rfl,hbase,(hs g rfl).trans hg,rest⟩
theorem jH{W W':World}{S:Nat->Prop}{base:Nat}{e:TypeId}{size:Nat}{v:Value}{n:Nat}{xs:List Value}(h:W.ownsRow base e size v n xs)(g:jt S W W')(hs:∀b,v.ownBlock=some b->¬S b):W'.ownsRow base e size v n xs :=
 jm h fun b hb=>g.same b (h.lt b hb).2 (hs b hb)
theorem zy{W W':World}{B:Nat}{base:Nat}{e:TypeId}{size:Nat}{v:Value}{n:Nat}{xs:List Value}(h:W.ownsRow base e size v n xs)(g:Below B W W')(hB:W.heap.size<=B):W'.ownsRow base e size v n xs :=
 jm h fun b hb=>g.block b (jmp (h.lt b hb).2 hB)
theorem jF{W:World}{base:Nat}{e:TypeId}{size:Nat}{v:Value}{n:Nat}{xs:List Value}(h:W.ownsRow base e size v n xs){p:Addr}(hp:v.ownBlock≠some p.block)(u:Value):(W.setCell p u).ownsRow base e size v n xs :=
 jm h fun b hb=>jmz _ _ _ _ (fun e=>hp (by rw[hb,e]))
def ja(W:World)(b:Nat)(t:TypeId)(cur:Array Value):Prop:=W.heap[b]?=some (.cells cur t (0,0))
section
variable {W W':World} {b:Nat} {t:TypeId} {cur:Array Value}
theorem ja.lt(h:ja W b t cur):b<W.heap.size:=(Array.getElem?_eq_some_iff.1 (show W.heap[b]?=_ from h)).1
theorem ja.new(W:World)(t:TypeId)(cur:Array Value):ja (W.alloc (.cells cur t)) W.heap.size t cur:=heap_alloc_new W _
theorem ja.alloc(h:ja W b t cur)(o:Obj):ja (W.alloc o) b t cur:=(jnp _ _ _ h.lt).trans h
theorem ja.drewN(h:ja W b t cur)(n:Nat):ja (W.drewN n) b t cur:=h
theorem ja.drew(h:ja W b t cur):ja W.drew b t cur:=h
theorem ja.other(h:ja W b t cur){p:Addr}(hp:b≠p.block)(u:Value):ja (W.setCell p u) b t cur:=(jmz _ _ _ _ hp).trans h
theorem ja.set(h:ja W b t cur)(i:Nat)(u:Value):ja (W.setCell ⟨b,i,none⟩ u) b t (cur.setIfInBounds i u):=by
 obtain⟨hlt,hk⟩:=Array.getElem?_eq_some_iff.1 (show W.heap[b]?=_ from h)
 show(W.heap.modify b _)[b]?=_
 rw[jmM (by rw[Array.size_modify];exact hlt),Array.getElem_modify_self,hk]
 rfl
theorem ja.cell(h:ja W b t cur)(i:Nat):W.cell? ⟨b,i,none⟩=cur[i]?:=by
 simp[World.cell?,show W.heap[b]?=_ from h]
theorem ja.frozen(h:ja W b t cur)(i:Nat):W.frozen? ⟨b,i,none⟩=false:=by
 simp[World.frozen?,show W.heap[b]?=_ from h]
theorem ja.only{S:Nat->Prop}(h:ja W b t cur)(g:jt S W W')(hb:¬S b):ja W' b t cur:=(g.same b h.lt hb).trans h
theorem ja.below{B:Nat}(h:ja W b t cur)(g:Below B W W')(hb:b<B):ja W' b t cur:=(g.block b hb).trans h
theorem ja.grown{row:Option Nat}(h:ja W b t cur)(g:W.grownBy W' row)(hb:some b≠row):ja W' b t cur:=(g.block b h.lt hb).trans h
end
end Go.Proofs.YtpibhbjmcmfnmaaGreatDoor
namespace Go.Proofs.YtpibhbjmcmfnmaaGreatDoor.Vf
open Go.RowKit
structure Yz(w:World)(g cap:Nat)(v:Value)(l:List UInt8):Prop where
 val:v=.slice (some ⟨g,0,none⟩) l.length cap
 lt:g<w.heap.size
 fits:l.length<=cap
 most:cap<=maxLen
 some_:∀j,j<cap->(w.cell? ⟨g,j,none⟩).isSome=true
 free:∀j,j<cap->w.frozen? ⟨g,j,none⟩=false
 cell:∀j (h:j<l.length),w.cell? ⟨g,j,none⟩=some (.int .u8 (l[j].toNat:Int))
theorem Yz.same{w w':World}{g cap:Nat}{v:Value}{l:List UInt8}(h:Yz w g cap v l)(hs:w'.heap[g]?=w.heap[g]?):Yz w' g cap v l:=by
 have c:∀j,w'.cell? ⟨g,j,none⟩=w.cell? ⟨g,j,none⟩:=fun j=>jnf (a:=⟨g,j,none⟩) hs
 have f:∀j,w'.frozen? ⟨g,j,none⟩=w.frozen? ⟨g,j,none⟩:=fun j=>World.frozen?_of_block (a:=⟨g,j,none⟩) hs
 refine⟨h.val,?_,h.fits,h.most,fun j hj=>by rw[c];exact h.some_ j hj,fun j hj=>by rw[f];exact h.free j hj,fun j hj=>by rw[c];exact h.cell j hj⟩
 obtain⟨hl,hk⟩:∃hl:g<w.heap.size,w.heap[g]?=some w.heap[g]:=⟨h.lt,jmM h.lt⟩
 rw[hk]at hs
 exact(Array.getElem?_eq_some_iff.1 hs).1
theorem Yz.cut{w:World}{g cap:Nat}{v:Value}{l:List UInt8}(h:Yz w g cap v l)(k:Nat)(hk:k<=l.length):Yz w g cap (.slice (some ⟨g,0,none⟩) k cap) (l.take k):=by
 have e:(l.take k).length=k:=by rw[jmi];omega
 refine⟨by rw[e],h.lt,by have:=h.fits;omega,h.most,h.some_,h.free,fun j hj => ?_⟩
 rw[h.cell j (by omega)]
 simp
theorem xB{S:Nat->Prop}(w:World)(e:TypeId)(s:ByteArray):jt S w (Lib.bytesWorld w e s):=by
 refine⟨rfl,rfl,rfl,by rw[Lib.bytesWorld_size];omega,fun r hr _=>Lib.bytesWorld_at_old w e s r hr⟩
theorem Yz.made(w:World)(e:TypeId)(s:ByteArray)(hs:s.size<=1000000):Yz (Lib.bytesWorld w e s) w.heap.size (grownCap w s.size 0 e) (.slice (some ⟨w.heap.size,0,none⟩) s.size (grownCap w s.size 0 e)) s.data.toList:=by
 have hge:=grownCap_ge w s.size 0 e
 have hle:=grownCap_le_maxLen w s.size 0 e (by unfold maxLen;omega)
 have hsz:(Lib.bytesCells w e s).size=grownCap w s.size 0 e:=by
  unfold Lib.bytesCells
  simp only[jnV,Array.size_map,Array.size_replicate]
  have:s.data.size=s.size:=rfl
  omega
 have hl:s.data.toList.length=s.size:=(jmq s).symm
 refine⟨by rw[hl],by rw[Lib.bytesWorld_size];omega,by omega,hle,fun j hj => ?_,fun j hj => ?_,fun j hj => ?_⟩
 ·simp[World.cell?,Lib.bytesWorld_at_new,hsz,hj]
 ·simp[World.frozen?,Lib.bytesWorld_at_new,hsz];omega
 rw[Lib.bytesWorld_cell w e s j (by omega)]
 have hj':j<s.data.size:=by simpa using hj
 rw[List.getD_eq_getElem?_getD,jmd hj];rfl
theorem Yz.back{P:Program}{w:World}{g cap:Nat}{v:Value}{l:List UInt8}(h:Yz w g cap v l)(src dst e:TypeId)(hs:P.underlying src=some (.slice e))(he:P.underlying e=some (.int .u8))(hd:P.underlying dst=some .string):
  (convert src dst v).run P w=.ok (.string ⟨l.toArray⟩) w:=by
 rw[h.val]
 refine run_convert_bytes_back w src dst e ⟨g,0,none⟩ cap l hs he hd (fun j hj => ?_)
 have e:(⟨g,0,none⟩:Addr).add j=⟨g,j,none⟩:=by unfold Addr.add;split<;>simp_all
 rw[e]
 exact h.cell j hj
theorem JD(g:Nat):∀(vs:List Value) (o:Nat) (w:World),(w.setCells g o vs).tape=w.tape
 | [],_,_=>rfl
 | v::vs,o,w=>by unfold World.setCells;rw[JD g vs];rfl
theorem yw(g:Nat):∀(vs:List Value) (o:Nat) (w:World),(w.setCells g o vs).heap.size=w.heap.size
 | [],_,_=>rfl
 | v::vs,o,w=>by unfold World.setCells;rw[yw g vs];simp[World.setCell]
theorem Yz.run_append{P:Program}{w:World}{g cap:Nat}{v:Value}{l:List UInt8}(h:Yz w g cap v l)(t u ty e:TypeId)(i:TypeInfo)(ht:P.underlying t=some (.slice e))(hu:P.underlying u=some .string)(hi:P.info? e=some i)(hz:i.zero=some (.int .u8 0))
  (hsize:i.size=1) (hby:i.bytes=1) (s:ByteArray) (h63:l.length+s.size<=1000000000) :
  ∃v' w' g' cap',(Builtin.append_ #[t,u] ty #[v,.string s]).run P w=.ok v' w'/\Yz w' g' cap' v' (l++s.data.toList)/\jt (· = g) w w'/\(g'=g\/w.heap.size<=g'):=by
 have hsl:(Lib.strCells s).length=s.size:=Lib.strCells_length s
 have hd:s.data.toList.length=s.size:=(jmq s).symm
 have hlen:(l++s.data.toList).length=l.length+s.size:=by rw[jmb,hd]
 have hcells:∀j (hj:j<s.size),(Lib.strCells s)[j]'(by omega)=.int .u8 ((s.data.toList[j]'(by omega)).toNat:Int):=by
  intro j hj;simp[Lib.strCells]
 rw[h.val]
 by_cases hroom:l.length+s.size<=cap
 ·have hst:=run_storeCells_cells (P:=P) g l.length (Lib.strCells s) 0 w (fun j hj=>h.some_ _ (by omega)) (fun j hj=>h.free _ (by omega)) (Lib.strCells_oneCell s)
  simp only[jnW]at hst
  have hf:=Lib.run_firstCells_string (P:=P) w 1 s
  refine⟨.slice (some ⟨g,0,none⟩) (l.length+s.size) cap,w.setCells g l.length (Lib.strCells s),g,cap,?_,?_,?_,.inl rfl⟩
  ·simp[Builtin.append_,run_underlying ht,run_underlying hu,sizeOf,typeInfo,hi,hsize,Builtin.lenOf,hroom,hf,Addr.add_lit,hst]
  ·refine⟨by rw[hlen],by rw[yw];exact h.lt,by omega,h.most,fun j hj => ?_,fun j hj=>by rw[World.frozen?_setCells];exact h.free j hj,fun j hj => ?_⟩
   ·by_cases hin:l.length<=j/\j<l.length+s.size
    ·have:=World.cell?_setCells_in g (Lib.strCells s) l.length w (fun j hj=>h.some_ _ (by omega)) (j-l.length) (by omega)
     rw[show l.length+(j-l.length)=j by omega]at this
     rw[this];rfl
    rw[World.cell?_setCells_out g (Lib.strCells s) l.length w ⟨g,j,none⟩ (fun _ _=>by simp only;omega)]
    exact h.some_ j hj
   by_cases hin:j<l.length
   ·rw[World.cell?_setCells_out g (Lib.strCells s) l.length w ⟨g,j,none⟩ (fun _ _=>by simp only;omega),h.cell j hin,job hin]
   have:=World.cell?_setCells_in g (Lib.strCells s) l.length w (fun j hj=>h.some_ _ (by omega)) (j-l.length) (by omega)
   rw[show l.length+(j-l.length)=j by omega]at this
   rw[this,hcells _ (by omega),List.getElem_append_right (by omega)]
  exact⟨World.os_setCells w g _ _,JD g _ _ w,World.output_setCells w g _ _,by rw[yw];exact jma _,fun r hr hne=>World.heap_setCells_other w g _ _ hr hne⟩
 have hx:(Lib.byteCells l).length=l.length:=jos l
 have holds:∀j u,(Lib.byteCells l)[j]?=some u->w.cell? ((⟨g,0,none⟩:Addr).add j)=some u:=by
  intro j u hu'
  have e:(⟨g,0,none⟩:Addr).add j=⟨g,j,none⟩:=by unfold Addr.add;split<;>simp_all
  have hj:j<l.length:=by have:=(List.getElem?_eq_some_iff.1 hu').1;omega
  rw[e,h.cell j hj]
  rw[<- hu']
  simp[Lib.byteCells,hj]
 have hr:=Lib.run_append_grow_string (P:=P) w t u ty e i (.int .u8 0) ht hu hi hz ⟨g,0,none⟩ l.length cap (Lib.byteCells l) (by rw[hsize];omega) holds s (by omega) (by omega) (by rw[hby];exact growslice_fits (by omega) (by omega))
 have hge:=grownCap_ge w (l.length+s.size) cap e
 have hcm2:=grownCap_le_maxLen w (l.length+s.size) cap e (by unfold maxLen;omega)
 have hcs:ja (w.drew.alloc (.cells ((Lib.byteCells l).toArray++(Lib.strCells s).toArray++Builtin.zeroCells (Value.int .u8 0).cells (grownCap w (l.length+s.size) cap e-(l.length+s.size))) e)) w.heap.size e _:=ja.new w.drew e _
 have hz1:(Value.int IntKind.u8 0).cells.size=1:=rfl
 refine⟨_,_,w.heap.size,grownCap w (l.length+s.size) cap e,hr,⟨by rw[hlen],by simp,by omega,hcm2,fun j hj => ?_,fun j hj=>hcs.frozen j,fun j hj => ?_⟩,((jt.refl (· = g) w).drew).alloc _,.inr (jma _)⟩
 ·rw[hcs.cell j]
  have:j<((Lib.byteCells l).toArray++(Lib.strCells s).toArray++Builtin.zeroCells (Value.int .u8 0).cells (grownCap w (l.length+s.size) cap e-(l.length+s.size))).size:=by
   simp only[jnV,jmN,size_zeroCells,hz1,hx,hsl];omega
  rw[jmM this];rfl
 have e1:(Lib.byteCells l).toArray++(Lib.strCells s).toArray=(Lib.byteCells (l++s.data.toList)).toArray:=by
  rw[Lib.byteCells_append,<- Lib.strCells_eq];simp
 rw[hcs.cell j,e1,Array.getElem?_append_left (by simp only[jmN,jos];omega)]
 rw[jmh]
 unfold Lib.byteCells
 rw[jmC,jmd hj];rfl
theorem JA{P:Program}{w:World}{ops:Array Oper}{rest:List Oper}{op:Oper}{a:Act}{Q:Exit->Act->World->Prop}(hgd:op.guard=none)(sl x:Operand)(t u:TypeId)
  (ho:op.op=.call {callee:=.builtin .append,args:=#[sl,x],argTypes:=#[t,u]}) (g cap:Nat)
  (e:TypeId) (i:TypeInfo) (ht:P.underlying t=some (.slice e)) (hu:P.underlying u=some .string) (hi:P.info? e=some i) (hz:i.zero=some (.int .u8 0)) (hsize:i.size=1) (hby:i.bytes=1)
  (v:Value) (l:List UInt8) (hs:a.eval sl=v) (h:Yz w g cap v l) (s:ByteArray) (hx:a.eval x=.string s) (h63:l.length+s.size<=1000000000)
  (hK:∀v' w' g' cap',Yz w' g' cap' v' (l++s.data.toList)->jt (· = g) w w'->(g'=g\/w.heap.size<=g')->wpList P ops Q rest (a.put op.dst v') w'):wpList P ops Q (op::rest) a w:=by
 refine wpList_plain hgd fun K hK' => ?_
 obtain⟨v',w',g',cap',hr,h2,h3,h4⟩:=h.run_append (P:=P) t u op.type e i ht hu hi hz hsize hby s h63
 unfold Oper.wp execOp
 simp only[ho,resolve,invoke,builtin,jnF,Sem.run_pure,Result.andThen_ok,List.map_toArray,jmD,List.map_nil,hs,hx,hr]
 exact hK' _ _ (hK v' w' g' cap' h2 h3 h4)
end Go.Proofs.YtpibhbjmcmfnmaaGreatDoor.Vf
namespace Go.Proofs.YtpibhbjmcmfnmaaGreatDoor.Vf
open Go.RowKit Go.Maps
abbrev Dir:=List (List UInt8×Nat)
def jda(x:List UInt8×Nat):Lit×DataW Unit:=(.string x.1,.lit (.int .i64 (x.2:Int)))
def zO(l:Dir):DataW Unit:=.map (l.map jda)
def jg8(x:List UInt8×Nat):Dir->Dir
 | []=>[x]
 | y::r=>if bytesBefore x.1 y.1 then x::y::r else y::jg8 x r
def jha(l:Dir)(k:List UInt8):Dir:=l.filter fun p => !(p.1==k)
def jjx(l:Dir)(k:List UInt8)(f:Nat):Dir:=jg8 (k,f) (jha l k)
def yq(l:Dir)(k:List UInt8):Option Nat:=(l.find? fun p=>p.1==k).map (·.2)
theorem Ud(l:Dir)(k:List UInt8):(zO l).del (.string k)=zO (jha l k):=by
 unfold zO DataW.del jha
 simp only[List.filter_map]
 rfl
theorem jbf(x:List UInt8×Nat):∀l:Dir,DataW.insert (jda x) (l.map jda)=(jg8 x l).map jda
 | []=>rfl
 | y::r=>by
  simp only[jmD,DataW.insert,jg8]
  by_cases h:bytesBefore x.1 y.1=true
  ·rw[if_pos h,if_pos (show(jda x).1.before (jda y).1=true from h)];rfl
  rw[if_neg h,if_neg (show ¬(jda x).1.before (jda y).1=true from h),jmD,jbf x r]
theorem jeU(l:Dir)(k:List UInt8)(f:Nat):(zO l).put (.string k) (.lit (.int .i64 (f:Int)))=zO (jjx l k f):=by
 unfold zO DataW.put jjx jha
 simp only[List.filter_map]
 exact congrArg DataW.map (jbf (k,f) _)
theorem Uc(l:Dir)(k:List UInt8):Maps.has (zO l) (.string k)=(yq l k).isSome:=by
 unfold zO yq
 rw[Maps.has_eq,List.any_map,Option.isSome_map,List.isSome_find?]
 rfl
theorem Ko(l:Dir)(k:List UInt8)(z:DataW Unit):(zO l).atKey (.string k) z=match yq l k with | some f=>.lit (.int .i64 (f:Int)) | none=>z:=by
 unfold zO yq DataW.atKey
 simp only[List.find?_map]
 have e:((fun p:Lit×DataW Unit=>p.1.sameKey (Lit.string k))∘jda)=fun p:List UInt8×Nat=>p.1==k:=rfl
 rw[e]
 cases h:l.find? (fun p=>p.1==k) with
 | none=>rfl
 | some p=>rfl
theorem GV(l:Dir)(k:List UInt8)(f:Nat):(jjx l k f).length<=l.length+1:=by
 have h1:∀(x:List UInt8×Nat) (l:Dir),(jg8 x l).length=l.length+1:=by
  intro x l
  induction l with
  | nil=>rfl
  | cons y r ih=>unfold jg8;split<;>simp[ih]
 unfold jjx jha
 rw[h1]
 have:=jop (fun p:List UInt8×Nat => !(p.1==k)) l
 omega
theorem jhF:Keyed Tryz.prog 9:=string_keyed Tryz.underlying9
theorem jjF(w:World):(zeroValue 3).run Tryz.prog w=.ok (.int .i64 0) w:=by kernel_rfl
theorem jit(b:Nat)(w:World):(binOp .eql 88 (.map (some b)) (.map none)).run Tryz.prog w=.ok (.bool false) w:=by kernel_rfl
theorem jj1(w:World):(binOp .eql 88 (.map none) (.map none)).run Tryz.prog w=.ok (.bool true) w:=by kernel_rfl
def zF(W:World)(n:Nat)(v:Value)(l:Dir):Prop :=
 (v=.map none/\l=[])\/∃b,v=.map (some b)/\W.ownsMap Tryz.prog 9 (plainElem Tryz.prog 3) b n (zO l)
def jo:Value->Option Nat
 | .map b=>b
 | _=>none
theorem zF.look{W:World}{n:Nat}{v:Value}{l:Dir}(h:zF W n v l)(s:ByteArray)(hs:s.size<=maxLen):
  (Instr.lookup 88 v (.string s) true).run Tryz.prog W=.ok (.tuple #[.int .i64 ((yq l s.data.toList).getD 0:Nat),.bool (yq l s.data.toList).isSome]) W:=by
 rcases h with ⟨rfl,rfl⟩|⟨b,rfl,ho⟩
 ·exact Maps.look_nil (w:=W) true jhF Tryz.underlying88 (jjF W) (jnG Tryz.underlying9 hs)
 obtain⟨v,ps,hrun,hat⟩:=ho.look_ok jhF Tryz.underlying88 (jjF W) (plainElem_int (H:=Unit) Tryz.underlying3 (a:=0) (by decide)) (jnG Tryz.underlying9 hs)
 obtain⟨c,rfl,hc,_⟩:=plainElem_int_inv Tryz.underlying3 hat
 rw[Uc]at hrun
 rw[hrun]
 rw[Ko]at hc
 have:=congrArg Prod.fst hc
 cases hq:yq l s.data.toList with
 | none=>rw[hq]at this;simp at this;rw[<- this];rfl
 | some f=>rw[hq]at this;simp at this;rw[<- this];rfl
theorem zF.drewN{W:World}{n:Nat}{v:Value}{l:Dir}(h:zF W n v l)(k:Nat):zF (W.drewN k) n v l:=h
theorem zF.mono{W:World}{n m:Nat}{v:Value}{l:Dir}(h:zF W n v l)(hm:n<=m):zF W m v l:=by
 rcases h with h|⟨b,rfl,ho⟩
 ·exact .inl h
 exact .inr ⟨b,rfl,ho.mono hm⟩
theorem zF.lt{W:World}{n:Nat}{v:Value}{l:Dir}(h:zF W n v l):∀b,jo v=some b->b<W.heap.size:=by
 rcases h with ⟨rfl,_⟩|⟨b,rfl,ho⟩
 ·intro b hb;cases hb
 intro c hc;cases hc;exact ho.lt
theorem zF.same{W W':World}{n:Nat}{v:Value}{l:Dir}(h:zF W n v l)(hs:∀b,jo v=some b->W'.heap[b]?=W.heap[b]?):zF W' n v l:=by
 rcases h with h|⟨b,rfl,es,clock,hb,r⟩
 ·exact .inl h
 exact .inr ⟨b,rfl,es,clock,(hs b rfl).trans hb,r⟩
theorem zF.only{W W':World}{n:Nat}{v:Value}{l:Dir}{S:Nat->Prop}(h:zF W n v l)(g:jt S W W')(hs:∀b,jo v=some b->¬S b):zF W' n v l :=
 h.same fun b hb=>g.same b (h.lt b hb) (hs b hb)
theorem zF.below{W W':World}{n B:Nat}{v:Value}{l:Dir}(h:zF W n v l)(g:Below B W W')(hB:W.heap.size<=B):zF W' n v l :=
 h.same fun b hb=>g.block b (jmp (h.lt b hb) hB)
end Go.Proofs.YtpibhbjmcmfnmaaGreatDoor.Vf
namespace Go.Proofs.YtpibhbjmcmfnmaaGreatDoor.Vf
open Go.RowKit
def jg(units:Int)(armed:Bool)(left:Int)(gone:Bool)(room:Int)(sure seen waits files acts:Value):Array Value :=
 #[.int .i64 units,.bool armed,.int .i64 left,.bool gone,.int .i64 room,sure,seen,waits,files,acts]
def qV(armed:Bool)(left:Int)(n:Int):Int:=if armed&&decide (left<n) then left else n
theorem QU(p:Nat)(t:TypeId)(units left:Int)(armed gone:Bool)(room:Int)(v5 v6 v7 v8 v9:Value)(n:Int)(w:World)(hc:ja w p t (jg units armed left gone room v5 v6 v7 v8 v9))
  (hn:0<=n) (hl:0<=left) (hu:0<=units) (hu2:units<=1000000000000) (hn2:n<=1000000000000) (hl2:left<=9223372036854775807) :
  Calls Tryz.prog 64 #[.pointer (some ⟨p,0,none⟩),.int .i64 n] w fun e w'=>e=.returned (.int .i64 (qV armed left n)) /\
   ja w' p t (jg (units+qV armed left n) armed (if armed then left-qV armed left n else left) (gone || (armed&&decide (left<n))) room v5 v6 v7 v8 v9)/\jt (· = p) w w':=by
 have c0:w.cell? ⟨p,0,none⟩=some (.int .i64 units):=by rw[hc.cell];rfl
 have c1:w.cell? ⟨p,1,none⟩=some (.bool armed):=by rw[hc.cell];rfl
 have c2:w.cell? ⟨p,2,none⟩=some (.int .i64 left):=by rw[hc.cell];rfl
 have c3:w.cell? ⟨p,3,none⟩=some (.bool gone):=by rw[hc.cell];rfl
 have f0:=hc.frozen 0
 have f2:=hc.frozen 2
 have f3:=hc.frozen 3
 cases armed
 ·have hs:qV false left n=n:=rfl
  go_enter Tryz.func64,Tryz.ntmps64
  go_wp2
  go_ret
  refine⟨rfl,?_,((jt.refl _ w).cellS 0 _)⟩
  simpa [jg]using hc.set 0 (.int .i64 (units+n))
 by_cases hlt:left<n
 ·have hs:qV true left n=left:=by simp[qV,hlt]
  rw[hs]
  go_enter Tryz.func64,Tryz.ntmps64
  go_wp2
  go_ret
  refine⟨rfl,?_,(((jt.refl _ w).cellS 3 _).cellS 2 _).cellS 0 _⟩
  simpa [jg]using((hc.set 3 (.bool true)).set 2 (.int .i64 0)).set 0 (.int .i64 (units+left))
 have hs:qV true left n=n:=by simp[qV,hlt]
 rw[hs]
 go_enter Tryz.func64,Tryz.ntmps64
 go_wp2
 go_ret
 refine⟨rfl,?_,(((jt.refl _ w).cellS 2 _).cellS 0 _)⟩
 have hf:decide (left<n)=false:=decide_eq_false (by omega)
 simpa [jg,hf]using(hc.set 2 (.int .i64 (left-n))).set 0 (.int .i64 (units+n))
end Go.Proofs.YtpibhbjmcmfnmaaGreatDoor.Vf
