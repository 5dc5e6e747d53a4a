/- Texts put together:OB,VA,VM,VE,VB. -/
import Derived.Test.YtpibhbjmcmfnmaaGreatDoorProg
import Derived.WalkKit
import Derived.Maps.Own
import Derived.Maps.OwnSet
import Derived.Maps.AppendAt
import Derived.Lib.Hide
import Derived.Below
import Derived.Deep.Quiet
import Derived.Deep.WholeRow
import Derived.Lib.ConvBytes
import Derived.Lib.AppendStr
import Derived.Lib.Bytes
import Derived.Lib.UnsafeStr
import Derived.Deep.Upon
import Derived.Laws.IdiomCopy
set_option linter.unusedVariables false
set_option maxRecDepth 100000
set_option maxHeartbeats 16000000
namespace Go.Proofs.YtpibhbjmcmfnmaaGreatDoor
abbrev jnd:=@Nat.le_refl
abbrev jnf:=@List.length_append
abbrev jnh:=@List.getElem?_eq_getElem
abbrev jnk:=@List.length_take
abbrev jnl:=@List.getElem?_toArray
abbrev jns:=@Nat.le_trans
abbrev jnu:=@Go.Lib.size_eq
abbrev jnw:=@Nat.lt_of_lt_of_le
abbrev jnE:=@Go.RowKit.Below.heap_setCell
abbrev jnF:=@List.getElem?_map
abbrev jnH:=@List.map_cons
abbrev jnT:=@Array.getElem?_eq_getElem
abbrev jnV:=@List.size_toArray
abbrev jok:=@Go.World.cell?_of_block
abbrev jov:=@Go.RowKit.Below.heap_alloc
abbrev joL:=@Go.Sem.run_bind
abbrev joM:=@Go.WideMaps.keyOf_string_mk
abbrev jo3:=@Array.size_append
abbrev jo4:=@Nat.add_zero
abbrev jpe:=@List.getD_eq_getElem?_getD
abbrev jpk:=@List.getElem_append_left
abbrev jpz:=@List.length_filter_le
abbrev jpC:=@Go.Lib.byteCells_length
end Go.Proofs.YtpibhbjmcmfnmaaGreatDoor
namespace Go.RowKit
end Go.RowKit
namespace Go.Proofs.YtpibhbjmcmfnmaaGreatDoor
open Go.RowKit
structure jv(S:Nat->Prop)(W W':World):Prop where
 os:W'.os=W.os
 tape:W'.tape=W.tape
 output:W'.output=W.output
 size:W.heap.size<=W'.heap.size
 same:∀r,r<W.heap.size->¬S r->W'.heap[r]?=W.heap[r]?
section
variable {S:Nat->Prop} {X Y Z:World}
theorem jv.refl(S:Nat->Prop)(W:World):jv S W W:=⟨rfl,rfl,rfl,jnd _,fun _ _ _=>rfl⟩
theorem jv.trans{S':Nat->Prop}(h:jv S X Y)(g:jv S' Y Z)(hs:∀r,r<X.heap.size->S' r->S r):jv S X Z :=
 ⟨g.os.trans h.os,g.tape.trans h.tape,g.output.trans h.output,jns h.size g.size,fun r a b=>(g.same r (jnw a h.size) (fun c=>b (hs r a c))).trans (h.same r a b)⟩
theorem jv.alloc(h:jv S X Y)(o:Obj):jv S X (Y.alloc o) :=
 ⟨h.os,h.tape,h.output,by simp;have:=h.size;omega,fun r a b=>(jov _ _ _ (jnw a h.size)).trans (h.same r a b)⟩
theorem jv.setCell(h:jv S X Y){p:Addr}(hp:S p.block\/X.heap.size<=p.block)(u:Value):jv S X (Y.setCell p u) :=
 ⟨h.os,h.tape,h.output,by simp only[World.setCell,Array.size_modify];exact h.size,fun r a b=>(jnE _ _ _ _ (by rintro rfl;rcases hp with hp | hp;exact b hp;omega)).trans (h.same r a b)⟩
theorem jv.cellS{p:Nat}(h:jv (· = p) X Y)(o:Nat)(u:Value):jv (· = p) X (Y.setCell ⟨p,o,none⟩ u):=h.setCell (p:=⟨p,o,none⟩) (.inl rfl) u
theorem jv.drew(h:jv S X Y):jv S X Y.drew:=⟨h.os,h.tape,h.output,h.size,h.same⟩
theorem jv.drewN(h:jv S X Y)(n:Nat):jv S X (Y.drewN n):=⟨h.os,h.tape,h.output,h.size,h.same⟩
theorem jv.grown(h:jv S X Y){row:Option Nat}(g:Y.grownBy Z row)(hr:∀k,row=some k->S k\/X.heap.size<=k):jv S X Z :=
 ⟨g.os.trans h.os,g.tape.trans h.tape,g.output.trans h.output,jns h.size g.size,fun r a b=>(g.block r (jnw a h.size) (fun e=>by rcases hr r e.symm with c | c;exact b c;omega)).trans (h.same r a b)⟩
theorem jv.below(h:jv S X Y){B:Nat}(g:Below B Y Z)(hB:X.heap.size<=B):jv S X Z :=
 ⟨g.os.trans h.os,g.tape.trans h.tape,g.output.trans h.output,jns h.size g.size,fun r a b=>(g.block r (by omega)).trans (h.same r a b)⟩
theorem jv.to_below(h:jv S X Y){B:Nat}(hB:B<=X.heap.size)(hs:∀r,r<B->¬S r):Below B X Y :=
 ⟨h.os,h.tape,h.output,h.size,fun r a=>h.same r (by omega) (hs r a)⟩
theorem jv.of_below{B:Nat}(g:Below B X Y)(hB:X.heap.size<=B):jv S X Y:=(jv.refl S X).below g hB
theorem jv.mono{S':Nat->Prop}(h:jv S X Y)(hs:∀r,r<X.heap.size->S r->S' r):jv S' X Y:=⟨h.os,h.tape,h.output,h.size,fun r a b=>h.same r a (fun c=>b (hs r a c))⟩
end
theorem jq{W W':World}{base:Nat}{e:TypeId}{size:Nat}{v:Value}{n:Nat}{xs:List Value}(h:W.ownsRow base e size v n xs)(hs:∀b,v.ownBlock=some b->W'.heap[b]?=W.heap[b]?):W'.ownsRow base e size v n xs:=by
 refine⟨h.1,?_⟩
 rcases h.2 with hn|⟨g,cap,cur,rfl,hbase,hg,rest⟩
 ·exact .inl hn
 exact .inr ⟨g,cap,cur,rfl,hbase,(hs g rfl).trans hg,rest⟩
theorem jN{W W':World}{S:Nat->Prop}{base:Nat}{e:TypeId}{size:Nat}{v:Value}{n:Nat}{xs:List Value}(h:W.ownsRow base e size v n xs)(g:jv S W W')(hs:∀b,v.ownBlock=some b->¬S b):W'.ownsRow base e size v n xs :=
 jq h fun b hb=>g.same b (h.lt b hb).2 (hs b hb)
theorem zL{W W':World}{B:Nat}{base:Nat}{e:TypeId}{size:Nat}{v:Value}{n:Nat}{xs:List Value}(h:W.ownsRow base e size v n xs)(g:Below B W W')(hB:W.heap.size<=B):W'.ownsRow base e size v n xs :=
 jq h fun b hb=>g.block b (jnw (h.lt b hb).2 hB)
theorem jK{W:World}{base:Nat}{e:TypeId}{size:Nat}{v:Value}{n:Nat}{xs:List Value}(h:W.ownsRow base e size v n xs){p:Addr}(hp:v.ownBlock≠some p.block)(u:Value):(W.setCell p u).ownsRow base e size v n xs :=
 jq h fun b hb=>jnE _ _ _ _ (fun e=>hp (by rw[hb,e]))
def ja(W:World)(b:Nat)(t:TypeId)(cur:Array Value):Prop:=W.heap[b]?=some (.cells cur t (0,0))
section
variable {W W':World} {b:Nat} {t:TypeId} {cur:Array Value}
theorem ja.lt(h:ja W b t cur):b<W.heap.size:=(Array.getElem?_eq_some_iff.1 (show W.heap[b]?=_ from h)).1
theorem ja.new(W:World)(t:TypeId)(cur:Array Value):ja (W.alloc (.cells cur t)) W.heap.size t cur:=heap_alloc_new W _
theorem ja.alloc(h:ja W b t cur)(o:Obj):ja (W.alloc o) b t cur:=(jov _ _ _ h.lt).trans h
theorem ja.drewN(h:ja W b t cur)(n:Nat):ja (W.drewN n) b t cur:=h
theorem ja.drew(h:ja W b t cur):ja W.drew b t cur:=h
theorem ja.other(h:ja W b t cur){p:Addr}(hp:b≠p.block)(u:Value):ja (W.setCell p u) b t cur:=(jnE _ _ _ _ hp).trans h
theorem ja.set(h:ja W b t cur)(i:Nat)(u:Value):ja (W.setCell ⟨b,i,none⟩ u) b t (cur.setIfInBounds i u):=by
 obtain⟨hlt,hk⟩:=Array.getElem?_eq_some_iff.1 (show W.heap[b]?=_ from h)
 show(W.heap.modify b _)[b]?=_
 rw[jnT (by rw[Array.size_modify];exact hlt),Array.getElem_modify_self,hk]
 rfl
theorem ja.cell(h:ja W b t cur)(i:Nat):W.cell? ⟨b,i,none⟩=cur[i]?:=by
 simp[World.cell?,show W.heap[b]?=_ from h]
theorem ja.frozen(h:ja W b t cur)(i:Nat):W.frozen? ⟨b,i,none⟩=false:=by
 simp[World.frozen?,show W.heap[b]?=_ from h]
theorem ja.only{S:Nat->Prop}(h:ja W b t cur)(g:jv S W W')(hb:¬S b):ja W' b t cur:=(g.same b h.lt hb).trans h
theorem ja.below{B:Nat}(h:ja W b t cur)(g:Below B W W')(hb:b<B):ja W' b t cur:=(g.block b hb).trans h
theorem ja.grown{row:Option Nat}(h:ja W b t cur)(g:W.grownBy W' row)(hb:some b≠row):ja W' b t cur:=(g.block b h.lt hb).trans h
end
end Go.Proofs.YtpibhbjmcmfnmaaGreatDoor
namespace Go.Proofs.YtpibhbjmcmfnmaaGreatDoor.Vf
open Go.RowKit
structure Xw(w:World)(g cap:Nat)(v:Value)(l:List UInt8):Prop where
 val:v=.slice (some ⟨g,0,none⟩) l.length cap
 lt:g<w.heap.size
 fits:l.length<=cap
 most:cap<=maxLen
 some_:∀j,j<cap->(w.cell? ⟨g,j,none⟩).isSome=true
 free:∀j,j<cap->w.frozen? ⟨g,j,none⟩=false
 cell:∀j (h:j<l.length),w.cell? ⟨g,j,none⟩=some (.int .u8 (l[j].toNat:Int))
theorem Xw.same{w w':World}{g cap:Nat}{v:Value}{l:List UInt8}(h:Xw w g cap v l)(hs:w'.heap[g]?=w.heap[g]?):Xw w' g cap v l:=by
 have c:∀j,w'.cell? ⟨g,j,none⟩=w.cell? ⟨g,j,none⟩:=fun j=>jok (a:=⟨g,j,none⟩) hs
 have f:∀j,w'.frozen? ⟨g,j,none⟩=w.frozen? ⟨g,j,none⟩:=fun j=>World.frozen?_of_block (a:=⟨g,j,none⟩) hs
 refine⟨h.val,?_,h.fits,h.most,fun j hj=>by rw[c];exact h.some_ j hj,fun j hj=>by rw[f];exact h.free j hj,fun j hj=>by rw[c];exact h.cell j hj⟩
 obtain⟨hl,hk⟩:∃hl:g<w.heap.size,w.heap[g]?=some w.heap[g]:=⟨h.lt,jnT h.lt⟩
 rw[hk]at hs
 exact(Array.getElem?_eq_some_iff.1 hs).1
theorem Xw.cut{w:World}{g cap:Nat}{v:Value}{l:List UInt8}(h:Xw w g cap v l)(k:Nat)(hk:k<=l.length):Xw w g cap (.slice (some ⟨g,0,none⟩) k cap) (l.take k):=by
 have e:(l.take k).length=k:=by rw[jnk];omega
 refine⟨by rw[e],h.lt,by have:=h.fits;omega,h.most,h.some_,h.free,fun j hj => ?_⟩
 rw[h.cell j (by omega)]
 simp
theorem xY{S:Nat->Prop}(w:World)(e:TypeId)(s:ByteArray):jv S w (Lib.bytesWorld w e s):=by
 refine⟨rfl,rfl,rfl,by rw[Lib.bytesWorld_size];omega,fun r hr _=>Lib.bytesWorld_at_old w e s r hr⟩
theorem Xw.made(w:World)(e:TypeId)(s:ByteArray)(hs:s.size<=1000000):Xw (Lib.bytesWorld w e s) w.heap.size (grownCap w s.size 0 e) (.slice (some ⟨w.heap.size,0,none⟩) s.size (grownCap w s.size 0 e)) s.data.toList:=by
 have hge:=grownCap_ge w s.size 0 e
 have hle:=grownCap_le_maxLen w s.size 0 e (by unfold maxLen;omega)
 have hsz:(Lib.bytesCells w e s).size=grownCap w s.size 0 e:=by
  unfold Lib.bytesCells
  simp only[jo3,Array.size_map,Array.size_replicate]
  have:s.data.size=s.size:=rfl
  omega
 have hl:s.data.toList.length=s.size:=(jnu s).symm
 refine⟨by rw[hl],by rw[Lib.bytesWorld_size];omega,by omega,hle,fun j hj => ?_,fun j hj => ?_,fun j hj => ?_⟩
 ·simp[World.cell?,Lib.bytesWorld_at_new,hsz,hj]
 ·simp[World.frozen?,Lib.bytesWorld_at_new,hsz];omega
 rw[Lib.bytesWorld_cell w e s j (by omega)]
 have hj':j<s.data.size:=by simpa using hj
 rw[jpe,jnh hj];rfl
theorem Xw.back{P:Program}{w:World}{g cap:Nat}{v:Value}{l:List UInt8}(h:Xw w g cap v l)(src dst e:TypeId)(hs:P.underlying src=some (.slice e))(he:P.underlying e=some (.int .u8))(hd:P.underlying dst=some .string):
  (convert src dst v).run P w=.ok (.string ⟨l.toArray⟩) w:=by
 rw[h.val]
 refine run_convert_bytes_back w src dst e ⟨g,0,none⟩ cap l hs he hd (fun j hj => ?_)
 have e:(⟨g,0,none⟩:Addr).add j=⟨g,j,none⟩:=by unfold Addr.add;split<;>simp_all
 rw[e]
 exact h.cell j hj
theorem Zc(g:Nat):∀(vs:List Value) (o:Nat) (w:World),(w.setCells g o vs).tape=w.tape
 | [],_,_=>rfl
 | v::vs,o,w=>by unfold World.setCells;rw[Zc g vs];rfl
theorem yR(g:Nat):∀(vs:List Value) (o:Nat) (w:World),(w.setCells g o vs).heap.size=w.heap.size
 | [],_,_=>rfl
 | v::vs,o,w=>by unfold World.setCells;rw[yR g vs];simp[World.setCell]
theorem Xw.run_append{P:Program}{w:World}{g cap:Nat}{v:Value}{l:List UInt8}(h:Xw w g cap v l)(t u ty e:TypeId)(i:TypeInfo)(ht:P.underlying t=some (.slice e))(hu:P.underlying u=some .string)(hi:P.info? e=some i)(hz:i.zero=some (.int .u8 0))
  (hsize:i.size=1) (hby:i.bytes=1) (s:ByteArray) (h63:l.length+s.size<=1000000000) :
  ∃v' w' g' cap',(Builtin.append_ #[t,u] ty #[v,.string s]).run P w=.ok v' w'/\Xw w' g' cap' v' (l++s.data.toList)/\jv (· = g) w w'/\(g'=g\/w.heap.size<=g'):=by
 have hsl:(Lib.strCells s).length=s.size:=Lib.strCells_length s
 have hd:s.data.toList.length=s.size:=(jnu s).symm
 have hlen:(l++s.data.toList).length=l.length+s.size:=by rw[jnf,hd]
 have hcells:∀j (hj:j<s.size),(Lib.strCells s)[j]'(by omega)=.int .u8 ((s.data.toList[j]'(by omega)).toNat:Int):=by
  intro j hj;simp[Lib.strCells]
 rw[h.val]
 by_cases hroom:l.length+s.size<=cap
 ·have hst:=run_storeCells_cells (P:=P) g l.length (Lib.strCells s) 0 w (fun j hj=>h.some_ _ (by omega)) (fun j hj=>h.free _ (by omega)) (Lib.strCells_oneCell s)
  simp only[jo4]at hst
  have hf:=Lib.run_firstCells_string (P:=P) w 1 s
  refine⟨.slice (some ⟨g,0,none⟩) (l.length+s.size) cap,w.setCells g l.length (Lib.strCells s),g,cap,?_,?_,?_,.inl rfl⟩
  ·simp[Builtin.append_,run_underlying ht,run_underlying hu,sizeOf,typeInfo,hi,hsize,Builtin.lenOf,hroom,hf,Addr.add_lit,hst]
  ·refine⟨by rw[hlen],by rw[yR];exact h.lt,by omega,h.most,fun j hj => ?_,fun j hj=>by rw[World.frozen?_setCells];exact h.free j hj,fun j hj => ?_⟩
   ·by_cases hin:l.length<=j/\j<l.length+s.size
    ·have:=World.cell?_setCells_in g (Lib.strCells s) l.length w (fun j hj=>h.some_ _ (by omega)) (j-l.length) (by omega)
     rw[show l.length+(j-l.length)=j by omega]at this
     rw[this];rfl
    rw[World.cell?_setCells_out g (Lib.strCells s) l.length w ⟨g,j,none⟩ (fun _ _=>by simp only;omega)]
    exact h.some_ j hj
   by_cases hin:j<l.length
   ·rw[World.cell?_setCells_out g (Lib.strCells s) l.length w ⟨g,j,none⟩ (fun _ _=>by simp only;omega),h.cell j hin,jpk hin]
   have:=World.cell?_setCells_in g (Lib.strCells s) l.length w (fun j hj=>h.some_ _ (by omega)) (j-l.length) (by omega)
   rw[show l.length+(j-l.length)=j by omega]at this
   rw[this,hcells _ (by omega),List.getElem_append_right (by omega)]
  exact⟨World.os_setCells w g _ _,Zc g _ _ w,World.output_setCells w g _ _,by rw[yR];exact jnd _,fun r hr hne=>World.heap_setCells_other w g _ _ hr hne⟩
 have hx:(Lib.byteCells l).length=l.length:=jpC l
 have holds:∀j u,(Lib.byteCells l)[j]?=some u->w.cell? ((⟨g,0,none⟩:Addr).add j)=some u:=by
  intro j u hu'
  have e:(⟨g,0,none⟩:Addr).add j=⟨g,j,none⟩:=by unfold Addr.add;split<;>simp_all
  have hj:j<l.length:=by have:=(List.getElem?_eq_some_iff.1 hu').1;omega
  rw[e,h.cell j hj]
  rw[<- hu']
  simp[Lib.byteCells,hj]
 have hr:=Lib.run_append_grow_string (P:=P) w t u ty e i (.int .u8 0) ht hu hi hz ⟨g,0,none⟩ l.length cap (Lib.byteCells l) (by rw[hsize];omega) holds s (by omega) (by omega) (by rw[hby];exact growslice_fits (by omega) (by omega))
 have hge:=grownCap_ge w (l.length+s.size) cap e
 have hcm2:=grownCap_le_maxLen w (l.length+s.size) cap e (by unfold maxLen;omega)
 have hcs:ja (w.drew.alloc (.cells ((Lib.byteCells l).toArray++(Lib.strCells s).toArray++Builtin.zeroCells (Value.int .u8 0).cells (grownCap w (l.length+s.size) cap e-(l.length+s.size))) e)) w.heap.size e _:=ja.new w.drew e _
 have hz1:(Value.int IntKind.u8 0).cells.size=1:=rfl
 refine⟨_,_,w.heap.size,grownCap w (l.length+s.size) cap e,hr,⟨by rw[hlen],by simp,by omega,hcm2,fun j hj => ?_,fun j hj=>hcs.frozen j,fun j hj => ?_⟩,((jv.refl (· = g) w).drew).alloc _,.inr (jnd _)⟩
 ·rw[hcs.cell j]
  have:j<((Lib.byteCells l).toArray++(Lib.strCells s).toArray++Builtin.zeroCells (Value.int .u8 0).cells (grownCap w (l.length+s.size) cap e-(l.length+s.size))).size:=by
   simp only[jo3,jnV,size_zeroCells,hz1,hx,hsl];omega
  rw[jnT this];rfl
 have e1:(Lib.byteCells l).toArray++(Lib.strCells s).toArray=(Lib.byteCells (l++s.data.toList)).toArray:=by
  rw[Lib.byteCells_append,<- Lib.strCells_eq];simp
 rw[hcs.cell j,e1,Array.getElem?_append_left (by simp only[jnV,jpC];omega)]
 rw[jnl]
 unfold Lib.byteCells
 rw[jnF,jnh hj];rfl
theorem Za{P:Program}{w:World}{ops:Array Oper}{rest:List Oper}{op:Oper}{a:Act}{Q:Exit->Act->World->Prop}(hgd:op.guard=none)(sl x:Operand)(t u:TypeId)
  (ho:op.op=.call {callee:=.builtin .append,args:=#[sl,x],argTypes:=#[t,u]}) (g cap:Nat)
  (e:TypeId) (i:TypeInfo) (ht:P.underlying t=some (.slice e)) (hu:P.underlying u=some .string) (hi:P.info? e=some i) (hz:i.zero=some (.int .u8 0)) (hsize:i.size=1) (hby:i.bytes=1)
  (v:Value) (l:List UInt8) (hs:a.eval sl=v) (h:Xw w g cap v l) (s:ByteArray) (hx:a.eval x=.string s) (h63:l.length+s.size<=1000000000)
  (hK:∀v' w' g' cap',Xw w' g' cap' v' (l++s.data.toList)->jv (· = g) w w'->(g'=g\/w.heap.size<=g')->wpList P ops Q rest (a.put op.dst v') w'):wpList P ops Q (op::rest) a w:=by
 refine wpList_plain hgd fun K hK' => ?_
 obtain⟨v',w',g',cap',hr,h2,h3,h4⟩:=h.run_append (P:=P) t u op.type e i ht hu hi hz hsize hby s h63
 unfold Oper.wp execOp
 simp only[ho,resolve,invoke,builtin,joL,Sem.run_pure,Result.andThen_ok,List.map_toArray,jnH,List.map_nil,hs,hx,hr]
 exact hK' _ _ (hK v' w' g' cap' h2 h3 h4)
end Go.Proofs.YtpibhbjmcmfnmaaGreatDoor.Vf
namespace Go.Proofs.YtpibhbjmcmfnmaaGreatDoor.Vf
open Go.RowKit Go.Maps
abbrev Dir:=List (List UInt8×Nat)
def jem(x:List UInt8×Nat):Lit×DataW Unit:=(.string x.1,.lit (.int .i64 (x.2:Int)))
def zY(l:Dir):DataW Unit:=.map (l.map jem)
def jiE(x:List UInt8×Nat):Dir->Dir
 | []=>[x]
 | y::r=>if bytesBefore x.1 y.1 then x::y::r else y::jiE x r
def jiG(l:Dir)(k:List UInt8):Dir:=l.filter fun p => !(p.1==k)
def jlh(l:Dir)(k:List UInt8)(f:Nat):Dir:=jiE (k,f) (jiG l k)
def ya(l:Dir)(k:List UInt8):Option Nat:=(l.find? fun p=>p.1==k).map (·.2)
theorem jad(l:Dir)(k:List UInt8):(zY l).del (.string k)=zY (jiG l k):=by
 unfold zY DataW.del jiG
 simp only[List.filter_map]
 rfl
theorem jco(x:List UInt8×Nat):∀l:Dir,DataW.insert (jem x) (l.map jem)=(jiE x l).map jem
 | []=>rfl
 | y::r=>by
  simp only[jnH,DataW.insert,jiE]
  by_cases h:bytesBefore x.1 y.1=true
  ·rw[if_pos h,if_pos (show(jem x).1.before (jem y).1=true from h)];rfl
  rw[if_neg h,if_neg (show ¬(jem x).1.before (jem y).1=true from h),jnH,jco x r]
theorem jgb(l:Dir)(k:List UInt8)(f:Nat):(zY l).put (.string k) (.lit (.int .i64 (f:Int)))=zY (jlh l k f):=by
 unfold zY DataW.put jlh jiG
 simp only[List.filter_map]
 exact congrArg DataW.map (jco (k,f) _)
theorem jac(l:Dir)(k:List UInt8):Maps.has (zY l) (.string k)=(ya l k).isSome:=by
 unfold zY ya
 rw[Maps.has_eq,List.any_map,Option.isSome_map,List.isSome_find?]
 rfl
theorem WI(l:Dir)(k:List UInt8)(z:DataW Unit):(zY l).atKey (.string k) z=match ya l k with | some f=>.lit (.int .i64 (f:Int)) | none=>z:=by
 unfold zY ya DataW.atKey
 simp only[List.find?_map]
 have e:((fun p:Lit×DataW Unit=>p.1.sameKey (Lit.string k))∘jem)=fun p:List UInt8×Nat=>p.1==k:=rfl
 rw[e]
 cases h:l.find? (fun p=>p.1==k) with
 | none=>rfl
 | some p=>rfl
theorem jbg(l:Dir)(k:List UInt8)(f:Nat):(jlh l k f).length<=l.length+1:=by
 have h1:∀(x:List UInt8×Nat) (l:Dir),(jiE x l).length=l.length+1:=by
  intro x l
  induction l with
  | nil=>rfl
  | cons y r ih=>unfold jiE;split<;>simp[ih]
 unfold jlh jiG
 rw[h1]
 have:=jpz (fun p:List UInt8×Nat => !(p.1==k)) l
 omega
theorem jjc:Keyed Tryz.prog 9:=string_keyed Tryz.underlying9
theorem jln(w:World):(zeroValue 3).run Tryz.prog w=.ok (.int .i64 0) w:=by kernel_rfl
theorem jkb(b:Nat)(w:World):(binOp .eql 88 (.map (some b)) (.map none)).run Tryz.prog w=.ok (.bool false) w:=by kernel_rfl
theorem jlH(w:World):(binOp .eql 88 (.map none) (.map none)).run Tryz.prog w=.ok (.bool true) w:=by kernel_rfl
def zR(W:World)(n:Nat)(v:Value)(l:Dir):Prop :=
 (v=.map none/\l=[])\/∃b,v=.map (some b)/\W.ownsMap Tryz.prog 9 (plainElem Tryz.prog 3) b n (zY l)
def jt:Value->Option Nat
 | .map b=>b
 | _=>none
theorem zR.look{W:World}{n:Nat}{v:Value}{l:Dir}(h:zR W n v l)(s:ByteArray)(hs:s.size<=maxLen):
  (Instr.lookup 88 v (.string s) true).run Tryz.prog W=.ok (.tuple #[.int .i64 ((ya l s.data.toList).getD 0:Nat),.bool (ya l s.data.toList).isSome]) W:=by
 rcases h with ⟨rfl,rfl⟩|⟨b,rfl,ho⟩
 ·exact Maps.look_nil (w:=W) true jjc Tryz.underlying88 (jln W) (joM Tryz.underlying9 hs)
 obtain⟨v,ps,hrun,hat⟩:=ho.look_ok jjc Tryz.underlying88 (jln W) (plainElem_int (H:=Unit) Tryz.underlying3 (a:=0) (by decide)) (joM Tryz.underlying9 hs)
 obtain⟨c,rfl,hc,_⟩:=plainElem_int_inv Tryz.underlying3 hat
 rw[jac]at hrun
 rw[hrun]
 rw[WI]at hc
 have:=congrArg Prod.fst hc
 cases hq:ya l s.data.toList with
 | none=>rw[hq]at this;simp at this;rw[<- this];rfl
 | some f=>rw[hq]at this;simp at this;rw[<- this];rfl
theorem zR.drewN{W:World}{n:Nat}{v:Value}{l:Dir}(h:zR W n v l)(k:Nat):zR (W.drewN k) n v l:=h
theorem zR.mono{W:World}{n m:Nat}{v:Value}{l:Dir}(h:zR W n v l)(hm:n<=m):zR W m v l:=by
 rcases h with h|⟨b,rfl,ho⟩
 ·exact .inl h
 exact .inr ⟨b,rfl,ho.mono hm⟩
theorem zR.lt{W:World}{n:Nat}{v:Value}{l:Dir}(h:zR W n v l):∀b,jt v=some b->b<W.heap.size:=by
 rcases h with ⟨rfl,_⟩|⟨b,rfl,ho⟩
 ·intro b hb;cases hb
 intro c hc;cases hc;exact ho.lt
theorem zR.same{W W':World}{n:Nat}{v:Value}{l:Dir}(h:zR W n v l)(hs:∀b,jt v=some b->W'.heap[b]?=W.heap[b]?):zR W' n v l:=by
 rcases h with h|⟨b,rfl,es,clock,hb,r⟩
 ·exact .inl h
 exact .inr ⟨b,rfl,es,clock,(hs b rfl).trans hb,r⟩
theorem zR.only{W W':World}{n:Nat}{v:Value}{l:Dir}{S:Nat->Prop}(h:zR W n v l)(g:jv S W W')(hs:∀b,jt v=some b->¬S b):zR W' n v l :=
 h.same fun b hb=>g.same b (h.lt b hb) (hs b hb)
theorem zR.below{W W':World}{n B:Nat}{v:Value}{l:Dir}(h:zR W n v l)(g:Below B W W')(hB:W.heap.size<=B):zR W' n v l :=
 h.same fun b hb=>g.block b (jnw (h.lt b hb) hB)
end Go.Proofs.YtpibhbjmcmfnmaaGreatDoor.Vf
namespace Go.Proofs.YtpibhbjmcmfnmaaGreatDoor.Vf
open Go.RowKit
def jh(units:Int)(armed:Bool)(left:Int)(gone:Bool)(room:Int)(sure seen waits files acts:Value):Array Value :=
 #[.int .i64 units,.bool armed,.int .i64 left,.bool gone,.int .i64 room,sure,seen,waits,files,acts]
def vg(armed:Bool)(left:Int)(n:Int):Int:=if armed&&decide (left<n) then left else n
theorem Yc(p:Nat)(t:TypeId)(units left:Int)(armed gone:Bool)(room:Int)(v5 v6 v7 v8 v9:Value)(n:Int)(w:World)(hc:ja w p t (jh units armed left gone room v5 v6 v7 v8 v9))
  (hn:0<=n) (hl:0<=left) (hu:0<=units) (hu2:units<=1000000000000) (hn2:n<=1000000000000) (hl2:left<=9223372036854775807) :
  Calls Tryz.prog 64 #[.pointer (some ⟨p,0,none⟩),.int .i64 n] w fun e w'=>e=.returned (.int .i64 (vg armed left n)) /\
   ja w' p t (jh (units+vg armed left n) armed (if armed then left-vg armed left n else left) (gone || (armed&&decide (left<n))) room v5 v6 v7 v8 v9)/\jv (· = p) w w':=by
 have c0:w.cell? ⟨p,0,none⟩=some (.int .i64 units):=by rw[hc.cell];rfl
 have c1:w.cell? ⟨p,1,none⟩=some (.bool armed):=by rw[hc.cell];rfl
 have c2:w.cell? ⟨p,2,none⟩=some (.int .i64 left):=by rw[hc.cell];rfl
 have c3:w.cell? ⟨p,3,none⟩=some (.bool gone):=by rw[hc.cell];rfl
 have f0:=hc.frozen 0
 have f2:=hc.frozen 2
 have f3:=hc.frozen 3
 cases armed
 ·have hs:vg false left n=n:=rfl
  go_enter Tryz.func64,Tryz.ntmps64
  go_wp2
  go_ret
  refine⟨rfl,?_,((jv.refl _ w).cellS 0 _)⟩
  simpa [jh]using hc.set 0 (.int .i64 (units+n))
 by_cases hlt:left<n
 ·have hs:vg true left n=left:=by simp[vg,hlt]
  rw[hs]
  go_enter Tryz.func64,Tryz.ntmps64
  go_wp2
  go_ret
  refine⟨rfl,?_,(((jv.refl _ w).cellS 3 _).cellS 2 _).cellS 0 _⟩
  simpa [jh]using((hc.set 3 (.bool true)).set 2 (.int .i64 0)).set 0 (.int .i64 (units+left))
 have hs:vg true left n=n:=by simp[vg,hlt]
 rw[hs]
 go_enter Tryz.func64,Tryz.ntmps64
 go_wp2
 go_ret
 refine⟨rfl,?_,(((jv.refl _ w).cellS 2 _).cellS 0 _)⟩
 have hf:decide (left<n)=false:=decide_eq_false (by omega)
 simpa [jh,hf]using(hc.set 2 (.int .i64 (left-n))).set 0 (.int .i64 (units+n))
end Go.Proofs.YtpibhbjmcmfnmaaGreatDoor.Vf
