/- Texts put together:FG,FH,FI,FJ,PF,PG. -/
import Derived.Laws.ResultCell
import Derived.Laws.Rows
import Derived.Test.YtmdhainabeljpaaGreatDoorBxr9
set_option linter.unusedVariables false
set_option maxRecDepth 100000
set_option maxHeartbeats 16000000
namespace Go.Proofs.YtmdhainabeljpaaGreatDoor
abbrev jid:=@List.getElem?_cons_zero
abbrev ji1:=@List.map_append
abbrev jjd:=@Go.Joins.ownsRow_form
abbrev jjB:=@Ne.symm
abbrev jj1:=@Go.World.cell?_alloc_old
abbrev jj2:=@Nat.ne_of_lt
abbrev jj9:=@List.take_succ_cons
end Go.Proofs.YtmdhainabeljpaaGreatDoor
namespace Go.Proofs.YtmdhainabeljpaaGreatDoor
open Go.RowKit Go.Shelf
attribute [local go_sem] qL
theorem Ug(k l:List UInt8)(hk:k.length<=100000)(hl:l.length<=100000)(w:World):
  Calls Tryz.prog 162 #[.string (B k),.string (B l)] w fun e w'=>e=.returned (.string (B (zE k l)))/\w'=w :=
 (jcH k l hk hl w).mono fun e w' ⟨a,b⟩=>⟨a,b.symm⟩
theorem QZ:(Tryz.prog.info? 9).map (fun i=>(i.zero,i.size,i.bytes))=some (some (.string ⟨#[]⟩),1,16):=by kernel_rfl
theorem jcc(k v:List UInt8)(hk:k.length<=100000)(hv:v.length<=100000)(w:World)(h:jR k v=0):
  Calls Tryz.prog 127 #[zi k v] w fun e w'=>∃sv base,e=.returned (.tuple #[sv,.nilIface])/\qY w' base sv ((jO k v).map B)/\Below w.heap.size w w':=by
 have C:=fun w=>JV k v (by omega) (by omega) w
 rw[h]at C
 clear h
 obtain⟨p,r,hp⟩:∃p r,jp v=p::r:=⟨_,_,jU v⟩
 have SP:=fun w=>jam v (by omega) w
 rw[hp]at SP
 obtain⟨z1,z2,z3⟩:=Gp hp
 have HL:=jh5 (Gw (k:=k) hp)
 clear hp
 have F1:=fun w=>Ug k p (by omega) (by omega) w
 unfold zi at *
 generalize hfl:zE k p=fl at *
 have HF:=jh5 hfl
 clear hfl
 generalize B k=s at *
 generalize B v=t at *
 obtain⟨i0,hi,hz0,hz1,hz2⟩:=info_parts QZ
 go_enter Tryz.func127,Tryz.ntmps127
 go_wp2_with fail
 refine(C _).mono ?_
 rintro e w1 ⟨rfl,b1⟩
 have c0:=b1.cell (p:=⟨w.heap.size,0,none⟩) (by simp)
 have c1:=b1.cell (p:=⟨w.heap.size,1,none⟩) (by simp)
 have hs1:=b1.size
 go_wp2_with fail
 refine(SP _).mono ?_
 rintro e w2 ⟨rfl,hw2⟩
 have q0:w2.cell? ⟨w.heap.size,0,none⟩=some (.string s):=by
  rw[hw2,jj1 _ _ _ (jj2 (show w.heap.size<w1.heap.size by have:=hs1;simp at this;omega)),c0,jjk _ _ _ _ rfl];rfl
 have PC:∀(j:Nat) x,(p::r)[j]?=some x->w2.cell? ⟨w1.heap.size,j,none⟩=some (.string (B x)):=by
  intro j x hx
  rw[hw2,jjk _ _ _ _ rfl]
  simp only[jjO,jie,ji3,hx];rfl
 have hb12:Below w.heap.size w w2:=by
  rw[hw2]
  exact(((jh8 _ _).alloc (jh6 _) _).trans (b1.mono (by simp))).alloc (by simp at hs1;omega) _
 have hlt:w1.heap.size<w2.heap.size:=by rw[hw2];simp
 have e0:=PC 0 p rfl
 have hz9:w.heap.size<w1.heap.size:=by simp at hs1;omega
 have BW:=jh5 hb12
 have PCH:=jh5 (fun(j:Nat) x (hx:r[j]?=some x)=>PC (j+1) x (by simpa using hx))
 clear hw2 c0 c1 b1 hs1 PC hb12
 generalize w1.heap.size=b0 at *
 clear w1
 rw[jic]
 go_wp2_with fail
 refine wp_region_still_tail 6 (by kernel_rfl) (by kernel_rfl) ?_
 simp only[jj9,List.take_zero,List.drop_succ_cons,jjl]
 still_step
 still_step
 still_step
 still_step
 still_step
 still_call (F1 _)
 refine wpStill_nil ?_
 change wpList _ _ _ _ _ w2.drew
 replace hlt:b0<w2.drew.heap.size:=hlt
 replace BW:Hid (Below w.heap.size w w2.drew):=BW.out.drew
 replace PCH:Hid (∀(j:Nat) x,r[j]?=some x->w2.drew.cell? ⟨b0,j+1,none⟩=some (.string (B x))):=PCH
 clear q0 e0 SP C F1
 generalize w2.drew=w3 at *
 have hw3:=BW.out.size
 go_wp2_with fail
 ·subst h
  go_loopw [6,27] (fun v6 i wr=>i=.int .i64 0/\qY wr w3.heap.size v6 [B fl]/\Below w3.heap.size w3 wr) (fun _ i _=>0)
  case atStart=>exact⟨rfl,qY.one w3 _ (jh6 _) _,(jh8 _ _).alloc (jh6 _) _⟩
  case round =>
  obtain⟨rfl,hown,hb⟩:=hrel
  go_wp2_with fail
  go_ret2
  exact⟨_,_,rfl,by rw[HL.out];exact hown,BW.out.trans (hb.mono hw3)⟩
 go_loopw [6,27] (fun v6 i wr=>∃(k:Nat),k<=r.length/\i=.int .i64 k/\qY wr w3.heap.size v6 ((fl::(r.take k).map jl).map B)/\Below w3.heap.size w3 wr) (fun _ i _=>r.length-(intOf i).toNat)
 case atStart=>exact⟨0,jii _,rfl,qY.one w3 _ (jh6 _) _,(jh8 _ _).alloc (jh6 _) _⟩
 case round =>
 obtain⟨k,hkr,rfl,hown,hb⟩:=hrel
 by_cases hkl:k<r.length
 ·obtain⟨x,hx⟩:∃x,r[k]?=some x:=⟨_,jia hkl⟩
  have hcx:=PCH.out k x hx
  have hcx2:=(hb.cell (p:=⟨b0,k+1,none⟩) hlt).trans hcx
  rw[Nat.add_comm k 1]at hcx2
  have hxl:=z2 x (jim hx)
  have TK:Hid ((fl::(r.take (k+1)).map jl).map B=(fl::(r.take k).map jl).map B++[B (jl x)]):=by
   show _=_
   rw[jiK,hx];simp
  have FT:=fun w=>Ue x (by omega) w
  have hll:((fl::(r.take k).map jl).map B).length=k+1:=by simp;omega
  have HLL:=jh5 hll
  clear hx hcx
  generalize (fl::(r.take k).map jl).map B=ls at *
  go_wp2_with fail
  refine(FT _).mono ?_
  rintro e w4 ⟨rfl,b4⟩
  have hown4:w4.ownsRow w3.heap.size 9 1 u6 ls.length (ls.map Value.string):=hown.kept b4 (jh6 _)
  have hs4:=b4.size
  have hs3:=hb.size
  have HC:=jh5 (yy w4 (B (jl x)) 9)
  have hb4:Below w3.heap.size w3 w4:=hb.trans (b4.mono hs3)
  clear hown b4
  generalize jl x=y at *
  go_wp2_with (at_builtin;refine wpList_append_own _ rfl _ _ 77 rfl w3.heap.size 9 i0 _ 1 16 Tryz.underlying77 hi hz0 hz1 hz2 rfl (by decide) _ _ _ rfl (hown4.alloc _) ⟨w4.heap.size,0,none⟩ 1 1 _ rfl rfl HC.out ?c2 ?c3 ?c4 ?c5 ?_)
  case c2=>intro u hu;simp at hu;subst hu;rfl
  case c3=>unfold maxLen;omega
  case c4=>omega
  case c5=>simp;omega
  intro v' w5 hown' hgrow _
  obtain⟨g',cap',rfl⟩:=ownsRow_succ hown'
  have hb5:Below w3.heap.size w3 w5:=(hb4.alloc (by omega) _).grown hgrow (by simp;omega) (fun j ej=>(hown4.lt j ej).1)
  go_wp2_with fail
  go_roundw
  case rel =>
   refine⟨k+1,hkl,by go_num,?_,hb5⟩
   rw[TK.out]
   unfold qY
   rw[jh7,ji1,HLL.out];exact hown'
  case measure=>simp[intOf];omega
 obtain rfl:k=r.length:=by omega
 rw[jiF]at hown
 go_wp2_with fail
 go_ret2
 exact⟨_,_,rfl,by rw[HL.out];exact hown,BW.out.trans (hb.mono hw3)⟩
end Go.Proofs.YtmdhainabeljpaaGreatDoor
namespace Go.Proofs.YtmdhainabeljpaaGreatDoor
open Go.RowKit Go.Shelf
def Zh(want:Nat):List (List UInt8)->Bool
 | []=>true
 | a::r=>(jk a==want)&&Zh 3 r
theorem Gg:∀r:List (List UInt8),Zh 3 r=r.all (fun l=>jk l==3)
 | []=>rfl
 | a::r=>by unfold Zh;rw[Gg r,jjS]
theorem Ww(ls:List (List UInt8)):VB ls=(decide (0<ls.length)&&Zh 4 ls):=by
 cases ls with
 | nil=>rfl
 | cons a r=>unfold VB Zh;rw[Gg];simp
theorem Kb(ls:List (List UInt8))(k want:Nat)(x:List UInt8)(h:ls[k]?=some x):Zh want (ls.drop k)=((jk x==want)&&Zh 3 (ls.drop (k+1))):=by
 have hk:k<ls.length:=by
  rcases jir k ls.length with q|q
  ·exact q
  rw[jis q]at h;cases h
 rw[jiB hk]
 rw[jia hk]at h
 rw[jh9 h];rfl
theorem jdY(l:List UInt8):jk l<=5:=by
 unfold jk
 split;· decide
 split;· decide
 split;· decide
 split;· decide
 split<;>decide
theorem jeC{w:World}{A:Option Addr}{ls:List (List UInt8)}(hc:∀(i:Nat) (s:ByteArray),(ls.map B)[i]?=some s->∃b off,A=some ⟨b,off,none⟩/\b<w.heap.size/\w.cell? ⟨b,off+i,none⟩=some (.string s)):
  ∀(i:Nat) (x:List UInt8),ls[i]?=some x->∃b off,A=some ⟨b,off,none⟩/\b<w.heap.size/\w.cell? ⟨b,off+i,none⟩=some (.string (B x)) :=
 fun i x hx=>hc i (B x) (by rw[ji3,hx];rfl)
theorem jbN(ls:List (List UInt8))(v:Value)(w:World)(hs:Strs w v (ls.map B))(hl:∀l∈ls,l.length<=100000)(hn:ls.length<=100000):
  Calls Tryz.prog 111 #[v] w fun e w'=>e=.returned (.bool (VB ls))/\Below w.heap.size w w':=by
 obtain⟨A,cap,rfl,hle,hc⟩:=hs
 have hcb:=jeC hc
 have PC:=jh5 hcb
 have HF:=jh5 (Ww ls)
 clear hc hcb
 rw[jiA]
 go_enter Tryz.func111,Tryz.ntmps111
 go_wp2_with fail
 go_loopw [3,8] (fun v3 i wr=>∃k want:Nat,k<=ls.length/\want<=5/\i=.int .i64 k/\v3=.int .i64 want/\Zh 4 ls=Zh want (ls.drop k)/\Below w.heap.size w wr) (fun _ i _=>ls.length-(intOf i).toNat)
 case atStart=>exact⟨0,4,jii _,by decide,rfl,rfl,rfl,jh8 _ _⟩
 case round =>
 obtain⟨k,want,hk,hwt,rfl,rfl,hG,hb⟩:=hrel
 by_cases hlt:k<ls.length
 ·obtain⟨x,hx⟩:∃x,ls[k]?=some x:=⟨_,jia hlt⟩
  obtain⟨b,off,rfl,hbb,hcell⟩:=PC.out k x hx
  have hcx:=(hb.cell (p:=⟨b,off+k,none⟩) hbb).trans hcell
  have hxl:=hl x (jim hx)
  have KX:=fun w=>vp (B x) (by rw[je];unfold maxLen;omega) w
  rw[ji]at KX
  rw[Kb ls k want x hx]at hG
  have GH:=jh5 hG
  have hk5:=jdY x
  clear hx hcell hG
  generalize jk x=kx at *
  go_wp2_with fail
  refine(KX _).mono ?_
  rintro e w1 ⟨rfl,b1⟩
  by_cases hkx:kx=want
  ·subst hkx
   go_wp2_with fail
   go_roundw
   case rel=>exact⟨k+1,3,hlt,by decide,by go_num,rfl,by rw[GH.out];simp,hb.trans (b1.mono hb.size)⟩
   case measure=>simp[intOf];omega
  have e1:((kx:Int)==(want:Int))=false:=by rw[beq_eq_false_iff_ne];omega
  have e2:((kx:Int) != (want:Int))=true:=by rw[bne,e1];rfl
  have e3:(kx==want)=false:=by rw[beq_eq_false_iff_ne];exact hkx
  rw[e3]at GH
  clear hkx e3
  go_wp2_with fail
  go_ret
  exact⟨by rw[HF.out,GH.out];simp,hb.trans (b1.mono hb.size)⟩
 obtain rfl:k=ls.length:=by omega
 rw[ji6]at hG
 have GH:=jh5 hG
 clear hG
 go_wp2_with fail
 go_ret
 exact⟨by rw[HF.out,GH.out];simp[Zh],hb⟩
theorem jfi(l:List UInt8)(w:World):
  Calls Tryz.prog 66 #[.string (B l),.string ⟨#[32]⟩] w fun e w'=>e=.returned (.string (B (qP l)))/\w=w':=by
 refine(Tryz.strings_TrimPrefix (B l) ⟨#[32]⟩ _).mono ?_
 rintro e w' ⟨rfl,rfl⟩
 refine⟨?_,rfl⟩
 rw[ji,show(⟨#[32]⟩:ByteArray).data.toList=[32] from rfl]
 unfold Lib.trimPrefix Lib.hasPrefix qP B
 cases l with
 | nil=>rfl
 | cons a t =>
 by_cases h:a=32
 ·subst h;simp[List.isPrefixOf]
 have h2:((32:UInt8)==a)=false:=by rw[beq_eq_false_iff_ne];exact jjB h
 simp[List.isPrefixOf,h2,h]
theorem jdq(l:List UInt8)(w:World):
  Calls Tryz.prog 66 #[.string (B l),.string ⟨#[46]⟩] w fun e w'=>e=.returned (.string (B (jY l)))/\w=w':=by
 refine(Tryz.strings_TrimPrefix (B l) ⟨#[46]⟩ _).mono ?_
 rintro e w' ⟨rfl,rfl⟩
 refine⟨?_,rfl⟩
 rw[ji,show(⟨#[46]⟩:ByteArray).data.toList=[46] from rfl]
 unfold Lib.trimPrefix Lib.hasPrefix jY B
 cases l with
 | nil=>rfl
 | cons a t =>
 by_cases h:a=46
 ·subst h;simp[List.isPrefixOf]
 have h2:((46:UInt8)==a)=false:=by rw[beq_eq_false_iff_ne];exact jjB h
 simp[List.isPrefixOf,h2,h]
theorem KF:∀ls:List (List UInt8),Lib.join ls [10]=zR ls
 | []=>rfl
 | [p]=>by simp[Lib.join,List.intercalate,zR]
 | p::q::r=>by
  have ih:=KF (q::r)
  unfold Lib.join at ih ⊢
  show _=p++10::zR (q::r)
  rw[<- ih]
  simp[List.intercalate,List.intersperse]
theorem jgK(a:List UInt8):WJ (B a)=B (before a):=by
 rw[<- jbh (WJ (B a)),xh,ji]
theorem je4(a:List UInt8):WK (B a)=B (qB a):=by
 rw[<- jbh (WK (B a))]
 unfold WK qB
 rw[jjG,ji]
theorem jdZ{x:List UInt8}(h:jk x=3):∃c d t,x=c::d::t:=by
 unfold jk at h
 split at h;· cases h
 split at h;· cases h
 rename_i hb
 split at h;· cases h
 split at h
 ·rename_i hg
  cases x with
  | nil=>cases hg
  | cons c t =>
  cases t with
  | nil =>
   exfalso;apply hb
   have:zJ c=true:=hg
   simp[jI,this]
  | cons d t=>exact⟨c,d,t,rfl⟩
 split at h<;>cases h
theorem ZH(c:UInt8)(t:List UInt8):(B (c::t)).extract 1 (B (c::t)).size=B t:=by
 rw[<- jbh ((B (c::t)).extract 1 _),jjG,ji];rfl
theorem YY{fn:Func}{p:Tmp}{ty:TypeId}(h:fn.results=#[.cell p ty])(tmps:Array Value)(P:Program)(w:World):
  (results fn tmps).run P w=((asAddr (tmps.getD p undef)).run P w).andThen fun a w₁=>(loadVar ty a).run P w₁:=by
 simp only[results,h]
 simp[Sem.run_bind,Result.andThen]
theorem jgI{fn:Func}{p:Tmp}(h:fn.results=#[.cell p 71])(tmps:Array Value)(w:World)(b:Nat)(cur:Array Value)(hp:tmps.getD p undef=.pointer (some ⟨b,0,none⟩))
  (hc:jd w b 71 cur) (hz:cur.size=2):(results fn tmps).run Tryz.prog w=.ok (.agg cur) w:=by
 have L:=run_loadVar_row (P:=Tryz.prog) w b 71 71 cur (0,0) _ hc Tryz.underlying71 rfl (by rw[hz];kernel_rfl)
 rw[YY h,hp]
 show(loadVar _ _).run _ _=_
 exact L
theorem vQ{fn:Func}{p u:Tmp}(h:fn.results=#[.cell p 71,.tmp u])(tmps:Array Value)(w:World)(b:Nat)(cur:Array Value)(hp:tmps.getD p undef=.pointer (some ⟨b,0,none⟩))
  (hc:jd w b 71 cur) (hz:cur.size=2):(results fn tmps).run Tryz.prog w=.ok (.tuple #[.agg cur,tmps.getD u undef]) w:=by
 have L:=run_loadVar_row (P:=Tryz.prog) w b 71 71 cur (0,0) _ hc Tryz.underlying71 rfl (by rw[hz];kernel_rfl)
 rw[results_cell_tmp h,hp]
 show((loadVar _ _).run _ _).andThen _=_
 rw[L];rfl
theorem jb{w w':World}{b N:Nat}{t:TypeId}{cur:Array Value}(h:jd w b t cur)(hb:Below N w w')(hN:b<N):jd w' b t cur:=(hb.block b hN).trans h
theorem Gf(c0 c1 v0 v1:Value):((#[c0,c1].setIfInBounds 0 v0).setIfInBounds 1 v1)=#[v0,v1]:=by
 simp[List.setIfInBounds_toArray,List.set]
theorem jdw(a:List UInt8)(r:List (List UInt8))(v:Value)(w:World)(hs:Strs w v ((a::r).map B))(ha:a.length<=100000)(hr:∀l∈r,l.length<=100000/\jk l=3)(hka:jk a=4)(hn:r.length<=100000)
    (hj:(zy (a::r)).length<=100000000) :
    Calls Tryz.prog 112 #[v] w fun e w'=>e=.returned (zi (before a) (zy (a::r)))/\Below w.heap.size w w':=by
  obtain⟨A,cap,rfl,hle,hc⟩:=hs
  have hcb:=jeC hc
  obtain⟨b,off,rfl,hbb,hca⟩:=hcb 0 a rfl
  have PC:=jh5 (fun(j:Nat) x (hx:r[j]?=some x)=>(show w.cell? ⟨b,off+(j+1),none⟩=some (.string (B x)) by
    obtain⟨b',off',e,_,h⟩:=hcb (j+1) x (by simpa using hx)
    cases e;exact h))
  clear hc hcb
  rw[jiA,jic]at hle ⊢
  have CP:=fun w=>jev (B a) (by rw[je];unfold maxLen;omega) (by rw[ji];exact hka) w
  rw[jgK,je4]at CP
  have TS:=fun w=>jfi (qB a) w
  have HS:Hid (Qy (a::r)=qP (qB a)::r.map (fun l=>jY l.tail)):=rfl
  have HJ:Hid (Lib.join (((qP (qB a)::r.map (fun l=>jY l.tail)).map B).map (·.data.toList)) [10]=zy (a::r)):=by
    show _=_
    unfold zy
    rw[<- KF,HS.out,jjO]
    congr 1
    conv=>rhs;rw[<- List.map_id (qP (qB a)::r.map (fun l=>jY l.tail))]
    exact jj8 fun l _=>ji l
  generalize qP (qB a)=p0 at *
  generalize qB a=ac at *
  obtain⟨i0,hi,hz0,hz1,hz2⟩:=info_parts QZ
  rw[jj0]at hca
  go_enter Tryz.func112,Tryz.ntmps112
  go_wp2_with fail
  refine(CP _).mono ?_
  rintro e w1 ⟨rfl,b1⟩
  go_wp2_with fail
  refine(TS _).mono ?_
  rintro e w2 ⟨rfl,rfl⟩
  have RB:jd w1 w.heap.size 71 #[.string ⟨#[]⟩,.string ⟨#[]⟩]:=jb (jd.new w _ _) b1 (by simp)
  have hb1:Below w.heap.size w w1:=((jh8 _ _).alloc (jh6 _) _).trans (b1.mono (by simp))
  have PC1:=jh5 (fun(j:Nat) x (hx:r[j]?=some x)=>(hb1.cell (p:=⟨b,off+(j+1),none⟩) hbb).trans (PC.out j x hx))
  have hs1:=b1.size
  simp only[jiO]at hs1
  have hb1lt:b<w1.heap.size:=by omega
  have BW:=jh5 hb1
  clear b1 PC hca hb1 CP TS
  have hw1:=BW.out.size
  go_wp2_with fail
  all_goals
    go_loopw [6,23] (fun v6 i wr=>∃(k:Nat),k<=r.length/\i=.int .i64 k/\qY wr w1.heap.size v6 ((p0::(r.take k).map (fun l=>jY l.tail)).map B)/\Below w1.heap.size w1 wr) (fun _ i _=>r.length-(intOf i).toNat)
    case atStart=>exact⟨0,jii _,rfl,qY.one w1 _ (jh6 _) _,(jh8 _ _).alloc (jh6 _) _⟩
    case round =>
    obtain⟨k,hkr,rfl,hown,hb⟩:=hrel
    by_cases hkl:k<r.length
    . first
      | (exfalso;omega)
      | (obtain⟨x,hx⟩:∃x,r[k]?=some x:=⟨_,jia hkl⟩
         have hcx:=PC1.out k x hx
         have hcx2:=(hb.cell (p:=⟨b,off+(k+1),none⟩) hb1lt).trans hcx
         rw[show off+(k+1)=off+1+k by omega]at hcx2
         obtain⟨hxl,hx3⟩:=hr x (jim hx)
         obtain⟨c,d,t,rfl⟩:=jdZ hx3
         have TK:Hid ((p0::(r.take (k+1)).map (fun l=>jY l.tail)).map B=(p0::(r.take k).map (fun l=>jY l.tail)).map B++[B (jY (d::t))]):=by
           show _=_
           rw[jiK,hx];simp
         have TD:=fun w=>jdq (d::t) w
         have hll:((p0::(r.take k).map (fun l=>jY l.tail)).map B).length=k+1:=by simp;omega
         have HLL:=jh5 hll
         have hsz:(B (c::d::t)).size=t.length+2:=by rw[je];rfl
         have hex:=ZH c (d::t)
         rw[hsz]at hex
         clear hx hcx hx3
         generalize (p0::(r.take k).map (fun l=>jY l.tail)).map B=ls at *
         generalize jY (d::t)=y at *
         generalize B (c::d::t)=X at *
         generalize B (d::t)=Y at *
         go_wp2_with fail
         refine(TD _).mono ?_
         rintro e w4 ⟨rfl,rfl⟩
         have hs3:=hb.size
         have HC:=jh5 (yy wr (B y) 9)
         have hown4:wr.ownsRow w1.heap.size 9 1 u6 ls.length (ls.map Value.string):=hown
         clear hown
         go_wp2_with (at_builtin;refine wpList_append_own _ rfl _ _ 77 rfl w1.heap.size 9 i0 _ 1 16 Tryz.underlying77 hi hz0 hz1 hz2 rfl (by decide) _ _ _ rfl (hown4.alloc _) ⟨wr.heap.size,0,none⟩ 1 1 _ rfl rfl HC.out ?c2 ?c3 ?c4 ?c5 ?_)
         case c2=>intro u hu;simp at hu;subst hu;rfl
         case c3=>unfold maxLen;omega
         case c4=>omega
         case c5=>simp;omega
         intro v' w5 hown' hgrow _
         obtain⟨g',cap',rfl⟩:=ownsRow_succ hown'
         have hb5:Below w1.heap.size w1 w5:=(hb.alloc (by omega) _).grown hgrow (by simp;omega) (fun j ej=>(hown4.lt j ej).1)
         go_wp2_with fail
         go_roundw
         case rel =>
           refine⟨k+1,hkl,by go_num,?_,hb5⟩
           rw[TK.out]
           unfold qY
           rw[jh7,ji1,HLL.out];exact hown'
         case measure=>simp[intOf];omega)
    obtain rfl:k=r.length:=by omega
    rw[jiF]at hown
    obtain⟨g,cap',e⟩:=jjd hown (by simp)
    subst e
    have hst:=hown.strs
    obtain⟨A',cap2,e,hle2,hc2⟩:=hst
    cases e
    have RBr:=jb RB hb (by omega)
    have JN:=Tryz.strings_Join g 0 cap' _ ⟨#[10]⟩ wr (fun j x hx=>by obtain⟨b',o',e,_,h⟩:=hc2 j x hx;cases e;exact h) (by obtain⟨b',o',e,h,_⟩:=hc2 0 _ rfl;cases e;exact h) (by simp;omega) hle2 (by show(Lib.join _ [10]).length<=_;rw[HJ.out];omega)
    rw[show(⟨#[10]⟩:ByteArray).data.toList=[10] from rfl,HJ.out]at JN
    simp only[jiA,jic]at JN ⊢
    have hbw:=hb.size
    have hbA:=BW.out.trans (hb.mono hw1)
    clear hown hc2 hle2 HJ
    go_wp2_with fail
    refine JN.mono ?_
    rintro e w5 ⟨rfl,b5⟩
    have R5:=jb RBr b5 (by omega)
    have c0:=R5.cell 0
    have c1:=R5.cell 1
    have f0:=R5.frozen 0
    have f1:=R5.frozen 1
    have hb5:=hbA.trans (b5.mono (by omega))
    simp only[jie,jid,jib]at c0 c1
    rw[mkB]
    have RE:=(R5.set 0 (.string (B (before a)))).set 1 (.string (B (zy (a::r))))
    rw[Gf]at RE
    go_wp2_with fail
    refine bodyPost_ret (jgI rfl _ _ w.heap.size _ rfl RE rfl) rfl ?_
    exact⟨rfl,(hb5.setCell (jh6 _) _).setCell (jh6 _) _⟩
end Go.Proofs.YtmdhainabeljpaaGreatDoor
namespace Go.Proofs.YtmdhainabeljpaaGreatDoor
open Go.RowKit Go.Shelf
attribute [local go_sem] qL GR je8
theorem Zi{ls:List (List UInt8)}(h:VB ls=true):∃a r,ls=a::r/\jk a=4/\∀l∈r,jk l=3:=by
 cases ls with
 | nil=>cases h
 | cons a r =>
 refine⟨a,r,rfl,?_⟩
 unfold VB at h
 simp only[jiL,beq_iff_eq,jj6]at h
 exact h
theorem vE{ls:List (List UInt8)}(h:VB ls=false):jo ls=2/\jF ls=[]/\jE ls=[]:=by
 have e:jo ls=2:=by unfold jo;rw[h];rfl
 exact⟨e,by unfold jF;rw[e];rfl,by unfold jE;rw[e];rfl⟩
theorem vF{ls:List (List UInt8)}(h:VB ls=true)(hl:¬(zy ls).length<=1000):jo ls=6/\jF ls=[]/\jE ls=[]:=by
 have e:jo ls=6:=by unfold jo;rw[h,if_pos rfl,if_neg hl]
 exact⟨e,by unfold jF;rw[e];rfl,by unfold jE;rw[e];rfl⟩
theorem yi{a:List UInt8}{r:List (List UInt8)}(h:VB (a::r)=true)(hl:(zy (a::r)).length<=1000):jo (a::r)=0/\jF (a::r)=before a/\jE (a::r)=zy (a::r):=by
 have e:jo (a::r)=0:=by unfold jo;rw[h,if_pos rfl,if_pos hl]
 exact⟨e,by unfold jF;rw[e];rfl,by unfold jE;rw[e];rfl⟩
theorem jbb(a:List UInt8):(before a).length<=a.length:=(jjg _).length_le
theorem jag(ls:List (List UInt8))(v:Value)(w:World)(hs:Strs w v (ls.map B))(hl:∀l∈ls,l.length<=100000)(hn:ls.length<=100000)(hj:(zy ls).length<=1000000):
  Calls Tryz.prog 75 #[v] w fun e w'=>e=.returned (.tuple #[zi (jF ls) (jE ls),Zy (jo ls)])/\Below w.heap.size w w':=by
 have ST:=jh5 (fun(o:Obj)=>(hs.alloc o))
 cases hF:VB ls with
 | false =>
  obtain⟨e1,e2,e3⟩:=vE hF
  rw[e1,e2,e3]
  unfold zi
  go_enter Tryz.func75,Tryz.ntmps75
  go_wp2_with fail
  refine(jbN ls v _ (ST.out _) hl hn).mono ?_
  rw[hF]
  rintro e w1 ⟨rfl,b1⟩
  have R1:=jb (jd.new w 71 #[.string ⟨#[]⟩,.string ⟨#[]⟩]) b1 (by simp)
  have c0:=R1.cell 0
  have c1:=R1.cell 1
  have f0:=R1.frozen 0
  have f1:=R1.frozen 1
  have hb1:Below w.heap.size w w1:=((jh8 _ _).alloc (jh6 _) _).trans (b1.mono (by simp))
  simp only[jie,jid,jib]at c0 c1
  have RE:=(R1.set 0 (.string ⟨#[]⟩)).set 1 (.string ⟨#[]⟩)
  rw[Gf]at RE
  clear b1 ST
  go_wp2_with fail
  refine bodyPost_ret (vQ rfl _ _ w.heap.size _ rfl RE rfl) rfl ?_
  exact⟨rfl,(hb1.setCell (jh6 _) _).setCell (jh6 _) _⟩
 | true =>
 obtain⟨a,r,rfl,hka,hkr⟩:=Zi hF
 have hg:ju (before a)=true:=(jfV hka).2.2
 have hal:=hl a (by simp)
 have hbl:=jbb a
 have SD:=fun w' (h:Strs w' v ((a::r).map B))=>jdw a r v w' h hal (fun l hm=>⟨hl l (jif _ hm),hkr l hm⟩) hka (by simp at hn;omega) (by omega)
 have CK:=fun w'=>JV (before a) (zy (a::r)) (by omega) hj w'
 have hchk:jR (before a) (zy (a::r))=if (zy (a::r)).length<=1000 then 0 else 6:=by unfold jR;rw[hg];rfl
 rw[hchk]at CK
 have SAY:=fun w' (h:Strs w' v ((a::r).map B))=>jbN (a::r) v w' h hl hn
 rw[hF]at SAY
 by_cases hlen:(zy (a::r)).length<=1000
 ·rw[if_pos hlen]at CK
  obtain⟨e1,e2,e3⟩:=yi hF hlen
  rw[e1,e2,e3]
  unfold zi at *
  generalize B (before a)=K at *
  generalize B (zy (a::r))=V at *
  go_enter Tryz.func75,Tryz.ntmps75
  go_wp2_with fail
  refine(SAY _ (ST.out _)).mono ?_
  rintro e w1 ⟨rfl,b1⟩
  have S1:=(ST.out (.cells #[.string ⟨#[]⟩,.string ⟨#[]⟩] 71)).below b1 (jh6 _)
  have R1:=jb (jd.new w 71 #[.string ⟨#[]⟩,.string ⟨#[]⟩]) b1 (by simp)
  have hb1:Below w.heap.size w w1:=((jh8 _ _).alloc (jh6 _) _).trans (b1.mono (by simp))
  have hs1:=b1.size
  simp only[jiO]at hs1
  clear b1 ST
  go_wp2_with fail
  refine(SD _ S1).mono ?_
  rintro e w2 ⟨rfl,b2⟩
  have R2:=jb R1 b2 (by omega)
  have hb2:=hb1.trans (b2.mono (by omega))
  have hs2:=b2.size
  clear b2 R1 S1 hb1
  have NB:=jd.new w2 71 #[.string K,.string V]
  have OB:=R2.alloc (.cells #[.string K,.string V] 71)
  have hb3:=hb2.alloc (by omega) (.cells #[.string K,.string V] 71)
  go_wp2_with fail
  refine(CK _).mono ?_
  rintro e w4 ⟨rfl,b4⟩
  have N4:=jb NB b4 (by simp)
  have O4:=jb OB b4 (by simp;omega)
  have hb4:=hb3.trans (b4.mono (by simp;omega))
  have n0:=N4.cell 0
  have n1:=N4.cell 1
  have c0:=O4.cell 0
  have c1:=O4.cell 1
  have f0:=O4.frozen 0
  have f1:=O4.frozen 1
  simp only[jie,jid,jib]at c0 c1 n0 n1
  have RE:=(O4.set 0 (.string K)).set 1 (.string V)
  rw[Gf]at RE
  clear b4 NB OB R2 hb3 hb2
  go_wp2_with fail
  refine bodyPost_ret (vQ rfl _ _ w.heap.size _ rfl RE rfl) rfl ?_
  exact⟨rfl,(hb4.setCell (jh6 _) _).setCell (jh6 _) _⟩
 rw[if_neg hlen]at CK
 obtain⟨e1,e2,e3⟩:=vF hF hlen
 rw[e1,e2,e3]
 unfold zi at *
 generalize B (before a)=K at *
 generalize B (zy (a::r))=V at *
 go_enter Tryz.func75,Tryz.ntmps75
 go_wp2_with fail
 refine(SAY _ (ST.out _)).mono ?_
 rintro e w1 ⟨rfl,b1⟩
 have S1:=(ST.out (.cells #[.string ⟨#[]⟩,.string ⟨#[]⟩] 71)).below b1 (jh6 _)
 have R1:=jb (jd.new w 71 #[.string ⟨#[]⟩,.string ⟨#[]⟩]) b1 (by simp)
 have hb1:Below w.heap.size w w1:=((jh8 _ _).alloc (jh6 _) _).trans (b1.mono (by simp))
 have hs1:=b1.size
 simp only[jiO]at hs1
 clear b1 ST
 go_wp2_with fail
 refine(SD _ S1).mono ?_
 rintro e w2 ⟨rfl,b2⟩
 have R2:=jb R1 b2 (by omega)
 have hb2:=hb1.trans (b2.mono (by omega))
 have hs2:=b2.size
 clear b2 R1 S1 hb1
 have NB:=jd.new w2 71 #[.string K,.string V]
 have OB:=R2.alloc (.cells #[.string K,.string V] 71)
 have hb3:=hb2.alloc (by omega) (.cells #[.string K,.string V] 71)
 go_wp2_with fail
 refine(CK _).mono ?_
 rintro e w4 ⟨rfl,b4⟩
 have N4:=jb NB b4 (by simp)
 have O4:=jb OB b4 (by simp;omega)
 have hb4:=hb3.trans (b4.mono (by simp;omega))
 have n0:=N4.cell 0
 have n1:=N4.cell 1
 have c0:=O4.cell 0
 have c1:=O4.cell 1
 have f0:=O4.frozen 0
 have f1:=O4.frozen 1
 simp only[jie,jid,jib]at c0 c1 n0 n1
 have RE:=(O4.set 0 (.string ⟨#[]⟩)).set 1 (.string ⟨#[]⟩)
 rw[Gf]at RE
 clear b4 NB OB R2 hb3 hb2
 go_wp2_with fail
 refine bodyPost_ret (vQ rfl _ _ w.heap.size _ rfl RE rfl) rfl ?_
 exact⟨rfl,(hb4.setCell (jh6 _) _).setCell (jh6 _) _⟩
end Go.Proofs.YtmdhainabeljpaaGreatDoor
namespace Go.Proofs.YtmdhainabeljpaaGreatDoor
open Go.RowKit Go.Shelf
attribute [local go_sem] qL
def jz(lo:Nat)(w:World)(e:Value)(at_ n:Nat):Prop:=∃q,lo<=q/\e=.iface 54 (.pointer (some ⟨q,0,none⟩))/\jd w q 56 #[.int .i64 at_,Zy n]
theorem jz.below{lo:Nat}{w w':World}{e:Value}{a n N:Nat}(h:jz lo w e a n)(hb:Below N w w')(hN:w.heap.size<=N):jz lo w' e a n:=by
 obtain⟨q,h0,h1,h2⟩:=h
 exact⟨q,h0,h1,(hb.block q (jih h2.lt hN)).trans h2⟩
theorem jz.mono{lo lo':Nat}{w:World}{e:Value}{a n:Nat}(h:jz lo w e a n)(hl:lo'<=lo):jz lo' w e a n:=by
 obtain⟨q,h0,h1,h2⟩:=h
 exact⟨q,jiv hl h0,h1,h2⟩
theorem jz.new(w:World)(a n lo q:Nat)(hq:w.heap.size=q)(hl:lo<=q):jz lo (w.alloc (.cells #[.int .i64 a,Zy n] 56)) (.iface 54 (.pointer (some ⟨q,0,none⟩))) a n:=by subst hq;exact⟨w.heap.size,hl,rfl,jd.new _ _ _⟩
theorem jA.field{w w':World}{T:Nat->Nat}{R b:Nat}{text:ByteArray}{p p':PS}{V:PV}(h:jA w T R b text p V)(hR:R<=w.heap.size)(v6':Value)
  (hc:jd w' b 81 (vT p' text (.slice none 0 0) V.v3 v6')) (hr:w'.ownsRow 0 71 2 v6' p'.fields.length (jt p'.fields)) (hk:yS w.heap.size w'.heap.size V.v6.ownBlock v6'.ownBlock)
  (ho:zH (fun r=>r=b\/some r=V.v6.ownBlock) w w') (e1:p'.items=p.items) (e2:p'.said=[]) :
  ∃T',jA w' T' R b text p' {V with v1:=.slice none 0 0,v6:=v6'}/\jM w T w' T':=by
 have hs:∀k,T k≠0->T k≠1->T k≠4->w'.heap[k]?=w.heap[k]?:=fun k h0 h1 h2=>ho.same k (h.low k h0).2 (by
  rintro(e|e)
  ·exact h1 (by rw[e];exact h.tp)
  exact h2 (h.t6 k e.symm))
 have s:∀{o:Option Nat} {t:Nat},qa T o t->t≠0->t≠1->t≠4->∀k,o=some k->w'.heap[k]?=w.heap[k]?:=fun ht h0 h1 h3 k hk=>hs k (by rw[ht k hk];exact h0) (by rw[ht k hk];exact h1) (by rw[ht k hk];exact h3)
 have lo:∀{o:Option Nat} {t:Nat},qa T o t->t≠0->∀k,o=some k->k<w.heap.size:=fun ht hne k hk=>(h.low k (by rw[ht k hk];exact hne)).2
 refine⟨VF T w.heap.size v6'.ownBlock 4,⟨hc,by rw[vG h.lt];exact h.tp,?_,(fun k hk=>by cases hk),?_,qi h.t3 (lo h.t3 (by decide)),hr,Zj hk h.t6,by rw[e1];exact h.nf,fun i it v h1 h2 => ?_,Zk h.low ho.size hR hk h.t6 (by decide)⟩,
  ⟨ho.mono fun r hr' e => ?_,fun r hr'=>by rw[vG hr']⟩⟩
 ·rw[e2];exact⟨by simp[qH],.inl ⟨rfl,rfl⟩⟩
 ·rw[e1];exact jQ h.r3 (s h.t3 (by decide) (by decide) (by decide))
 ·obtain⟨a,c⟩:=h.rf i it v (by rw[<- e1];exact h1) h2
  exact⟨jQ a (s c (by decide) (by decide) (by decide)),qi c (lo c (by decide))⟩
 rcases e with e|e
 ·rw[e,h.tp];decide
 rw[h.t6 r e.symm];decide
theorem jA.strs{w:World}{T:Nat->Nat}{R b:Nat}{text:ByteArray}{p:PS}{V:PV}(h:jA w T R b text p V):Strs w V.v1 (p.said.map B):=by
 refine qY.strs (base:=0) ?_
 unfold qY
 rw[jiA,jjO]
 exact h.r1
theorem jd4:(Tryz.prog.info? 71).map (fun i=>(i.zero,i.size,i.bytes))=some (some (.agg #[.string ⟨#[]⟩,.string ⟨#[]⟩]),2,32):=by kernel_rfl
def qo(w:World)(T:Nat->Nat)(R b:Nat)(text:ByteArray)(p:PS)(e:Ending)(w':World):Prop :=
 if jh p=0 then e=.returned .nilIface/\∃T',jn w' T' R b text (ja p)/\jM w T w' T'
 else ∃v,e=.returned v/\jz w.heap.size w' v p.begin_ (jh p)/\Below w.heap.size w w'
theorem qo.no{w:World}{T:Nat->Nat}{R b:Nat}{text:ByteArray}{p:PS}{v:Value}{w':World}(h:jh p≠0)(h1:jz w.heap.size w' v p.begin_ (jh p))(h2:Below w.heap.size w w'):qo w T R b text p (.returned v) w':=by
 unfold qo;rw[if_neg h];exact⟨v,rfl,h1,h2⟩
theorem qo.yes{w:World}{T T':Nat->Nat}{R b:Nat}{text:ByteArray}{p:PS}{w':World}(h:jh p=0)(h1:jn w' T' R b text (ja p))(h2:jM w T w' T'):qo w T R b text p (.returned .nilIface) w':=by
 unfold qo;rw[if_pos h];exact⟨rfl,T',h1,h2⟩
theorem ZY{w:World}{T:Nat->Nat}{R b:Nat}{text:ByteArray}{p:PS}(h:jn w T R b text p)(hR:R<=w.heap.size)(hsum:(p.said.map List.length).sum+p.said.length<=90000)(hf:p.fields.length<=1000000):
  Calls Tryz.prog 31 #[.pointer (some ⟨b,0,none⟩)] w fun e w'=>qo w T R b text p e w':=by
 obtain⟨V,h⟩:=h
 by_cases hs:p.said=[]
 ·have h0:jh p=0:=by unfold jh;rw[if_pos hs]
  have hp:ja p=p:=by unfold ja;rw[if_pos hs]
  have U:=qG h
  rw[show(!p.said.isEmpty)=false by rw[hs];rfl]at U
  have hl:=h.lt
  have FIN:qo w T R b text p (.returned .nilIface) w:=.yes h0 (by rw[hp];exact⟨V,h⟩) (jM.refl _ _)
  clear h hsum
  go_enter Tryz.func31,Tryz.ntmps31
  go_wp2_with fail
  refine U.mono ?_
  rintro e w1 ⟨rfl,rfl⟩
  go_wp2
  go_ret
  exact FIN
 have U:=qG h
 rw[show(!p.said.isEmpty)=true by cases hq:p.said with | nil=>exact absurd hq hs | cons a r=>rfl]at U
 have hl:=h.lt
 obtain⟨a1,c1,e1,_⟩:=jg h.r1
 have q1:w.cell? ⟨b,1,none⟩=some (.slice a1 p.said.length c1):=by rw[<- e1];exact h.cells.cell 1
 have q0:w.cell? ⟨b,0,none⟩=some (.int .i64 p.begin_):=h.cells.cell 0
 have hlen:p.said.length<=100000:=by omega
 have heach:∀l∈p.said,l.length<=100000:=fun l hm=>by have:=Yz _ _ hm;omega
 have hsv:=xG p.said
 have UF:=jag p.said V.v1 w h.strs heach hlen (by omega)
 rw[e1]at UF
 have hn0:jh p=if jo p.said≠0 then jo p.said else if vr p then 11 else 0:=by unfold jh;rw[if_neg hs]
 have hn1:=Zf p.said
 have H:=jh5 h
 by_cases hu:jo p.said=0
 ·rw[hu,if_neg (by simp)]at hn0
  rw[hu]at UF
  rw[qL]at UF
  have FU:=jh5 (fun w' (hb:Below w.heap.size w w')=>jed (H.out.below hb))
  cases hfull:vr p with
  | true =>
   rw[hfull,if_pos rfl]at hn0
   have FIN:=jh5 (fun v w' h1 h2=>qo.no (w:=w) (T:=T) (R:=R) (b:=b) (text:=text) (p:=p) (v:=v) (w':=w') (by rw[hn0];decide) h1 h2)
   rw[hn0]at FIN
   rw[hfull]at FU
   generalize jF p.said=K at *
   generalize jE p.said=Z at *
   unfold zi at UF
   clear h hsum heach hsv
   go_enter Tryz.func31,Tryz.ntmps31
   go_wp2_with fail
   refine U.mono ?_
   rintro e w1 ⟨rfl,rfl⟩
   go_wp2_with fail
   refine UF.mono ?_
   rintro e w1 ⟨rfl,b1⟩
   have hzb:=b1.size
   go_wp2_with fail
   have hP:=H.out.below b1
   have r0:w1.cell? ⟨b,0,none⟩=some (.int .i64 p.begin_):=hP.cells.cell 0
   have hl1:=hP.lt
   have b2:=b1.alloc hzb (.cells #[.string (B K),.string (B Z)] 71)
   have FU2:=FU.out _ b2
   go_wp2_with fail
   refine FU2.mono ?_
   rintro e w2 ⟨rfl,rfl⟩
   have r1:(w1.alloc (.cells #[.string (B K),.string (B Z)] 71)).cell? ⟨b,0,none⟩=some (.int .i64 p.begin_):=by
    rw[jj1 _ _ _ (jj2 hl1)];exact r0
   go_wp2
   go_ret
   exact FIN.out _ _ (jz.new _ _ 11 _ (w1.heap.size+1) (by simp) (by omega)) (b2.alloc (by simp;omega) _)
  | false =>
  rw[hfull,if_neg (by simp)]at hn0
  have e0:ja p={p with fields:=p.fields++[(jF p.said,jE p.said)],said:=[]}:=by unfold ja;rw[if_neg hs]
  have FIN:=jh5 (fun T' w' h1 h2=>qo.yes (w:=w) (T:=T) (T':=T') (R:=R) (b:=b) (text:=text) (p:=p) (w':=w') hn0 h1 h2)
  rw[e0]at FIN
  rw[hfull]at FU
  generalize jF p.said=K at *
  generalize jE p.said=Z at *
  unfold zi at UF
  obtain⟨i0,hi,hz0,hz1,hz2⟩:=info_parts jd4
  obtain⟨a6,c6,e6,_⟩:=jg h.r6
  clear h hsum heach hsv e0
  go_enter Tryz.func31,Tryz.ntmps31
  go_wp2_with fail
  refine U.mono ?_
  rintro e w1 ⟨rfl,rfl⟩
  go_wp2_with fail
  refine UF.mono ?_
  rintro e w1 ⟨rfl,b1⟩
  have hzb:=b1.size
  have hP:=H.out.below b1
  have hl1:=hP.lt
  have b2:=b1.alloc hzb (.cells #[.string (B K),.string (B Z)] 71)
  have FU2:=FU.out _ b2
  go_wp2_with fail
  refine FU2.mono ?_
  rintro e w2 ⟨rfl,rfl⟩
  have P2:=jh5 (H.out.below b2)
  have g0:(w1.alloc (.cells #[.string (B K),.string (B Z)] 71)).cell? ⟨w1.heap.size,0,none⟩=some (.string (B K)):=(jd.new _ _ _).cell 0
  have g1:(w1.alloc (.cells #[.string (B K),.string (B Z)] 71)).cell? ⟨w1.heap.size,1,none⟩=some (.string (B Z)):=(jd.new _ _ _).cell 1
  have hz2':w1.heap.size<(w1.alloc (.cells #[.string (B K),.string (B Z)] 71)).heap.size:=by simp
  have B2:=jh5 b2
  have hlt2:w.heap.size<=(w1.alloc (.cells #[.string (B K),.string (B Z)] 71)).heap.size:=b2.size
  clear FU FU2 UF U hP b1 b2
  generalize w1.alloc (.cells #[.string (B K),.string (B Z)] 71)=w2 at *
  generalize w1.heap.size=bx at *
  have hl2:=P2.out.lt
  have q6:w2.cell? ⟨b,6,none⟩=some (.slice a6 p.fields.length c6):=by rw[<- e6];exact P2.out.cells.cell 6
  have HC:=jh5 P2.out.cells
  have HO:=jh5 P2.out.r6
  have HE:=jh5 (xX (w:=w2) P2.out.tp P2.out.t6 (by decide))
  rw[e6]at HO HE
  have HF:=jh5 (fun w' v6' hc hr hk ho=>jA.field (p':={p with fields:=p.fields++[(K,Z)],said:=[]}) P2.out (jiv hR hlt2) (w':=w') v6' hc hr hk ho rfl rfl)
  go_wp2
  go_cut [] (fun wx=>∃g' cap',jd wx b 81 (vT p text V.v1 V.v3 (.slice (some ⟨g',0,none⟩) (p.fields.length+1) cap')) /\
   wx.ownsRow 0 71 2 (.slice (some ⟨g',0,none⟩) (p.fields.length+1) cap') (p.fields.length+1) (jt p.fields++[.string (B K),.string (B Z)]) /\
   yS w2.heap.size wx.heap.size V.v6.ownBlock (Value.slice (some ⟨g',0,none⟩) (p.fields.length+1) cap').ownBlock/\g'≠b/\zH (fun r=>r=b\/some r=V.v6.ownBlock) w2 wx)
  case first =>
   go_region_law ((refine qd rfl (.tmp 41) (.tmp 43) 38 rfl 71 i0 _ 2 32 Tryz.underlying38 hi hz0 hz1 hz2 rfl (by decide) (.slice a6 p.fields.length c6) p.fields.length (jt p.fields) (by simp[Act.eval]) (by exact(HO.out.alloc _).drew) ⟨w2.heap.size,0,none⟩ 1 1 [.string (B K),.string (B Z)] (by simp[Act.eval]) rfl (zl w2 71 [.string (B K),.string (B Z)]) (by intro u hu;simp at hu;rcases hu with rfl | rfl<;>rfl) (by unfold maxLen;omega) (by omega) ?_);intro v' w' ho hgr hbk;obtain⟨⟨g',cap',rfl⟩,hg',hbx,hk,hon⟩:=XL HC.out HO.out HE.out (((jh8 _ w2).alloc (jh6 _) _).drew) ho hgr hbk;have k6':w'.cell? ⟨b,6,none⟩=some V.v6:=hg'.cell 6;have kf6':=hg'.frozen 6)
   all_goals
    go_wp2
    go_meet
    have hvg:g'≠b:=by
     intro e
     rcases hk with h|⟨k,h,h2,_⟩
     ·exact HE.out (h.symm.trans (by rw[e];rfl))
     have hh:g'=k:=jh9 (show some g'=some k from h)
     omega
    rw[<- e6]at hk hon
    refine⟨g',cap',?_,jT (p:=⟨b,6,none⟩) ho (fun e=>hvg (by cases e;rfl)) _,?_,hvg,(hon.mono (fun r _ h=>.inr h)).setCell (p:=⟨b,6,none⟩) (.inl (.inl rfl)) _⟩
    ·simpa [vT]using hg'.set 6 (.slice (some ⟨g',0,none⟩) (p.fields.length+1) cap')
    unfold yS;simpa [World.setCell]using hk
  case rest =>
  obtain⟨g',cap',hc,hr,hk,hvg,ho⟩:=hcut
  have k1:wc.cell? ⟨b,1,none⟩=some V.v1:=hc.cell 1
  have kf1:=hc.frozen 1
  rw[e1]at k1
  go_wp2
  go_ret
  refine Exists.elim (HF.out _ (.slice (some ⟨g',0,none⟩) (p.fields.length+1) cap') ?k1 ?k2 ?k3 ?k4) fun T' g=>FIN.out T' _ ⟨_,g.1⟩ ((jM.below B2.out).trans g.2)
  case k1=>simpa [vT]using hc.set 1 (.slice none 0 0)
  case k2 =>
   rw[Jp,jh7]
   exact jT (p:=⟨b,1,none⟩) hr (fun e=>hvg (by cases e;rfl)) _
  case k3=>unfold yS at hk ⊢;simpa [World.setCell]using hk
  case k4=>exact ho.setCell (p:=⟨b,1,none⟩) (.inl (.inl rfl)) _
 rw[if_pos hu]at hn0
 have hup:0<jo p.said:=jjr hu
 have FIN:=jh5 (fun v w' h1 h2=>qo.no (w:=w) (T:=T) (R:=R) (b:=b) (text:=text) (p:=p) (v:=v) (w':=w') (by rw[hn0];exact hu) h1 h2)
 rw[hn0]at FIN
 have hev:=zk _ hup
 have HEV:=jh5 hev
 rw[hev]at UF
 generalize jo p.said=n at *
 generalize jF p.said=K at *
 generalize jE p.said=Z at *
 unfold zi at UF
 clear h hsum heach hsv hev
 go_enter Tryz.func31,Tryz.ntmps31
 go_wp2_with fail
 refine U.mono ?_
 rintro e w1 ⟨rfl,rfl⟩
 go_wp2_with fail
 refine UF.mono ?_
 rintro e w1 ⟨rfl,b1⟩
 have hzb:=b1.size
 have hP:=H.out.below b1
 have r0:w1.cell? ⟨b,0,none⟩=some (.int .i64 p.begin_):=hP.cells.cell 0
 have hl1:=hP.lt
 have b2:=b1.alloc hzb (.cells #[.string (B K),.string (B Z)] 71)
 have r1:(w1.alloc (.cells #[.string (B K),.string (B Z)] 71)).cell? ⟨b,0,none⟩=some (.int .i64 p.begin_):=by
  rw[jj1 _ _ _ (jj2 hl1)];exact r0
 go_wp2
 go_ret
 rw[<- HEV.out]
 exact FIN.out _ _ (jz.new _ _ n _ (w1.heap.size+1) (by simp) (by omega)) (b2.alloc (by simp;omega) _)
end Go.Proofs.YtmdhainabeljpaaGreatDoor
namespace Go.Proofs.YtmdhainabeljpaaGreatDoor
open Go.RowKit Go.Shelf
attribute [local go_sem] qL GR
def qt(w:World)(T:Nat->Nat)(R b:Nat)(text:ByteArray)(p:PS)(x:Ln)(e:Ending)(w':World):Prop :=
 match jL text.data.toList p x with
 | .error (a,n)=>∃v,e=.returned v/\jz w.heap.size w' v a n/\zH (fun r=>T r≠0) w w'
 | .ok q=>e=.returned .nilIface/\∃T',jn w' T' R b text q/\jM w T w' T'
theorem qt.no{w:World}{T:Nat->Nat}{R b:Nat}{text:ByteArray}{p:PS}{x:Ln}{v:Value}{w':World}{a n:Nat}(h:jL text.data.toList p x=.error (a,n))(h1:jz w.heap.size w' v a n)(h2:zH (fun r=>T r≠0) w w'):qt w T R b text p x (.returned v) w':=by
 unfold qt;rw[h];exact⟨v,rfl,h1,h2⟩
theorem qt.yes{w:World}{T T':Nat->Nat}{R b:Nat}{text:ByteArray}{p q:PS}{x:Ln}{w':World}(h:jL text.data.toList p x=.ok q)(h1:jn w' T' R b text q)(h2:jM w T w' T'):qt w T R b text p x (.returned .nilIface) w':=by
 unfold qt;rw[h];exact⟨rfl,T',h1,h2⟩
theorem Ys{w:World}{T:Nat->Nat}{R b:Nat}{text:ByteArray}{p:PS}(h:jn w T R b text p):T w.heap.size=0:=by
 obtain⟨V,h⟩:=h
 rcases Nat.decEq (T w.heap.size) 0 with e|e
 ·have:=(h.low _ e).2;omega
 exact e
theorem jn.lt{w:World}{T:Nat->Nat}{R b:Nat}{text:ByteArray}{p:PS}(h:jn w T R b text p):b<w.heap.size:=by obtain⟨V,h⟩:=h;exact h.lt
theorem qm{w w1:World}{T T1:Nat->Nat}{R b:Nat}{text:ByteArray}{p q:PS}(h:jn w1 T1 R b text q)(hs:jM w T w1 T1)(hR:R<=w.heap.size)(hsum:(q.said.map List.length).sum+q.said.length<=90000)(hf:q.fields.length<=1000000):
  Calls Tryz.prog 31 #[.pointer (some ⟨b,0,none⟩)] w1 fun e w' =>
   if jh q=0 then e=.returned .nilIface/\∃T',jn w' T' R b text (ja q)/\jM w T w' T'/\jM w1 T1 w' T'
   else ∃v,e=.returned v/\jz w.heap.size w' v q.begin_ (jh q)/\zH (fun r=>T r≠0) w w'/\v ≠ .nilIface/\∃a,v=.iface 54 (.pointer a):=by
 have hz:=hs.only.size
 refine(ZY h (jiv hR hz) hsum hf).mono fun e w' g => ?_
 unfold qo at g
 split
 ·rename_i h0
  rw[if_pos h0]at g
  obtain⟨g1,T',g2,g3⟩:=g
  exact⟨g1,T',g2,hs.trans g3,g3⟩
 rename_i h0
 rw[if_neg h0]at g
 obtain⟨v,g1,g2,g3⟩:=g
 refine⟨v,g1,g2.mono hz,hs.only.below g3 hz,?_,?_⟩
 ·obtain⟨q,_,e,_⟩:=g2;rw[e];intro h;cases h
 obtain⟨q,_,e,_⟩:=g2;exact⟨_,e⟩
theorem jfk{w:World}{T:Nat->Nat}{R b:Nat}{text:ByteArray}{p:PS}(h:jn w T R b text p)(hR:R<=w.heap.size)(x:Ln)(hi:Inv p x.at_)(hx:x.at_+x.text.length+1<=70000)(hno:x.no<=x.at_)(hg:zU p x=true):
  Calls Tryz.prog 30 #[.pointer (some ⟨b,0,none⟩),.agg #[.int .i64 x.no,.int .i64 x.at_,.string (B x.text),.bool x.ended]] w fun e w'=>qt w T R b text p x e w':=by
 have hk:jk x.text=3:=by unfold zU at hg;simp at hg;exact hg.1
 have hu:(!p.said.isEmpty)=true:=by unfold zU at hg;simp at hg;simp[hg.2]
 have K:∀w,Calls Tryz.prog 70 #[.string (B x.text)] w fun e w'=>e=.returned (.int .i64 3)/\Below w.heap.size w w':=fun w=>by
  have:=vp (B x.text) (by rw[je];unfold maxLen;omega) w
  rw[ji,hk]at this
  exact this
 have hl:=h.lt
 have hb0:=jM.below (T:=T) ((jh8 w.heap.size w).alloc (jh6 _) (.cells #[.int .i64 x.no,.int .i64 x.at_,.string (B x.text),.bool x.ended] 76))
 have c0:=jd.new w 76 #[.int .i64 x.no,.int .i64 x.at_,.string (B x.text),.bool x.ended]
 have l0:=Ys h
 have hw:zb p x=xN p x:=by unfold zb;rw[if_pos hg];rfl
 have hwr:jD p x = !x.ended:=by unfold jD;rw[hk,hg];simp
 have hen:zS p x = !x.ended:=by unfold zS;rw[hwr,hg];simp
 have hb:=hi.said
 have hsum:((xN p x).said.map List.length).sum+(xN p x).said.length<=90000:=by simp[xN];omega
 have hff:(xN p x).fields.length<=1000000:=by have:=hi.fields;show p.fields.length<=_;omega
 have hn:p.said.length<=1000000:=by omega
 have GO:=jh5 (fun w1 (T1:Nat->Nat) V1 (g:jA w1 T1 R b text p V1) hR1=>jeb g hR1 x hn)
 have EF:=jh5 (fun w1 T1 (g:jn w1 T1 R b text (xN p x)) (s:jM w T w1 T1)=>qm (p:=p) g s hR hsum hff)
 have H:=jh5 h
 have C0:=jh5 c0
 have HB0:=jh5 hb0
 cases hend:x.ended with
 | true =>
  rw[hend]at hwr hen
  simp only[Bool.not_true]at hwr hen
  have FIN:=jh5 (fun T' w' h1 h2=>qt.yes (w:=w) (T:=T) (T':=T') (R:=R) (b:=b) (text:=text) (p:=p) (q:=xN p x) (x:=x) (w':=w') (by unfold jL;rw[hen,hwr];simp[zK,hen,yT,hk,hw]) h1 h2)
  rw[hend]at GO C0 HB0
  clear h c0 hb0 hi EF hsum hff hb
  go_enter Tryz.func30,Tryz.ntmps30
  go_wp2_with fail
  refine(K _).mono ?_
  rintro e w1 ⟨rfl,b1⟩
  have s1:=HB0.out.trans (jM.below b1)
  have P1:jn w1 T R b text p:=(H.out.below ((jh8 _ _).alloc (jh6 _) _)).below b1
  have l1:=P1.lt
  obtain⟨V1,P1⟩:=P1
  have C1:=jb C0.out b1 (by simp)
  have hz1:=s1.only.size
  have hz1':R<=w1.drew.heap.size:=jiv hR hz1
  clear b1 H C0 HB0
  go_wp2_with fail
  refine(qG P1).mono ?_
  rw[hu]
  rintro e w2 ⟨rfl,rfl⟩
  have d0:w1.cell? ⟨w.heap.size,0,none⟩=some (.int .i64 x.no):=C1.cell 0
  have d1:w1.cell? ⟨w.heap.size,1,none⟩=some (.int .i64 x.at_):=C1.cell 1
  have d2:w1.cell? ⟨w.heap.size,2,none⟩=some (.string (B x.text)):=C1.cell 2
  have d3:w1.cell? ⟨w.heap.size,3,none⟩=some (.bool true):=C1.cell 3
  have lz:=C1.lt
  have P1d:Hid (jA w1.drew T R b text p V1):=P1.same (fun _ _=>rfl) (jh6 _)
  have C1d:Hid (jd w1.drew w.heap.size 76 _):=C1
  have S1:Hid (jM w T w1.drew T):=s1.drewN 1
  clear P1 C1 s1
  go_wp2
  go_region_with (go_at_call 72;refine(GO.out _ T V1 P1d.out hz1').mono ?_;rintro e w2 ⟨rfl,T2,g2,s2⟩;have C2:=C1d.out.only s2.only (fun e=>e l0);have d3:w2.cell? ⟨w.heap.size,3,none⟩=some (.bool true):=C2.cell 3)
  all_goals
   go_wp2
   go_ret
   exact FIN.out T2 _ g2 (S1.out.trans s2)
 | false =>
 rw[hend]at hwr hen
 simp only[Bool.not_false]at hwr hen
 rw[hend]at GO C0 HB0
 by_cases h0:jh (xN p x)=0
 ·have FIN:=jh5 (fun v w' h1 h2=>qt.no (w:=w) (T:=T) (R:=R) (b:=b) (text:=text) (p:=p) (x:=x) (v:=v) (w':=w') (a:=x.no) (n:=2) (by unfold jL;rw[hen,hwr,hw,h0];simp) h1 h2)
  clear h c0 hb0 hi hsum hff hb
  go_enter Tryz.func30,Tryz.ntmps30
  go_wp2_with fail
  refine(K _).mono ?_
  rintro e w1 ⟨rfl,b1⟩
  have s1:=HB0.out.trans (jM.below b1)
  have P1:jn w1 T R b text p:=(H.out.below ((jh8 _ _).alloc (jh6 _) _)).below b1
  have l1:=P1.lt
  obtain⟨V1,P1⟩:=P1
  have C1:=jb C0.out b1 (by simp)
  have hz1:=s1.only.size
  have hz1':R<=w1.drew.heap.size:=jiv hR hz1
  clear b1 H C0 HB0
  go_wp2_with fail
  refine(qG P1).mono ?_
  rw[hu]
  rintro e w2 ⟨rfl,rfl⟩
  have d0:w1.cell? ⟨w.heap.size,0,none⟩=some (.int .i64 x.no):=C1.cell 0
  have d1:w1.cell? ⟨w.heap.size,1,none⟩=some (.int .i64 x.at_):=C1.cell 1
  have d2:w1.cell? ⟨w.heap.size,2,none⟩=some (.string (B x.text)):=C1.cell 2
  have d3:w1.cell? ⟨w.heap.size,3,none⟩=some (.bool false):=C1.cell 3
  have lz:=C1.lt
  have P1d:Hid (jA w1.drew T R b text p V1):=P1.same (fun _ _=>rfl) (jh6 _)
  have C1d:Hid (jd w1.drew w.heap.size 76 _):=C1
  have S1:Hid (jM w T w1.drew T):=s1.drewN 1
  clear P1 C1 s1
  go_wp2
  go_region_with (go_at_call 72;refine(GO.out _ T V1 P1d.out hz1').mono ?_;rintro e w2 ⟨rfl,T2,g2,s2⟩;have C2:=C1d.out.only s2.only (fun e=>e l0);have d3:w2.cell? ⟨w.heap.size,3,none⟩=some (.bool false):=C2.cell 3)
  all_goals
   go_wp2_with fail
   refine(EF.out _ T2 g2 (S1.out.trans s2)).mono ?_
   rintro e w3 hE
   rw[if_pos h0]at hE
   obtain⟨rfl,T3,g3,s3,s23⟩:=hE
   have C3:=C2.only s23.only (fun e=>e ((s2.old _ lz).2 l0))
   have d0':w3.cell? ⟨w.heap.size,0,none⟩=some (.int .i64 x.no):=C3.cell 0
   have lz3:=C3.lt
   go_wp2
   go_ret
   exact FIN.out _ _ (jz.new _ _ 2 _ w3.heap.size rfl (by omega)) (s3.only.alloc _)
 have FIN:=jh5 (fun v w' h1 h2=>qt.no (w:=w) (T:=T) (R:=R) (b:=b) (text:=text) (p:=p) (x:=x) (v:=v) (w':=w') (a:=(xN p x).begin_) (n:=jh (xN p x)) (by unfold jL;rw[hen,hw,if_pos ⟨rfl,h0⟩]) h1 h2)
 clear h c0 hb0 hi hsum hff hb
 go_enter Tryz.func30,Tryz.ntmps30
 go_wp2_with fail
 refine(K _).mono ?_
 rintro e w1 ⟨rfl,b1⟩
 have s1:=HB0.out.trans (jM.below b1)
 have P1:jn w1 T R b text p:=(H.out.below ((jh8 _ _).alloc (jh6 _) _)).below b1
 have l1:=P1.lt
 obtain⟨V1,P1⟩:=P1
 have C1:=jb C0.out b1 (by simp)
 have hz1:=s1.only.size
 have hz1':R<=w1.drew.heap.size:=jiv hR hz1
 clear b1 H C0 HB0
 go_wp2_with fail
 refine(qG P1).mono ?_
 rw[hu]
 rintro e w2 ⟨rfl,rfl⟩
 have d0:w1.cell? ⟨w.heap.size,0,none⟩=some (.int .i64 x.no):=C1.cell 0
 have d1:w1.cell? ⟨w.heap.size,1,none⟩=some (.int .i64 x.at_):=C1.cell 1
 have d2:w1.cell? ⟨w.heap.size,2,none⟩=some (.string (B x.text)):=C1.cell 2
 have d3:w1.cell? ⟨w.heap.size,3,none⟩=some (.bool false):=C1.cell 3
 have lz:=C1.lt
 have P1d:Hid (jA w1.drew T R b text p V1):=P1.same (fun _ _=>rfl) (jh6 _)
 have C1d:Hid (jd w1.drew w.heap.size 76 _):=C1
 have S1:Hid (jM w T w1.drew T):=s1.drewN 1
 clear P1 C1 s1
 go_wp2
 go_region_with (go_at_call 72;refine(GO.out _ T V1 P1d.out hz1').mono ?_;rintro e w2 ⟨rfl,T2,g2,s2⟩;have C2:=C1d.out.only s2.only (fun e=>e l0);have d3:w2.cell? ⟨w.heap.size,3,none⟩=some (.bool false):=C2.cell 3)
 all_goals
  go_wp2_with fail
  refine(EF.out _ T2 g2 (S1.out.trans s2)).mono ?_
  rintro e w3 hE
  rw[if_neg h0]at hE
  obtain⟨v,rfl,f3,o3,_,a3,rfl⟩:=hE
  go_wp2
  go_ret
  exact FIN.out _ _ f3 o3
end Go.Proofs.YtmdhainabeljpaaGreatDoor
