/- Texts put together:FH,FI,FJ,PF,PG,PH. -/
import Derived.Laws.ResultCell
import Derived.Laws.Rows
import Derived.Test.YtpibhbjmcmfnmaaGreatDoorBag10
set_option linter.unusedVariables false
set_option maxRecDepth 100000
set_option maxHeartbeats 16000000
namespace Go.Proofs.YtpibhbjmcmfnmaaGreatDoor
open Go.RowKit Go.Shelf Tryz
abbrev jnp:=@List.getElem?_cons_zero
abbrev jot:=@List.drop_eq_getElem_cons
abbrev joD:=@Go.Joins.ownsRow_form
def jgV(want:Nat):List (List UInt8)->Bool
 | []=>true
 | a::r=>(jL a==want)&&jgV 3 r
theorem jbQ:∀r:List (List UInt8),jgV 3 r=r.all (fun l=>jL l==3)
 | []=>rfl
 | a::r=>by unfold jgV;rw[jbQ r,joZ]
theorem jjP(ls:List (List UInt8)):jc3 ls=(decide (0<ls.length)&&jgV 4 ls):=by
 cases ls with
 | nil=>rfl
 | cons a r=>unfold jc3 jgV;rw[jbQ];simp
theorem jeL(ls:List (List UInt8))(k want:Nat)(x:List UInt8)(h:ls[k]?=some x):jgV want (ls.drop k)=((jL x==want)&&jgV 3 (ls.drop (k+1))):=by
 have hk:k<ls.length:=by
  rcases jnK k ls.length with q|q
  ·exact q
  rw[jnY q]at h;cases h
 rw[jot hk]
 rw[jnh hk]at h
 rw[jng h];rfl
theorem jhT(l:List UInt8):jL l<=5:=by
 unfold jL
 split;· decide
 split;· decide
 split;· decide
 split;· decide
 split<;>decide
theorem jl6{w:World}{A:Option Addr}{ls:List (List UInt8)}(hc:∀(i:Nat) (s:ByteArray),(ls.map B)[i]?=some s->∃b off,A=some ⟨b,off,none⟩/\b<w.heap.size/\w.cell? ⟨b,off+i,none⟩=some (.string s)):
  ∀(i:Nat) (x:List UInt8),ls[i]?=some x->∃b off,A=some ⟨b,off,none⟩/\b<w.heap.size/\w.cell? ⟨b,off+i,none⟩=some (.string (B x)) :=
 fun i x hx=>hc i (B x) (by rw[jnF,hx];rfl)
theorem jeK(ls:List (List UInt8))(v:Value)(w:World)(hs:Strs w v (ls.map B))(hl:∀l∈ls,l.length<=100000)(hn:ls.length<=100000):
  Calls prog 190 #[v] w fun e w'=>e=.returned (.bool (jc3 ls))/\Below w.heap.size w w':=by
 obtain⟨A,cap,rfl,hle,hc⟩:=hs
 have hcb:=jl6 hc
 have PC:=jnc hcb
 have HF:=jnc (jjP ls)
 clear hc hcb
 rw[jnI]
 go_enter func190,ntmps190
 go_wp2_with fail
 go_loopw [3,8] (fun v3 i wr=>∃k want:Nat,k<=ls.length/\want<=5/\i=.int .i64 k/\v3=.int .i64 want/\jgV 4 ls=jgV want (ls.drop k)/\Below w.heap.size w wr) (fun _ i _=>ls.length-(intOf i).toNat)
 case atStart=>exact⟨0,4,jnt _,by decide,rfl,rfl,rfl,jne _ _⟩
 case round =>
 obtain⟨k,want,hk,hwt,rfl,rfl,hG,hb⟩:=hrel
 by_cases hlt:k<ls.length
 ·obtain⟨x,hx⟩:∃x,ls[k]?=some x:=⟨_,jnh hlt⟩
  obtain⟨b,off,rfl,hbb,hcell⟩:=PC.out k x hx
  have hcx:=(hb.cell (p:=⟨b,off+k,none⟩) hbb).trans hcell
  have hxl:=hl x (jnC hx)
  have KX:=fun w=>Zo (B x) (by rw[jm];unfold maxLen;omega) w
  rw[ju]at KX
  rw[jeL ls k want x hx]at hG
  have GH:=jnc hG
  have hk5:=jhT x
  clear hx hcell hG
  generalize jL x=kx at *
  go_wp2_with fail
  refine(KX _).mono ?_
  rintro e w1 ⟨rfl,b1⟩
  by_cases hkx:kx=want
  ·subst hkx
   go_wp2_with fail
   go_roundw
   case rel=>exact⟨k+1,3,hlt,by decide,by go_num,rfl,by rw[GH.out];simp,hb.trans (b1.mono hb.size)⟩
   case measure=>simp[intOf];omega
  have e1:((kx:Int)==(want:Int))=false:=by rw[beq_eq_false_iff_ne];omega
  have e2:((kx:Int) != (want:Int))=true:=by rw[bne,e1];rfl
  have e3:(kx==want)=false:=by rw[beq_eq_false_iff_ne];exact hkx
  rw[e3]at GH
  clear hkx e3
  go_wp2_with fail
  go_ret
  exact⟨by rw[HF.out,GH.out];simp,hb.trans (b1.mono hb.size)⟩
 obtain rfl:k=ls.length:=by omega
 rw[joI]at hG
 have GH:=jnc hG
 clear hG
 go_wp2_with fail
 go_ret
 exact⟨by rw[HF.out,GH.out];simp[jgV],hb⟩
theorem jjv(l:List UInt8)(w:World):
  Calls prog 137 #[.string (B l),.string ⟨#[32]⟩] w fun e w'=>e=.returned (.string (B (yM l)))/\w=w':=by
 refine(Tryz.strings_TrimPrefix (B l) ⟨#[32]⟩ _).mono ?_
 rintro e w' ⟨rfl,rfl⟩
 refine⟨?_,rfl⟩
 rw[ju,show(⟨#[32]⟩:ByteArray).data.toList=[32] from rfl]
 unfold Lib.trimPrefix Lib.hasPrefix yM B
 cases l with
 | nil=>rfl
 | cons a t =>
 by_cases h:a=32
 ·subst h;simp[List.isPrefixOf]
 have h2:((32:UInt8)==a)=false:=by rw[beq_eq_false_iff_ne];exact jpo h
 simp[List.isPrefixOf,h2,h]
theorem jg6(l:List UInt8)(w:World):
  Calls prog 137 #[.string (B l),.string ⟨#[46]⟩] w fun e w'=>e=.returned (.string (B (zV l)))/\w=w':=by
 refine(Tryz.strings_TrimPrefix (B l) ⟨#[46]⟩ _).mono ?_
 rintro e w' ⟨rfl,rfl⟩
 refine⟨?_,rfl⟩
 rw[ju,show(⟨#[46]⟩:ByteArray).data.toList=[46] from rfl]
 unfold Lib.trimPrefix Lib.hasPrefix zV B
 cases l with
 | nil=>rfl
 | cons a t =>
 by_cases h:a=46
 ·subst h;simp[List.isPrefixOf]
 have h2:((46:UInt8)==a)=false:=by rw[beq_eq_false_iff_ne];exact jpo h
 simp[List.isPrefixOf,h2,h]
theorem Gq:∀ls:List (List UInt8),Lib.join ls [10]=yg ls
 | []=>rfl
 | [p]=>by simp[Lib.join,List.intercalate,yg]
 | p::q::r=>by
  have ih:=Gq (q::r)
  unfold Lib.join at ih ⊢
  show _=p++10::yg (q::r)
  rw[<- ih]
  simp[List.intercalate,List.intersperse]
theorem jms(a:List UInt8):jhv (B a)=B (before a):=by
 rw[<- jjr (jhv (B a)),Yf,ju]
theorem jlA(a:List UInt8):je2 (B a)=B (yv a):=by
 rw[<- jjr (je2 (B a))]
 unfold je2 yv
 rw[jpm,ju]
theorem jmy{x:List UInt8}(h:jL x=3):∃c d t,x=c::d::t:=by
 unfold jL at h
 split at h;· cases h
 split at h;· cases h
 rename_i hb
 split at h;· cases h
 split at h
 ·rename_i hg
  cases x with
  | nil=>cases hg
  | cons c t =>
  cases t with
  | nil =>
   exfalso;apply hb
   have:vM c=true:=hg
   simp[zH,this]
  | cons d t=>exact⟨c,d,t,rfl⟩
 split at h<;>cases h
theorem jlt(c:UInt8)(t:List UInt8):(B (c::t)).extract 1 (B (c::t)).size=B t:=by
 rw[<- jjr ((B (c::t)).extract 1 _),jpm,ju];rfl
theorem yT{fn:Func}{p:Tmp}{ty:TypeId}(h:fn.results=#[.cell p ty])(tmps:Array Value)(P:Program)(w:World):
  (results fn tmps).run P w=((asAddr (tmps.getD p undef)).run P w).andThen fun a w₁=>(loadVar ty a).run P w₁:=by
 simp only[results,h]
 simp[Sem.run_bind,Result.andThen]
theorem jlz{fn:Func}{p:Tmp}(h:fn.results=#[.cell p 155])(tmps:Array Value)(w:World)(b:Nat)(cur:Array Value)(hp:tmps.getD p undef=.pointer (some ⟨b,0,none⟩))
  (hc:ja w b 155 cur) (hz:cur.size=2):(results fn tmps).run prog w=.ok (.agg cur) w:=by
 have L:=run_loadVar_row (P:=prog) w b 155 155 cur (0,0) _ hc underlying155 rfl (by rw[hz];kernel_rfl)
 rw[yT h,hp]
 show(loadVar _ _).run _ _=_
 exact L
theorem jeT{fn:Func}{p u:Tmp}(h:fn.results=#[.cell p 155,.tmp u])(tmps:Array Value)(w:World)(b:Nat)(cur:Array Value)(hp:tmps.getD p undef=.pointer (some ⟨b,0,none⟩))
  (hc:ja w b 155 cur) (hz:cur.size=2):(results fn tmps).run prog w=.ok (.tuple #[.agg cur,tmps.getD u undef]) w:=by
 have L:=run_loadVar_row (P:=prog) w b 155 155 cur (0,0) _ hc underlying155 rfl (by rw[hz];kernel_rfl)
 rw[results_cell_tmp h,hp]
 show((loadVar _ _).run _ _).andThen _=_
 rw[L];rfl
theorem je{w w':World}{b N:Nat}{t:TypeId}{cur:Array Value}(h:ja w b t cur)(hb:Below N w w')(hN:b<N):ja w' b t cur:=(hb.block b hN).trans h
theorem jmf(c0 c1 v0 v1:Value):((#[c0,c1].setIfInBounds 0 v0).setIfInBounds 1 v1)=#[v0,v1]:=by
 simp[List.setIfInBounds_toArray,List.set]
theorem jhj(a:List UInt8)(r:List (List UInt8))(v:Value)(w:World)(hs:Strs w v ((a::r).map B))(ha:a.length<=100000)(hr:∀l∈r,l.length<=100000/\jL l=3)(hka:jL a=4)(hn:r.length<=100000)
    (hj:(yl (a::r)).length<=100000000) :
    Calls prog 191 #[v] w fun e w'=>e=.returned (vz (before a) (yl (a::r)))/\Below w.heap.size w w':=by
  obtain⟨A,cap,rfl,hle,hc⟩:=hs
  have hcb:=jl6 hc
  obtain⟨b,off,rfl,hbb,hca⟩:=hcb 0 a rfl
  have PC:=jnc (fun(j:Nat) x (hx:r[j]?=some x)=>(show w.cell? ⟨b,off+(j+1),none⟩=some (.string (B x)) by
    obtain⟨b',off',e,_,h⟩:=hcb (j+1) x (by simpa using hx)
    cases e;exact h))
  clear hc hcb
  rw[jnI,jni]at hle ⊢
  have CP:=fun w=>jiJ (B a) (by rw[jm];unfold maxLen;omega) (by rw[ju];exact hka) w
  rw[jms,jlA]at CP
  have TS:=fun w=>jjv (yv a) w
  have HS:Hid (KY (a::r)=yM (yv a)::r.map (fun l=>zV l.tail)):=rfl
  have HJ:Hid (Lib.join (((yM (yv a)::r.map (fun l=>zV l.tail)).map B).map (·.data.toList)) [10]=yl (a::r)):=by
    show _=_
    unfold yl
    rw[<- Gq,HS.out,joN]
    congr 1
    conv=>rhs;rw[<- List.map_id (yM (yv a)::r.map (fun l=>zV l.tail))]
    exact jpg fun l _=>ju l
  generalize yM (yv a)=p0 at *
  generalize yv a=ac at *
  obtain⟨i0,hi,hz0,hz1,hz2⟩:=info_parts jfB
  rw[jo4]at hca
  go_enter func191,ntmps191
  go_wp2_with fail
  refine(CP _).mono ?_
  rintro e w1 ⟨rfl,b1⟩
  go_wp2_with fail
  refine(TS _).mono ?_
  rintro e w2 ⟨rfl,rfl⟩
  have RB:ja w1 w.heap.size 155 #[.string ⟨#[]⟩,.string ⟨#[]⟩]:=je (ja.new w _ _) b1 (by simp)
  have hb1:Below w.heap.size w w1:=((jne _ _).alloc (jnd _) _).trans (b1.mono (by simp))
  have PC1:=jnc (fun(j:Nat) x (hx:r[j]?=some x)=>(hb1.cell (p:=⟨b,off+(j+1),none⟩) hbb).trans (PC.out j x hx))
  have hs1:=b1.size
  simp only[jnB]at hs1
  have hb1lt:b<w1.heap.size:=by omega
  have BW:=jnc hb1
  clear b1 PC hca hb1 CP TS
  have hw1:=BW.out.size
  go_wp2_with fail
  all_goals
    go_loopw [6,23] (fun v6 i wr=>∃(k:Nat),k<=r.length/\i=.int .i64 k/\Vd wr w1.heap.size v6 ((p0::(r.take k).map (fun l=>zV l.tail)).map B)/\Below w1.heap.size w1 wr) (fun _ i _=>r.length-(intOf i).toNat)
    case atStart=>exact⟨0,jnt _,rfl,Vd.one w1 _ (jnd _) _,(jne _ _).alloc (jnd _) _⟩
    case round =>
    obtain⟨k,hkr,rfl,hown,hb⟩:=hrel
    by_cases hkl:k<r.length
    . first
      | (exfalso;omega)
      | (obtain⟨x,hx⟩:∃x,r[k]?=some x:=⟨_,jnh hkl⟩
         have hcx:=PC1.out k x hx
         have hcx2:=(hb.cell (p:=⟨b,off+(k+1),none⟩) hb1lt).trans hcx
         rw[show off+(k+1)=off+1+k by omega]at hcx2
         obtain⟨hxl,hx3⟩:=hr x (jnC hx)
         obtain⟨c,d,t,rfl⟩:=jmy hx3
         have TK:Hid ((p0::(r.take (k+1)).map (fun l=>zV l.tail)).map B=(p0::(r.take k).map (fun l=>zV l.tail)).map B++[B (zV (d::t))]):=by
           show _=_
           rw[jnW,hx];simp
         have TD:=fun w=>jg6 (d::t) w
         have hll:((p0::(r.take k).map (fun l=>zV l.tail)).map B).length=k+1:=by simp;omega
         have HLL:=jnc hll
         have hsz:(B (c::d::t)).size=t.length+2:=by rw[jm];rfl
         have hex:=jlt c (d::t)
         rw[hsz]at hex
         clear hx hcx hx3
         generalize (p0::(r.take k).map (fun l=>zV l.tail)).map B=ls at *
         generalize zV (d::t)=y at *
         generalize B (c::d::t)=X at *
         generalize B (d::t)=Y at *
         go_wp2_with fail
         refine(TD _).mono ?_
         rintro e w4 ⟨rfl,rfl⟩
         have hs3:=hb.size
         have HC:=jnc (jeC wr (B y) 9)
         have hown4:wr.ownsRow w1.heap.size 9 1 u6 ls.length (ls.map Value.string):=hown
         clear hown
         go_wp2_with (at_builtin;refine wpList_append_own _ rfl _ _ 56 rfl w1.heap.size 9 i0 _ 1 16 underlying56 hi hz0 hz1 hz2 rfl (by decide) _ _ _ rfl (hown4.alloc _) ⟨wr.heap.size,0,none⟩ 1 1 _ rfl rfl HC.out ?c2 ?c3 ?c4 ?c5 ?_)
         case c2=>intro u hu;simp at hu;subst hu;rfl
         case c3=>unfold maxLen;omega
         case c4=>omega
         case c5=>simp;omega
         intro v' w5 hown' hgrow _
         obtain⟨g',cap',rfl⟩:=ownsRow_succ hown'
         have hb5:Below w1.heap.size w1 w5:=(hb.alloc (by omega) _).grown hgrow (by simp;omega) (fun j ej=>(hown4.lt j ej).1)
         go_wp2_with fail
         go_roundw
         case rel =>
           refine⟨k+1,hkl,by go_num,?_,hb5⟩
           rw[TK.out]
           unfold Vd
           rw[jnf,jol,HLL.out];exact hown'
         case measure=>simp[intOf];omega)
    obtain rfl:k=r.length:=by omega
    rw[jnP]at hown
    obtain⟨g,cap',e⟩:=joD hown (by simp)
    subst e
    have hst:=hown.strs
    obtain⟨A',cap2,e,hle2,hc2⟩:=hst
    cases e
    have RBr:=je RB hb (by omega)
    have JN:=Tryz.strings_Join g 0 cap' _ ⟨#[10]⟩ wr (fun j x hx=>by obtain⟨b',o',e,_,h⟩:=hc2 j x hx;cases e;exact h) (by obtain⟨b',o',e,h,_⟩:=hc2 0 _ rfl;cases e;exact h) (by simp;omega) hle2 (by show(Lib.join _ [10]).length<=_;rw[HJ.out];omega)
    rw[show(⟨#[10]⟩:ByteArray).data.toList=[10] from rfl,HJ.out]at JN
    simp only[jnI,jni]at JN ⊢
    have hbw:=hb.size
    have hbA:=BW.out.trans (hb.mono hw1)
    clear hown hc2 hle2 HJ
    go_wp2_with fail
    refine JN.mono ?_
    rintro e w5 ⟨rfl,b5⟩
    have R5:=je RBr b5 (by omega)
    have c0:=R5.cell 0
    have c1:=R5.cell 1
    have f0:=R5.frozen 0
    have f1:=R5.frozen 1
    have hb5:=hbA.trans (b5.mono (by omega))
    simp only[jnl,jnp,jnj]at c0 c1
    rw[mkB]
    have RE:=(R5.set 0 (.string (B (before a)))).set 1 (.string (B (yl (a::r))))
    rw[jmf]at RE
    go_wp2_with fail
    refine bodyPost_ret (jlz rfl _ _ w.heap.size _ rfl RE rfl) rfl ?_
    exact⟨rfl,(hb5.setCell (jnd _) _).setCell (jnd _) _⟩
section
attribute [local go_sem] jT GT jjf
theorem XM{ls:List (List UInt8)}(h:jc3 ls=true):∃a r,ls=a::r/\jL a=4/\∀l∈r,jL l=3:=by
 cases ls with
 | nil=>cases h
 | cons a r =>
 refine⟨a,r,rfl,?_⟩
 unfold jc3 at h
 simp only[jnv,beq_iff_eq,jnZ]at h
 exact h
theorem Un{ls:List (List UInt8)}(h:jc3 ls=false):zi ls=2/\ql ls=[]/\qk ls=[]:=by
 have e:zi ls=2:=by unfold zi;rw[h];rfl
 exact⟨e,by unfold ql;rw[e];rfl,by unfold qk;rw[e];rfl⟩
theorem Vx{ls:List (List UInt8)}(h:jc3 ls=true)(hl:¬(yl ls).length<=1000):zi ls=6/\ql ls=[]/\qk ls=[]:=by
 have e:zi ls=6:=by unfold zi;rw[h,if_pos rfl,if_neg hl]
 exact⟨e,by unfold ql;rw[e];rfl,by unfold qk;rw[e];rfl⟩
theorem XD{a:List UInt8}{r:List (List UInt8)}(h:jc3 (a::r)=true)(hl:(yl (a::r)).length<=1000):zi (a::r)=0/\ql (a::r)=before a/\qk (a::r)=yl (a::r):=by
 have e:zi (a::r)=0:=by unfold zi;rw[h,if_pos rfl,if_pos hl]
 exact⟨e,by unfold ql;rw[e];rfl,by unfold qk;rw[e];rfl⟩
theorem jea(a:List UInt8):(before a).length<=a.length:=(jou _).length_le
theorem jcQ(ls:List (List UInt8))(v:Value)(w:World)(hs:Strs w v (ls.map B))(hl:∀l∈ls,l.length<=100000)(hn:ls.length<=100000)(hj:(yl ls).length<=1000000):
  Calls prog 146 #[v] w fun e w'=>e=.returned (.tuple #[vz (ql ls) (qk ls),qm (zi ls)])/\Below w.heap.size w w':=by
 have ST:=jnc (fun(o:Obj)=>(hs.alloc o))
 cases hF:jc3 ls with
 | false =>
  obtain⟨e1,e2,e3⟩:=Un hF
  rw[e1,e2,e3]
  unfold vz
  go_enter func146,ntmps146
  go_wp2_with fail
  refine(jeK ls v _ (ST.out _) hl hn).mono ?_
  rw[hF]
  rintro e w1 ⟨rfl,b1⟩
  have R1:=je (ja.new w 155 #[.string ⟨#[]⟩,.string ⟨#[]⟩]) b1 (by simp)
  have c0:=R1.cell 0
  have c1:=R1.cell 1
  have f0:=R1.frozen 0
  have f1:=R1.frozen 1
  have hb1:Below w.heap.size w w1:=((jne _ _).alloc (jnd _) _).trans (b1.mono (by simp))
  simp only[jnl,jnp,jnj]at c0 c1
  have RE:=(R1.set 0 (.string ⟨#[]⟩)).set 1 (.string ⟨#[]⟩)
  rw[jmf]at RE
  clear b1 ST
  go_wp2_with fail
  refine bodyPost_ret (jeT rfl _ _ w.heap.size _ rfl RE rfl) rfl ?_
  exact⟨rfl,(hb1.setCell (jnd _) _).setCell (jnd _) _⟩
 | true =>
 obtain⟨a,r,rfl,hka,hkr⟩:=XM hF
 have hg:za (before a)=true:=(jlL hka).2.2
 have hal:=hl a (by simp)
 have hbl:=jea a
 have SD:=fun w' (h:Strs w' v ((a::r).map B))=>jhj a r v w' h hal (fun l hm=>⟨hl l (jnm _ hm),hkr l hm⟩) hka (by simp at hn;omega) (by omega)
 have CK:=fun w'=>ZD (before a) (yl (a::r)) (by omega) hj w'
 have hchk:zw (before a) (yl (a::r))=if (yl (a::r)).length<=1000 then 0 else 6:=by unfold zw;rw[hg];rfl
 rw[hchk]at CK
 have SAY:=fun w' (h:Strs w' v ((a::r).map B))=>jeK (a::r) v w' h hl hn
 rw[hF]at SAY
 by_cases hlen:(yl (a::r)).length<=1000
 ·rw[if_pos hlen]at CK
  obtain⟨e1,e2,e3⟩:=XD hF hlen
  rw[e1,e2,e3]
  unfold vz at *
  generalize B (before a)=K at *
  generalize B (yl (a::r))=V at *
  go_enter func146,ntmps146
  go_wp2_with fail
  refine(SAY _ (ST.out _)).mono ?_
  rintro e w1 ⟨rfl,b1⟩
  have S1:=(ST.out (.cells #[.string ⟨#[]⟩,.string ⟨#[]⟩] 155)).below b1 (jnd _)
  have R1:=je (ja.new w 155 #[.string ⟨#[]⟩,.string ⟨#[]⟩]) b1 (by simp)
  have hb1:Below w.heap.size w w1:=((jne _ _).alloc (jnd _) _).trans (b1.mono (by simp))
  have hs1:=b1.size
  simp only[jnB]at hs1
  clear b1 ST
  go_wp2_with fail
  refine(SD _ S1).mono ?_
  rintro e w2 ⟨rfl,b2⟩
  have R2:=je R1 b2 (by omega)
  have hb2:=hb1.trans (b2.mono (by omega))
  have hs2:=b2.size
  clear b2 R1 S1 hb1
  have NB:=ja.new w2 155 #[.string K,.string V]
  have OB:=R2.alloc (.cells #[.string K,.string V] 155)
  have hb3:=hb2.alloc (by omega) (.cells #[.string K,.string V] 155)
  go_wp2_with fail
  refine(CK _).mono ?_
  rintro e w4 ⟨rfl,b4⟩
  have N4:=je NB b4 (by simp)
  have O4:=je OB b4 (by simp;omega)
  have hb4:=hb3.trans (b4.mono (by simp;omega))
  have n0:=N4.cell 0
  have n1:=N4.cell 1
  have c0:=O4.cell 0
  have c1:=O4.cell 1
  have f0:=O4.frozen 0
  have f1:=O4.frozen 1
  simp only[jnl,jnp,jnj]at c0 c1 n0 n1
  have RE:=(O4.set 0 (.string K)).set 1 (.string V)
  rw[jmf]at RE
  clear b4 NB OB R2 hb3 hb2
  go_wp2_with fail
  refine bodyPost_ret (jeT rfl _ _ w.heap.size _ rfl RE rfl) rfl ?_
  exact⟨rfl,(hb4.setCell (jnd _) _).setCell (jnd _) _⟩
 rw[if_neg hlen]at CK
 obtain⟨e1,e2,e3⟩:=Vx hF hlen
 rw[e1,e2,e3]
 unfold vz at *
 generalize B (before a)=K at *
 generalize B (yl (a::r))=V at *
 go_enter func146,ntmps146
 go_wp2_with fail
 refine(SAY _ (ST.out _)).mono ?_
 rintro e w1 ⟨rfl,b1⟩
 have S1:=(ST.out (.cells #[.string ⟨#[]⟩,.string ⟨#[]⟩] 155)).below b1 (jnd _)
 have R1:=je (ja.new w 155 #[.string ⟨#[]⟩,.string ⟨#[]⟩]) b1 (by simp)
 have hb1:Below w.heap.size w w1:=((jne _ _).alloc (jnd _) _).trans (b1.mono (by simp))
 have hs1:=b1.size
 simp only[jnB]at hs1
 clear b1 ST
 go_wp2_with fail
 refine(SD _ S1).mono ?_
 rintro e w2 ⟨rfl,b2⟩
 have R2:=je R1 b2 (by omega)
 have hb2:=hb1.trans (b2.mono (by omega))
 have hs2:=b2.size
 clear b2 R1 S1 hb1
 have NB:=ja.new w2 155 #[.string K,.string V]
 have OB:=R2.alloc (.cells #[.string K,.string V] 155)
 have hb3:=hb2.alloc (by omega) (.cells #[.string K,.string V] 155)
 go_wp2_with fail
 refine(CK _).mono ?_
 rintro e w4 ⟨rfl,b4⟩
 have N4:=je NB b4 (by simp)
 have O4:=je OB b4 (by simp;omega)
 have hb4:=hb3.trans (b4.mono (by simp;omega))
 have n0:=N4.cell 0
 have n1:=N4.cell 1
 have c0:=O4.cell 0
 have c1:=O4.cell 1
 have f0:=O4.frozen 0
 have f1:=O4.frozen 1
 simp only[jnl,jnp,jnj]at c0 c1 n0 n1
 have RE:=(O4.set 0 (.string ⟨#[]⟩)).set 1 (.string ⟨#[]⟩)
 rw[jmf]at RE
 clear b4 NB OB R2 hb3 hb2
 go_wp2_with fail
 refine bodyPost_ret (jeT rfl _ _ w.heap.size _ rfl RE rfl) rfl ?_
 exact⟨rfl,(hb4.setCell (jnd _) _).setCell (jnd _) _⟩
end
section
attribute [local go_sem] jT
def jr(lo:Nat)(w:World)(e:Value)(at_ n:Nat):Prop:=∃q,lo<=q/\e=.iface 133 (.pointer (some ⟨q,0,none⟩))/\ja w q 135 #[.int .i64 at_,qm n]
theorem jr.below{lo:Nat}{w w':World}{e:Value}{a n N:Nat}(h:jr lo w e a n)(hb:Below N w w')(hN:w.heap.size<=N):jr lo w' e a n:=by
 obtain⟨q,h0,h1,h2⟩:=h
 exact⟨q,h0,h1,(hb.block q (jnw h2.lt hN)).trans h2⟩
theorem jr.mono{lo lo':Nat}{w:World}{e:Value}{a n:Nat}(h:jr lo w e a n)(hl:lo'<=lo):jr lo' w e a n:=by
 obtain⟨q,h0,h1,h2⟩:=h
 exact⟨q,jns hl h0,h1,h2⟩
theorem jr.new(w:World)(a n lo q:Nat)(hq:w.heap.size=q)(hl:lo<=q):jr lo (w.alloc (.cells #[.int .i64 a,qm n] 135)) (.iface 133 (.pointer (some ⟨q,0,none⟩))) a n:=by subst hq;exact⟨w.heap.size,hl,rfl,ja.new _ _ _⟩
theorem jF.field{w w':World}{T:Nat->Nat}{R b:Nat}{text:ByteArray}{p p':PS}{V:PV}(h:jF w T R b text p V)(hR:R<=w.heap.size)(v6':Value)
  (hc:ja w' b 168 (yn p' text (.slice none 0 0) V.v3 v6')) (hr:w'.ownsRow 0 155 2 v6' p'.fields.length (jM p'.fields)) (hk:vv w.heap.size w'.heap.size V.v6.ownBlock v6'.ownBlock)
  (ho:jv (fun r=>r=b\/some r=V.v6.ownBlock) w w') (e1:p'.items=p.items) (e2:p'.said=[]) :
  ∃T',jF w' T' R b text p' {V with v1:=.slice none 0 0,v6:=v6'}/\zQ w T w' T':=by
 have hs:∀k,T k≠0->T k≠1->T k≠4->w'.heap[k]?=w.heap[k]?:=fun k h0 h1 h2=>ho.same k (h.low k h0).2 (by
  rintro(e|e)
  ·exact h1 (by rw[e];exact h.tp)
  exact h2 (h.t6 k e.symm))
 have s:∀{o:Option Nat} {t:Nat},jH T o t->t≠0->t≠1->t≠4->∀k,o=some k->w'.heap[k]?=w.heap[k]?:=fun ht h0 h1 h3 k hk=>hs k (by rw[ht k hk];exact h0) (by rw[ht k hk];exact h1) (by rw[ht k hk];exact h3)
 have lo:∀{o:Option Nat} {t:Nat},jH T o t->t≠0->∀k,o=some k->k<w.heap.size:=fun ht hne k hk=>(h.low k (by rw[ht k hk];exact hne)).2
 refine⟨vD T w.heap.size v6'.ownBlock 4,⟨hc,by rw[zj h.lt];exact h.tp,?_,(fun k hk=>by cases hk),?_,jl h.t3 (lo h.t3 (by decide)),hr,qf hk h.t6,by rw[e1];exact h.nf,fun i it v h1 h2 => ?_,ZQ h.low ho.size hR hk h.t6 (by decide)⟩,
  ⟨ho.mono fun r hr' e => ?_,fun r hr'=>by rw[zj hr']⟩⟩
 ·rw[e2];exact⟨by simp[qQ],.inl ⟨rfl,rfl⟩⟩
 ·rw[e1];exact jq h.r3 (s h.t3 (by decide) (by decide) (by decide))
 ·obtain⟨a,c⟩:=h.rf i it v (by rw[<- e1];exact h1) h2
  exact⟨jq a (s c (by decide) (by decide) (by decide)),jl c (lo c (by decide))⟩
 rcases e with e|e
 ·rw[e,h.tp];decide
 rw[h.t6 r e.symm];decide
theorem jF.strs{w:World}{T:Nat->Nat}{R b:Nat}{text:ByteArray}{p:PS}{V:PV}(h:jF w T R b text p V):Strs w V.v1 (p.said.map B):=by
 refine Vd.strs (base:=0) ?_
 unfold Vd
 rw[jnI,joN]
 exact h.r1
theorem jh1:(prog.info? 155).map (fun i=>(i.zero,i.size,i.bytes))=some (some (.agg #[.string ⟨#[]⟩,.string ⟨#[]⟩]),2,32):=by kernel_rfl
def qv(w:World)(T:Nat->Nat)(R b:Nat)(text:ByteArray)(p:PS)(e:Ending)(w':World):Prop :=
 if jk p=0 then e=.returned .nilIface/\∃T',jG w' T' R b text (jb p)/\zQ w T w' T'
 else ∃v,e=.returned v/\jr w.heap.size w' v p.begin_ (jk p)/\Below w.heap.size w w'
theorem qv.no{w:World}{T:Nat->Nat}{R b:Nat}{text:ByteArray}{p:PS}{v:Value}{w':World}(h:jk p≠0)(h1:jr w.heap.size w' v p.begin_ (jk p))(h2:Below w.heap.size w w'):qv w T R b text p (.returned v) w':=by
 unfold qv;rw[if_neg h];exact⟨v,rfl,h1,h2⟩
theorem qv.yes{w:World}{T T':Nat->Nat}{R b:Nat}{text:ByteArray}{p:PS}{w':World}(h:jk p=0)(h1:jG w' T' R b text (jb p))(h2:zQ w T w' T'):qv w T R b text p (.returned .nilIface) w':=by
 unfold qv;rw[if_pos h];exact⟨rfl,T',h1,h2⟩
theorem QT{w:World}{T:Nat->Nat}{R b:Nat}{text:ByteArray}{p:PS}(h:jG w T R b text p)(hR:R<=w.heap.size)(hsum:(p.said.map List.length).sum+p.said.length<=90000)(hf:p.fields.length<=1000000):
  Calls prog 102 #[.pointer (some ⟨b,0,none⟩)] w fun e w'=>qv w T R b text p e w':=by
 obtain⟨V,h⟩:=h
 by_cases hs:p.said=[]
 ·have h0:jk p=0:=by unfold jk;rw[if_pos hs]
  have hp:jb p=p:=by unfold jb;rw[if_pos hs]
  have U:=yD h
  rw[show(!p.said.isEmpty)=false by rw[hs];rfl]at U
  have FIN:qv w T R b text p (.returned .nilIface) w:=.yes h0 (by rw[hp];exact⟨V,h⟩) (zQ.refl _ _)
  clear h hsum
  go_enter func102,ntmps102
  go_wp2_with fail
  refine U.mono ?_
  rintro e w1 ⟨rfl,rfl⟩
  go_wp2
  go_ret
  exact FIN
 have U:=yD h
 rw[show(!p.said.isEmpty)=true by cases hq:p.said with | nil=>exact absurd hq hs | cons a r=>rfl]at U
 obtain⟨a1,c1,e1,_⟩:=jg h.r1
 have q1:w.cell? ⟨b,1,none⟩=some (.slice a1 p.said.length c1):=by rw[<- e1];exact h.cells.cell 1
 have hlen:p.said.length<=100000:=by omega
 have heach:∀l∈p.said,l.length<=100000:=fun l hm=>by have:=jfs _ _ hm;omega
 have hsv:=jhk p.said
 have UF:=jcQ p.said V.v1 w h.strs heach hlen (by omega)
 rw[e1]at UF
 have hn0:jk p=if zi p.said≠0 then zi p.said else if Zt p then 11 else 0:=by unfold jk;rw[if_neg hs]
 have hn1:=jcR p.said
 have H:=jnc h
 by_cases hu:zi p.said=0
 ·rw[hu,if_neg (by simp)]at hn0
  rw[hu]at UF
  rw[jT]at UF
  have FU:=jnc (fun w' (hb:Below w.heap.size w w')=>jie (H.out.below hb))
  cases hfull:Zt p with
  | true =>
   rw[hfull,if_pos rfl]at hn0
   have FIN:=jnc (fun v w' h1 h2=>qv.no (w:=w) (T:=T) (R:=R) (b:=b) (text:=text) (p:=p) (v:=v) (w':=w') (by rw[hn0];decide) h1 h2)
   rw[hn0]at FIN
   rw[hfull]at FU
   generalize ql p.said=K at *
   generalize qk p.said=Z at *
   unfold vz at UF
   clear h hsum heach hsv
   go_enter func102,ntmps102
   go_wp2_with fail
   refine U.mono ?_
   rintro e w1 ⟨rfl,rfl⟩
   go_wp2_with fail
   refine UF.mono ?_
   rintro e w1 ⟨rfl,b1⟩
   have hzb:=b1.size
   go_wp2_with fail
   have hP:=H.out.below b1
   have r0:w1.cell? ⟨b,0,none⟩=some (.int .i64 p.begin_):=hP.cells.cell 0
   have hl1:=hP.lt
   have b2:=b1.alloc hzb (.cells #[.string (B K),.string (B Z)] 155)
   have FU2:=FU.out _ b2
   go_wp2_with fail
   refine FU2.mono ?_
   rintro e w2 ⟨rfl,rfl⟩
   have r1:(w1.alloc (.cells #[.string (B K),.string (B Z)] 155)).cell? ⟨b,0,none⟩=some (.int .i64 p.begin_):=by
    rw[jo7 _ _ _ (jpE hl1)];exact r0
   go_wp2
   go_ret
   exact FIN.out _ _ (jr.new _ _ 11 _ (w1.heap.size+1) (by simp) (by omega)) (b2.alloc (by simp;omega) _)
  | false =>
  rw[hfull,if_neg (by simp)]at hn0
  have e0:jb p={p with fields:=p.fields++[(ql p.said,qk p.said)],said:=[]}:=by unfold jb;rw[if_neg hs]
  have FIN:=jnc (fun T' w' h1 h2=>qv.yes (w:=w) (T:=T) (T':=T') (R:=R) (b:=b) (text:=text) (p:=p) (w':=w') hn0 h1 h2)
  rw[e0]at FIN
  rw[hfull]at FU
  generalize ql p.said=K at *
  generalize qk p.said=Z at *
  unfold vz at UF
  obtain⟨i0,hi,hz0,hz1,hz2⟩:=info_parts jh1
  obtain⟨a6,c6,e6,_⟩:=jg h.r6
  clear h hsum heach hsv e0
  go_enter func102,ntmps102
  go_wp2_with fail
  refine U.mono ?_
  rintro e w1 ⟨rfl,rfl⟩
  go_wp2_with fail
  refine UF.mono ?_
  rintro e w1 ⟨rfl,b1⟩
  have hzb:=b1.size
  have hP:=H.out.below b1
  have hl1:=hP.lt
  have b2:=b1.alloc hzb (.cells #[.string (B K),.string (B Z)] 155)
  have FU2:=FU.out _ b2
  go_wp2_with fail
  refine FU2.mono ?_
  rintro e w2 ⟨rfl,rfl⟩
  have P2:=jnc (H.out.below b2)
  have g0:(w1.alloc (.cells #[.string (B K),.string (B Z)] 155)).cell? ⟨w1.heap.size,0,none⟩=some (.string (B K)):=(ja.new _ _ _).cell 0
  have g1:(w1.alloc (.cells #[.string (B K),.string (B Z)] 155)).cell? ⟨w1.heap.size,1,none⟩=some (.string (B Z)):=(ja.new _ _ _).cell 1
  have hz2':w1.heap.size<(w1.alloc (.cells #[.string (B K),.string (B Z)] 155)).heap.size:=by simp
  have B2:=jnc b2
  have hlt2:w.heap.size<=(w1.alloc (.cells #[.string (B K),.string (B Z)] 155)).heap.size:=b2.size
  clear FU FU2 UF U hP b1 b2
  generalize w1.alloc (.cells #[.string (B K),.string (B Z)] 155)=w2 at *
  generalize w1.heap.size=bx at *
  have hl2:=P2.out.lt
  have q6:w2.cell? ⟨b,6,none⟩=some (.slice a6 p.fields.length c6):=by rw[<- e6];exact P2.out.cells.cell 6
  have HC:=jnc P2.out.cells
  have HO:=jnc P2.out.r6
  have HE:=jnc (JD (w:=w2) P2.out.tp P2.out.t6 (by decide))
  rw[e6]at HO HE
  have HF:=jnc (fun w' v6' hc hr hk ho=>jF.field (p':={p with fields:=p.fields++[(K,Z)],said:=[]}) P2.out (jns hR hlt2) (w':=w') v6' hc hr hk ho rfl rfl)
  go_wp2
  go_cut [] (fun wx=>∃g' cap',ja wx b 168 (yn p text V.v1 V.v3 (.slice (some ⟨g',0,none⟩) (p.fields.length+1) cap')) /\
   wx.ownsRow 0 155 2 (.slice (some ⟨g',0,none⟩) (p.fields.length+1) cap') (p.fields.length+1) (jM p.fields++[.string (B K),.string (B Z)]) /\
   vv w2.heap.size wx.heap.size V.v6.ownBlock (Value.slice (some ⟨g',0,none⟩) (p.fields.length+1) cap').ownBlock/\g'≠b/\jv (fun r=>r=b\/some r=V.v6.ownBlock) w2 wx)
  case first =>
   go_region_law ((refine jP rfl (.tmp 41) (.tmp 43) 61 rfl 155 i0 _ 2 32 underlying61 hi hz0 hz1 hz2 rfl (by decide) (.slice a6 p.fields.length c6) p.fields.length (jM p.fields) (by simp[Act.eval]) (by exact(HO.out.alloc _).drew) ⟨w2.heap.size,0,none⟩ 1 1 [.string (B K),.string (B Z)] (by simp[Act.eval]) rfl (jS w2 155 [.string (B K),.string (B Z)]) (by intro u hu;simp at hu;rcases hu with rfl | rfl<;>rfl) (by unfold maxLen;omega) (by omega) ?_);intro v' w' ho hgr hbk;obtain⟨⟨g',cap',rfl⟩,hg',hbx,hk,hon⟩:=qu HC.out HO.out HE.out (((jne _ w2).alloc (jnd _) _).drew) ho hgr hbk;have k6':w'.cell? ⟨b,6,none⟩=some V.v6:=hg'.cell 6;have kf6':=hg'.frozen 6)
   all_goals
    go_wp2
    go_meet
    have hvg:g'≠b:=by
     intro e
     rcases hk with h|⟨k,h,h2,_⟩
     ·exact HE.out (h.symm.trans (by rw[e];rfl))
     have hh:g'=k:=jng (show some g'=some k from h)
     omega
    rw[<- e6]at hk hon
    refine⟨g',cap',?_,jK (p:=⟨b,6,none⟩) ho (fun e=>hvg (by cases e;rfl)) _,?_,hvg,(hon.mono (fun r _ h=>.inr h)).setCell (p:=⟨b,6,none⟩) (.inl (.inl rfl)) _⟩
    ·simpa [yn]using hg'.set 6 (.slice (some ⟨g',0,none⟩) (p.fields.length+1) cap')
    unfold vv;simpa [World.setCell]using hk
  case rest =>
  obtain⟨g',cap',hc,hr,hk,hvg,ho⟩:=hcut
  have k1:wc.cell? ⟨b,1,none⟩=some V.v1:=hc.cell 1
  have kf1:=hc.frozen 1
  rw[e1]at k1
  go_wp2
  go_ret
  refine Exists.elim (HF.out _ (.slice (some ⟨g',0,none⟩) (p.fields.length+1) cap') ?k1 ?k2 ?k3 ?k4) fun T' g=>FIN.out T' _ ⟨_,g.1⟩ ((zQ.below B2.out).trans g.2)
  case k1=>simpa [yn]using hc.set 1 (.slice none 0 0)
  case k2 =>
   rw[jbn,jnf]
   exact jK (p:=⟨b,1,none⟩) hr (fun e=>hvg (by cases e;rfl)) _
  case k3=>unfold vv at hk ⊢;simpa [World.setCell]using hk
  case k4=>exact ho.setCell (p:=⟨b,1,none⟩) (.inl (.inl rfl)) _
 rw[if_pos hu]at hn0
 have hup:0<zi p.said:=joC hu
 have FIN:=jnc (fun v w' h1 h2=>qv.no (w:=w) (T:=T) (R:=R) (b:=b) (text:=text) (p:=p) (v:=v) (w':=w') (by rw[hn0];exact hu) h1 h2)
 rw[hn0]at FIN
 have hev:=ze _ hup
 have HEV:=jnc hev
 rw[hev]at UF
 generalize zi p.said=n at *
 generalize ql p.said=K at *
 generalize qk p.said=Z at *
 unfold vz at UF
 clear h hsum heach hsv hev
 go_enter func102,ntmps102
 go_wp2_with fail
 refine U.mono ?_
 rintro e w1 ⟨rfl,rfl⟩
 go_wp2_with fail
 refine UF.mono ?_
 rintro e w1 ⟨rfl,b1⟩
 have hzb:=b1.size
 have hP:=H.out.below b1
 have r0:w1.cell? ⟨b,0,none⟩=some (.int .i64 p.begin_):=hP.cells.cell 0
 have hl1:=hP.lt
 have b2:=b1.alloc hzb (.cells #[.string (B K),.string (B Z)] 155)
 have r1:(w1.alloc (.cells #[.string (B K),.string (B Z)] 155)).cell? ⟨b,0,none⟩=some (.int .i64 p.begin_):=by
  rw[jo7 _ _ _ (jpE hl1)];exact r0
 go_wp2
 go_ret
 rw[<- HEV.out]
 exact FIN.out _ _ (jr.new _ _ n _ (w1.heap.size+1) (by simp) (by omega)) (b2.alloc (by simp;omega) _)
end
section
attribute [local go_sem] jT GT
def Jo(w:World)(T:Nat->Nat)(R b:Nat)(text:ByteArray)(p:PS)(x:Ln)(e:Ending)(w':World):Prop :=
 match zO text.data.toList p x with
 | .error (a,n)=>∃v,e=.returned v/\jr w.heap.size w' v a n/\jv (fun r=>T r≠0) w w'
 | .ok q=>e=.returned .nilIface/\∃T',jG w' T' R b text q/\zQ w T w' T'
theorem Jo.no{w:World}{T:Nat->Nat}{R b:Nat}{text:ByteArray}{p:PS}{x:Ln}{v:Value}{w':World}{a n:Nat}(h:zO text.data.toList p x=.error (a,n))(h1:jr w.heap.size w' v a n)(h2:jv (fun r=>T r≠0) w w'):Jo w T R b text p x (.returned v) w':=by
 unfold Jo;rw[h];exact⟨v,rfl,h1,h2⟩
theorem Jo.yes{w:World}{T T':Nat->Nat}{R b:Nat}{text:ByteArray}{p q:PS}{x:Ln}{w':World}(h:zO text.data.toList p x=.ok q)(h1:jG w' T' R b text q)(h2:zQ w T w' T'):Jo w T R b text p x (.returned .nilIface) w':=by
 unfold Jo;rw[h];exact⟨rfl,T',h1,h2⟩
theorem jja{w:World}{T:Nat->Nat}{R b:Nat}{text:ByteArray}{p:PS}(h:jG w T R b text p):T w.heap.size=0:=by
 obtain⟨V,h⟩:=h
 rcases Nat.decEq (T w.heap.size) 0 with e|e
 ·have:=(h.low _ e).2;omega
 exact e
theorem jG.lt{w:World}{T:Nat->Nat}{R b:Nat}{text:ByteArray}{p:PS}(h:jG w T R b text p):b<w.heap.size:=by obtain⟨V,h⟩:=h;exact h.lt
theorem Zz{w w1:World}{T T1:Nat->Nat}{R b:Nat}{text:ByteArray}{p q:PS}(h:jG w1 T1 R b text q)(hs:zQ w T w1 T1)(hR:R<=w.heap.size)(hsum:(q.said.map List.length).sum+q.said.length<=90000)(hf:q.fields.length<=1000000):
  Calls prog 102 #[.pointer (some ⟨b,0,none⟩)] w1 fun e w' =>
   if jk q=0 then e=.returned .nilIface/\∃T',jG w' T' R b text (jb q)/\zQ w T w' T'/\zQ w1 T1 w' T'
   else ∃v,e=.returned v/\jr w.heap.size w' v q.begin_ (jk q)/\jv (fun r=>T r≠0) w w'/\v ≠ .nilIface/\∃a,v=.iface 133 (.pointer a):=by
 have hz:=hs.only.size
 refine(QT h (jns hR hz) hsum hf).mono fun e w' g => ?_
 unfold qv at g
 split
 ·rename_i h0
  rw[if_pos h0]at g
  obtain⟨g1,T',g2,g3⟩:=g
  exact⟨g1,T',g2,hs.trans g3,g3⟩
 rename_i h0
 rw[if_neg h0]at g
 obtain⟨v,g1,g2,g3⟩:=g
 refine⟨v,g1,g2.mono hz,hs.only.below g3 hz,?_,?_⟩
 ·obtain⟨q,_,e,_⟩:=g2;rw[e];intro h;cases h
 obtain⟨q,_,e,_⟩:=g2;exact⟨_,e⟩
theorem jjx{w:World}{T:Nat->Nat}{R b:Nat}{text:ByteArray}{p:PS}(h:jG w T R b text p)(hR:R<=w.heap.size)(x:Ln)(hi:Inv p x.at_)(hx:x.at_+x.text.length+1<=70000)(hno:x.no<=x.at_)(hg:Jm p x=true):
  Calls prog 101 #[.pointer (some ⟨b,0,none⟩),.agg #[.int .i64 x.no,.int .i64 x.at_,.string (B x.text),.bool x.ended]] w fun e w'=>Jo w T R b text p x e w':=by
 have hk:jL x.text=3:=by unfold Jm at hg;simp at hg;exact hg.1
 have hu:(!p.said.isEmpty)=true:=by unfold Jm at hg;simp at hg;simp[hg.2]
 have K:∀w,Calls prog 141 #[.string (B x.text)] w fun e w'=>e=.returned (.int .i64 3)/\Below w.heap.size w w':=fun w=>by
  have:=Zo (B x.text) (by rw[jm];unfold maxLen;omega) w
  rw[ju,hk]at this
  exact this
 have hb0:=zQ.below (T:=T) ((jne w.heap.size w).alloc (jnd _) (.cells #[.int .i64 x.no,.int .i64 x.at_,.string (B x.text),.bool x.ended] 164))
 have c0:=ja.new w 164 #[.int .i64 x.no,.int .i64 x.at_,.string (B x.text),.bool x.ended]
 have l0:=jja h
 have hw:qH p x=Jn p x:=by unfold qH;rw[if_pos hg];rfl
 have hwr:vI p x = !x.ended:=by unfold vI;rw[hk,hg];simp
 have hen:xt p x = !x.ended:=by unfold xt;rw[hwr,hg];simp
 have hb:=hi.said
 have hsum:((Jn p x).said.map List.length).sum+(Jn p x).said.length<=90000:=by simp[Jn];omega
 have hff:(Jn p x).fields.length<=1000000:=by have:=hi.fields;show p.fields.length<=_;omega
 have hn:p.said.length<=1000000:=by omega
 have GO:=jnc (fun w1 (T1:Nat->Nat) V1 (g:jF w1 T1 R b text p V1) hR1=>jib g hR1 x hn)
 have EF:=jnc (fun w1 T1 (g:jG w1 T1 R b text (Jn p x)) (s:zQ w T w1 T1)=>Zz (p:=p) g s hR hsum hff)
 have H:=jnc h
 have C0:=jnc c0
 have HB0:=jnc hb0
 cases hend:x.ended with
 | true =>
  rw[hend]at hwr hen
  simp only[Bool.not_true]at hwr hen
  have FIN:=jnc (fun T' w' h1 h2=>Jo.yes (w:=w) (T:=T) (T':=T') (R:=R) (b:=b) (text:=text) (p:=p) (q:=Jn p x) (x:=x) (w':=w') (by unfold zO;rw[hen,hwr];simp[vC,hen,Va,hk,hw]) h1 h2)
  rw[hend]at GO C0 HB0
  clear h c0 hb0 hi EF hsum hff hb
  go_enter func101,ntmps101
  go_wp2_with fail
  refine(K _).mono ?_
  rintro e w1 ⟨rfl,b1⟩
  have s1:=HB0.out.trans (zQ.below b1)
  have P1:jG w1 T R b text p:=(H.out.below ((jne _ _).alloc (jnd _) _)).below b1
  obtain⟨V1,P1⟩:=P1
  have C1:=je C0.out b1 (by simp)
  have hz1:=s1.only.size
  have hz1':R<=w1.drew.heap.size:=jns hR hz1
  clear b1 H C0 HB0
  go_wp2_with fail
  refine(yD P1).mono ?_
  rw[hu]
  rintro e w2 ⟨rfl,rfl⟩
  have d0:w1.cell? ⟨w.heap.size,0,none⟩=some (.int .i64 x.no):=C1.cell 0
  have d1:w1.cell? ⟨w.heap.size,1,none⟩=some (.int .i64 x.at_):=C1.cell 1
  have d2:w1.cell? ⟨w.heap.size,2,none⟩=some (.string (B x.text)):=C1.cell 2
  have d3:w1.cell? ⟨w.heap.size,3,none⟩=some (.bool true):=C1.cell 3
  have P1d:Hid (jF w1.drew T R b text p V1):=P1.same (fun _ _=>rfl) (jnd _)
  have C1d:Hid (ja w1.drew w.heap.size 164 _):=C1
  have S1:Hid (zQ w T w1.drew T):=s1.drewN 1
  clear P1 C1 s1
  go_wp2
  go_region_with (go_at_call 143;refine(GO.out _ T V1 P1d.out hz1').mono ?_;rintro e w2 ⟨rfl,T2,g2,s2⟩;have C2:=C1d.out.only s2.only (fun e=>e l0);have d3:w2.cell? ⟨w.heap.size,3,none⟩=some (.bool true):=C2.cell 3)
  all_goals
   go_wp2
   go_ret
   exact FIN.out T2 _ g2 (S1.out.trans s2)
 | false =>
 rw[hend]at hwr hen
 simp only[Bool.not_false]at hwr hen
 rw[hend]at GO C0 HB0
 by_cases h0:jk (Jn p x)=0
 ·have FIN:=jnc (fun v w' h1 h2=>Jo.no (w:=w) (T:=T) (R:=R) (b:=b) (text:=text) (p:=p) (x:=x) (v:=v) (w':=w') (a:=x.no) (n:=2) (by unfold zO;rw[hen,hwr,hw,h0];simp) h1 h2)
  clear h c0 hb0 hi hsum hff hb
  go_enter func101,ntmps101
  go_wp2_with fail
  refine(K _).mono ?_
  rintro e w1 ⟨rfl,b1⟩
  have s1:=HB0.out.trans (zQ.below b1)
  have P1:jG w1 T R b text p:=(H.out.below ((jne _ _).alloc (jnd _) _)).below b1
  obtain⟨V1,P1⟩:=P1
  have C1:=je C0.out b1 (by simp)
  have hz1:=s1.only.size
  have hz1':R<=w1.drew.heap.size:=jns hR hz1
  clear b1 H C0 HB0
  go_wp2_with fail
  refine(yD P1).mono ?_
  rw[hu]
  rintro e w2 ⟨rfl,rfl⟩
  have d0:w1.cell? ⟨w.heap.size,0,none⟩=some (.int .i64 x.no):=C1.cell 0
  have d1:w1.cell? ⟨w.heap.size,1,none⟩=some (.int .i64 x.at_):=C1.cell 1
  have d2:w1.cell? ⟨w.heap.size,2,none⟩=some (.string (B x.text)):=C1.cell 2
  have d3:w1.cell? ⟨w.heap.size,3,none⟩=some (.bool false):=C1.cell 3
  have lz:=C1.lt
  have P1d:Hid (jF w1.drew T R b text p V1):=P1.same (fun _ _=>rfl) (jnd _)
  have C1d:Hid (ja w1.drew w.heap.size 164 _):=C1
  have S1:Hid (zQ w T w1.drew T):=s1.drewN 1
  clear P1 C1 s1
  go_wp2
  go_region_with (go_at_call 143;refine(GO.out _ T V1 P1d.out hz1').mono ?_;rintro e w2 ⟨rfl,T2,g2,s2⟩;have C2:=C1d.out.only s2.only (fun e=>e l0);have d3:w2.cell? ⟨w.heap.size,3,none⟩=some (.bool false):=C2.cell 3)
  all_goals
   go_wp2_with fail
   refine(EF.out _ T2 g2 (S1.out.trans s2)).mono ?_
   rintro e w3 hE
   rw[if_pos h0]at hE
   obtain⟨rfl,T3,g3,s3,s23⟩:=hE
   have C3:=C2.only s23.only (fun e=>e ((s2.old _ lz).2 l0))
   have d0':w3.cell? ⟨w.heap.size,0,none⟩=some (.int .i64 x.no):=C3.cell 0
   have lz3:=C3.lt
   go_wp2
   go_ret
   exact FIN.out _ _ (jr.new _ _ 2 _ w3.heap.size rfl (by omega)) (s3.only.alloc _)
 have FIN:=jnc (fun v w' h1 h2=>Jo.no (w:=w) (T:=T) (R:=R) (b:=b) (text:=text) (p:=p) (x:=x) (v:=v) (w':=w') (a:=(Jn p x).begin_) (n:=jk (Jn p x)) (by unfold zO;rw[hen,hw,if_pos ⟨rfl,h0⟩]) h1 h2)
 clear h c0 hb0 hi hsum hff hb
 go_enter func101,ntmps101
 go_wp2_with fail
 refine(K _).mono ?_
 rintro e w1 ⟨rfl,b1⟩
 have s1:=HB0.out.trans (zQ.below b1)
 have P1:jG w1 T R b text p:=(H.out.below ((jne _ _).alloc (jnd _) _)).below b1
 obtain⟨V1,P1⟩:=P1
 have C1:=je C0.out b1 (by simp)
 have hz1:=s1.only.size
 have hz1':R<=w1.drew.heap.size:=jns hR hz1
 clear b1 H C0 HB0
 go_wp2_with fail
 refine(yD P1).mono ?_
 rw[hu]
 rintro e w2 ⟨rfl,rfl⟩
 have d0:w1.cell? ⟨w.heap.size,0,none⟩=some (.int .i64 x.no):=C1.cell 0
 have d1:w1.cell? ⟨w.heap.size,1,none⟩=some (.int .i64 x.at_):=C1.cell 1
 have d2:w1.cell? ⟨w.heap.size,2,none⟩=some (.string (B x.text)):=C1.cell 2
 have d3:w1.cell? ⟨w.heap.size,3,none⟩=some (.bool false):=C1.cell 3
 have P1d:Hid (jF w1.drew T R b text p V1):=P1.same (fun _ _=>rfl) (jnd _)
 have C1d:Hid (ja w1.drew w.heap.size 164 _):=C1
 have S1:Hid (zQ w T w1.drew T):=s1.drewN 1
 clear P1 C1 s1
 go_wp2
 go_region_with (go_at_call 143;refine(GO.out _ T V1 P1d.out hz1').mono ?_;rintro e w2 ⟨rfl,T2,g2,s2⟩;have C2:=C1d.out.only s2.only (fun e=>e l0);have d3:w2.cell? ⟨w.heap.size,3,none⟩=some (.bool false):=C2.cell 3)
 all_goals
  go_wp2_with fail
  refine(EF.out _ T2 g2 (S1.out.trans s2)).mono ?_
  rintro e w3 hE
  rw[if_neg h0]at hE
  obtain⟨v,rfl,f3,o3,_,a3,rfl⟩:=hE
  go_wp2
  go_ret
  exact FIN.out _ _ f3 o3
theorem jfv(l:List UInt8):jL l=1\/jL l=2\/jL l=3\/jL l=4\/jL l=5:=by
 unfold jL
 split;· simp
 split;· simp
 split;· simp
 split;· simp
 split<;>simp
theorem jg7{w:World}{T:Nat->Nat}{R b:Nat}{text:ByteArray}{p:PS}(h:jG w T R b text p)(hR:R<=w.heap.size)(x:Ln)(hi:Inv p x.at_)(hx:x.at_+x.bytes.length<=text.size)(ht:text.size<=70000)(hno:x.no<=x.at_)(hg:Jm p x=false):
  Calls prog 101 #[.pointer (some ⟨b,0,none⟩),.agg #[.int .i64 x.no,.int .i64 x.at_,.string (B x.text),.bool x.ended]] w fun e w'=>Jo w T R b text p x e w':=by
 have hbl:x.text.length<=x.bytes.length:=by unfold Ln.bytes;simp
 have K:∀w,Calls prog 141 #[.string (B x.text)] w fun e w'=>e=.returned (.int .i64 (jL x.text:Nat))/\Below w.heap.size w w':=fun w=>by
  have:=Zo (B x.text) (by rw[jm];unfold maxLen;omega) w
  rw[ju]at this
  exact this
 have hu:jL x.text=3->(!p.said.isEmpty)=false:=by
  intro h3;unfold Jm at hg;rw[h3]at hg;simpa using hg
 have hl:=h.lt
 have l0:=jja h
 have H:=jnc h
 have C0:=jnc (ja.new w 164 #[.int .i64 x.no,.int .i64 x.at_,.string (B x.text),.bool x.ended])
 have HB0:=jnc (zQ.below (T:=T) ((jne w.heap.size w).alloc (jnd _) (.cells #[.int .i64 x.no,.int .i64 x.at_,.string (B x.text),.bool x.ended] 164)))
 have hw:qH p x=p:=by unfold qH;rw[hg];rfl
 have hen:xt p x=true:=by unfold xt;rw[hg];simp
 have hth:vC p x=jb p:=by unfold vC;rw[hen,if_pos rfl,hw]
 have hb:=hi.said
 have hff:p.fields.length<=1000000:=by have:=hi.fields;omega
 have EF:=jnc (fun w1 T1 (g:jG w1 T1 R b text p) (s:zQ w T w1 T1)=>Zz (p:=p) g s hR (by omega) hff)
 have HII:=jnc hi
 have HX:=jnc hx
 clear h hi hb hff hx
 rcases jfv x.text with hk|hk|hk|hk|hk
 all_goals cases hend:x.ended
 all_goals
  rw[hk]at K
  rw[hend]at C0 HB0
  go_enter func101,ntmps101
  go_wp2_with fail
  refine(K _).mono ?_
  rintro e w1 ⟨rfl,b1⟩
  have s1:=HB0.out.trans (zQ.below b1)
  have P1:jG w1 T R b text p:=(H.out.below ((jne _ _).alloc (jnd _) _)).below b1
  have l1:=P1.lt
  have C1:=je C0.out b1 (by simp)
  have hz1:=s1.only.size
  have d0:w1.cell? ⟨w.heap.size,0,none⟩=some (.int .i64 x.no):=C1.cell 0
  have d1:w1.cell? ⟨w.heap.size,1,none⟩=some (.int .i64 x.at_):=C1.cell 1
  have d2:w1.cell? ⟨w.heap.size,2,none⟩=some (.string (B x.text)):=C1.cell 2
  have d3:w1.cell? ⟨w.heap.size,3,none⟩=_:=C1.cell 3
  simp only[jnl,jnp,jnj]at d3
  have lz:=C1.lt
  clear b1 H C0 HB0
  go_wp2_with fail
  try (have h3:jL x.text=3:=hk;obtain⟨V1,PV1⟩:=P1;refine(yD PV1).mono ?_;rw[hu hk];rintro e w2 ⟨rfl,rfl⟩;replace P1:jG w1 T R b text p:=⟨V1,PV1⟩;clear PV1;go_wp2_with fail)
  refine(EF.out _ T P1 s1).mono ?_
  rintro e w3 hE
  by_cases h0:jk p=0
  rotate_left
  ·have FIN:=jnc (fun v w' h1 h2=>Jo.no (w:=w) (T:=T) (R:=R) (b:=b) (text:=text) (p:=p) (x:=x) (v:=v) (w':=w') (a:=p.begin_) (n:=jk p) (by unfold zO;rw[hen,hw,if_pos ⟨rfl,h0⟩]) h1 h2)
   rw[if_neg h0]at hE
   obtain⟨v,rfl,f3,o3,_,a3,rfl⟩:=hE
   go_wp2
   go_ret
   exact FIN.out _ _ f3 o3
 all_goals
  rw[if_pos h0]at hE
  obtain⟨rfl,T3,g3,s3,s13⟩:=hE
  have C3:=C1.only s13.only (fun e=>e (l0))
  have d0':w3.cell? ⟨w.heap.size,0,none⟩=some (.int .i64 x.no):=C3.cell 0
  have d1':w3.cell? ⟨w.heap.size,1,none⟩=some (.int .i64 x.at_):=C3.cell 1
  have d2':w3.cell? ⟨w.heap.size,2,none⟩=some (.string (B x.text)):=C3.cell 2
  have d3':w3.cell? ⟨w.heap.size,3,none⟩=_:=C3.cell 3
  simp only[jnl,jnp,jnj]at d3'
  have lz3:=C3.lt
  have l3:=g3.lt
 all_goals try (have hwr:vI p x=true:=(by unfold vI;rw[hk,hg,hend]<;>rfl);have FIN:=jnc (fun v w' h1 h2=>Jo.no (w:=w) (T:=T) (R:=R) (b:=b) (text:=text) (p:=p) (x:=x) (v:=v) (w':=w') (a:=x.no) (n:=2) (by unfold zO;rw[hen,hwr,hw,h0];simp) h1 h2);go_wp2;go_ret;exact FIN.out _ _ (jr.new _ _ 2 _ w3.heap.size rfl (by omega)) (s3.only.alloc _))
 all_goals
  have hwr:vI p x=false:=by unfold vI;rw[hk,hg,hend]<;>rfl
  have FIN:=jnc (fun T' w' h1 h2=>Jo.yes (w:=w) (T:=T) (T':=T') (R:=R) (b:=b) (text:=text) (p:=p) (q:=Va text.data.toList (jb p) x) (x:=x) (w':=w') (by unfold zO;rw[hen,hwr,hw,h0,hth];simp) h1 h2)
  have hbe:x.bytes.length=x.text.length+1:=by unfold Ln.bytes;rw[hend];simp
 ·have h1:jL x.text=1:=hk
  have eP:Va text.data.toList (jb p) x=zt text.data.toList (jy text.data.toList (jb p) x.at_) 1 (x.at_+x.text.length+1):=by unfold Va;rw[hk];rfl
  rw[eP]at FIN
  have hx:=HX.out
  have hi2:=HII.out.endField
  have hi3:=hi2.endBlock text.data.toList x.at_ hi2.at_ (jnd _)
  have a3:=xi text.data.toList (jb p) x.at_ hi2.at_
  have n1:IntKind.i64.wrap ((x.at_:Int)+(x.text.length:Int))=(x.at_:Int)+(x.text.length:Int):=jn1 _ (by omega)
  have n2:IntKind.i64.wrap ((x.at_:Int)+(x.text.length:Int)+1)=(x.at_:Int)+(x.text.length:Int)+1:=jn1 _ (by omega)
  have zB:=jm x.text
  have HB:=jnc (fun w3 T3 (g:jG w3 T3 R b text (jb p)) hR3=>QU g hR3 x.at_ hi2.at_ (by omega) (by omega) (by have:=hi2.items;have:=hi2.at_;omega) (by have:=hi2.stanzas;have:=hi2.at_;omega))
  have HI:=jnc (fun w3 T3 V3 (g:jF w3 T3 R b text (jy text.data.toList (jb p) x.at_) V3) hR3=>JO g hR3 1 (x.at_+x.text.length+1) (by omega) (by omega) (by omega) (by have:=hi3.items;omega))
  clear hi3 hi2 a3
  have hz3:R<=w3.heap.size:=jns hR s3.only.size
  go_wp2_with fail
  refine(HB.out _ T3 g3 hz3).mono ?_
  rintro e w4 ⟨rfl,T4,g4,s4⟩
  have C4:=C3.only s4.only (fun e=>e ((s13.old _ lz).2 l0))
  have e1':w4.cell? ⟨w.heap.size,1,none⟩=some (.int .i64 x.at_):=C4.cell 1
  have e2':w4.cell? ⟨w.heap.size,2,none⟩=some (.string (B x.text)):=C4.cell 2
  have lz4:=C4.lt
  have hz4:R<=w4.heap.size:=jns hz3 s4.only.size
  have l4:=g4.lt
  obtain⟨V4,g4⟩:=g4
  go_wp2_with fail
  rw[show Value.int .i64 ((x.at_:Int)+(x.text.length:Int)+1)=Value.int .i64 ((x.at_+x.text.length+1:Nat):Int) from rfl]
  refine(HI.out _ T4 V4 g4 hz4).mono ?_
  rintro e w5 ⟨rfl,T5,g5,s5⟩
  go_wp2
  go_ret
  exact FIN.out T5 _ g5 ((s3.trans s4).trans s5)
 ·have h2:jL x.text=2:=hk
  have eP:Va text.data.toList (jb p) x=jb p:=by unfold Va;rw[hk];rfl
  rw[eP]at FIN
  go_wp2
  go_ret
  exact FIN.out _ _ g3 s3
 have eP:Va text.data.toList (jb p) x=Ux (jb p) x:=by unfold Va Ux;rw[hk,if_pos rfl]
 rw[eP]at FIN
 have HS:=jnc (fun w3 T3 V3 (g:jF w3 T3 R b text (jb p) V3) hR3=>jeE g hR3 x)
 rw[hend]at HS
 obtain⟨V3,g3⟩:=g3
 have P3d:Hid (jF w3.drew T3 R b text (jb p) V3):=g3.same (fun _ _=>rfl) (jnd _)
 have S3:Hid (zQ w T w3.drew T3):=s3.drewN 1
 have hz3:R<=w3.drew.heap.size:=jns hR s3.only.size
 clear g3 s3 s13
 go_wp2
 go_region_with (go_at_call 144;refine(HS.out _ T3 V3 P3d.out hz3).mono ?_;rintro e w4 ⟨rfl,T4,g4,s4⟩)
 all_goals
  go_wp2
  go_ret
  exact FIN.out T4 _ g4 (S3.out.trans s4)
end
end Go.Proofs.YtpibhbjmcmfnmaaGreatDoor
