/- Texts put together:FI,FJ,PF,PG,PH,RH,PI. -/
import Derived.Test.YtpibhbjmcmfnmaaGreatDoorBfn10
set_option linter.unusedVariables false
set_option maxRecDepth 100000
set_option maxHeartbeats 16000000
namespace Go.Proofs.YtpibhbjmcmfnmaaGreatDoor
open Go.RowKit Go.Shelf Tryz
abbrev jmm:=@List.getElem?_cons_zero
abbrev jnv:=@Go.Joins.ownsRow_form
theorem yy{fn:Func}{p:Tmp}{ty:TypeId}(h:fn.results=#[.cell p ty])(tmps:Array Value)(P:Program)(w:World):
  (results fn tmps).run P w=((asAddr (tmps.getD p undef)).run P w).andThen fun a w₁=>(loadVar ty a).run P w₁:=by
 simp only[results,h]
 simp[Sem.run_bind,Result.andThen]
theorem jjR{fn:Func}{p:Tmp}(h:fn.results=#[.cell p 155])(tmps:Array Value)(w:World)(b:Nat)(cur:Array Value)(hp:tmps.getD p undef=.pointer (some ⟨b,0,none⟩))
  (hc:ja w b 155 cur) (hz:cur.size=2):(results fn tmps).run prog w=.ok (.agg cur) w:=by
 have L:=run_loadVar_row (P:=prog) w b 155 155 cur (0,0) _ hc underlying155 rfl (by rw[hz];kernel_rfl)
 rw[yy h,hp]
 show(loadVar _ _).run _ _=_
 exact L
theorem jdF{fn:Func}{p u:Tmp}(h:fn.results=#[.cell p 155,.tmp u])(tmps:Array Value)(w:World)(b:Nat)(cur:Array Value)(hp:tmps.getD p undef=.pointer (some ⟨b,0,none⟩))
  (hc:ja w b 155 cur) (hz:cur.size=2):(results fn tmps).run prog w=.ok (.tuple #[.agg cur,tmps.getD u undef]) w:=by
 have L:=run_loadVar_row (P:=prog) w b 155 155 cur (0,0) _ hc underlying155 rfl (by rw[hz];kernel_rfl)
 rw[results_cell_tmp h,hp]
 show((loadVar _ _).run _ _).andThen _=_
 rw[L];rfl
theorem jd{w w':World}{b N:Nat}{t:TypeId}{cur:Array Value}(h:ja w b t cur)(hb:Below N w w')(hN:b<N):ja w' b t cur:=(hb.block b hN).trans h
theorem jkK(c0 c1 v0 v1:Value):((#[c0,c1].setIfInBounds 0 v0).setIfInBounds 1 v1)=#[v0,v1]:=by
 simp[List.setIfInBounds_toArray,List.set]
theorem jf0(a:List UInt8)(r:List (List UInt8))(v:Value)(w:World)(hs:Strs w v ((a::r).map B))(ha:a.length<=100000)(hr:∀l∈r,l.length<=100000/\jJ l=3)(hka:jJ a=4)(hn:r.length<=100000)
    (hj:(vP (a::r)).length<=100000000) :
    Calls prog 191 #[v] w fun e w'=>e=.returned (vf (before a) (vP (a::r)))/\Below w.heap.size w w':=by
  obtain⟨A,cap,rfl,hle,hc⟩:=hs
  have hcb:=jkx hc
  obtain⟨b,off,rfl,hbb,hca⟩:=hcb 0 a rfl
  have PC:=jl9 (fun(j:Nat) x (hx:r[j]?=some x)=>(show w.cell? ⟨b,off+(j+1),none⟩=some (.string (B x)) by
    obtain⟨b',off',e,_,h⟩:=hcb (j+1) x (by simpa using hx)
    cases e;exact h))
  clear hc hcb
  rw[jmE,jme]at hle ⊢
  have CP:=fun w=>jhd (B a) (by rw[jq];unfold maxLen;omega) (by rw[ju];exact hka) w
  rw[jk9,jjU]at CP
  have TS:=fun w=>jhX (ya a) w
  have HS:Hid (XO (a::r)=yo (ya a)::r.map (fun l=>zN l.tail)):=rfl
  have HJ:Hid (Lib.join (((yo (ya a)::r.map (fun l=>zN l.tail)).map B).map (·.data.toList)) [10]=vP (a::r)):=by
    show _=_
    unfold vP
    rw[<- Ww,HS.out,jnH]
    congr 1
    conv=>rhs;rw[<- List.map_id (yo (ya a)::r.map (fun l=>zN l.tail))]
    exact jn7 fun l _=>ju l
  generalize yo (ya a)=p0 at *
  generalize ya a=ac at *
  obtain⟨i0,hi,hz0,hz1,hz2⟩:=info_parts jeo
  rw[jnW]at hca
  go_enter func191,ntmps191
  go_wp2_with fail
  refine(CP _).mono ?_
  rintro e w1 ⟨rfl,b1⟩
  go_wp2_with fail
  refine(TS _).mono ?_
  rintro e w2 ⟨rfl,rfl⟩
  have RB:ja w1 w.heap.size 155 #[.string ⟨#[]⟩,.string ⟨#[]⟩]:=jd (ja.new w _ _) b1 (by simp)
  have hb1:Below w.heap.size w w1:=((jmc _ _).alloc (jma _) _).trans (b1.mono (by simp))
  have PC1:=jl9 (fun(j:Nat) x (hx:r[j]?=some x)=>(hb1.cell (p:=⟨b,off+(j+1),none⟩) hbb).trans (PC.out j x hx))
  have hs1:=b1.size
  simp only[jmw]at hs1
  have hb1lt:b<w1.heap.size:=by omega
  have BW:=jl9 hb1
  clear b1 PC hca hb1 CP TS
  have hw1:=BW.out.size
  go_wp2_with fail
  all_goals
    go_loopw [6,23] (fun v6 i wr=>∃(k:Nat),k<=r.length/\i=.int .i64 k/\Qo wr w1.heap.size v6 ((p0::(r.take k).map (fun l=>zN l.tail)).map B)/\Below w1.heap.size w1 wr) (fun _ i _=>r.length-(intOf i).toNat)
    case atStart=>exact⟨0,jmo _,rfl,Qo.one w1 _ (jma _) _,(jmc _ _).alloc (jma _) _⟩
    case round =>
    obtain⟨k,hkr,rfl,hown,hb⟩:=hrel
    by_cases hkl:k<r.length
    . first
      | (exfalso;omega)
      | (obtain⟨x,hx⟩:∃x,r[k]?=some x:=⟨_,jmd hkl⟩
         have hcx:=PC1.out k x hx
         have hcx2:=(hb.cell (p:=⟨b,off+(k+1),none⟩) hb1lt).trans hcx
         rw[show off+(k+1)=off+1+k by omega]at hcx2
         obtain⟨hxl,hx3⟩:=hr x (jmx hx)
         obtain⟨c,d,t,rfl⟩:=jlf hx3
         have TK:Hid ((p0::(r.take (k+1)).map (fun l=>zN l.tail)).map B=(p0::(r.take k).map (fun l=>zN l.tail)).map B++[B (zN (d::t))]):=by
           show _=_
           rw[jmO,hx];simp
         have TD:=fun w=>jfK (d::t) w
         have hll:((p0::(r.take k).map (fun l=>zN l.tail)).map B).length=k+1:=by simp;omega
         have HLL:=jl9 hll
         have hsz:(B (c::d::t)).size=t.length+2:=by rw[jq];rfl
         have hex:=jjK c (d::t)
         rw[hsz]at hex
         clear hx hcx hx3
         generalize (p0::(r.take k).map (fun l=>zN l.tail)).map B=ls at *
         generalize zN (d::t)=y at *
         generalize B (c::d::t)=X at *
         generalize B (d::t)=Y at *
         go_wp2_with fail
         refine(TD _).mono ?_
         rintro e w4 ⟨rfl,rfl⟩
         have hs3:=hb.size
         have HC:=jl9 (jdr wr (B y) 9)
         have hown4:wr.ownsRow w1.heap.size 9 1 u6 ls.length (ls.map Value.string):=hown
         clear hown
         go_wp2_with (at_builtin;refine wpList_append_own _ rfl _ _ 56 rfl w1.heap.size 9 i0 _ 1 16 underlying56 hi hz0 hz1 hz2 rfl (by decide) _ _ _ rfl (hown4.alloc _) ⟨wr.heap.size,0,none⟩ 1 1 _ rfl rfl HC.out ?c2 ?c3 ?c4 ?c5 ?_)
         case c2=>intro u hu;simp at hu;subst hu;rfl
         case c3=>unfold maxLen;omega
         case c4=>omega
         case c5=>simp;omega
         intro v' w5 hown' hgrow _
         obtain⟨g',cap',rfl⟩:=ownsRow_succ hown'
         have hb5:Below w1.heap.size w1 w5:=(hb.alloc (by omega) _).grown hgrow (by simp;omega) (fun j ej=>(hown4.lt j ej).1)
         go_wp2_with fail
         go_roundw
         case rel =>
           refine⟨k+1,hkl,by go_num,?_,hb5⟩
           rw[TK.out]
           unfold Qo
           rw[jmb,jnh,HLL.out];exact hown'
         case measure=>simp[intOf];omega)
    obtain rfl:k=r.length:=by omega
    rw[jmJ]at hown
    obtain⟨g,cap',e⟩:=jnv hown (by simp)
    subst e
    have hst:=hown.strs
    obtain⟨A',cap2,e,hle2,hc2⟩:=hst
    cases e
    have RBr:=jd RB hb (by omega)
    have JN:=Tryz.strings_Join g 0 cap' _ ⟨#[10]⟩ wr (fun j x hx=>by obtain⟨b',o',e,_,h⟩:=hc2 j x hx;cases e;exact h) (by obtain⟨b',o',e,h,_⟩:=hc2 0 _ rfl;cases e;exact h) (by simp;omega) hle2 (by show(Lib.join _ [10]).length<=_;rw[HJ.out];omega)
    rw[show(⟨#[10]⟩:ByteArray).data.toList=[10] from rfl,HJ.out]at JN
    simp only[jmE,jme]at JN ⊢
    have hbw:=hb.size
    have hbA:=BW.out.trans (hb.mono hw1)
    clear hown hc2 hle2 HJ
    go_wp2_with fail
    refine JN.mono ?_
    rintro e w5 ⟨rfl,b5⟩
    have R5:=jd RBr b5 (by omega)
    have c0:=R5.cell 0
    have c1:=R5.cell 1
    have f0:=R5.frozen 0
    have f1:=R5.frozen 1
    have hb5:=hbA.trans (b5.mono (by omega))
    simp only[jmh,jmm,jmg]at c0 c1
    rw[mkB]
    have RE:=(R5.set 0 (.string (B (before a)))).set 1 (.string (B (vP (a::r))))
    rw[jkK]at RE
    go_wp2_with fail
    refine bodyPost_ret (jjR rfl _ _ w.heap.size _ rfl RE rfl) rfl ?_
    exact⟨rfl,(hb5.setCell (jma _) _).setCell (jma _) _⟩
section
attribute [local go_sem] jW WV jhH
theorem YQ{ls:List (List UInt8)}(h:jbU ls=true):∃a r,ls=a::r/\jJ a=4/\∀l∈r,jJ l=3:=by
 cases ls with
 | nil=>cases h
 | cons a r =>
 refine⟨a,r,rfl,?_⟩
 unfold jbU at h
 simp only[jmv,beq_iff_eq,jmR]at h
 exact h
theorem KP{ls:List (List UInt8)}(h:jbU ls=false):jZ ls=2/\zZ ls=[]/\zY ls=[]:=by
 have e:jZ ls=2:=by unfold jZ;rw[h];rfl
 exact⟨e,by unfold zZ;rw[e];rfl,by unfold zY;rw[e];rfl⟩
theorem QO{ls:List (List UInt8)}(h:jbU ls=true)(hl:¬(vP ls).length<=1000):jZ ls=6/\zZ ls=[]/\zY ls=[]:=by
 have e:jZ ls=6:=by unfold jZ;rw[h,if_pos rfl,if_neg hl]
 exact⟨e,by unfold zZ;rw[e];rfl,by unfold zY;rw[e];rfl⟩
theorem YI{a:List UInt8}{r:List (List UInt8)}(h:jbU (a::r)=true)(hl:(vP (a::r)).length<=1000):jZ (a::r)=0/\zZ (a::r)=before a/\zY (a::r)=vP (a::r):=by
 have e:jZ (a::r)=0:=by unfold jZ;rw[h,if_pos rfl,if_pos hl]
 exact⟨e,by unfold zZ;rw[e];rfl,by unfold zY;rw[e];rfl⟩
theorem jcX(a:List UInt8):(before a).length<=a.length:=(jno _).length_le
theorem jbF(ls:List (List UInt8))(v:Value)(w:World)(hs:Strs w v (ls.map B))(hl:∀l∈ls,l.length<=100000)(hn:ls.length<=100000)(hj:(vP ls).length<=1000000):
  Calls prog 146 #[v] w fun e w'=>e=.returned (.tuple #[vf (zZ ls) (zY ls),qi (jZ ls)])/\Below w.heap.size w w':=by
 have ST:=jl9 (fun(o:Obj)=>(hs.alloc o))
 cases hF:jbU ls with
 | false =>
  obtain⟨e1,e2,e3⟩:=KP hF
  rw[e1,e2,e3]
  unfold vf
  go_enter func146,ntmps146
  go_wp2_with fail
  refine(jdw ls v _ (ST.out _) hl hn).mono ?_
  rw[hF]
  rintro e w1 ⟨rfl,b1⟩
  have R1:=jd (ja.new w 155 #[.string ⟨#[]⟩,.string ⟨#[]⟩]) b1 (by simp)
  have c0:=R1.cell 0
  have c1:=R1.cell 1
  have f0:=R1.frozen 0
  have f1:=R1.frozen 1
  have hb1:Below w.heap.size w w1:=((jmc _ _).alloc (jma _) _).trans (b1.mono (by simp))
  simp only[jmh,jmm,jmg]at c0 c1
  have RE:=(R1.set 0 (.string ⟨#[]⟩)).set 1 (.string ⟨#[]⟩)
  rw[jkK]at RE
  clear b1 ST
  go_wp2_with fail
  refine bodyPost_ret (jdF rfl _ _ w.heap.size _ rfl RE rfl) rfl ?_
  exact⟨rfl,(hb1.setCell (jma _) _).setCell (jma _) _⟩
 | true =>
 obtain⟨a,r,rfl,hka,hkr⟩:=YQ hF
 have hg:jT (before a)=true:=(jj7 hka).2.2
 have hal:=hl a (by simp)
 have hbl:=jcX a
 have SD:=fun w' (h:Strs w' v ((a::r).map B))=>jf0 a r v w' h hal (fun l hm=>⟨hl l (jmj _ hm),hkr l hm⟩) hka (by simp at hn;omega) (by omega)
 have CK:=fun w'=>Zd (before a) (vP (a::r)) (by omega) hj w'
 have hchk:zl (before a) (vP (a::r))=if (vP (a::r)).length<=1000 then 0 else 6:=by unfold zl;rw[hg];rfl
 rw[hchk]at CK
 have SAY:=fun w' (h:Strs w' v ((a::r).map B))=>jdw (a::r) v w' h hl hn
 rw[hF]at SAY
 by_cases hlen:(vP (a::r)).length<=1000
 ·rw[if_pos hlen]at CK
  obtain⟨e1,e2,e3⟩:=YI hF hlen
  rw[e1,e2,e3]
  unfold vf at *
  generalize B (before a)=K at *
  generalize B (vP (a::r))=V at *
  go_enter func146,ntmps146
  go_wp2_with fail
  refine(SAY _ (ST.out _)).mono ?_
  rintro e w1 ⟨rfl,b1⟩
  have S1:=(ST.out (.cells #[.string ⟨#[]⟩,.string ⟨#[]⟩] 155)).below b1 (jma _)
  have R1:=jd (ja.new w 155 #[.string ⟨#[]⟩,.string ⟨#[]⟩]) b1 (by simp)
  have hb1:Below w.heap.size w w1:=((jmc _ _).alloc (jma _) _).trans (b1.mono (by simp))
  have hs1:=b1.size
  simp only[jmw]at hs1
  clear b1 ST
  go_wp2_with fail
  refine(SD _ S1).mono ?_
  rintro e w2 ⟨rfl,b2⟩
  have R2:=jd R1 b2 (by omega)
  have hb2:=hb1.trans (b2.mono (by omega))
  have hs2:=b2.size
  clear b2 R1 S1 hb1
  have NB:=ja.new w2 155 #[.string K,.string V]
  have OB:=R2.alloc (.cells #[.string K,.string V] 155)
  have hb3:=hb2.alloc (by omega) (.cells #[.string K,.string V] 155)
  go_wp2_with fail
  refine(CK _).mono ?_
  rintro e w4 ⟨rfl,b4⟩
  have N4:=jd NB b4 (by simp)
  have O4:=jd OB b4 (by simp;omega)
  have hb4:=hb3.trans (b4.mono (by simp;omega))
  have n0:=N4.cell 0
  have n1:=N4.cell 1
  have c0:=O4.cell 0
  have c1:=O4.cell 1
  have f0:=O4.frozen 0
  have f1:=O4.frozen 1
  simp only[jmh,jmm,jmg]at c0 c1 n0 n1
  have RE:=(O4.set 0 (.string K)).set 1 (.string V)
  rw[jkK]at RE
  clear b4 NB OB R2 hb3 hb2
  go_wp2_with fail
  refine bodyPost_ret (jdF rfl _ _ w.heap.size _ rfl RE rfl) rfl ?_
  exact⟨rfl,(hb4.setCell (jma _) _).setCell (jma _) _⟩
 rw[if_neg hlen]at CK
 obtain⟨e1,e2,e3⟩:=QO hF hlen
 rw[e1,e2,e3]
 unfold vf at *
 generalize B (before a)=K at *
 generalize B (vP (a::r))=V at *
 go_enter func146,ntmps146
 go_wp2_with fail
 refine(SAY _ (ST.out _)).mono ?_
 rintro e w1 ⟨rfl,b1⟩
 have S1:=(ST.out (.cells #[.string ⟨#[]⟩,.string ⟨#[]⟩] 155)).below b1 (jma _)
 have R1:=jd (ja.new w 155 #[.string ⟨#[]⟩,.string ⟨#[]⟩]) b1 (by simp)
 have hb1:Below w.heap.size w w1:=((jmc _ _).alloc (jma _) _).trans (b1.mono (by simp))
 have hs1:=b1.size
 simp only[jmw]at hs1
 clear b1 ST
 go_wp2_with fail
 refine(SD _ S1).mono ?_
 rintro e w2 ⟨rfl,b2⟩
 have R2:=jd R1 b2 (by omega)
 have hb2:=hb1.trans (b2.mono (by omega))
 have hs2:=b2.size
 clear b2 R1 S1 hb1
 have NB:=ja.new w2 155 #[.string K,.string V]
 have OB:=R2.alloc (.cells #[.string K,.string V] 155)
 have hb3:=hb2.alloc (by omega) (.cells #[.string K,.string V] 155)
 go_wp2_with fail
 refine(CK _).mono ?_
 rintro e w4 ⟨rfl,b4⟩
 have N4:=jd NB b4 (by simp)
 have O4:=jd OB b4 (by simp;omega)
 have hb4:=hb3.trans (b4.mono (by simp;omega))
 have n0:=N4.cell 0
 have n1:=N4.cell 1
 have c0:=O4.cell 0
 have c1:=O4.cell 1
 have f0:=O4.frozen 0
 have f1:=O4.frozen 1
 simp only[jmh,jmm,jmg]at c0 c1 n0 n1
 have RE:=(O4.set 0 (.string ⟨#[]⟩)).set 1 (.string ⟨#[]⟩)
 rw[jkK]at RE
 clear b4 NB OB R2 hb3 hb2
 go_wp2_with fail
 refine bodyPost_ret (jdF rfl _ _ w.heap.size _ rfl RE rfl) rfl ?_
 exact⟨rfl,(hb4.setCell (jma _) _).setCell (jma _) _⟩
end
section
attribute [local go_sem] jW
def jn(lo:Nat)(w:World)(e:Value)(at_ n:Nat):Prop:=∃q,lo<=q/\e=.iface 133 (.pointer (some ⟨q,0,none⟩))/\ja w q 135 #[.int .i64 at_,qi n]
theorem jn.below{lo:Nat}{w w':World}{e:Value}{a n N:Nat}(h:jn lo w e a n)(hb:Below N w w')(hN:w.heap.size<=N):jn lo w' e a n:=by
 obtain⟨q,h0,h1,h2⟩:=h
 exact⟨q,h0,h1,(hb.block q (jmp h2.lt hN)).trans h2⟩
theorem jn.mono{lo lo':Nat}{w:World}{e:Value}{a n:Nat}(h:jn lo w e a n)(hl:lo'<=lo):jn lo' w e a n:=by
 obtain⟨q,h0,h1,h2⟩:=h
 exact⟨q,jmy hl h0,h1,h2⟩
theorem jn.new(w:World)(a n lo q:Nat)(hq:w.heap.size=q)(hl:lo<=q):jn lo (w.alloc (.cells #[.int .i64 a,qi n] 135)) (.iface 133 (.pointer (some ⟨q,0,none⟩))) a n:=by subst hq;exact⟨w.heap.size,hl,rfl,ja.new _ _ _⟩
theorem jB.field{w w':World}{T:Nat->Nat}{R b:Nat}{text:ByteArray}{p p':PS}{V:PV}(h:jB w T R b text p V)(hR:R<=w.heap.size)(v6':Value)
  (hc:ja w' b 168 (vT p' text (.slice none 0 0) V.v3 v6')) (hr:w'.ownsRow 0 155 2 v6' p'.fields.length (jG p'.fields)) (hk:qX w.heap.size w'.heap.size V.v6.ownBlock v6'.ownBlock)
  (ho:jt (fun r=>r=b\/some r=V.v6.ownBlock) w w') (e1:p'.items=p.items) (e2:p'.said=[]) :
  ∃T',jB w' T' R b text p' {V with v1:=.slice none 0 0,v6:=v6'}/\zE w T w' T':=by
 have hs:∀k,T k≠0->T k≠1->T k≠4->w'.heap[k]?=w.heap[k]?:=fun k h0 h1 h2=>ho.same k (h.low k h0).2 (by
  rintro(e|e)
  ·exact h1 (by rw[e];exact h.tp)
  exact h2 (h.t6 k e.symm))
 have s:∀{o:Option Nat} {t:Nat},jD T o t->t≠0->t≠1->t≠4->∀k,o=some k->w'.heap[k]?=w.heap[k]?:=fun ht h0 h1 h3 k hk=>hs k (by rw[ht k hk];exact h0) (by rw[ht k hk];exact h1) (by rw[ht k hk];exact h3)
 have lo:∀{o:Option Nat} {t:Nat},jD T o t->t≠0->∀k,o=some k->k<w.heap.size:=fun ht hne k hk=>(h.low k (by rw[ht k hk];exact hne)).2
 refine⟨vk T w.heap.size v6'.ownBlock 4,⟨hc,by rw[zb h.lt];exact h.tp,?_,(fun k hk=>by cases hk),?_,jj h.t3 (lo h.t3 (by decide)),hr,zS hk h.t6,by rw[e1];exact h.nf,fun i it v h1 h2 => ?_,Zo h.low ho.size hR hk h.t6 (by decide)⟩,
  ⟨ho.mono fun r hr' e => ?_,fun r hr'=>by rw[zb hr']⟩⟩
 ·rw[e2];exact⟨by simp[qB],.inl ⟨rfl,rfl⟩⟩
 ·rw[e1];exact jm h.r3 (s h.t3 (by decide) (by decide) (by decide))
 ·obtain⟨a,c⟩:=h.rf i it v (by rw[<- e1];exact h1) h2
  exact⟨jm a (s c (by decide) (by decide) (by decide)),jj c (lo c (by decide))⟩
 rcases e with e|e
 ·rw[e,h.tp];decide
 rw[h.t6 r e.symm];decide
theorem jB.strs{w:World}{T:Nat->Nat}{R b:Nat}{text:ByteArray}{p:PS}{V:PV}(h:jB w T R b text p V):Strs w V.v1 (p.said.map B):=by
 refine Qo.strs (base:=0) ?_
 unfold Qo
 rw[jmE,jnH]
 exact h.r1
theorem jgC:(prog.info? 155).map (fun i=>(i.zero,i.size,i.bytes))=some (some (.agg #[.string ⟨#[]⟩,.string ⟨#[]⟩]),2,32):=by kernel_rfl
def qk(w:World)(T:Nat->Nat)(R b:Nat)(text:ByteArray)(p:PS)(e:Ending)(w':World):Prop :=
 if ji p=0 then e=.returned .nilIface/\∃T',jC w' T' R b text (jb p)/\zE w T w' T'
 else ∃v,e=.returned v/\jn w.heap.size w' v p.begin_ (ji p)/\Below w.heap.size w w'
theorem qk.no{w:World}{T:Nat->Nat}{R b:Nat}{text:ByteArray}{p:PS}{v:Value}{w':World}(h:ji p≠0)(h1:jn w.heap.size w' v p.begin_ (ji p))(h2:Below w.heap.size w w'):qk w T R b text p (.returned v) w':=by
 unfold qk;rw[if_neg h];exact⟨v,rfl,h1,h2⟩
theorem qk.yes{w:World}{T T':Nat->Nat}{R b:Nat}{text:ByteArray}{p:PS}{w':World}(h:ji p=0)(h1:jC w' T' R b text (jb p))(h2:zE w T w' T'):qk w T R b text p (.returned .nilIface) w':=by
 unfold qk;rw[if_pos h];exact⟨rfl,T',h1,h2⟩
theorem Qc{w:World}{T:Nat->Nat}{R b:Nat}{text:ByteArray}{p:PS}(h:jC w T R b text p)(hR:R<=w.heap.size)(hsum:(p.said.map List.length).sum+p.said.length<=90000)(hf:p.fields.length<=1000000):
  Calls prog 102 #[.pointer (some ⟨b,0,none⟩)] w fun e w'=>qk w T R b text p e w':=by
 obtain⟨V,h⟩:=h
 by_cases hs:p.said=[]
 ·have h0:ji p=0:=by unfold ji;rw[if_pos hs]
  have hp:jb p=p:=by unfold jb;rw[if_pos hs]
  have U:=yh h
  rw[show(!p.said.isEmpty)=false by rw[hs];rfl]at U
  have FIN:qk w T R b text p (.returned .nilIface) w:=.yes h0 (by rw[hp];exact⟨V,h⟩) (zE.refl _ _)
  clear h hsum
  go_enter func102,ntmps102
  go_wp2_with fail
  refine U.mono ?_
  rintro e w1 ⟨rfl,rfl⟩
  go_wp2
  go_ret
  exact FIN
 have U:=yh h
 rw[show(!p.said.isEmpty)=true by cases hq:p.said with | nil=>exact absurd hq hs | cons a r=>rfl]at U
 obtain⟨a1,c1,e1,_⟩:=jf h.r1
 have q1:w.cell? ⟨b,1,none⟩=some (.slice a1 p.said.length c1):=by rw[<- e1];exact h.cells.cell 1
 have hlen:p.said.length<=100000:=by omega
 have heach:∀l∈p.said,l.length<=100000:=fun l hm=>by have:=jef _ _ hm;omega
 have hsv:=jf1 p.said
 have UF:=jbF p.said V.v1 w h.strs heach hlen (by omega)
 rw[e1]at UF
 have hn0:ji p=if jZ p.said≠0 then jZ p.said else if JV p then 11 else 0:=by unfold ji;rw[if_neg hs]
 have hn1:=jbG p.said
 have H:=jl9 h
 by_cases hu:jZ p.said=0
 ·rw[hu,if_neg (by simp)]at hn0
  rw[hu]at UF
  rw[jW]at UF
  have FU:=jl9 (fun w' (hb:Below w.heap.size w w')=>jgM (H.out.below hb))
  cases hfull:JV p with
  | true =>
   rw[hfull,if_pos rfl]at hn0
   have FIN:=jl9 (fun v w' h1 h2=>qk.no (w:=w) (T:=T) (R:=R) (b:=b) (text:=text) (p:=p) (v:=v) (w':=w') (by rw[hn0];decide) h1 h2)
   rw[hn0]at FIN
   rw[hfull]at FU
   generalize zZ p.said=K at *
   generalize zY p.said=Z at *
   unfold vf at UF
   clear h hsum heach hsv
   go_enter func102,ntmps102
   go_wp2_with fail
   refine U.mono ?_
   rintro e w1 ⟨rfl,rfl⟩
   go_wp2_with fail
   refine UF.mono ?_
   rintro e w1 ⟨rfl,b1⟩
   have hzb:=b1.size
   go_wp2_with fail
   have hP:=H.out.below b1
   have r0:w1.cell? ⟨b,0,none⟩=some (.int .i64 p.begin_):=hP.cells.cell 0
   have hl1:=hP.lt
   have b2:=b1.alloc hzb (.cells #[.string (B K),.string (B Z)] 155)
   have FU2:=FU.out _ b2
   go_wp2_with fail
   refine FU2.mono ?_
   rintro e w2 ⟨rfl,rfl⟩
   have r1:(w1.alloc (.cells #[.string (B K),.string (B Z)] 155)).cell? ⟨b,0,none⟩=some (.int .i64 p.begin_):=by
    rw[jn0 _ _ _ (jou hl1)];exact r0
   go_wp2
   go_ret
   exact FIN.out _ _ (jn.new _ _ 11 _ (w1.heap.size+1) (by simp) (by omega)) (b2.alloc (by simp;omega) _)
  | false =>
  rw[hfull,if_neg (by simp)]at hn0
  have e0:jb p={p with fields:=p.fields++[(zZ p.said,zY p.said)],said:=[]}:=by unfold jb;rw[if_neg hs]
  have FIN:=jl9 (fun T' w' h1 h2=>qk.yes (w:=w) (T:=T) (T':=T') (R:=R) (b:=b) (text:=text) (p:=p) (w':=w') hn0 h1 h2)
  rw[e0]at FIN
  rw[hfull]at FU
  generalize zZ p.said=K at *
  generalize zY p.said=Z at *
  unfold vf at UF
  obtain⟨i0,hi,hz0,hz1,hz2⟩:=info_parts jgC
  obtain⟨a6,c6,e6,_⟩:=jf h.r6
  clear h hsum heach hsv e0
  go_enter func102,ntmps102
  go_wp2_with fail
  refine U.mono ?_
  rintro e w1 ⟨rfl,rfl⟩
  go_wp2_with fail
  refine UF.mono ?_
  rintro e w1 ⟨rfl,b1⟩
  have hzb:=b1.size
  have hP:=H.out.below b1
  have hl1:=hP.lt
  have b2:=b1.alloc hzb (.cells #[.string (B K),.string (B Z)] 155)
  have FU2:=FU.out _ b2
  go_wp2_with fail
  refine FU2.mono ?_
  rintro e w2 ⟨rfl,rfl⟩
  have P2:=jl9 (H.out.below b2)
  have g0:(w1.alloc (.cells #[.string (B K),.string (B Z)] 155)).cell? ⟨w1.heap.size,0,none⟩=some (.string (B K)):=(ja.new _ _ _).cell 0
  have g1:(w1.alloc (.cells #[.string (B K),.string (B Z)] 155)).cell? ⟨w1.heap.size,1,none⟩=some (.string (B Z)):=(ja.new _ _ _).cell 1
  have hz2':w1.heap.size<(w1.alloc (.cells #[.string (B K),.string (B Z)] 155)).heap.size:=by simp
  have B2:=jl9 b2
  have hlt2:w.heap.size<=(w1.alloc (.cells #[.string (B K),.string (B Z)] 155)).heap.size:=b2.size
  clear FU FU2 UF U hP b1 b2
  generalize w1.alloc (.cells #[.string (B K),.string (B Z)] 155)=w2 at *
  generalize w1.heap.size=bx at *
  have hl2:=P2.out.lt
  have q6:w2.cell? ⟨b,6,none⟩=some (.slice a6 p.fields.length c6):=by rw[<- e6];exact P2.out.cells.cell 6
  have HC:=jl9 P2.out.cells
  have HO:=jl9 P2.out.r6
  have HE:=jl9 (Je (w:=w2) P2.out.tp P2.out.t6 (by decide))
  rw[e6]at HO HE
  have HF:=jl9 (fun w' v6' hc hr hk ho=>jB.field (p':={p with fields:=p.fields++[(K,Z)],said:=[]}) P2.out (jmy hR hlt2) (w':=w') v6' hc hr hk ho rfl rfl)
  go_wp2
  go_cut [] (fun wx=>∃g' cap',ja wx b 168 (vT p text V.v1 V.v3 (.slice (some ⟨g',0,none⟩) (p.fields.length+1) cap')) /\
   wx.ownsRow 0 155 2 (.slice (some ⟨g',0,none⟩) (p.fields.length+1) cap') (p.fields.length+1) (jG p.fields++[.string (B K),.string (B Z)]) /\
   qX w2.heap.size wx.heap.size V.v6.ownBlock (Value.slice (some ⟨g',0,none⟩) (p.fields.length+1) cap').ownBlock/\g'≠b/\jt (fun r=>r=b\/some r=V.v6.ownBlock) w2 wx)
  case first =>
   go_region_law ((refine jK rfl (.tmp 41) (.tmp 43) 61 rfl 155 i0 _ 2 32 underlying61 hi hz0 hz1 hz2 rfl (by decide) (.slice a6 p.fields.length c6) p.fields.length (jG p.fields) (by simp[Act.eval]) (by exact(HO.out.alloc _).drew) ⟨w2.heap.size,0,none⟩ 1 1 [.string (B K),.string (B Z)] (by simp[Act.eval]) rfl (jN w2 155 [.string (B K),.string (B Z)]) (by intro u hu;simp at hu;rcases hu with rfl | rfl<;>rfl) (by unfold maxLen;omega) (by omega) ?_);intro v' w' ho hgr hbk;obtain⟨⟨g',cap',rfl⟩,hg',hbx,hk,hon⟩:=qj HC.out HO.out HE.out (((jmc _ w2).alloc (jma _) _).drew) ho hgr hbk;have k6':w'.cell? ⟨b,6,none⟩=some V.v6:=hg'.cell 6;have kf6':=hg'.frozen 6)
   all_goals
    go_wp2
    go_meet
    have hvg:g'≠b:=by
     intro e
     rcases hk with h|⟨k,h,h2,_⟩
     ·exact HE.out (h.symm.trans (by rw[e];rfl))
     have hh:g'=k:=jmf (show some g'=some k from h)
     omega
    rw[<- e6]at hk hon
    refine⟨g',cap',?_,jF (p:=⟨b,6,none⟩) ho (fun e=>hvg (by cases e;rfl)) _,?_,hvg,(hon.mono (fun r _ h=>.inr h)).setCell (p:=⟨b,6,none⟩) (.inl (.inl rfl)) _⟩
    ·simpa [vT]using hg'.set 6 (.slice (some ⟨g',0,none⟩) (p.fields.length+1) cap')
    unfold qX;simpa [World.setCell]using hk
  case rest =>
  obtain⟨g',cap',hc,hr,hk,hvg,ho⟩:=hcut
  have k1:wc.cell? ⟨b,1,none⟩=some V.v1:=hc.cell 1
  have kf1:=hc.frozen 1
  rw[e1]at k1
  go_wp2
  go_ret
  refine Exists.elim (HF.out _ (.slice (some ⟨g',0,none⟩) (p.fields.length+1) cap') ?k1 ?k2 ?k3 ?k4) fun T' g=>FIN.out T' _ ⟨_,g.1⟩ ((zE.below B2.out).trans g.2)
  case k1=>simpa [vT]using hc.set 1 (.slice none 0 0)
  case k2 =>
   rw[jad,jmb]
   exact jF (p:=⟨b,1,none⟩) hr (fun e=>hvg (by cases e;rfl)) _
  case k3=>unfold qX at hk ⊢;simpa [World.setCell]using hk
  case k4=>exact ho.setCell (p:=⟨b,1,none⟩) (.inl (.inl rfl)) _
 rw[if_pos hu]at hn0
 have hup:0<jZ p.said:=jnu hu
 have FIN:=jl9 (fun v w' h1 h2=>qk.no (w:=w) (T:=T) (R:=R) (b:=b) (text:=text) (p:=p) (v:=v) (w':=w') (by rw[hn0];exact hu) h1 h2)
 rw[hn0]at FIN
 have hev:=jX _ hup
 have HEV:=jl9 hev
 rw[hev]at UF
 generalize jZ p.said=n at *
 generalize zZ p.said=K at *
 generalize zY p.said=Z at *
 unfold vf at UF
 clear h hsum heach hsv hev
 go_enter func102,ntmps102
 go_wp2_with fail
 refine U.mono ?_
 rintro e w1 ⟨rfl,rfl⟩
 go_wp2_with fail
 refine UF.mono ?_
 rintro e w1 ⟨rfl,b1⟩
 have hzb:=b1.size
 have hP:=H.out.below b1
 have r0:w1.cell? ⟨b,0,none⟩=some (.int .i64 p.begin_):=hP.cells.cell 0
 have hl1:=hP.lt
 have b2:=b1.alloc hzb (.cells #[.string (B K),.string (B Z)] 155)
 have r1:(w1.alloc (.cells #[.string (B K),.string (B Z)] 155)).cell? ⟨b,0,none⟩=some (.int .i64 p.begin_):=by
  rw[jn0 _ _ _ (jou hl1)];exact r0
 go_wp2
 go_ret
 rw[<- HEV.out]
 exact FIN.out _ _ (jn.new _ _ n _ (w1.heap.size+1) (by simp) (by omega)) (b2.alloc (by simp;omega) _)
end
section
attribute [local go_sem] jW WV
def xQ(w:World)(T:Nat->Nat)(R b:Nat)(text:ByteArray)(p:PS)(x:Ln)(e:Ending)(w':World):Prop :=
 match zJ text.data.toList p x with
 | .error (a,n)=>∃v,e=.returned v/\jn w.heap.size w' v a n/\jt (fun r=>T r≠0) w w'
 | .ok q=>e=.returned .nilIface/\∃T',jC w' T' R b text q/\zE w T w' T'
theorem xQ.no{w:World}{T:Nat->Nat}{R b:Nat}{text:ByteArray}{p:PS}{x:Ln}{v:Value}{w':World}{a n:Nat}(h:zJ text.data.toList p x=.error (a,n))(h1:jn w.heap.size w' v a n)(h2:jt (fun r=>T r≠0) w w'):xQ w T R b text p x (.returned v) w':=by
 unfold xQ;rw[h];exact⟨v,rfl,h1,h2⟩
theorem xQ.yes{w:World}{T T':Nat->Nat}{R b:Nat}{text:ByteArray}{p q:PS}{x:Ln}{w':World}(h:zJ text.data.toList p x=.ok q)(h1:jC w' T' R b text q)(h2:zE w T w' T'):xQ w T R b text p x (.returned .nilIface) w':=by
 unfold xQ;rw[h];exact⟨rfl,T',h1,h2⟩
theorem jhD{w:World}{T:Nat->Nat}{R b:Nat}{text:ByteArray}{p:PS}(h:jC w T R b text p):T w.heap.size=0:=by
 obtain⟨V,h⟩:=h
 rcases Nat.decEq (T w.heap.size) 0 with e|e
 ·have:=(h.low _ e).2;omega
 exact e
theorem jC.lt{w:World}{T:Nat->Nat}{R b:Nat}{text:ByteArray}{p:PS}(h:jC w T R b text p):b<w.heap.size:=by obtain⟨V,h⟩:=h;exact h.lt
theorem Zb{w w1:World}{T T1:Nat->Nat}{R b:Nat}{text:ByteArray}{p q:PS}(h:jC w1 T1 R b text q)(hs:zE w T w1 T1)(hR:R<=w.heap.size)(hsum:(q.said.map List.length).sum+q.said.length<=90000)(hf:q.fields.length<=1000000):
  Calls prog 102 #[.pointer (some ⟨b,0,none⟩)] w1 fun e w' =>
   if ji q=0 then e=.returned .nilIface/\∃T',jC w' T' R b text (jb q)/\zE w T w' T'/\zE w1 T1 w' T'
   else ∃v,e=.returned v/\jn w.heap.size w' v q.begin_ (ji q)/\jt (fun r=>T r≠0) w w'/\v ≠ .nilIface/\∃a,v=.iface 133 (.pointer a):=by
 have hz:=hs.only.size
 refine(Qc h (jmy hR hz) hsum hf).mono fun e w' g => ?_
 unfold qk at g
 split
 ·rename_i h0
  rw[if_pos h0]at g
  obtain⟨g1,T',g2,g3⟩:=g
  exact⟨g1,T',g2,hs.trans g3,g3⟩
 rename_i h0
 rw[if_neg h0]at g
 obtain⟨v,g1,g2,g3⟩:=g
 refine⟨v,g1,g2.mono hz,hs.only.below g3 hz,?_,?_⟩
 ·obtain⟨q,_,e,_⟩:=g2;rw[e];intro h;cases h
 obtain⟨q,_,e,_⟩:=g2;exact⟨_,e⟩
theorem jhZ{w:World}{T:Nat->Nat}{R b:Nat}{text:ByteArray}{p:PS}(h:jC w T R b text p)(hR:R<=w.heap.size)(x:Ln)(hi:Inv p x.at_)(hx:x.at_+x.text.length+1<=70000)(hno:x.no<=x.at_)(hg:xO p x=true):
  Calls prog 101 #[.pointer (some ⟨b,0,none⟩),.agg #[.int .i64 x.no,.int .i64 x.at_,.string (B x.text),.bool x.ended]] w fun e w'=>xQ w T R b text p x e w':=by
 have hk:jJ x.text=3:=by unfold xO at hg;simp at hg;exact hg.1
 have hu:(!p.said.isEmpty)=true:=by unfold xO at hg;simp at hg;simp[hg.2]
 have K:∀w,Calls prog 141 #[.string (B x.text)] w fun e w'=>e=.returned (.int .i64 3)/\Below w.heap.size w w':=fun w=>by
  have:=JQ (B x.text) (by rw[jq];unfold maxLen;omega) w
  rw[ju,hk]at this
  exact this
 have hb0:=zE.below (T:=T) ((jmc w.heap.size w).alloc (jma _) (.cells #[.int .i64 x.no,.int .i64 x.at_,.string (B x.text),.bool x.ended] 164))
 have c0:=ja.new w 164 #[.int .i64 x.no,.int .i64 x.at_,.string (B x.text),.bool x.ended]
 have l0:=jhD h
 have hw:qv p x=xP p x:=by unfold qv;rw[if_pos hg];rfl
 have hwr:vH p x = !x.ended:=by unfold vH;rw[hk,hg];simp
 have hen:yW p x = !x.ended:=by unfold yW;rw[hwr,hg];simp
 have hb:=hi.said
 have hsum:((xP p x).said.map List.length).sum+(xP p x).said.length<=90000:=by simp[xP];omega
 have hff:(xP p x).fields.length<=1000000:=by have:=hi.fields;show p.fields.length<=_;omega
 have hn:p.said.length<=1000000:=by omega
 have GO:=jl9 (fun w1 (T1:Nat->Nat) V1 (g:jB w1 T1 R b text p V1) hR1=>jgK g hR1 x hn)
 have EF:=jl9 (fun w1 T1 (g:jC w1 T1 R b text (xP p x)) (s:zE w T w1 T1)=>Zb (p:=p) g s hR hsum hff)
 have H:=jl9 h
 have C0:=jl9 c0
 have HB0:=jl9 hb0
 cases hend:x.ended with
 | true =>
  rw[hend]at hwr hen
  simp only[Bool.not_true]at hwr hen
  have FIN:=jl9 (fun T' w' h1 h2=>xQ.yes (w:=w) (T:=T) (T':=T') (R:=R) (b:=b) (text:=text) (p:=p) (q:=xP p x) (x:=x) (w':=w') (by unfold zJ;rw[hen,hwr];simp[vj,hen,Qk,hk,hw]) h1 h2)
  rw[hend]at GO C0 HB0
  clear h c0 hb0 hi EF hsum hff hb
  go_enter func101,ntmps101
  go_wp2_with fail
  refine(K _).mono ?_
  rintro e w1 ⟨rfl,b1⟩
  have s1:=HB0.out.trans (zE.below b1)
  have P1:jC w1 T R b text p:=(H.out.below ((jmc _ _).alloc (jma _) _)).below b1
  obtain⟨V1,P1⟩:=P1
  have C1:=jd C0.out b1 (by simp)
  have hz1:=s1.only.size
  have hz1':R<=w1.drew.heap.size:=jmy hR hz1
  clear b1 H C0 HB0
  go_wp2_with fail
  refine(yh P1).mono ?_
  rw[hu]
  rintro e w2 ⟨rfl,rfl⟩
  have d0:w1.cell? ⟨w.heap.size,0,none⟩=some (.int .i64 x.no):=C1.cell 0
  have d1:w1.cell? ⟨w.heap.size,1,none⟩=some (.int .i64 x.at_):=C1.cell 1
  have d2:w1.cell? ⟨w.heap.size,2,none⟩=some (.string (B x.text)):=C1.cell 2
  have d3:w1.cell? ⟨w.heap.size,3,none⟩=some (.bool true):=C1.cell 3
  have P1d:Hid (jB w1.drew T R b text p V1):=P1.same (fun _ _=>rfl) (jma _)
  have C1d:Hid (ja w1.drew w.heap.size 164 _):=C1
  have S1:Hid (zE w T w1.drew T):=s1.drewN 1
  clear P1 C1 s1
  go_wp2
  go_region_with (go_at_call 143;refine(GO.out _ T V1 P1d.out hz1').mono ?_;rintro e w2 ⟨rfl,T2,g2,s2⟩;have C2:=C1d.out.only s2.only (fun e=>e l0);have d3:w2.cell? ⟨w.heap.size,3,none⟩=some (.bool true):=C2.cell 3)
  all_goals
   go_wp2
   go_ret
   exact FIN.out T2 _ g2 (S1.out.trans s2)
 | false =>
 rw[hend]at hwr hen
 simp only[Bool.not_false]at hwr hen
 rw[hend]at GO C0 HB0
 by_cases h0:ji (xP p x)=0
 ·have FIN:=jl9 (fun v w' h1 h2=>xQ.no (w:=w) (T:=T) (R:=R) (b:=b) (text:=text) (p:=p) (x:=x) (v:=v) (w':=w') (a:=x.no) (n:=2) (by unfold zJ;rw[hen,hwr,hw,h0];simp) h1 h2)
  clear h c0 hb0 hi hsum hff hb
  go_enter func101,ntmps101
  go_wp2_with fail
  refine(K _).mono ?_
  rintro e w1 ⟨rfl,b1⟩
  have s1:=HB0.out.trans (zE.below b1)
  have P1:jC w1 T R b text p:=(H.out.below ((jmc _ _).alloc (jma _) _)).below b1
  obtain⟨V1,P1⟩:=P1
  have C1:=jd C0.out b1 (by simp)
  have hz1:=s1.only.size
  have hz1':R<=w1.drew.heap.size:=jmy hR hz1
  clear b1 H C0 HB0
  go_wp2_with fail
  refine(yh P1).mono ?_
  rw[hu]
  rintro e w2 ⟨rfl,rfl⟩
  have d0:w1.cell? ⟨w.heap.size,0,none⟩=some (.int .i64 x.no):=C1.cell 0
  have d1:w1.cell? ⟨w.heap.size,1,none⟩=some (.int .i64 x.at_):=C1.cell 1
  have d2:w1.cell? ⟨w.heap.size,2,none⟩=some (.string (B x.text)):=C1.cell 2
  have d3:w1.cell? ⟨w.heap.size,3,none⟩=some (.bool false):=C1.cell 3
  have lz:=C1.lt
  have P1d:Hid (jB w1.drew T R b text p V1):=P1.same (fun _ _=>rfl) (jma _)
  have C1d:Hid (ja w1.drew w.heap.size 164 _):=C1
  have S1:Hid (zE w T w1.drew T):=s1.drewN 1
  clear P1 C1 s1
  go_wp2
  go_region_with (go_at_call 143;refine(GO.out _ T V1 P1d.out hz1').mono ?_;rintro e w2 ⟨rfl,T2,g2,s2⟩;have C2:=C1d.out.only s2.only (fun e=>e l0);have d3:w2.cell? ⟨w.heap.size,3,none⟩=some (.bool false):=C2.cell 3)
  all_goals
   go_wp2_with fail
   refine(EF.out _ T2 g2 (S1.out.trans s2)).mono ?_
   rintro e w3 hE
   rw[if_pos h0]at hE
   obtain⟨rfl,T3,g3,s3,s23⟩:=hE
   have C3:=C2.only s23.only (fun e=>e ((s2.old _ lz).2 l0))
   have d0':w3.cell? ⟨w.heap.size,0,none⟩=some (.int .i64 x.no):=C3.cell 0
   have lz3:=C3.lt
   go_wp2
   go_ret
   exact FIN.out _ _ (jn.new _ _ 2 _ w3.heap.size rfl (by omega)) (s3.only.alloc _)
 have FIN:=jl9 (fun v w' h1 h2=>xQ.no (w:=w) (T:=T) (R:=R) (b:=b) (text:=text) (p:=p) (x:=x) (v:=v) (w':=w') (a:=(xP p x).begin_) (n:=ji (xP p x)) (by unfold zJ;rw[hen,hw,if_pos ⟨rfl,h0⟩]) h1 h2)
 clear h c0 hb0 hi hsum hff hb
 go_enter func101,ntmps101
 go_wp2_with fail
 refine(K _).mono ?_
 rintro e w1 ⟨rfl,b1⟩
 have s1:=HB0.out.trans (zE.below b1)
 have P1:jC w1 T R b text p:=(H.out.below ((jmc _ _).alloc (jma _) _)).below b1
 obtain⟨V1,P1⟩:=P1
 have C1:=jd C0.out b1 (by simp)
 have hz1:=s1.only.size
 have hz1':R<=w1.drew.heap.size:=jmy hR hz1
 clear b1 H C0 HB0
 go_wp2_with fail
 refine(yh P1).mono ?_
 rw[hu]
 rintro e w2 ⟨rfl,rfl⟩
 have d0:w1.cell? ⟨w.heap.size,0,none⟩=some (.int .i64 x.no):=C1.cell 0
 have d1:w1.cell? ⟨w.heap.size,1,none⟩=some (.int .i64 x.at_):=C1.cell 1
 have d2:w1.cell? ⟨w.heap.size,2,none⟩=some (.string (B x.text)):=C1.cell 2
 have d3:w1.cell? ⟨w.heap.size,3,none⟩=some (.bool false):=C1.cell 3
 have P1d:Hid (jB w1.drew T R b text p V1):=P1.same (fun _ _=>rfl) (jma _)
 have C1d:Hid (ja w1.drew w.heap.size 164 _):=C1
 have S1:Hid (zE w T w1.drew T):=s1.drewN 1
 clear P1 C1 s1
 go_wp2
 go_region_with (go_at_call 143;refine(GO.out _ T V1 P1d.out hz1').mono ?_;rintro e w2 ⟨rfl,T2,g2,s2⟩;have C2:=C1d.out.only s2.only (fun e=>e l0);have d3:w2.cell? ⟨w.heap.size,3,none⟩=some (.bool false):=C2.cell 3)
 all_goals
  go_wp2_with fail
  refine(EF.out _ T2 g2 (S1.out.trans s2)).mono ?_
  rintro e w3 hE
  rw[if_neg h0]at hE
  obtain⟨v,rfl,f3,o3,_,a3,rfl⟩:=hE
  go_wp2
  go_ret
  exact FIN.out _ _ f3 o3
theorem jei(l:List UInt8):jJ l=1\/jJ l=2\/jJ l=3\/jJ l=4\/jJ l=5:=by
 unfold jJ
 split;· simp
 split;· simp
 split;· simp
 split;· simp
 split<;>simp
theorem jfL{w:World}{T:Nat->Nat}{R b:Nat}{text:ByteArray}{p:PS}(h:jC w T R b text p)(hR:R<=w.heap.size)(x:Ln)(hi:Inv p x.at_)(hx:x.at_+x.bytes.length<=text.size)(ht:text.size<=70000)(hno:x.no<=x.at_)(hg:xO p x=false):
  Calls prog 101 #[.pointer (some ⟨b,0,none⟩),.agg #[.int .i64 x.no,.int .i64 x.at_,.string (B x.text),.bool x.ended]] w fun e w'=>xQ w T R b text p x e w':=by
 have hbl:x.text.length<=x.bytes.length:=by unfold Ln.bytes;simp
 have K:∀w,Calls prog 141 #[.string (B x.text)] w fun e w'=>e=.returned (.int .i64 (jJ x.text:Nat))/\Below w.heap.size w w':=fun w=>by
  have:=JQ (B x.text) (by rw[jq];unfold maxLen;omega) w
  rw[ju]at this
  exact this
 have hu:jJ x.text=3->(!p.said.isEmpty)=false:=by
  intro h3;unfold xO at hg;rw[h3]at hg;simpa using hg
 have hl:=h.lt
 have l0:=jhD h
 have H:=jl9 h
 have C0:=jl9 (ja.new w 164 #[.int .i64 x.no,.int .i64 x.at_,.string (B x.text),.bool x.ended])
 have HB0:=jl9 (zE.below (T:=T) ((jmc w.heap.size w).alloc (jma _) (.cells #[.int .i64 x.no,.int .i64 x.at_,.string (B x.text),.bool x.ended] 164)))
 have hw:qv p x=p:=by unfold qv;rw[hg];rfl
 have hen:yW p x=true:=by unfold yW;rw[hg];simp
 have hth:vj p x=jb p:=by unfold vj;rw[hen,if_pos rfl,hw]
 have hb:=hi.said
 have hff:p.fields.length<=1000000:=by have:=hi.fields;omega
 have EF:=jl9 (fun w1 T1 (g:jC w1 T1 R b text p) (s:zE w T w1 T1)=>Zb (p:=p) g s hR (by omega) hff)
 have HII:=jl9 hi
 have HX:=jl9 hx
 clear h hi hb hff hx
 rcases jei x.text with hk|hk|hk|hk|hk
 all_goals cases hend:x.ended
 all_goals
  rw[hk]at K
  rw[hend]at C0 HB0
  go_enter func101,ntmps101
  go_wp2_with fail
  refine(K _).mono ?_
  rintro e w1 ⟨rfl,b1⟩
  have s1:=HB0.out.trans (zE.below b1)
  have P1:jC w1 T R b text p:=(H.out.below ((jmc _ _).alloc (jma _) _)).below b1
  have l1:=P1.lt
  have C1:=jd C0.out b1 (by simp)
  have hz1:=s1.only.size
  have d0:w1.cell? ⟨w.heap.size,0,none⟩=some (.int .i64 x.no):=C1.cell 0
  have d1:w1.cell? ⟨w.heap.size,1,none⟩=some (.int .i64 x.at_):=C1.cell 1
  have d2:w1.cell? ⟨w.heap.size,2,none⟩=some (.string (B x.text)):=C1.cell 2
  have d3:w1.cell? ⟨w.heap.size,3,none⟩=_:=C1.cell 3
  simp only[jmh,jmm,jmg]at d3
  have lz:=C1.lt
  clear b1 H C0 HB0
  go_wp2_with fail
  try (have h3:jJ x.text=3:=hk;obtain⟨V1,PV1⟩:=P1;refine(yh PV1).mono ?_;rw[hu hk];rintro e w2 ⟨rfl,rfl⟩;replace P1:jC w1 T R b text p:=⟨V1,PV1⟩;clear PV1;go_wp2_with fail)
  refine(EF.out _ T P1 s1).mono ?_
  rintro e w3 hE
  by_cases h0:ji p=0
  rotate_left
  ·have FIN:=jl9 (fun v w' h1 h2=>xQ.no (w:=w) (T:=T) (R:=R) (b:=b) (text:=text) (p:=p) (x:=x) (v:=v) (w':=w') (a:=p.begin_) (n:=ji p) (by unfold zJ;rw[hen,hw,if_pos ⟨rfl,h0⟩]) h1 h2)
   rw[if_neg h0]at hE
   obtain⟨v,rfl,f3,o3,_,a3,rfl⟩:=hE
   go_wp2
   go_ret
   exact FIN.out _ _ f3 o3
 all_goals
  rw[if_pos h0]at hE
  obtain⟨rfl,T3,g3,s3,s13⟩:=hE
  have C3:=C1.only s13.only (fun e=>e (l0))
  have d0':w3.cell? ⟨w.heap.size,0,none⟩=some (.int .i64 x.no):=C3.cell 0
  have d1':w3.cell? ⟨w.heap.size,1,none⟩=some (.int .i64 x.at_):=C3.cell 1
  have d2':w3.cell? ⟨w.heap.size,2,none⟩=some (.string (B x.text)):=C3.cell 2
  have d3':w3.cell? ⟨w.heap.size,3,none⟩=_:=C3.cell 3
  simp only[jmh,jmm,jmg]at d3'
  have lz3:=C3.lt
  have l3:=g3.lt
 all_goals try (have hwr:vH p x=true:=(by unfold vH;rw[hk,hg,hend]<;>rfl);have FIN:=jl9 (fun v w' h1 h2=>xQ.no (w:=w) (T:=T) (R:=R) (b:=b) (text:=text) (p:=p) (x:=x) (v:=v) (w':=w') (a:=x.no) (n:=2) (by unfold zJ;rw[hen,hwr,hw,h0];simp) h1 h2);go_wp2;go_ret;exact FIN.out _ _ (jn.new _ _ 2 _ w3.heap.size rfl (by omega)) (s3.only.alloc _))
 all_goals
  have hwr:vH p x=false:=by unfold vH;rw[hk,hg,hend]<;>rfl
  have FIN:=jl9 (fun T' w' h1 h2=>xQ.yes (w:=w) (T:=T) (T':=T') (R:=R) (b:=b) (text:=text) (p:=p) (q:=Qk text.data.toList (jb p) x) (x:=x) (w':=w') (by unfold zJ;rw[hen,hwr,hw,h0,hth];simp) h1 h2)
  have hbe:x.bytes.length=x.text.length+1:=by unfold Ln.bytes;rw[hend];simp
 ·have h1:jJ x.text=1:=hk
  have eP:Qk text.data.toList (jb p) x=zi text.data.toList (js text.data.toList (jb p) x.at_) 1 (x.at_+x.text.length+1):=by unfold Qk;rw[hk];rfl
  rw[eP]at FIN
  have hx:=HX.out
  have hi2:=HII.out.endField
  have hi3:=hi2.endBlock text.data.toList x.at_ hi2.at_ (jma _)
  have a3:=yK text.data.toList (jb p) x.at_ hi2.at_
  have n1:IntKind.i64.wrap ((x.at_:Int)+(x.text.length:Int))=(x.at_:Int)+(x.text.length:Int):=jmU _ (by omega)
  have n2:IntKind.i64.wrap ((x.at_:Int)+(x.text.length:Int)+1)=(x.at_:Int)+(x.text.length:Int)+1:=jmU _ (by omega)
  have zB:=jq x.text
  have HB:=jl9 (fun w3 T3 (g:jC w3 T3 R b text (jb p)) hR3=>Qd g hR3 x.at_ hi2.at_ (by omega) (by omega) (by have:=hi2.items;have:=hi2.at_;omega) (by have:=hi2.stanzas;have:=hi2.at_;omega))
  have HI:=jl9 (fun w3 T3 V3 (g:jB w3 T3 R b text (js text.data.toList (jb p) x.at_) V3) hR3=>Jn g hR3 1 (x.at_+x.text.length+1) (by omega) (by omega) (by omega) (by have:=hi3.items;omega))
  clear hi3 hi2 a3
  have hz3:R<=w3.heap.size:=jmy hR s3.only.size
  go_wp2_with fail
  refine(HB.out _ T3 g3 hz3).mono ?_
  rintro e w4 ⟨rfl,T4,g4,s4⟩
  have C4:=C3.only s4.only (fun e=>e ((s13.old _ lz).2 l0))
  have e1':w4.cell? ⟨w.heap.size,1,none⟩=some (.int .i64 x.at_):=C4.cell 1
  have e2':w4.cell? ⟨w.heap.size,2,none⟩=some (.string (B x.text)):=C4.cell 2
  have lz4:=C4.lt
  have hz4:R<=w4.heap.size:=jmy hz3 s4.only.size
  have l4:=g4.lt
  obtain⟨V4,g4⟩:=g4
  go_wp2_with fail
  rw[show Value.int .i64 ((x.at_:Int)+(x.text.length:Int)+1)=Value.int .i64 ((x.at_+x.text.length+1:Nat):Int) from rfl]
  refine(HI.out _ T4 V4 g4 hz4).mono ?_
  rintro e w5 ⟨rfl,T5,g5,s5⟩
  go_wp2
  go_ret
  exact FIN.out T5 _ g5 ((s3.trans s4).trans s5)
 ·have h2:jJ x.text=2:=hk
  have eP:Qk text.data.toList (jb p) x=jb p:=by unfold Qk;rw[hk];rfl
  rw[eP]at FIN
  go_wp2
  go_ret
  exact FIN.out _ _ g3 s3
 have eP:Qk text.data.toList (jb p) x=KZ (jb p) x:=by unfold Qk KZ;rw[hk,if_pos rfl]
 rw[eP]at FIN
 have HS:=jl9 (fun w3 T3 V3 (g:jB w3 T3 R b text (jb p) V3) hR3=>jds g hR3 x)
 rw[hend]at HS
 obtain⟨V3,g3⟩:=g3
 have P3d:Hid (jB w3.drew T3 R b text (jb p) V3):=g3.same (fun _ _=>rfl) (jma _)
 have S3:Hid (zE w T w3.drew T3):=s3.drewN 1
 have hz3:R<=w3.drew.heap.size:=jmy hR s3.only.size
 clear g3 s3 s13
 go_wp2
 go_region_with (go_at_call 144;refine(HS.out _ T3 V3 P3d.out hz3).mono ?_;rintro e w4 ⟨rfl,T4,g4,s4⟩)
 all_goals
  go_wp2
  go_ret
  exact FIN.out T4 _ g4 (S3.out.trans s4)
end
section
attribute [local go_sem] jmk
theorem jjI{W W':World}{b n:Nat}{t:TypeId}{v:Value}(h:Boxed W b t v)(hb:Below n W W')(hn:b<n):Boxed W' b t v:=(hb.block b hn).trans h
theorem ze{W:World}{base base':Nat}{e:TypeId}{size:Nat}{v:Value}{n:Nat}{xs:List Value}(h:W.ownsRow base e size v n xs)(hb:base'<=base):W.ownsRow base' e size v n xs:=by
 refine⟨h.1,?_⟩
 rcases h.2 with hn|⟨g,cap,cur,hv,hg,rest⟩
 ·exact .inl hn
 exact .inr ⟨g,cap,cur,hv,jmy hb hg,rest⟩
theorem ZD(w:World)(o1 o2:Obj)(t:TypeId)(v:Value):Boxed (((w.alloc o1).alloc o2).alloc (.cells #[v] t)) (w.heap.size+2) t v:=by
 have:=xC (w.alloc o1) o2 t v
 rwa [jmw]at this
theorem jfb(w:World)(o1 o2 o3:Obj)(t:TypeId)(v:Value):Boxed ((((w.alloc o1).alloc o2).alloc o3).alloc (.cells #[v] t)) (w.heap.size+3) t v:=by
 have:=ZD (w.alloc o1) o2 o3 t v
 rwa [jmw]at this
theorem vC{P:Program}{α:Type}{g:Operand}{ps:Array Tmp}{assign body:Code}{Q:Exit->Act->World->Prop}{a:Act}{w:World}
  {gf:Nat} {lb:Array Value} (hg:a.eval g=.func (.func gf) #[] lb) (eg:∀args w,(callFunc gf args).run P w=.ok (.enter gf args) w)
  {encs:α->Array Value} {k:Nat} {xs:List α} (hseq:jjj P gf lb encs k xs w) (hps:∀x,(encs x).size=ps.size)
  (I:List α->World->Prop) (Ix:Code->List α->World->Prop) (hI:zD w.heap.size (k+2) I) (hIx:∀c,zD w.heap.size 2 (Ix c)) (h0:I [] w)
  (M:Act->List α->α->Act->World->Prop) (hM:∀a pre x a',zD w.heap.size 2 (fun(_:Unit) W=>M a pre x a' W))
  (hassign:∀(l:Nat) (pre:List α) (x:α) (post:List α) (W:World),xs=pre++x::post->w.heap.size+(k+2)<=W.heap.size->I pre W ->
   assign.wpIn (Fence.wide.inRound l) 7 P (QK w.heap.size (k+2) (M a pre x) W) {tmps:=(ps.zip (encs x)).foldl (fun t (p,v)=>t.setIfInBounds p v) a.tmps,defers:=[]} W)
  (hbody:∀(l:Nat) (pre:List α) (x:α) (post:List α) (a':Act) (W:World),xs=pre++x::post->w.heap.size+(k+2)<=W.heap.size->M a pre x a' W ->
   body.wpIn (Fence.wide.inRound l) 7 P (left w.heap.size (k+2) I Ix (pre++[x]) W) a' W)
  (hdone:∀(W:World),I xs W->W.heap[w.heap.size]?=some (.deferred (some []))->Q .normal {a with defers:={target:=.collected w.heap.size,args:=#[]}::a.defers} W)
  (hstop:∀(c:Code) (pre:List α) (W:World),pre <+: xs->Ix c pre W->W.heap[w.heap.size]?=some (.deferred (some []))->c.wpIn Fence.wide 9 P Q {a with defers:={target:=.collected w.heap.size,args:=#[]}::a.defers} W) :
  (Code.rangeFunc g ps assign body).wpIn Fence.wide 9 P Q a w :=
 jdg hg eg hseq hps I Ix hI hIx h0 (M a) (hM a) hassign hbody hdone hstop
theorem xI{W:World}{b c:Nat}{t:TypeId}{v:Value}(h:Boxed W b t v)(hne:b≠c)(u:Value):Boxed (W.setCell ⟨c,0,none⟩ u) b t v:=h.other hne u
end
section
attribute [local go_sem] jW WV
theorem take_any{w:World}{T:Nat->Nat}{R b:Nat}{text:ByteArray}{p:PS}(h:jC w T R b text p)(hR:R<=w.heap.size)(x:Ln)(hi:Inv p x.at_)(hx:x.at_+x.bytes.length<=text.size)(ht:text.size<=60000)(hno:x.no<=x.at_):
  Calls prog 101 #[.pointer (some ⟨b,0,none⟩),.agg #[.int .i64 x.no,.int .i64 x.at_,.string (B x.text),.bool x.ended]] w fun e w'=>xQ w T R b text p x e w':=by
 cases hg:xO p x with
 | true =>
  have hbl:x.text.length<=x.bytes.length:=by unfold Ln.bytes;simp
  exact jhZ h hR x hi (by omega) hno hg
 | false =>
 exact jfL h hR x hi hx (by omega) hno hg
def Out(w W:World)(v e:Value):Prop :=
 ja W w.heap.size 126 #[v]/\ja W (w.heap.size+1) 35 #[e]/\Below w.heap.size w W
def jhs(w:World)(text:ByteArray)(pre:List Ln)(W:World):Prop :=
 Out w W (.slice none 0 0) .nilIface/\∃T p,vK text.data.toList PS.new pre=.ok p/\Inv p (pre.flatMap Ln.bytes).length/\jC W T (w.heap.size+2) (w.heap.size+2) text p/\∀k,w.heap.size+3<=k->k<w.heap.size+9->T k=0
def jkZ(w:World)(text:ByteArray)(c:Code)(pre:List Ln)(W:World):Prop :=
 c=.ret/\∃a n v,vK text.data.toList PS.new pre=.error (a,n)/\Out w W (.slice none 0 0) v/\jn (w.heap.size+9) W v a n
theorem Out.turned{w W W':World}{v e:Value}{B k:Nat}(h:Out w W v e)(ht:jY B k W W')(hB:w.heap.size+2<=B):Out w W' v e :=
 ⟨(ht.same _ h.1.lt (.inl (by omega))).trans h.1,(ht.same _ h.2.1.lt (.inl (by omega))).trans h.2.1,h.2.2.trans (ht.below (by omega) h.2.2.size)⟩
theorem Out.alloc{w W:World}{v e:Value}(h:Out w W v e)(o:Obj):Out w (W.alloc o) v e:=⟨h.1.alloc o,h.2.1.alloc o,h.2.2.alloc h.2.2.size o⟩
theorem Out.only{w W W':World}{v e:Value}{S:Nat->Prop}(h:Out w W v e)(g:jt S W W')(hS:∀r,S r->w.heap.size+2<=r):Out w W' v e :=
 ⟨h.1.only g (fun s=>by have:=hS _ s;omega),h.2.1.only g (fun s=>by have:=hS _ s;omega),h.2.2.trans (g.to_below h.2.2.size (fun r hr s=>by have:=hS _ s;omega))⟩
theorem Out.set{w W:World}{v e:Value}(h:Out w W v e)(v' e':Value):Out w ((W.setCell ⟨w.heap.size,0,none⟩ v').setCell ⟨w.heap.size+1,0,none⟩ e') v' e':=by
 obtain⟨h1,h2,h3⟩:=h
 exact⟨ja.other (h1.set 0 v') (by simp) _,ja.set (ja.other h2 (by simp) v') 0 e',(h3.setCell (p:=⟨w.heap.size,0,none⟩) (jma _) _).setCell (p:=⟨w.heap.size+1,0,none⟩) (by show _<=w.heap.size+1;omega) _⟩
theorem jC.turned{w w':World}{T:Nat->Nat}{R b B k:Nat}{text:ByteArray}{p:PS}(h:jC w T R b text p)(ht:jY B k w w')(hz:∀r,B<=r->r<B+k->T r=0):jC w' T R b text p:=by
 obtain⟨V,h⟩:=h
 refine⟨V,h.same (fun r hr=>ht.same r (h.low r hr).2 ?_) ht.size⟩
 rcases jmF r B with q|q
 ·exact .inl q
 rcases jmF r (B+k) with q'|q'
 ·exact absurd (hz r q q') hr
 exact .inr q'
theorem jhs.turned{w W W':World}{text:ByteArray}{pre:List Ln}{B k:Nat}(h:jhs w text pre W)(ht:jY B k W W')(hB:w.heap.size+3<=B)(hk:B+k<=w.heap.size+9):jhs w text pre W':=by
 obtain⟨h1,T,p,h2,h3,h4,h5⟩:=h
 exact⟨h1.turned ht (by omega),T,p,h2,h3,h4.turned ht (fun r a b=>h5 r (by omega) (by omega)),h5⟩
theorem jhs.alloc{w W:World}{text:ByteArray}{pre:List Ln}(h:jhs w text pre W)(o:Obj):jhs w text pre (W.alloc o):=by
 obtain⟨h1,T,p,h2,h3,h4,h5⟩:=h
 exact⟨h1.alloc o,T,p,h2,h3,h4.below ((jmc _ _).alloc (jma _) o),h5⟩
theorem jkZ.turned{w W W':World}{text:ByteArray}{c:Code}{pre:List Ln}{B k:Nat}(h:jkZ w text c pre W)(ht:jY B k W W')(hB:w.heap.size+3<=B)(hk:B+k<=w.heap.size+9):jkZ w text c pre W':=by
 obtain⟨h0,a,n,v,h1,h2,q,h3,h4,h5⟩:=h
 exact⟨h0,a,n,v,h1,h2.turned ht (by omega),q,h3,h4,(ht.same q h5.lt (.inr (by omega))).trans h5⟩
theorem jdA{text:List UInt8}{pre:List Ln}{p q:PS}{x:Ln}(h:vK text PS.new pre=.ok p)(ht:zJ text p x=.ok q):vK text PS.new (pre++[x])=.ok q:=by
 rw[qM,h];show(match zJ text p x with | .error e=>_ | .ok q=>vK text q [])=_;rw[ht];rfl
theorem We{text:List UInt8}{pre:List Ln}{p:PS}{e:Nat×Nat}{x:Ln}(h:vK text PS.new pre=.ok p)(ht:zJ text p x=.error e):vK text PS.new (pre++[x])=.error e:=by
 rw[qM,h];show(match zJ text p x with | .error e=>_ | .ok q=>vK text q [])=_;rw[ht]
theorem jdz{text:List UInt8}{pre xs:List Ln}{e:Nat×Nat}(h:vK text PS.new pre=.error e)(hp:pre <+: xs):vK text PS.new xs=.error e:=by
 obtain⟨post,rfl⟩:=hp
 rw[qM,h]
end
end Go.Proofs.YtpibhbjmcmfnmaaGreatDoor
