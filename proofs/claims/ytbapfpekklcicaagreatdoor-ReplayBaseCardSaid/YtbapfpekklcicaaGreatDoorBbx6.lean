/- Texts put together:FI,FJ,PF,PG,PH,RH,PI. -/
import Derived.Test.YtbapfpekklcicaaGreatDoorBbx5
set_option linter.unusedVariables false
set_option maxRecDepth 100000
set_option maxHeartbeats 16000000
namespace Go.Proofs.YtbapfpekklcicaaGreatDoor
open Go.RowKit Go.Shelf Tryz
abbrev jnZ:=@List.getElem?_cons_zero
abbrev joW:=@Go.Joins.ownsRow_form
theorem yZ{d:Func}{p:Tmp}{c:TypeId}(h:d.results=#[.cell p c])(tmps:Array Value)(P:Program)(w:World):
  (results d tmps).run P w=((asAddr (tmps.getD p undef)).run P w).andThen fun a b=>(loadVar c a).run P b:=by
 simp only[results,h];simp[Sem.run_bind,Result.andThen]
theorem jl9{c:Func}{p:Tmp}(h:c.results=#[.cell p 148])(tmps:Array Value)(w:World)(b:Nat)(a:Array Value)(d:tmps.getD p undef=.pointer (some ⟨b,0,none⟩))
  (f:jd w b 148 a) (e:a.size=2):(results c tmps).run prog w=.ok (.agg a) w:=by
 have L:=run_loadVar_row (P:=prog) w b 148 148 a (0,0) _ f underlying148 rfl (by rw[e];kernel_rfl);rw[yZ h,d];show(loadVar _ _).run _ _=_
 exact L
theorem Vr{c:Func}{p u:Tmp}(h:c.results=#[.cell p 148,.tmp u])(tmps:Array Value)(w:World)(b:Nat)(a:Array Value)(d:tmps.getD p undef=.pointer (some ⟨b,0,none⟩))
  (f:jd w b 148 a) (e:a.size=2):(results c tmps).run prog w=.ok (.tuple #[.agg a,tmps.getD u undef]) w:=by
 have L:=run_loadVar_row (P:=prog) w b 148 148 a (0,0) _ f underlying148 rfl (by rw[e];kernel_rfl);rw[results_cell_tmp h,d];show((loadVar _ _).run _ _).andThen _=_
 rw[L];rfl
theorem jb{w w':World}{b N:Nat}{t:TypeId}{a:Array Value}(h:jd w b t a)(c:Below N w w')(d:b<N):jd w' b t a:=(c.block b d).trans h
theorem Vo(b c v0 a:Value):((#[b,c].setIfInBounds 0 v0).setIfInBounds 1 a)=#[v0,a]:=by simp[List.setIfInBounds_toArray,List.set]
theorem jh8(a:List UInt8)(r:List (List UInt8))(v:Value)(w:World)(hs:Strs w v ((a::r).map B))(ha:a.length<=100000)(hr:∀l∈r,l.length<=100000/\jm l=3)(hka:jm a=4)(hn:r.length<=100000)
    (hj:(qE (a::r)).length<=100000000) :
    Calls prog 188 #[v] w fun e w'=>e=.returned (zC (before a) (qE (a::r)))/\Below w.heap.size w w':=by
  obtain⟨A,cap,rfl,hle,hc⟩:=hs
  have hcb:=jjC hc
  obtain⟨b,off,rfl,hbb,hca⟩:=hcb 0 a rfl
  have PC:=jnS (fun(j:Nat) x (hx:r[j]?=some x)=>(show w.cell? ⟨b,off+(j+1),none⟩=some (.string (B x)) by
    obtain⟨b',off',e,_,h⟩:=hcb (j+1) x (by simpa using hx)
    cases e;exact h))
  clear hc hcb
  rw[joi,jn1]at hle ⊢
  have CP:=fun w=>jjs (B a) (by rw[jg];unfold maxLen;omega) (by rw[jj];exact hka) w
  rw[jma,jj6]at CP
  have TS:=fun w=>jkn (qU a) w
  have HS:Hid (Yz (a::r)=vo (qU a)::r.map (fun l=>zw l.tail)):=rfl
  have HJ:Hid (Lib.join (((vo (qU a)::r.map (fun l=>zw l.tail)).map B).map (·.data.toList)) [10]=qE (a::r)):=by
    show _=_
    unfold qE
    rw[<- jaR,HS.out,jp3]
    congr 1
    conv=>rhs;rw[<- List.map_id (vo (qU a)::r.map (fun l=>zw l.tail))]
    exact jqe fun l _=>jj l
  generalize vo (qU a)=p0 at *
  generalize qU a=ac at *
  obtain⟨i0,hi,hz0,hz1,hz2⟩:=info_parts Xf
  rw[jpv]at hca
  go_enter func188,ntmps188
  go_wp2_with fail
  refine(CP _).mono ?_
  rintro e w1 ⟨rfl,b1⟩
  go_wp2_with fail
  refine(TS _).mono ?_
  rintro e w2 ⟨rfl,rfl⟩
  have RB:jd w1 w.heap.size 148 #[.string ⟨#[]⟩,.string ⟨#[]⟩]:=jb (jd.new w _ _) b1 (by simp)
  have hb1:Below w.heap.size w w1:=((jnV _ _).alloc (jnT _) _).trans (b1.mono (by simp))
  have PC1:=jnS (fun(j:Nat) x (hx:r[j]?=some x)=>(hb1.cell (p:=⟨b,off+(j+1),none⟩) hbb).trans (PC.out j x hx))
  have hs1:=b1.size
  simp only[joe]at hs1
  have hb1lt:b<w1.heap.size:=by omega
  have BW:=jnS hb1
  clear b1 PC hca hb1 CP TS
  have hw1:=BW.out.size
  go_wp2_with fail
  all_goals
    go_loopw [6,23] (fun v6 i wr=>∃(k:Nat),k<=r.length/\i=.int .i64 k/\ym wr w1.heap.size v6 ((p0::(r.take k).map (fun l=>zw l.tail)).map B)/\Below w1.heap.size w1 wr) (fun _ i _=>r.length-(intOf i).toNat)
    case atStart=>exact⟨0,jn3 _,rfl,ym.one w1 _ (jnT _) _,(jnV _ _).alloc (jnT _) _⟩
    case round =>
    obtain⟨k,hkr,rfl,hown,hb⟩:=hrel
    by_cases hkl:k<r.length
    . first
      | (exfalso;omega)
      | (obtain⟨x,hx⟩:∃x,r[k]?=some x:=⟨_,jnW hkl⟩
         have hcx:=PC1.out k x hx
         have hcx2:=(hb.cell (p:=⟨b,off+(k+1),none⟩) hb1lt).trans hcx
         rw[show off+(k+1)=off+1+k by omega]at hcx2
         obtain⟨hxl,hx3⟩:=hr x (jn7 hx)
         obtain⟨c,d,t,rfl⟩:=jmm hx3
         have TK:Hid ((p0::(r.take (k+1)).map (fun l=>zw l.tail)).map B=(p0::(r.take k).map (fun l=>zw l.tail)).map B++[B (zw (d::t))]):=by
           show _=_
           rw[jor,hx];simp
         have TD:=fun w=>jhW (d::t) w
         have hll:((p0::(r.take k).map (fun l=>zw l.tail)).map B).length=k+1:=by simp;omega
         have HLL:=jnS hll
         have hsz:(B (c::d::t)).size=t.length+2:=by rw[jg];rfl
         have hex:=jcI c (d::t)
         rw[hsz]at hex
         clear hx hcx hx3
         generalize (p0::(r.take k).map (fun l=>zw l.tail)).map B=ls at *
         generalize zw (d::t)=y at *
         generalize B (c::d::t)=X at *
         generalize B (d::t)=Y at *
         go_wp2_with fail
         refine(TD _).mono ?_
         rintro e w4 ⟨rfl,rfl⟩
         have hs3:=hb.size
         have HC:=jnS (WK wr (B y) 9)
         have hown4:wr.ownsRow w1.heap.size 9 1 u6 ls.length (ls.map Value.string):=hown
         clear hown
         go_wp2_with (at_builtin;refine wpList_append_own _ rfl _ _ 158 rfl w1.heap.size 9 i0 _ 1 16 underlying158 hi hz0 hz1 hz2 rfl (by decide) _ _ _ rfl (hown4.alloc _) ⟨wr.heap.size,0,none⟩ 1 1 _ rfl rfl HC.out ?c2 ?c3 ?c4 ?c5 ?_)
         case c2=>intro u hu;simp at hu;subst hu;rfl
         case c3=>unfold maxLen;omega
         case c4=>omega
         case c5=>simp;omega
         intro v' w5 hown' hgrow _
         obtain⟨g',cap',rfl⟩:=ownsRow_succ hown'
         have hb5:Below w1.heap.size w1 w5:=(hb.alloc (by omega) _).grown hgrow (by simp;omega) (fun j ej=>(hown4.lt j ej).1)
         go_wp2_with fail
         go_roundw
         case rel =>
           refine⟨k+1,hkl,by go_num,?_,hb5⟩
           rw[TK.out]
           unfold ym
           rw[jnU,joB,HLL.out];exact hown'
         case measure=>simp[intOf];omega)
    obtain rfl:k=r.length:=by omega
    rw[jom]at hown
    obtain⟨g,cap',e⟩:=joW hown (by simp)
    subst e
    have hst:=hown.strs
    obtain⟨A',cap2,e,hle2,hc2⟩:=hst
    cases e
    have RBr:=jb RB hb (by omega)
    have JN:=Tryz.strings_Join g 0 cap' _ ⟨#[10]⟩ wr (fun j x hx=>by obtain⟨b',o',e,_,h⟩:=hc2 j x hx;cases e;exact h) (by obtain⟨b',o',e,h,_⟩:=hc2 0 _ rfl;cases e;exact h) (by simp;omega) hle2 (by show(Lib.join _ [10]).length<=_;rw[HJ.out];omega)
    rw[show(⟨#[10]⟩:ByteArray).data.toList=[10] from rfl,HJ.out]at JN
    simp only[joi,jn1]at JN ⊢
    have hbw:=hb.size
    have hbA:=BW.out.trans (hb.mono hw1)
    clear hown hc2 hle2 HJ
    go_wp2_with fail
    refine JN.mono ?_
    rintro e w5 ⟨rfl,b5⟩
    have R5:=jb RBr b5 (by omega)
    have c0:=R5.cell 0
    have c1:=R5.cell 1
    have f0:=R5.frozen 0
    have f1:=R5.frozen 1
    have hb5:=hbA.trans (b5.mono (by omega))
    simp only[jn0,jnZ,jnX]at c0 c1
    rw[mkB]
    have RE:=(R5.set 0 (.string (B (before a)))).set 1 (.string (B (qE (a::r))))
    rw[Vo]at RE
    go_wp2_with fail
    refine bodyPost_ret (jl9 rfl _ _ w.heap.size _ rfl RE rfl) rfl ?_
    exact⟨rfl,(hb5.setCell (jnT _) _).setCell (jnT _) _⟩
section
attribute [local go_sem] qS ja6 jkc
theorem Qt{ls:List (List UInt8)}(h:GA ls=true):∃a r,ls=a::r/\jm a=4/\∀l∈r,jm l=3:=by
 cases ls with
 | nil=>cases h
 | cons a r =>
 refine⟨a,r,rfl,?_⟩;unfold GA at h;simp only[joC,beq_iff_eq,jqa]at h;exact h
theorem xQ{ls:List (List UInt8)}(h:GA ls=false):jt ls=2/\jU ls=[]/\jT ls=[]:=by
 have e:jt ls=2:=by unfold jt;rw[h];rfl
 exact⟨e,by unfold jU;rw[e];rfl,by unfold jT;rw[e];rfl⟩
theorem JX{ls:List (List UInt8)}(h:GA ls=true)(hl:¬(qE ls).length<=1000):jt ls=6/\jU ls=[]/\jT ls=[]:=by
 have e:jt ls=6:=by unfold jt;rw[h,if_pos rfl,if_neg hl]
 exact⟨e,by unfold jU;rw[e];rfl,by unfold jT;rw[e];rfl⟩
theorem Qo{a:List UInt8}{r:List (List UInt8)}(h:GA (a::r)=true)(hl:(qE (a::r)).length<=1000):jt (a::r)=0/\jU (a::r)=before a/\jT (a::r)=qE (a::r):=by
 have e:jt (a::r)=0:=by unfold jt;rw[h,if_pos rfl,if_pos hl]
 exact⟨e,by unfold jU;rw[e];rfl,by unfold jT;rw[e];rfl⟩
theorem jeZ(a:List UInt8):(before a).length<=a.length:=(jpj _).length_le
theorem jdM(ls:List (List UInt8))(v:Value)(w:World)(hs:Strs w v (ls.map B))(hl:∀l∈ls,l.length<=100000)(U:ls.length<=100000)(hj:(qE ls).length<=1000000):
  Calls prog 146 #[v] w fun e m=>e=.returned (.tuple #[zC (jU ls) (jT ls),Zv (jt ls)])/\Below w.heap.size w m:=by
 have p:=jnS (fun(o:Obj)=>(hs.alloc o));cases x:GA ls with
 | false =>
  obtain⟨D,N,G⟩:=xQ x;rw[D,N,G];unfold zC;go_enter func146,ntmps146;go_wp2_with fail;refine(jfE ls v _ (p.out _) hl U).mono ?_;rw[x];rintro e I ⟨rfl,b⟩;have f:=jb (jd.new w 148 #[.string ⟨#[]⟩,.string ⟨#[]⟩]) b (by simp)
  have P:=f.cell 0;have L:=f.cell 1
  have f0:=f.frozen 0;have f1:=f.frozen 1
  have c:Below w.heap.size w I:=((jnV _ _).alloc (jnT _) _).trans (b.mono (by simp));simp only[jn0,jnZ,jnX]at P L;have q:=(f.set 0 (.string ⟨#[]⟩)).set 1 (.string ⟨#[]⟩)
  rw[Vo]at q;clear b p;go_wp2_with fail;refine bodyPost_ret (Vr rfl _ _ w.heap.size _ rfl q rfl) rfl ?_;exact⟨rfl,(c.setCell (jnT _) _).setCell (jnT _) _⟩
 | true =>
 obtain⟨a,r,rfl,z,Z⟩:=Qt x;have hg:jF (before a)=true:=(jk4 z).2.2
 have Y:=hl a (by simp);have a7:=jeZ a
 have SD:=fun m (h:Strs m v ((a::r).map B))=>jh8 a r v m h Y (fun l hm=>⟨hl l (jn4 _ hm),Z l hm⟩) z (by simp at U;omega) (by omega);have O:=fun m=>Qf (before a) (qE (a::r)) (by omega) hj m
 have J:ze (before a) (qE (a::r))=if (qE (a::r)).length<=1000 then 0 else 6:=by unfold ze;rw[hg];rfl
 rw[J]at O;have t:=fun m (h:Strs m v ((a::r).map B))=>jfE (a::r) v m h hl U
 rw[x]at t;by_cases d:(qE (a::r)).length<=1000
 ·rw[if_pos d]at O;obtain⟨D,N,G⟩:=Qo x d;rw[D,N,G];unfold zC at *
  generalize B (before a)=K at *
  generalize B (qE (a::r))=V at *
  go_enter func146,ntmps146;go_wp2_with fail;refine(t _ (p.out _)).mono ?_;rintro e I ⟨rfl,b⟩;have C:=(p.out (.cells #[.string ⟨#[]⟩,.string ⟨#[]⟩] 148)).below b (jnT _)
  have f:=jb (jd.new w 148 #[.string ⟨#[]⟩,.string ⟨#[]⟩]) b (by simp);have c:Below w.heap.size w I:=((jnV _ _).alloc (jnT _) _).trans (b.mono (by simp))
  have u:=b.size;simp only[joe]at u;clear b p;go_wp2_with fail;refine(SD _ C).mono ?_;rintro e X ⟨rfl,n⟩;have H:=jb f n (by omega)
  have j:=c.trans (n.mono (by omega));have Q:=n.size
  clear n f C c;have y:=jd.new X 148 #[.string K,.string V]
  have A:=H.alloc (.cells #[.string K,.string V] 148);have i:=j.alloc (by omega) (.cells #[.string K,.string V] 148)
  go_wp2_with fail;refine(O _).mono ?_;rintro e w4 ⟨rfl,k⟩;have E:=jb y k (by simp)
  have g:=jb A k (by simp;omega);have s:=i.trans (k.mono (by simp;omega))
  have R:=E.cell 0;have W:=E.cell 1
  have P:=g.cell 0;have L:=g.cell 1
  have f0:=g.frozen 0;have f1:=g.frozen 1
  simp only[jn0,jnZ,jnX]at P L R W;have q:=(g.set 0 (.string K)).set 1 (.string V)
  rw[Vo]at q;clear k y A H i j;go_wp2_with fail;refine bodyPost_ret (Vr rfl _ _ w.heap.size _ rfl q rfl) rfl ?_;exact⟨rfl,(s.setCell (jnT _) _).setCell (jnT _) _⟩
 rw[if_neg d]at O;obtain⟨D,N,G⟩:=JX x d;rw[D,N,G];unfold zC at *
 generalize B (before a)=K at *
 generalize B (qE (a::r))=V at *
 go_enter func146,ntmps146;go_wp2_with fail;refine(t _ (p.out _)).mono ?_;rintro e I ⟨rfl,b⟩;have C:=(p.out (.cells #[.string ⟨#[]⟩,.string ⟨#[]⟩] 148)).below b (jnT _)
 have f:=jb (jd.new w 148 #[.string ⟨#[]⟩,.string ⟨#[]⟩]) b (by simp);have c:Below w.heap.size w I:=((jnV _ _).alloc (jnT _) _).trans (b.mono (by simp))
 have u:=b.size;simp only[joe]at u;clear b p;go_wp2_with fail;refine(SD _ C).mono ?_;rintro e X ⟨rfl,n⟩;have H:=jb f n (by omega)
 have j:=c.trans (n.mono (by omega));have Q:=n.size
 clear n f C c;have y:=jd.new X 148 #[.string K,.string V]
 have A:=H.alloc (.cells #[.string K,.string V] 148);have i:=j.alloc (by omega) (.cells #[.string K,.string V] 148)
 go_wp2_with fail;refine(O _).mono ?_;rintro e w4 ⟨rfl,k⟩;have E:=jb y k (by simp)
 have g:=jb A k (by simp;omega);have s:=i.trans (k.mono (by simp;omega))
 have R:=E.cell 0;have W:=E.cell 1
 have P:=g.cell 0;have L:=g.cell 1
 have f0:=g.frozen 0;have f1:=g.frozen 1
 simp only[jn0,jnZ,jnX]at P L R W;have q:=(g.set 0 (.string ⟨#[]⟩)).set 1 (.string ⟨#[]⟩)
 rw[Vo]at q;clear k y A H i j;go_wp2_with fail;refine bodyPost_ret (Vr rfl _ _ w.heap.size _ rfl q rfl) rfl ?_;exact⟨rfl,(s.setCell (jnT _) _).setCell (jnT _) _⟩
end
section
attribute [local go_sem] qS
def jz(lo:Nat)(w:World)(e:Value)(at_ n:Nat):Prop:=∃q,lo<=q/\e=.iface 87 (.pointer (some ⟨q,0,none⟩))/\jd w q 90 #[.int .i64 at_,Zv n]
theorem jz.below{lo:Nat}{w w':World}{e:Value}{a n N:Nat}(h:jz lo w e a n)(c:Below N w w')(f:w.heap.size<=N):jz lo w' e a n:=by obtain⟨q,g,d,b⟩:=h;exact⟨q,g,d,(c.block q (jod b.lt f)).trans b⟩
theorem jz.mono{lo b:Nat}{w:World}{e:Value}{a n:Nat}(h:jz lo w e a n)(hl:b<=lo):jz b w e a n:=by obtain⟨q,f,d,c⟩:=h;exact⟨q,jop hl f,d,c⟩
theorem jz.new(w:World)(a n lo q:Nat)(b:w.heap.size=q)(hl:lo<=q):jz lo (w.alloc (.cells #[.int .i64 a,Zv n] 90)) (.iface 87 (.pointer (some ⟨q,0,none⟩))) a n:=by subst b;exact⟨w.heap.size,hl,rfl,jd.new _ _ _⟩
theorem jG.field{w w':World}{T:Nat->Nat}{R b:Nat}{text:ByteArray}{p p':PS}{V:PV}(h:jG w T R b text p V)(G:R<=w.heap.size)(d:Value)
  (H:jd w' b 162 (yu p' text (.slice none 0 0) V.v3 d)) (A:w'.ownsRow 0 148 2 d p'.fields.length (jA p'.fields)) (f:xM w.heap.size w'.heap.size V.v6.ownBlock d.ownBlock)
  (q:jI (fun r=>r=b\/some r=V.v6.ownBlock) w w') (n:p'.items=p.items) (E:p'.said=[]) :
  ∃z,jG w' z R b text p' {V with v1:=.slice none 0 0,v6:=d}/\zU w T w' z:=by
 have I:∀k,T k≠0->T k≠1->T k≠4->w'.heap[k]?=w.heap[k]?:=fun k u l m=>q.same k (h.low k u).2 (by
  rintro(e|e)
  ·exact l (by rw[e];exact h.tp)
  exact m (h.t6 k e.symm))
 have s:∀{o:Option Nat} {t:Nat},qx T o t->t≠0->t≠1->t≠4->∀k,o=some k->w'.heap[k]?=w.heap[k]?:=fun g u l D k f=>I k (by rw[g k f];exact u) (by rw[g k f];exact l) (by rw[g k f];exact D);have y:∀{o:Option Nat} {t:Nat},qx T o t->t≠0->∀k,o=some k->k<w.heap.size:=fun g x k f=>(h.low k (by rw[g k f];exact x)).2
 refine⟨XU T w.heap.size d.ownBlock 4,⟨H,by rw[yf h.lt];exact h.tp,?_,(fun k f=>by cases f),?_,qy h.t3 (y h.t3 (by decide)),A,Qu f h.t6,by rw[n];exact h.nf,fun i C v l m => ?_,Qv h.low q.size G f h.t6 (by decide)⟩,
  ⟨q.mono fun r j e => ?_,fun r j=>by rw[yf j]⟩⟩
 ·rw[E];exact⟨by simp[qY],.inl ⟨rfl,rfl⟩⟩
 ·rw[n];exact zc h.r3 (s h.t3 (by decide) (by decide) (by decide))
 ·obtain⟨a,c⟩:=h.rf i C v (by rw[<- n];exact l) m;exact⟨zc a (s c (by decide) (by decide) (by decide)),qy c (y c (by decide))⟩
 rcases e with e|e
 ·rw[e,h.tp];decide
 rw[h.t6 r e.symm];decide
theorem jG.strs{w:World}{T:Nat->Nat}{R b:Nat}{text:ByteArray}{p:PS}{V:PV}(h:jG w T R b text p V):Strs w V.v1 (p.said.map B):=by refine ym.strs (base:=0) ?_;unfold ym;rw[joi,jp3];exact h.r1
theorem jiO:(prog.info? 148).map (fun i=>(i.zero,i.size,i.bytes))=some (some (.agg #[.string ⟨#[]⟩,.string ⟨#[]⟩]),2,32):=by kernel_rfl
def qB(w:World)(T:Nat->Nat)(R b:Nat)(text:ByteArray)(p:PS)(e:Ending)(w':World):Prop :=
 if ji p=0 then e=.returned .nilIface/\∃T',jH w' T' R b text (ja p)/\zU w T w' T'
 else ∃v,e=.returned v/\jz w.heap.size w' v p.begin_ (ji p)/\Below w.heap.size w w'
theorem qB.no{w:World}{T:Nat->Nat}{R b:Nat}{text:ByteArray}{p:PS}{v:Value}{w':World}(h:ji p≠0)(c:jz w.heap.size w' v p.begin_ (ji p))(a:Below w.heap.size w w'):qB w T R b text p (.returned v) w':=by unfold qB;rw[if_neg h];exact⟨v,rfl,c,a⟩
theorem qB.yes{w:World}{T T':Nat->Nat}{R b:Nat}{text:ByteArray}{p:PS}{w':World}(h:ji p=0)(c:jH w' T' R b text (ja p))(a:zU w T w' T'):qB w T R b text p (.returned .nilIface) w':=by unfold qB;rw[if_pos h];exact⟨rfl,T',c,a⟩
theorem VM{w:World}{T:Nat->Nat}{R b:Nat}{text:ByteArray}{p:PS}(h:jH w T R b text p)(hR:R<=w.heap.size)(o:(p.said.map List.length).sum+p.said.length<=90000)(hf:p.fields.length<=1000000):
  Calls prog 84 #[.pointer (some ⟨b,0,none⟩)] w fun e w'=>qB w T R b text p e w':=by
 obtain⟨V,h⟩:=h;by_cases P:p.said=[]
 ·have h0:ji p=0:=by unfold ji;rw[if_pos P]
  have hp:ja p=p:=by unfold ja;rw[if_pos P]
  have U:=yD h;rw[show(!p.said.isEmpty)=false by rw[P];rfl]at U;have d:qB w T R b text p (.returned .nilIface) w:=.yes h0 (by rw[hp];exact⟨V,h⟩) (zU.refl _ _)
  clear h o;go_enter func84,ntmps84;go_wp2_with fail;refine U.mono ?_;rintro e f ⟨rfl,rfl⟩;go_wp2;go_ret;exact d
 have U:=yD h;rw[show(!p.said.isEmpty)=true by cases hq:p.said with | nil=>exact absurd hq P | cons a r=>rfl]at U;obtain⟨a1,c1,e1,_⟩:=je h.r1;have q1:w.cell? ⟨b,1,none⟩=some (.slice a1 p.said.length c1):=by rw[<- e1];exact h.cells.cell 1
 have a7:p.said.length<=100000:=by omega
 have j:∀l∈p.said,l.length<=100000:=fun l hm=>by have:=jaP _ _ hm;omega
 have L:=ZB p.said;have t:=jdM p.said V.v1 w h.strs j a7 (by omega)
 rw[e1]at t;have m:ji p=if jt p.said≠0 then jt p.said else if vO p then 11 else 0:=by unfold ji;rw[if_neg P]
 have aw:=Qp p.said;have H:=jnS h
 by_cases G:jt p.said=0
 ·rw[G,if_neg (by simp)]at m;rw[G]at t;rw[qS]at t;have X:=jnS (fun w' (hb:Below w.heap.size w w')=>ji5 (H.out.below hb))
  cases i:vO p with
  | true =>
   rw[i,if_pos rfl]at m;have d:=jnS (fun v w' W O=>qB.no (w:=w) (T:=T) (R:=R) (b:=b) (text:=text) (p:=p) (v:=v) (w':=w') (by rw[m];decide) W O)
   rw[m]at d;rw[i]at X;generalize jU p.said=K at *
   generalize jT p.said=Z at *
   unfold zC at t;clear h o j L;go_enter func84,ntmps84;go_wp2_with fail;refine U.mono ?_;rintro e f ⟨rfl,rfl⟩;go_wp2_with fail;refine t.mono ?_;rintro e f ⟨rfl,q⟩;have x:=q.size
   go_wp2_with fail;have hP:=H.out.below q
   have r0:f.cell? ⟨b,0,none⟩=some (.int .i64 p.begin_):=hP.cells.cell 0;have C:=hP.lt
   have y:=q.alloc x (.cells #[.string (B K),.string (B Z)] 148);have A:=X.out _ y
   go_wp2_with fail;refine A.mono ?_;rintro e z ⟨rfl,rfl⟩;have r1:(f.alloc (.cells #[.string (B K),.string (B Z)] 148)).cell? ⟨b,0,none⟩=some (.int .i64 p.begin_):=by rw[jp5 _ _ _ (jp6 C)];exact r0
   go_wp2;go_ret;exact d.out _ _ (jz.new _ _ 11 _ (f.heap.size+1) (by simp) (by omega)) (y.alloc (by simp;omega) _)
  | false =>
  rw[i,if_neg (by simp)]at m;have e0:ja p={p with fields:=p.fields++[(jU p.said,jT p.said)],said:=[]}:=by unfold ja;rw[if_neg P]
  have d:=jnS (fun T' w' W O=>qB.yes (w:=w) (T:=T) (T':=T') (R:=R) (b:=b) (text:=text) (p:=p) (w':=w') m W O);rw[e0]at d;rw[i]at X;generalize jU p.said=K at *
  generalize jT p.said=Z at *
  unfold zC at t;obtain⟨i0,hi,aj,ag,am⟩:=info_parts jiO;obtain⟨a6,c6,e6,_⟩:=je h.r6;clear h o j L e0;go_enter func84,ntmps84;go_wp2_with fail;refine U.mono ?_;rintro e f ⟨rfl,rfl⟩;go_wp2_with fail;refine t.mono ?_;rintro e f ⟨rfl,q⟩;have x:=q.size
  have hP:=H.out.below q;have C:=hP.lt
  have y:=q.alloc x (.cells #[.string (B K),.string (B Z)] 148);have A:=X.out _ y
  go_wp2_with fail;refine A.mono ?_;rintro e z ⟨rfl,rfl⟩;have N:=jnS (H.out.below y)
  have g0:(f.alloc (.cells #[.string (B K),.string (B Z)] 148)).cell? ⟨f.heap.size,0,none⟩=some (.string (B K)):=(jd.new _ _ _).cell 0;have g1:(f.alloc (.cells #[.string (B K),.string (B Z)] 148)).cell? ⟨f.heap.size,1,none⟩=some (.string (B Z)):=(jd.new _ _ _).cell 1
  have aq:f.heap.size<(f.alloc (.cells #[.string (B K),.string (B Z)] 148)).heap.size:=by simp
  have B2:=jnS y;have aa:w.heap.size<=(f.alloc (.cells #[.string (B K),.string (B Z)] 148)).heap.size:=y.size
  clear X A t U hP q y;generalize f.alloc (.cells #[.string (B K),.string (B Z)] 148)=z at *
  generalize f.heap.size=bx at *
  have ax:=N.out.lt;have q6:z.cell? ⟨b,6,none⟩=some (.slice a6 p.fields.length c6):=by rw[<- e6];exact N.out.cells.cell 6
  have HC:=jnS N.out.cells;have HO:=jnS N.out.r6
  have HE:=jnS (Zb (w:=z) N.out.tp N.out.t6 (by decide));rw[e6]at HO HE;have HF:=jnS (fun w' ai Y hr E Q=>jG.field (p':={p with fields:=p.fields++[(K,Z)],said:=[]}) N.out (jop hR aa) (w':=w') ai Y hr E Q rfl rfl)
  go_wp2;go_cut [] (fun wx=>∃s c,jd wx b 162 (yu p text V.v1 V.v3 (.slice (some ⟨s,0,none⟩) (p.fields.length+1) c)) /\
   wx.ownsRow 0 148 2 (.slice (some ⟨s,0,none⟩) (p.fields.length+1) c) (p.fields.length+1) (jA p.fields++[.string (B K),.string (B Z)]) /\
   xM z.heap.size wx.heap.size V.v6.ownBlock (Value.slice (some ⟨s,0,none⟩) (p.fields.length+1) c).ownBlock/\s≠b/\jI (fun r=>r=b\/some r=V.v6.ownBlock) z wx)
  case first =>
   go_region_law ((refine jZ rfl (.tmp 41) (.tmp 43) 73 rfl 148 i0 _ 2 32 underlying73 hi aj ag am rfl (by decide) (.slice a6 p.fields.length c6) p.fields.length (jA p.fields) (by simp[Act.eval]) (by exact(HO.out.alloc _).drew) ⟨z.heap.size,0,none⟩ 1 1 [.string (B K),.string (B Z)] (by simp[Act.eval]) rfl (jC z 148 [.string (B K),.string (B Z)]) (by intro u G;simp at G;rcases G with rfl | rfl<;>rfl) (by unfold maxLen;omega) (by omega) ?_);intro v' w' Q ak ah;obtain⟨⟨s,c,rfl⟩,J,av,E,a8⟩:=xJ HC.out HO.out HE.out (((jnV _ z).alloc (jnT _) _).drew) Q ak ah;have ar:w'.cell? ⟨b,6,none⟩=some V.v6:=J.cell 6;have ap:=J.frozen 6)
   all_goals
    go_wp2;go_meet;have D:s≠b:=by
     intro e;rcases E with h|⟨k,h,O,_⟩
     ·exact HE.out (h.symm.trans (by rw[e];rfl))
     have hh:s=k:=jnY (show some s=some k from h);omega
    rw[<- e6]at E a8;refine⟨s,c,?_,jy (p:=⟨b,6,none⟩) Q (fun e=>D (by cases e;rfl)) _,?_,D,(a8.mono (fun r _ h=>.inr h)).setCell (p:=⟨b,6,none⟩) (.inl (.inl rfl)) _⟩
    ·simpa [yu]using J.set 6 (.slice (some ⟨s,0,none⟩) (p.fields.length+1) c)
    unfold xM;simpa [World.setCell]using E
  case rest =>
  obtain⟨s,c,Y,hr,E,D,Q⟩:=hcut;have k1:wc.cell? ⟨b,1,none⟩=some V.v1:=Y.cell 1
  have au:=Y.frozen 1;rw[e1]at k1;go_wp2;go_ret;refine Exists.elim (HF.out _ (.slice (some ⟨s,0,none⟩) (p.fields.length+1) c) ?k1 ?k2 ?k3 ?k4) fun T' g=>d.out T' _ ⟨_,g.1⟩ ((zU.below B2.out).trans g.2)
  case k1=>simpa [yu]using Y.set 1 (.slice none 0 0)
  case k2 =>
   rw[XD,jnU];exact jy (p:=⟨b,1,none⟩) hr (fun e=>D (by cases e;rfl)) _
  case k3=>unfold xM at E ⊢;simpa [World.setCell]using E
  case k4=>exact Q.setCell (p:=⟨b,1,none⟩) (.inl (.inl rfl)) _
 rw[if_pos G]at m;have ae:0<jt p.said:=jpy G
 have d:=jnS (fun v w' W O=>qB.no (w:=w) (T:=T) (R:=R) (b:=b) (text:=text) (p:=p) (v:=v) (w':=w') (by rw[m];exact G) W O);rw[m]at d;have I:=zn _ ae
 have af:=jnS I;rw[I]at t;generalize jt p.said=n at *
 generalize jU p.said=K at *
 generalize jT p.said=Z at *
 unfold zC at t;clear h o j L I;go_enter func84,ntmps84;go_wp2_with fail;refine U.mono ?_;rintro e f ⟨rfl,rfl⟩;go_wp2_with fail;refine t.mono ?_;rintro e f ⟨rfl,q⟩;have x:=q.size
 have hP:=H.out.below q;have r0:f.cell? ⟨b,0,none⟩=some (.int .i64 p.begin_):=hP.cells.cell 0
 have C:=hP.lt;have y:=q.alloc x (.cells #[.string (B K),.string (B Z)] 148)
 have r1:(f.alloc (.cells #[.string (B K),.string (B Z)] 148)).cell? ⟨b,0,none⟩=some (.int .i64 p.begin_):=by rw[jp5 _ _ _ (jp6 C)];exact r0
 go_wp2;go_ret;rw[<- af.out];exact d.out _ _ (jz.new _ _ n _ (f.heap.size+1) (by simp) (by omega)) (y.alloc (by simp;omega) _)
end
section
attribute [local go_sem] qS ja6
def JL(w:World)(T:Nat->Nat)(R b:Nat)(text:ByteArray)(p:PS)(x:Ln)(e:Ending)(w':World):Prop :=
 match zo text.data.toList p x with
 | .error (a,n)=>∃v,e=.returned v/\jz w.heap.size w' v a n/\jI (fun r=>T r≠0) w w'
 | .ok q=>e=.returned .nilIface/\∃T',jH w' T' R b text q/\zU w T w' T'
theorem JL.no{w:World}{T:Nat->Nat}{R b:Nat}{text:ByteArray}{p:PS}{x:Ln}{v:Value}{w':World}{a n:Nat}(h:zo text.data.toList p x=.error (a,n))(d:jz w.heap.size w' v a n)(c:jI (fun r=>T r≠0) w w'):JL w T R b text p x (.returned v) w':=by unfold JL;rw[h];exact⟨v,rfl,d,c⟩
theorem JL.yes{w:World}{T T':Nat->Nat}{R b:Nat}{text:ByteArray}{p q:PS}{x:Ln}{w':World}(h:zo text.data.toList p x=.ok q)(c:jH w' T' R b text q)(a:zU w T w' T'):JL w T R b text p x (.returned .nilIface) w':=by unfold JL;rw[h];exact⟨rfl,T',c,a⟩
theorem jj8{w:World}{T:Nat->Nat}{R b:Nat}{text:ByteArray}{p:PS}(h:jH w T R b text p):T w.heap.size=0:=by
 obtain⟨V,h⟩:=h;rcases Nat.decEq (T w.heap.size) 0 with e|e
 ·have:=(h.low _ e).2;omega
 exact e
theorem jH.lt{w:World}{T:Nat->Nat}{R b:Nat}{text:ByteArray}{p:PS}(h:jH w T R b text p):b<w.heap.size:=by obtain⟨V,h⟩:=h;exact h.lt
theorem Qa{w j:World}{T n:Nat->Nat}{R b:Nat}{text:ByteArray}{p q:PS}(h:jH j n R b text q)(o:zU w T j n)(u:R<=w.heap.size)(d:(q.said.map List.length).sum+q.said.length<=90000)(t:q.fields.length<=1000000):
  Calls prog 84 #[.pointer (some ⟨b,0,none⟩)] j fun e c =>
   if ji q=0 then e=.returned .nilIface/\∃i,jH c i R b text (ja q)/\zU w T c i/\zU j n c i
   else ∃v,e=.returned v/\jz w.heap.size c v q.begin_ (ji q)/\jI (fun r=>T r≠0) w c/\v ≠ .nilIface/\∃a,v=.iface 87 (.pointer a):=by
 have m:=o.only.size;refine(VM h (jop u m) d t).mono fun e c g => ?_;unfold qB at g;split
 ·rename_i l;rw[if_pos l]at g;obtain⟨s,i,f,k⟩:=g;exact⟨s,i,f,o.trans k,k⟩
 rename_i l;rw[if_neg l]at g;obtain⟨v,s,f,k⟩:=g;refine⟨v,s,f.mono m,o.only.below k m,?_,?_⟩
 ·obtain⟨q,_,e,_⟩:=f;rw[e];intro h;cases h
 obtain⟨q,_,e,_⟩:=f;exact⟨_,e⟩
theorem jkq{w:World}{T:Nat->Nat}{R b:Nat}{text:ByteArray}{p:PS}(h:jH w T R b text p)(hR:R<=w.heap.size)(x:Ln)(P:Inv p x.at_)(hx:x.at_+x.text.length+1<=70000)(af:x.no<=x.at_)(E:vf p x=true):
  Calls prog 83 #[.pointer (some ⟨b,0,none⟩),.agg #[.int .i64 x.no,.int .i64 x.at_,.string (B x.text),.bool x.ended]] w fun e w'=>JL w T R b text p x e w':=by
 have hk:jm x.text=3:=by unfold vf at E;simp at E;exact E.1
 have hu:(!p.said.isEmpty)=true:=by unfold vf at E;simp at E;simp[E.2]
 have K:∀w,Calls prog 141 #[.string (B x.text)] w fun e w'=>e=.returned (.int .i64 3)/\Below w.heap.size w w':=fun w=>by have:=ZN (B x.text) (by rw[jg];unfold maxLen;omega) w;rw[jj,hk]at this;exact this
 have D:=zU.below (T:=T) ((jnV w.heap.size w).alloc (jnT _) (.cells #[.int .i64 x.no,.int .i64 x.at_,.string (B x.text),.bool x.ended] 157));have c0:=jd.new w 157 #[.int .i64 x.no,.int .i64 x.at_,.string (B x.text),.bool x.ended]
 have l0:=jj8 h;have hw:zy p x=JJ p x:=by unfold zy;rw[if_pos E];rfl
 have l:zO p x = !x.ended:=by unfold zO;rw[hk,E];simp
 have i:qW p x = !x.ended:=by unfold qW;rw[l,E];simp
 have hb:=P.said;have o:((JJ p x).said.map List.length).sum+(JJ p x).said.length<=90000:=by simp[JJ];omega
 have G:(JJ p x).fields.length<=1000000:=by have:=P.fields;show p.fields.length<=_;omega
 have hn:p.said.length<=1000000:=by omega
 have W:=jnS (fun c (T1:Nat->Nat) C (g:jG c T1 R b text p C) a8=>ji2 g a8 x hn);have EF:=jnS (fun c T1 (g:jH c T1 R b text (JJ p x)) (s:zU w T c T1)=>Qa (p:=p) g s hR o G)
 have H:=jnS h;have J:=jnS c0
 have j:=jnS D;cases r:x.ended with
 | true =>
  rw[r]at l i;simp only[Bool.not_true]at l i;have z:=jnS (fun T' w' Q O=>JL.yes (w:=w) (T:=T) (T':=T') (R:=R) (b:=b) (text:=text) (p:=p) (q:=JJ p x) (x:=x) (w':=w') (by unfold zo;rw[i,l];simp[qN,i,JC,hk,hw]) Q O)
  rw[r]at W J j;clear h c0 D P EF o G hb;go_enter func83,ntmps83;go_wp2_with fail;refine(K _).mono ?_;rintro e c ⟨rfl,m⟩;have u:=j.out.trans (zU.below m)
  have f:jH c T R b text p:=(H.out.below ((jnV _ _).alloc (jnT _) _)).below m;obtain⟨C,f⟩:=f;have d:=jb J.out m (by simp)
  have t:=u.only.size;have k:R<=c.drew.heap.size:=jop hR t
  clear m H J j;go_wp2_with fail;refine(yD f).mono ?_;rw[hu];rintro e L ⟨rfl,rfl⟩;have d0:c.cell? ⟨w.heap.size,0,none⟩=some (.int .i64 x.no):=d.cell 0
  have d1:c.cell? ⟨w.heap.size,1,none⟩=some (.int .i64 x.at_):=d.cell 1;have d2:c.cell? ⟨w.heap.size,2,none⟩=some (.string (B x.text)):=d.cell 2
  have Z:c.cell? ⟨w.heap.size,3,none⟩=some (.bool true):=d.cell 3;have A:Hid (jG c.drew T R b text p C):=f.same (fun _ _=>rfl) (jnT _)
  have y:Hid (jd c.drew w.heap.size 157 _):=d;have Y:Hid (zU w T c.drew T):=u.drewN 1
  clear f d u;go_wp2;go_region_with (go_at_call 143;refine(W.out _ T C A.out k).mono ?_;rintro e L ⟨rfl,V,U,I⟩;have N:=y.out.only I.only (fun e=>e l0);have Z:L.cell? ⟨w.heap.size,3,none⟩=some (.bool true):=N.cell 3)
  all_goals
   go_wp2;go_ret;exact z.out V _ U (Y.out.trans I)
 | false =>
 rw[r]at l i;simp only[Bool.not_false]at l i;rw[r]at W J j;by_cases h0:ji (JJ p x)=0
 ·have z:=jnS (fun v w' Q O=>JL.no (w:=w) (T:=T) (R:=R) (b:=b) (text:=text) (p:=p) (x:=x) (v:=v) (w':=w') (a:=x.no) (n:=2) (by unfold zo;rw[i,l,hw,h0];simp) Q O);clear h c0 D P o G hb;go_enter func83,ntmps83;go_wp2_with fail;refine(K _).mono ?_;rintro e c ⟨rfl,m⟩;have u:=j.out.trans (zU.below m)
  have f:jH c T R b text p:=(H.out.below ((jnV _ _).alloc (jnT _) _)).below m;obtain⟨C,f⟩:=f;have d:=jb J.out m (by simp)
  have t:=u.only.size;have k:R<=c.drew.heap.size:=jop hR t
  clear m H J j;go_wp2_with fail;refine(yD f).mono ?_;rw[hu];rintro e L ⟨rfl,rfl⟩;have d0:c.cell? ⟨w.heap.size,0,none⟩=some (.int .i64 x.no):=d.cell 0
  have d1:c.cell? ⟨w.heap.size,1,none⟩=some (.int .i64 x.at_):=d.cell 1;have d2:c.cell? ⟨w.heap.size,2,none⟩=some (.string (B x.text)):=d.cell 2
  have Z:c.cell? ⟨w.heap.size,3,none⟩=some (.bool false):=d.cell 3;have lz:=d.lt
  have A:Hid (jG c.drew T R b text p C):=f.same (fun _ _=>rfl) (jnT _);have y:Hid (jd c.drew w.heap.size 157 _):=d
  have Y:Hid (zU w T c.drew T):=u.drewN 1;clear f d u;go_wp2;go_region_with (go_at_call 143;refine(W.out _ T C A.out k).mono ?_;rintro e L ⟨rfl,V,U,I⟩;have N:=y.out.only I.only (fun e=>e l0);have Z:L.cell? ⟨w.heap.size,3,none⟩=some (.bool false):=N.cell 3)
  all_goals
   go_wp2_with fail;refine(EF.out _ V U (Y.out.trans I)).mono ?_;rintro e w3 X;rw[if_pos h0]at X;obtain⟨rfl,T3,g3,s3,a7⟩:=X;have C3:=N.only a7.only (fun e=>e ((I.old _ lz).2 l0))
   have ae:w3.cell? ⟨w.heap.size,0,none⟩=some (.int .i64 x.no):=C3.cell 0;have aa:=C3.lt
   go_wp2;go_ret;exact z.out _ _ (jz.new _ _ 2 _ w3.heap.size rfl (by omega)) (s3.only.alloc _)
 have z:=jnS (fun v w' Q O=>JL.no (w:=w) (T:=T) (R:=R) (b:=b) (text:=text) (p:=p) (x:=x) (v:=v) (w':=w') (a:=(JJ p x).begin_) (n:=ji (JJ p x)) (by unfold zo;rw[i,hw,if_pos ⟨rfl,h0⟩]) Q O);clear h c0 D P o G hb;go_enter func83,ntmps83;go_wp2_with fail;refine(K _).mono ?_;rintro e c ⟨rfl,m⟩;have u:=j.out.trans (zU.below m)
 have f:jH c T R b text p:=(H.out.below ((jnV _ _).alloc (jnT _) _)).below m;obtain⟨C,f⟩:=f;have d:=jb J.out m (by simp)
 have t:=u.only.size;have k:R<=c.drew.heap.size:=jop hR t
 clear m H J j;go_wp2_with fail;refine(yD f).mono ?_;rw[hu];rintro e L ⟨rfl,rfl⟩;have d0:c.cell? ⟨w.heap.size,0,none⟩=some (.int .i64 x.no):=d.cell 0
 have d1:c.cell? ⟨w.heap.size,1,none⟩=some (.int .i64 x.at_):=d.cell 1;have d2:c.cell? ⟨w.heap.size,2,none⟩=some (.string (B x.text)):=d.cell 2
 have Z:c.cell? ⟨w.heap.size,3,none⟩=some (.bool false):=d.cell 3;have A:Hid (jG c.drew T R b text p C):=f.same (fun _ _=>rfl) (jnT _)
 have y:Hid (jd c.drew w.heap.size 157 _):=d;have Y:Hid (zU w T c.drew T):=u.drewN 1
 clear f d u;go_wp2;go_region_with (go_at_call 143;refine(W.out _ T C A.out k).mono ?_;rintro e L ⟨rfl,V,U,I⟩;have N:=y.out.only I.only (fun e=>e l0);have Z:L.cell? ⟨w.heap.size,3,none⟩=some (.bool false):=N.cell 3)
 all_goals
  go_wp2_with fail;refine(EF.out _ V U (Y.out.trans I)).mono ?_;rintro e w3 X;rw[if_neg h0]at X;obtain⟨v,rfl,f3,o3,_,a3,rfl⟩:=X;go_wp2;go_ret;exact z.out _ _ f3 o3
theorem ZO(l:List UInt8):jm l=1\/jm l=2\/jm l=3\/jm l=4\/jm l=5:=by
 unfold jm;split;· simp
 split;· simp
 split;· simp
 split;· simp
 split<;>simp
theorem jhZ{w:World}{T:Nat->Nat}{R b:Nat}{text:ByteArray}{p:PS}(h:jH w T R b text p)(hR:R<=w.heap.size)(x:Ln)(hi:Inv p x.at_)(hx:x.at_+x.bytes.length<=text.size)(ht:text.size<=70000)(hno:x.no<=x.at_)(hg:vf p x=false):
  Calls prog 83 #[.pointer (some ⟨b,0,none⟩),.agg #[.int .i64 x.no,.int .i64 x.at_,.string (B x.text),.bool x.ended]] w fun e w'=>JL w T R b text p x e w':=by
 have hbl:x.text.length<=x.bytes.length:=by unfold Ln.bytes;simp
 have K:∀w,Calls prog 141 #[.string (B x.text)] w fun e w'=>e=.returned (.int .i64 (jm x.text:Nat))/\Below w.heap.size w w':=fun w=>by
  have:=ZN (B x.text) (by rw[jg];unfold maxLen;omega) w
  rw[jj]at this
  exact this
 have hu:jm x.text=3->(!p.said.isEmpty)=false:=by
  intro h3;unfold vf at hg;rw[h3]at hg;simpa using hg
 have hl:=h.lt
 have l0:=jj8 h
 have H:=jnS h
 have C0:=jnS (jd.new w 157 #[.int .i64 x.no,.int .i64 x.at_,.string (B x.text),.bool x.ended])
 have HB0:=jnS (zU.below (T:=T) ((jnV w.heap.size w).alloc (jnT _) (.cells #[.int .i64 x.no,.int .i64 x.at_,.string (B x.text),.bool x.ended] 157)))
 have hw:zy p x=p:=by unfold zy;rw[hg];rfl
 have hen:qW p x=true:=by unfold qW;rw[hg];simp
 have hth:qN p x=ja p:=by unfold qN;rw[hen,if_pos rfl,hw]
 have hb:=hi.said
 have hff:p.fields.length<=1000000:=by have:=hi.fields;omega
 have EF:=jnS (fun w1 T1 (g:jH w1 T1 R b text p) (s:zU w T w1 T1)=>Qa (p:=p) g s hR (by omega) hff)
 have HII:=jnS hi
 have HX:=jnS hx
 clear h hi hb hff hx
 rcases ZO x.text with hk|hk|hk|hk|hk
 all_goals cases hend:x.ended
 all_goals
  rw[hk]at K
  rw[hend]at C0 HB0
  go_enter func83,ntmps83
  go_wp2_with fail
  refine(K _).mono ?_
  rintro e w1 ⟨rfl,b1⟩
  have s1:=HB0.out.trans (zU.below b1)
  have P1:jH w1 T R b text p:=(H.out.below ((jnV _ _).alloc (jnT _) _)).below b1
  have l1:=P1.lt
  have C1:=jb C0.out b1 (by simp)
  have hz1:=s1.only.size
  have d0:w1.cell? ⟨w.heap.size,0,none⟩=some (.int .i64 x.no):=C1.cell 0
  have d1:w1.cell? ⟨w.heap.size,1,none⟩=some (.int .i64 x.at_):=C1.cell 1
  have d2:w1.cell? ⟨w.heap.size,2,none⟩=some (.string (B x.text)):=C1.cell 2
  have d3:w1.cell? ⟨w.heap.size,3,none⟩=_:=C1.cell 3
  simp only[jn0,jnZ,jnX]at d3
  have lz:=C1.lt
  clear b1 H C0 HB0
  go_wp2_with fail
  try (have h3:jm x.text=3:=hk;obtain⟨V1,PV1⟩:=P1;refine(yD PV1).mono ?_;rw[hu hk];rintro e w2 ⟨rfl,rfl⟩;replace P1:jH w1 T R b text p:=⟨V1,PV1⟩;clear PV1;go_wp2_with fail)
  refine(EF.out _ T P1 s1).mono ?_
  rintro e w3 hE
  by_cases h0:ji p=0
  rotate_left
  ·have FIN:=jnS (fun v w' h1 h2=>JL.no (w:=w) (T:=T) (R:=R) (b:=b) (text:=text) (p:=p) (x:=x) (v:=v) (w':=w') (a:=p.begin_) (n:=ji p) (by unfold zo;rw[hen,hw,if_pos ⟨rfl,h0⟩]) h1 h2)
   rw[if_neg h0]at hE
   obtain⟨v,rfl,f3,o3,_,a3,rfl⟩:=hE
   go_wp2
   go_ret
   exact FIN.out _ _ f3 o3
 all_goals
  rw[if_pos h0]at hE
  obtain⟨rfl,T3,g3,s3,s13⟩:=hE
  have C3:=C1.only s13.only (fun e=>e (l0))
  have d0':w3.cell? ⟨w.heap.size,0,none⟩=some (.int .i64 x.no):=C3.cell 0
  have d1':w3.cell? ⟨w.heap.size,1,none⟩=some (.int .i64 x.at_):=C3.cell 1
  have d2':w3.cell? ⟨w.heap.size,2,none⟩=some (.string (B x.text)):=C3.cell 2
  have d3':w3.cell? ⟨w.heap.size,3,none⟩=_:=C3.cell 3
  simp only[jn0,jnZ,jnX]at d3'
  have lz3:=C3.lt
  have l3:=g3.lt
 all_goals try (have hwr:zO p x=true:=(by unfold zO;rw[hk,hg,hend]<;>rfl);have FIN:=jnS (fun v w' h1 h2=>JL.no (w:=w) (T:=T) (R:=R) (b:=b) (text:=text) (p:=p) (x:=x) (v:=v) (w':=w') (a:=x.no) (n:=2) (by unfold zo;rw[hen,hwr,hw,h0];simp) h1 h2);go_wp2;go_ret;exact FIN.out _ _ (jz.new _ _ 2 _ w3.heap.size rfl (by omega)) (s3.only.alloc _))
 all_goals
  have hwr:zO p x=false:=by unfold zO;rw[hk,hg,hend]<;>rfl
  have FIN:=jnS (fun T' w' h1 h2=>JL.yes (w:=w) (T:=T) (T':=T') (R:=R) (b:=b) (text:=text) (p:=p) (q:=JC text.data.toList (ja p) x) (x:=x) (w':=w') (by unfold zo;rw[hen,hwr,hw,h0,hth];simp) h1 h2)
  have hbe:x.bytes.length=x.text.length+1:=by unfold Ln.bytes;rw[hend];simp
 ·have h1:jm x.text=1:=hk
  have eP:JC text.data.toList (ja p) x=zk text.data.toList (jk text.data.toList (ja p) x.at_) 1 (x.at_+x.text.length+1):=by unfold JC;rw[hk];rfl
  rw[eP]at FIN
  have hx:=HX.out
  have hi2:=HII.out.endField
  have hi3:=hi2.endBlock text.data.toList x.at_ hi2.at_ (jnT _)
  have a3:=yl text.data.toList (ja p) x.at_ hi2.at_
  have n1:IntKind.i64.wrap ((x.at_:Int)+(x.text.length:Int))=(x.at_:Int)+(x.text.length:Int):=jos _ (by omega)
  have n2:IntKind.i64.wrap ((x.at_:Int)+(x.text.length:Int)+1)=(x.at_:Int)+(x.text.length:Int)+1:=jos _ (by omega)
  have zB:=jg x.text
  have HB:=jnS (fun w3 T3 (g:jH w3 T3 R b text (ja p)) hR3=>VO g hR3 x.at_ hi2.at_ (by omega) (by omega) (by have:=hi2.items;have:=hi2.at_;omega) (by have:=hi2.stanzas;have:=hi2.at_;omega))
  have HI:=jnS (fun w3 T3 V3 (g:jG w3 T3 R b text (jk text.data.toList (ja p) x.at_) V3) hR3=>Zo g hR3 1 (x.at_+x.text.length+1) (by omega) (by omega) (by omega) (by have:=hi3.items;omega))
  clear hi3 hi2 a3
  have hz3:R<=w3.heap.size:=jop hR s3.only.size
  go_wp2_with fail
  refine(HB.out _ T3 g3 hz3).mono ?_
  rintro e w4 ⟨rfl,T4,g4,s4⟩
  have C4:=C3.only s4.only (fun e=>e ((s13.old _ lz).2 l0))
  have e1':w4.cell? ⟨w.heap.size,1,none⟩=some (.int .i64 x.at_):=C4.cell 1
  have e2':w4.cell? ⟨w.heap.size,2,none⟩=some (.string (B x.text)):=C4.cell 2
  have hz4:R<=w4.heap.size:=jop hz3 s4.only.size
  obtain⟨V4,g4⟩:=g4
  go_wp2_with fail
  rw[show Value.int .i64 ((x.at_:Int)+(x.text.length:Int)+1)=Value.int .i64 ((x.at_+x.text.length+1:Nat):Int) from rfl]
  refine(HI.out _ T4 V4 g4 hz4).mono ?_
  rintro e w5 ⟨rfl,T5,g5,s5⟩
  go_wp2
  go_ret
  exact FIN.out T5 _ g5 ((s3.trans s4).trans s5)
 ·have h2:jm x.text=2:=hk
  have eP:JC text.data.toList (ja p) x=ja p:=by unfold JC;rw[hk];rfl
  rw[eP]at FIN
  go_wp2
  go_ret
  exact FIN.out _ _ g3 s3
 have eP:JC text.data.toList (ja p) x=jah (ja p) x:=by unfold JC jah;rw[hk,if_pos rfl]
 rw[eP]at FIN
 have HS:=jnS (fun w3 T3 V3 (g:jG w3 T3 R b text (ja p) V3) hR3=>jfB g hR3 x)
 rw[hend]at HS
 obtain⟨V3,g3⟩:=g3
 have P3d:Hid (jG w3.drew T3 R b text (ja p) V3):=g3.same (fun _ _=>rfl) (jnT _)
 have S3:Hid (zU w T w3.drew T3):=s3.drewN 1
 have hz3:R<=w3.drew.heap.size:=jop hR s3.only.size
 clear g3 s3 s13
 go_wp2
 go_region_with (go_at_call 144;refine(HS.out _ T3 V3 P3d.out hz3).mono ?_;rintro e w4 ⟨rfl,T4,g4,s4⟩)
 all_goals
  go_wp2
  go_ret
  exact FIN.out T4 _ g4 (S3.out.trans s4)
end
section
attribute [local go_sem] jn9
theorem jlZ{W a:World}{b n:Nat}{t:TypeId}{v:Value}(h:Boxed W b t v)(c:Below n W a)(d:b<n):Boxed a b t v:=(c.block b d).trans h
theorem jE{W:World}{base base':Nat}{e:TypeId}{size:Nat}{v:Value}{n:Nat}{xs:List Value}(h:W.ownsRow base e size v n xs)(d:base'<=base):W.ownsRow base' e size v n xs:=by
 refine⟨h.1,?_⟩;rcases h.2 with j|⟨g,c,b,f,i,a⟩
 ·exact .inl j
 exact .inr ⟨g,c,b,f,jop d i,a⟩
theorem jkJ{W:World}{base:Nat}{e:TypeId}{size:Nat}{v:Value}{n:Nat}{xs:List Value}(h:W.ownsRow base e size v n xs):∃c a,v=.slice c n a:=by
 rcases h.2 with ⟨rfl,rfl⟩|⟨g,a,b,rfl,_⟩
 ·exact⟨none,0,rfl⟩
 exact⟨_,a,rfl⟩
theorem Va(w:World)(a b:Obj)(t:TypeId)(v:Value):Boxed (((w.alloc a).alloc b).alloc (.cells #[v] t)) (w.heap.size+2) t v:=by have:=Jr (w.alloc a) b t v;rwa [joe]at this
theorem jhn(w:World)(b c a:Obj)(t:TypeId)(v:Value):Boxed ((((w.alloc b).alloc c).alloc a).alloc (.cells #[v] t)) (w.heap.size+3) t v:=by have:=Va (w.alloc b) c a t v;rwa [joe]at this
theorem ya{P:Program}{d:Type}{g:Operand}{s:Array Tmp}{assign body:Code}{Q:Exit->Act->World->Prop}{a:Act}{w:World}
  {gf:Nat} {lb:Array Value} (y:a.eval g=.func (.func gf) #[] lb) (A:∀args w,(callFunc gf args).run P w=.ok (.enter gf args) w)
  {e:d->Array Value} {k:Nat} {xs:List d} (n:jlR P gf lb e k xs w) (u:∀x,(e x).size=s.size)
  (I:List d->World->Prop) (o:Code->List d->World->Prop) (C:zT w.heap.size (k+2) I) (r:∀c,zT w.heap.size 2 (o c)) (z:I [] w)
  (M:Act->List d->d->Act->World->Prop) (hM:∀a b x q,zT w.heap.size 2 (fun(_:Unit) W=>M a b x q W))
  (f:∀(l:Nat) (b:List d) (x:d) (h:List d) (W:World),xs=b++x::h->w.heap.size+(k+2)<=W.heap.size->I b W ->
   assign.wpIn (Fence.wide.inRound l) 7 P (Yn w.heap.size (k+2) (M a b x) W) {tmps:=(s.zip (e x)).foldl (fun t (p,v)=>t.setIfInBounds p v) a.tmps,defers:=[]} W)
  (m:∀(l:Nat) (b:List d) (x:d) (h:List d) (q:Act) (W:World),xs=b++x::h->w.heap.size+(k+2)<=W.heap.size->M a b x q W ->
   body.wpIn (Fence.wide.inRound l) 7 P (left w.heap.size (k+2) I o (b++[x]) W) q W)
  (j:∀(W:World),I xs W->W.heap[w.heap.size]?=some (.deferred (some []))->Q .normal {a with defers:={target:=.collected w.heap.size,args:=#[]}::a.defers} W)
  (i:∀(c:Code) (b:List d) (W:World),b <+: xs->o c b W->W.heap[w.heap.size]?=some (.deferred (some []))->c.wpIn Fence.wide 9 P Q {a with defers:={target:=.collected w.heap.size,args:=#[]}::a.defers} W) :
  (Code.rangeFunc g s assign body).wpIn Fence.wide 9 P Q a w :=
 jfi y A n u I o C r z (M a) (hM a) f m j i
theorem Up(a b:List UInt8):(⟨a.toArray⟩:ByteArray) ++ ⟨b.toArray⟩=⟨(a++b).toArray⟩:=by rw[<- jp0 ((⟨a.toArray⟩:ByteArray) ++ ⟨b.toArray⟩),ByteArray.data_append,Array.toList_append]
theorem Jz{W:World}{b c:Nat}{t:TypeId}{v:Value}(h:Boxed W b t v)(a:b≠c)(u:Value):Boxed (W.setCell ⟨c,0,none⟩ u) b t v:=h.other a u
end
section
attribute [local go_sem] qS ja6
theorem take_any{w:World}{T:Nat->Nat}{R b:Nat}{text:ByteArray}{p:PS}(h:jH w T R b text p)(d:R<=w.heap.size)(x:Ln)(c:Inv p x.at_)(hx:x.at_+x.bytes.length<=text.size)(j:text.size<=60000)(a:x.no<=x.at_):
  Calls prog 83 #[.pointer (some ⟨b,0,none⟩),.agg #[.int .i64 x.no,.int .i64 x.at_,.string (B x.text),.bool x.ended]] w fun e g=>JL w T R b text p x e g:=by
 cases f:vf p x with
 | true =>
  have i:x.text.length<=x.bytes.length:=by unfold Ln.bytes;simp
  exact jkq h d x c (by omega) a f
 | false =>
 exact jhZ h d x c hx (by omega) a f
def Out(w W:World)(v e:Value):Prop :=
 jd W w.heap.size 92 #[v]/\jd W (w.heap.size+1) 32 #[e]/\Below w.heap.size w W
def jjP(w:World)(text:ByteArray)(pre:List Ln)(W:World):Prop :=
 Out w W (.slice none 0 0) .nilIface/\∃T p,qO text.data.toList PS.new pre=.ok p/\Inv p (pre.flatMap Ln.bytes).length/\jH W T (w.heap.size+2) (w.heap.size+2) text p/\∀k,w.heap.size+3<=k->k<w.heap.size+9->T k=0
def jm4(w:World)(text:ByteArray)(c:Code)(pre:List Ln)(W:World):Prop :=
 c=.ret/\∃a n v,qO text.data.toList PS.new pre=.error (a,n)/\Out w W (.slice none 0 0) v/\jz (w.heap.size+9) W v a n
theorem Out.turned{w W b:World}{v e:Value}{B k:Nat}(h:Out w W v e)(a:zm B k W b)(c:w.heap.size+2<=B):Out w b v e :=
 ⟨(a.same _ h.1.lt (.inl (by omega))).trans h.1,(a.same _ h.2.1.lt (.inl (by omega))).trans h.2.1,h.2.2.trans (a.below (by omega) h.2.2.size)⟩
theorem Out.alloc{w W:World}{v e:Value}(h:Out w W v e)(o:Obj):Out w (W.alloc o) v e:=⟨h.1.alloc o,h.2.1.alloc o,h.2.2.alloc h.2.2.size o⟩
theorem Out.only{w W b:World}{v e:Value}{S:Nat->Prop}(h:Out w W v e)(g:jI S W b)(a:∀r,S r->w.heap.size+2<=r):Out w b v e :=
 ⟨h.1.only g (fun s=>by have:=a _ s;omega),h.2.1.only g (fun s=>by have:=a _ s;omega),h.2.2.trans (g.to_below h.2.2.size (fun r c s=>by have:=a _ s;omega))⟩
theorem Out.set{w W:World}{v e:Value}(h:Out w W v e)(a b:Value):Out w ((W.setCell ⟨w.heap.size,0,none⟩ a).setCell ⟨w.heap.size+1,0,none⟩ b) a b:=by obtain⟨d,c,f⟩:=h;exact⟨jd.other (d.set 0 a) (by simp) _,jd.set (jd.other c (by simp) a) 0 b,(f.setCell (p:=⟨w.heap.size,0,none⟩) (jnT _) _).setCell (p:=⟨w.heap.size+1,0,none⟩) (by show _<=w.heap.size+1;omega) _⟩
theorem jH.turned{w w':World}{T:Nat->Nat}{R b B k:Nat}{text:ByteArray}{p:PS}(h:jH w T R b text p)(c:zm B k w w')(e:∀r,B<=r->r<B+k->T r=0):jH w' T R b text p:=by
 obtain⟨V,h⟩:=h;refine⟨V,h.same (fun r d=>c.same r (h.low r d).2 ?_) c.size⟩;rcases joo r B with q|q
 ·exact .inl q
 rcases joo r (B+k) with a|a
 ·exact absurd (e r q a) d
 exact .inr a
theorem jjP.turned{w W f:World}{text:ByteArray}{c:List Ln}{B k:Nat}(h:jjP w text c W)(d:zm B k W f)(m:w.heap.size+3<=B)(n:B+k<=w.heap.size+9):jjP w text c f:=by obtain⟨l,T,p,g,i,j,e⟩:=h;exact⟨l.turned d (by omega),T,p,g,i,j.turned d (fun r a b=>e r (by omega) (by omega)),e⟩
theorem jjP.alloc{w W:World}{text:ByteArray}{a:List Ln}(h:jjP w text a W)(o:Obj):jjP w text a (W.alloc o):=by obtain⟨c,T,p,b,f,d,e⟩:=h;exact⟨c.alloc o,T,p,b,f,d.below ((jnV _ _).alloc (jnT _) o),e⟩
theorem jm4.turned{w W f:World}{text:ByteArray}{c:Code}{b:List Ln}{B k:Nat}(h:jm4 w text c b W)(d:zm B k W f)(o:w.heap.size+3<=B)(p:B+k<=w.heap.size+9):jm4 w text c b f:=by obtain⟨j,a,n,v,m,g,q,i,l,e⟩:=h;exact⟨j,a,n,v,m,g.turned d (by omega),q,i,l,(d.same q e.lt (.inr (by omega))).trans e⟩
theorem jfI{text:List UInt8}{a:List Ln}{p q:PS}{x:Ln}(h:qO text PS.new a=.ok p)(b:zo text p x=.ok q):qO text PS.new (a++[x])=.ok q:=by rw[vq,h];show(match zo text p x with | .error e=>_ | .ok q=>qO text q [])=_;rw[b];rfl
theorem jao{text:List UInt8}{a:List Ln}{p:PS}{e:Nat×Nat}{x:Ln}(h:qO text PS.new a=.ok p)(b:zo text p x=.error e):qO text PS.new (a++[x])=.error e:=by rw[vq,h];show(match zo text p x with | .error e=>_ | .ok q=>qO text q [])=_;rw[b]
theorem jfH{text:List UInt8}{a xs:List Ln}{e:Nat×Nat}(h:qO text PS.new a=.error e)(c:a <+: xs):qO text PS.new xs=.error e:=by obtain⟨b,rfl⟩:=c;rw[vq,h]
end
end Go.Proofs.YtbapfpekklcicaaGreatDoor
