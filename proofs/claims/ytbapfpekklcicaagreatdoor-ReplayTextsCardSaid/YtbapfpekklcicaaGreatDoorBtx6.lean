/- Texts put together:FI,FJ,PF,PG,PH,RH. -/
import Derived.Test.YtbapfpekklcicaaGreatDoorBtx5
set_option linter.unusedVariables false
set_option maxRecDepth 100000
set_option maxHeartbeats 16000000
namespace Go.Proofs.YtbapfpekklcicaaGreatDoor
open Go.RowKit Go.Shelf Tryz
abbrev joP:=@List.getElem?_cons_zero
abbrev jpO:=@Go.Joins.ownsRow_form
theorem vS{c:Func}{p:Tmp}{d:TypeId}(h:c.results=#[.cell p d])(tmps:Array Value)(P:Program)(w:World):
  (results c tmps).run P w=((asAddr (tmps.getD p undef)).run P w).andThen fun a b=>(loadVar d a).run P b:=by
 simp only[results,h];simp[Sem.run_bind,Result.andThen]
theorem jmQ{c:Func}{p:Tmp}(h:c.results=#[.cell p 148])(tmps:Array Value)(w:World)(b:Nat)(a:Array Value)(e:tmps.getD p undef=.pointer (some ⟨b,0,none⟩))
  (d:ja w b 148 a) (f:a.size=2):(results c tmps).run prog w=.ok (.agg a) w:=by
 have L:=run_loadVar_row (P:=prog) w b 148 148 a (0,0) _ d underlying148 rfl (by rw[f];kernel_rfl);rw[vS h,e];show(loadVar _ _).run _ _=_
 exact L
theorem Vu{c:Func}{p u:Tmp}(h:c.results=#[.cell p 148,.tmp u])(tmps:Array Value)(w:World)(b:Nat)(a:Array Value)(e:tmps.getD p undef=.pointer (some ⟨b,0,none⟩))
  (d:ja w b 148 a) (f:a.size=2):(results c tmps).run prog w=.ok (.tuple #[.agg a,tmps.getD u undef]) w:=by
 have L:=run_loadVar_row (P:=prog) w b 148 148 a (0,0) _ d underlying148 rfl (by rw[f];kernel_rfl);rw[results_cell_tmp h,e];show((loadVar _ _).run _ _).andThen _=_
 rw[L];rfl
theorem jb{w w':World}{b N:Nat}{t:TypeId}{a:Array Value}(h:ja w b t a)(d:Below N w w')(c:b<N):ja w' b t a:=(d.block b c).trans h
theorem Qs(c d a b:Value):((#[c,d].setIfInBounds 0 a).setIfInBounds 1 b)=#[a,b]:=by simp[List.setIfInBounds_toArray,List.set]
theorem jiG(a:List UInt8)(r:List (List UInt8))(v:Value)(w:World)(hs:Strs w v ((a::r).map B))(ha:a.length<=100000)(hr:∀l∈r,l.length<=100000/\jm l=3)(ag:jm a=4)(hn:r.length<=100000)
    (hj:(qI (a::r)).length<=100000000) :
    Calls prog 188 #[v] w fun e w'=>e=.returned (zC (before a) (qI (a::r)))/\Below w.heap.size w w':=by
  obtain⟨A,ay,rfl,ah,hc⟩:=hs;have H:=jj8 hc
  obtain⟨b,o,rfl,ae,L⟩:=H 0 a rfl;have PC:=joI (fun(j:Nat) x (hx:r[j]?=some x)=>(show w.cell? ⟨b,o+(j+1),none⟩=some (.string (B x)) by
    obtain⟨b',ax,e,_,h⟩:=H (j+1) x (by simpa using hx);cases e;exact h))
  clear hc H;rw[jo8,joR]at ah ⊢;have V:=fun w=>jjY (B a) (by rw[jg];unfold maxLen;omega) (by rw[jj];exact ag) w
  rw[jmR,jkC]at V;have TS:=fun w=>jkU (qZ a) w
  have HS:Hid (YK (a::r)=vu (qZ a)::r.map (fun l=>zw l.tail)):=rfl;have W:Hid (Lib.join (((vu (qZ a)::r.map (fun l=>zw l.tail)).map B).map (·.data.toList)) [10]=qI (a::r)):=by
    show _=_;unfold qI;rw[<- ja2,HS.out,jqj];congr 1
    conv=>rhs;rw[<- List.map_id (vu (qZ a)::r.map (fun l=>zw l.tail))]
    exact jq4 fun l _=>jj l
  generalize vu (qZ a)=R at *
  generalize qZ a=ac at *
  obtain⟨i0,hi,ar,au,av⟩:=info_parts Xs;rw[jqk]at L;go_enter func188,ntmps188;go_wp2_with fail;refine(V _).mono ?_;rintro e q ⟨rfl,U⟩;go_wp2_with fail;refine(TS _).mono ?_;rintro e w2 ⟨rfl,rfl⟩;have RB:ja q w.heap.size 148 #[.string ⟨#[]⟩,.string ⟨#[]⟩]:=jb (ja.new w _ _) U (by simp)
  have C:Below w.heap.size w q:=((joL _ _).alloc (joJ _) _).trans (U.mono (by simp));have a7:=joI (fun(j:Nat) x (hx:r[j]?=some x)=>(C.cell (p:=⟨b,o+(j+1),none⟩) ae).trans (PC.out j x hx))
  have aj:=U.size;simp only[joZ]at aj;have D:b<q.heap.size:=by omega
  have BW:=joI C;clear U PC L C V TS;have aq:=BW.out.size
  go_wp2_with fail
  all_goals
    go_loopw [6,23] (fun v6 i wr=>∃(k:Nat),k<=r.length/\i=.int .i64 k/\yq wr q.heap.size v6 ((R::(r.take k).map (fun l=>zw l.tail)).map B)/\Below q.heap.size q wr) (fun _ i _=>r.length-(intOf i).toNat)
    case atStart=>exact⟨0,joT _,rfl,yq.one q _ (joJ _) _,(joL _ _).alloc (joJ _) _⟩
    case round =>
    obtain⟨k,aB,rfl,f,J⟩:=hrel;by_cases P:k<r.length
    . first
      | (exfalso;omega)
      | (obtain⟨x,hx⟩:∃x,r[k]?=some x:=⟨_,joM P⟩
         have N:=a7.out k x hx;have O:=(J.cell (p:=⟨b,o+(k+1),none⟩) D).trans N
         rw[show o+(k+1)=o+1+k by omega]at O;obtain⟨aD,Q⟩:=hr x (joW hx);obtain⟨c,d,t,rfl⟩:=jm5 Q;have TK:Hid ((R::(r.take (k+1)).map (fun l=>zw l.tail)).map B=(R::(r.take k).map (fun l=>zw l.tail)).map B++[B (zw (d::t))]):=by show _=_;rw[jpd,hx];simp
         have TD:=fun w=>jiu (d::t) w;have ai:((R::(r.take k).map (fun l=>zw l.tail)).map B).length=k+1:=by simp;omega
         have Z:=joI ai;have am:(B (c::d::t)).size=t.length+2:=by rw[jg];rfl
         have af:=jc7 c (d::t);rw[am]at af;clear hx N Q;generalize (R::(r.take k).map (fun l=>zw l.tail)).map B=ls at *
         generalize zw (d::t)=y at *
         generalize B (c::d::t)=X at *
         generalize B (d::t)=Y at *
         go_wp2_with fail;refine(TD _).mono ?_;rintro e w4 ⟨rfl,rfl⟩;have aC:=J.size
         have HC:=joI (Ue wr (B y) 9);have n:wr.ownsRow q.heap.size 9 1 u6 ls.length (ls.map Value.string):=f
         clear f;go_wp2_with (at_builtin;refine wpList_append_own _ rfl _ _ 158 rfl q.heap.size 9 i0 _ 1 16 underlying158 hi ar au av rfl (by decide) _ _ _ rfl (n.alloc _) ⟨wr.heap.size,0,none⟩ 1 1 _ rfl rfl HC.out ?c2 ?c3 ?c4 ?c5 ?_)
         case c2=>intro u hu;simp at hu;subst hu;rfl
         case c3=>unfold maxLen;omega
         case c4=>omega
         case c5=>simp;omega
         intro v' w5 m I _;obtain⟨g',s,rfl⟩:=ownsRow_succ m;have E:Below q.heap.size q w5:=(J.alloc (by omega) _).grown I (by simp;omega) (fun j ej=>(n.lt j ej).1)
         go_wp2_with fail;go_roundw
         case rel =>
           refine⟨k+1,P,by go_num,?_,E⟩;rw[TK.out];unfold yq;rw[joK,jpt,Z.out];exact m
         case measure=>simp[intOf];omega)
    obtain rfl:k=r.length:=by omega
    rw[jpa]at f;obtain⟨g,s,e⟩:=jpO f (by simp);subst e;have ak:=f.strs
    obtain⟨A',aw,e,z,G⟩:=ak;cases e;have a8:=jb RB J (by omega)
    have JN:=Tryz.strings_Join g 0 s _ ⟨#[10]⟩ wr (fun j x hx=>by obtain⟨b',o',e,_,h⟩:=G j x hx;cases e;exact h) (by obtain⟨b',o',e,h,_⟩:=G 0 _ rfl;cases e;exact h) (by simp;omega) z (by show(Lib.join _ [10]).length<=_;rw[W.out];omega);rw[show(⟨#[10]⟩:ByteArray).data.toList=[10] from rfl,W.out]at JN;simp only[jo8,joR]at JN ⊢;have aA:=J.size
    have aa:=BW.out.trans (J.mono aq);clear f G z W;go_wp2_with fail;refine JN.mono ?_;rintro e w5 ⟨rfl,b5⟩;have K:=jb a8 b5 (by omega)
    have c0:=K.cell 0;have c1:=K.cell 1
    have f0:=K.frozen 0;have f1:=K.frozen 1
    have E:=aa.trans (b5.mono (by omega));simp only[joQ,joP,joO]at c0 c1;rw[mkB];have RE:=(K.set 0 (.string (B (before a)))).set 1 (.string (B (qI (a::r))))
    rw[Qs]at RE;go_wp2_with fail;refine bodyPost_ret (jmQ rfl _ _ w.heap.size _ rfl RE rfl) rfl ?_;exact⟨rfl,(E.setCell (joJ _) _).setCell (joJ _) _⟩
section
attribute [local go_sem] qN jbj jkI
theorem QA{ls:List (List UInt8)}(h:jaf ls=true):∃a r,ls=a::r/\jm a=4/\∀l∈r,jm l=3:=by
 cases ls with
 | nil=>cases h
 | cons a r =>
 refine⟨a,r,rfl,?_⟩;unfold jaf at h;simp only[jpk,beq_iff_eq,jqn]at h;exact h
theorem xX{ls:List (List UInt8)}(h:jaf ls=false):jy ls=2/\jW ls=[]/\jV ls=[]:=by
 have e:jy ls=2:=by unfold jy;rw[h];rfl
 exact⟨e,by unfold jW;rw[e];rfl,by unfold jV;rw[e];rfl⟩
theorem Zg{ls:List (List UInt8)}(h:jaf ls=true)(hl:¬(qI ls).length<=1000):jy ls=6/\jW ls=[]/\jV ls=[]:=by
 have e:jy ls=6:=by unfold jy;rw[h,if_pos rfl,if_neg hl]
 exact⟨e,by unfold jW;rw[e];rfl,by unfold jV;rw[e];rfl⟩
theorem Qu{a:List UInt8}{r:List (List UInt8)}(h:jaf (a::r)=true)(hl:(qI (a::r)).length<=1000):jy (a::r)=0/\jW (a::r)=before a/\jV (a::r)=qI (a::r):=by
 have e:jy (a::r)=0:=by unfold jy;rw[h,if_pos rfl,if_pos hl]
 exact⟨e,by unfold jW;rw[e];rfl,by unfold jV;rw[e];rfl⟩
theorem jfr(a:List UInt8):(before a).length<=a.length:=(jqa _).length_le
theorem jeb(ls:List (List UInt8))(v:Value)(w:World)(hs:Strs w v (ls.map B))(hl:∀l∈ls,l.length<=100000)(U:ls.length<=100000)(hj:(qI ls).length<=1000000):
  Calls prog 146 #[v] w fun e n=>e=.returned (.tuple #[zC (jW ls) (jV ls),Zc (jy ls)])/\Below w.heap.size w n:=by
 have q:=joI (fun(o:Obj)=>(hs.alloc o));cases x:jaf ls with
 | false =>
  obtain⟨I,J,L⟩:=xX x;rw[I,J,L];unfold zC;go_enter func146,ntmps146;go_wp2_with fail;refine(jf9 ls v _ (q.out _) hl U).mono ?_;rw[x];rintro e P ⟨rfl,b⟩;have g:=jb (ja.new w 148 #[.string ⟨#[]⟩,.string ⟨#[]⟩]) b (by simp)
  have G:=g.cell 0;have H:=g.cell 1
  have f0:=g.frozen 0;have f1:=g.frozen 1
  have c:Below w.heap.size w P:=((joL _ _).alloc (joJ _) _).trans (b.mono (by simp));simp only[joQ,joP,joO]at G H;have p:=(g.set 0 (.string ⟨#[]⟩)).set 1 (.string ⟨#[]⟩)
  rw[Qs]at p;clear b q;go_wp2_with fail;refine bodyPost_ret (Vu rfl _ _ w.heap.size _ rfl p rfl) rfl ?_;exact⟨rfl,(c.setCell (joJ _) _).setCell (joJ _) _⟩
 | true =>
 obtain⟨a,r,rfl,O,R⟩:=QA x;have hg:jF (before a)=true:=(jlI O).2.2
 have Q:=hl a (by simp);have a7:=jfr a
 have SD:=fun n (h:Strs n v ((a::r).map B))=>jiG a r v n h Q (fun l hm=>⟨hl l (joU _ hm),R l hm⟩) O (by simp at U;omega) (by omega);have y:=fun n=>Qh (before a) (qI (a::r)) (by omega) hj n
 have N:zh (before a) (qI (a::r))=if (qI (a::r)).length<=1000 then 0 else 6:=by unfold zh;rw[hg];rfl
 rw[N]at y;have s:=fun n (h:Strs n v ((a::r).map B))=>jf9 (a::r) v n h hl U
 rw[x]at s;by_cases d:(qI (a::r)).length<=1000
 ·rw[if_pos d]at y;obtain⟨I,J,L⟩:=Qu x d;rw[I,J,L];unfold zC at *
  generalize B (before a)=K at *
  generalize B (qI (a::r))=V at *
  go_enter func146,ntmps146;go_wp2_with fail;refine(s _ (q.out _)).mono ?_;rintro e P ⟨rfl,b⟩;have E:=(q.out (.cells #[.string ⟨#[]⟩,.string ⟨#[]⟩] 148)).below b (joJ _)
  have g:=jb (ja.new w 148 #[.string ⟨#[]⟩,.string ⟨#[]⟩]) b (by simp);have c:Below w.heap.size w P:=((joL _ _).alloc (joJ _) _).trans (b.mono (by simp))
  have u:=b.size;simp only[joZ]at u;clear b q;go_wp2_with fail;refine(SD _ E).mono ?_;rintro e Z ⟨rfl,k⟩;have D:=jb g k (by omega)
  have i:=c.trans (k.mono (by omega));have W:=k.size
  clear k g E c;have A:=ja.new Z 148 #[.string K,.string V]
  have C:=D.alloc (.cells #[.string K,.string V] 148);have j:=i.alloc (by omega) (.cells #[.string K,.string V] 148)
  go_wp2_with fail;refine(y _).mono ?_;rintro e w4 ⟨rfl,m⟩;have z:=jb A m (by simp)
  have f:=jb C m (by simp;omega);have t:=j.trans (m.mono (by simp;omega))
  have X:=z.cell 0;have Y:=z.cell 1
  have G:=f.cell 0;have H:=f.cell 1
  have f0:=f.frozen 0;have f1:=f.frozen 1
  simp only[joQ,joP,joO]at G H X Y;have p:=(f.set 0 (.string K)).set 1 (.string V)
  rw[Qs]at p;clear m A C D j i;go_wp2_with fail;refine bodyPost_ret (Vu rfl _ _ w.heap.size _ rfl p rfl) rfl ?_;exact⟨rfl,(t.setCell (joJ _) _).setCell (joJ _) _⟩
 rw[if_neg d]at y;obtain⟨I,J,L⟩:=Zg x d;rw[I,J,L];unfold zC at *
 generalize B (before a)=K at *
 generalize B (qI (a::r))=V at *
 go_enter func146,ntmps146;go_wp2_with fail;refine(s _ (q.out _)).mono ?_;rintro e P ⟨rfl,b⟩;have E:=(q.out (.cells #[.string ⟨#[]⟩,.string ⟨#[]⟩] 148)).below b (joJ _)
 have g:=jb (ja.new w 148 #[.string ⟨#[]⟩,.string ⟨#[]⟩]) b (by simp);have c:Below w.heap.size w P:=((joL _ _).alloc (joJ _) _).trans (b.mono (by simp))
 have u:=b.size;simp only[joZ]at u;clear b q;go_wp2_with fail;refine(SD _ E).mono ?_;rintro e Z ⟨rfl,k⟩;have D:=jb g k (by omega)
 have i:=c.trans (k.mono (by omega));have W:=k.size
 clear k g E c;have A:=ja.new Z 148 #[.string K,.string V]
 have C:=D.alloc (.cells #[.string K,.string V] 148);have j:=i.alloc (by omega) (.cells #[.string K,.string V] 148)
 go_wp2_with fail;refine(y _).mono ?_;rintro e w4 ⟨rfl,m⟩;have z:=jb A m (by simp)
 have f:=jb C m (by simp;omega);have t:=j.trans (m.mono (by simp;omega))
 have X:=z.cell 0;have Y:=z.cell 1
 have G:=f.cell 0;have H:=f.cell 1
 have f0:=f.frozen 0;have f1:=f.frozen 1
 simp only[joQ,joP,joO]at G H X Y;have p:=(f.set 0 (.string ⟨#[]⟩)).set 1 (.string ⟨#[]⟩)
 rw[Qs]at p;clear m A C D j i;go_wp2_with fail;refine bodyPost_ret (Vu rfl _ _ w.heap.size _ rfl p rfl) rfl ?_;exact⟨rfl,(t.setCell (joJ _) _).setCell (joJ _) _⟩
end
section
attribute [local go_sem] qN
def jB(lo:Nat)(w:World)(e:Value)(at_ n:Nat):Prop:=∃q,lo<=q/\e=.iface 87 (.pointer (some ⟨q,0,none⟩))/\ja w q 90 #[.int .i64 at_,Zc n]
theorem jB.below{lo:Nat}{w w':World}{e:Value}{a n N:Nat}(h:jB lo w e a n)(g:Below N w w')(f:w.heap.size<=N):jB lo w' e a n:=by obtain⟨q,c,d,b⟩:=h;exact⟨q,c,d,(g.block q (jo4 b.lt f)).trans b⟩
theorem jB.mono{lo b:Nat}{w:World}{e:Value}{a n:Nat}(h:jB lo w e a n)(hl:b<=lo):jB b w e a n:=by obtain⟨q,c,d,f⟩:=h;exact⟨q,jpg hl c,d,f⟩
theorem jB.new(w:World)(a n lo q:Nat)(b:w.heap.size=q)(hl:lo<=q):jB lo (w.alloc (.cells #[.int .i64 a,Zc n] 90)) (.iface 87 (.pointer (some ⟨q,0,none⟩))) a n:=by subst b;exact⟨w.heap.size,hl,rfl,ja.new _ _ _⟩
theorem jJ.field{w w':World}{T:Nat->Nat}{R b:Nat}{text:ByteArray}{p p':PS}{V:PV}(h:jJ w T R b text p V)(D:R<=w.heap.size)(d:Value)
  (E:ja w' b 162 (yx p' text (.slice none 0 0) V.v3 d)) (G:w'.ownsRow 0 148 2 d p'.fields.length (ju p'.fields)) (f:xQ w.heap.size w'.heap.size V.v6.ownBlock d.ownBlock)
  (x:jH (fun r=>r=b\/some r=V.v6.ownBlock) w w') (m:p'.items=p.items) (A:p'.said=[]) :
  ∃y,jJ w' y R b text p' {V with v1:=.slice none 0 0,v6:=d}/\zV w T w' y:=by
 have H:∀k,T k≠0->T k≠1->T k≠4->w'.heap[k]?=w.heap[k]?:=fun k n g q=>x.same k (h.low k n).2 (by
  rintro(e|e)
  ·exact g (by rw[e];exact h.tp)
  exact q (h.t6 k e.symm))
 have s:∀{o:Option Nat} {t:Nat},qy T o t->t≠0->t≠1->t≠4->∀k,o=some k->w'.heap[k]?=w.heap[k]?:=fun l n g C k f=>H k (by rw[l k f];exact n) (by rw[l k f];exact g) (by rw[l k f];exact C);have z:∀{o:Option Nat} {t:Nat},qy T o t->t≠0->∀k,o=some k->k<w.heap.size:=fun l u k f=>(h.low k (by rw[l k f];exact u)).2
 refine⟨Kj T w.heap.size d.ownBlock 4,⟨E,by rw[yj h.lt];exact h.tp,?_,(fun k f=>by cases f),?_,qz h.t3 (z h.t3 (by decide)),G,QB f h.t6,by rw[m];exact h.nf,fun i I v g q => ?_,QK h.low x.size D f h.t6 (by decide)⟩,
  ⟨x.mono fun r j e => ?_,fun r j=>by rw[yj j]⟩⟩
 ·rw[A];exact⟨by simp[vg],.inl ⟨rfl,rfl⟩⟩
 ·rw[m];exact jU h.r3 (s h.t3 (by decide) (by decide) (by decide))
 ·obtain⟨a,c⟩:=h.rf i I v (by rw[<- m];exact g) q;exact⟨jU a (s c (by decide) (by decide) (by decide)),qz c (z c (by decide))⟩
 rcases e with e|e
 ·rw[e,h.tp];decide
 rw[h.t6 r e.symm];decide
theorem jJ.strs{w:World}{T:Nat->Nat}{R b:Nat}{text:ByteArray}{p:PS}{V:PV}(h:jJ w T R b text p V):Strs w V.v1 (p.said.map B):=by refine yq.strs (base:=0) ?_;unfold yq;rw[jo8,jqj];exact h.r1
theorem jjo:(prog.info? 148).map (fun i=>(i.zero,i.size,i.bytes))=some (some (.agg #[.string ⟨#[]⟩,.string ⟨#[]⟩]),2,32):=by kernel_rfl
def qF(w:World)(T:Nat->Nat)(R b:Nat)(text:ByteArray)(p:PS)(e:Ending)(w':World):Prop :=
 if ji p=0 then e=.returned .nilIface/\∃T',jK w' T' R b text (jd p)/\zV w T w' T'
 else ∃v,e=.returned v/\jB w.heap.size w' v p.begin_ (ji p)/\Below w.heap.size w w'
theorem qF.no{w:World}{T:Nat->Nat}{R b:Nat}{text:ByteArray}{p:PS}{v:Value}{w':World}(h:ji p≠0)(a:jB w.heap.size w' v p.begin_ (ji p))(c:Below w.heap.size w w'):qF w T R b text p (.returned v) w':=by unfold qF;rw[if_neg h];exact⟨v,rfl,a,c⟩
theorem qF.yes{w:World}{T T':Nat->Nat}{R b:Nat}{text:ByteArray}{p:PS}{w':World}(h:ji p=0)(a:jK w' T' R b text (jd p))(c:zV w T w' T'):qF w T R b text p (.returned .nilIface) w':=by unfold qF;rw[if_pos h];exact⟨rfl,T',a,c⟩
theorem VR{w:World}{T:Nat->Nat}{R b:Nat}{text:ByteArray}{p:PS}(h:jK w T R b text p)(hR:R<=w.heap.size)(o:(p.said.map List.length).sum+p.said.length<=90000)(hf:p.fields.length<=1000000):
  Calls prog 84 #[.pointer (some ⟨b,0,none⟩)] w fun e w'=>qF w T R b text p e w':=by
 obtain⟨V,h⟩:=h;by_cases Q:p.said=[]
 ·have h0:ji p=0:=by unfold ji;rw[if_pos Q]
  have hp:jd p=p:=by unfold jd;rw[if_pos Q]
  have U:=yJ h;rw[show(!p.said.isEmpty)=false by rw[Q];rfl]at U;have d:qF w T R b text p (.returned .nilIface) w:=.yes h0 (by rw[hp];exact⟨V,h⟩) (zV.refl _ _)
  clear h o;go_enter func84,ntmps84;go_wp2_with fail;refine U.mono ?_;rintro e f ⟨rfl,rfl⟩;go_wp2;go_ret;exact d
 have U:=yJ h;rw[show(!p.said.isEmpty)=true by cases hq:p.said with | nil=>exact absurd hq Q | cons a r=>rfl]at U;obtain⟨a1,c1,e1,_⟩:=je h.r1;have q1:w.cell? ⟨b,1,none⟩=some (.slice a1 p.said.length c1):=by rw[<- e1];exact h.cells.cell 1
 have a7:p.said.length<=100000:=by omega
 have i:∀l∈p.said,l.length<=100000:=fun l hm=>by have:=ja1 _ _ hm;omega
 have N:=ZJ p.said;have t:=jeb p.said V.v1 w h.strs i a7 (by omega)
 rw[e1]at t;have m:ji p=if jy p.said≠0 then jy p.said else if vU p then 11 else 0:=by unfold ji;rw[if_neg Q]
 have aw:=Qv p.said;have H:=joI h
 by_cases G:jy p.said=0
 ·rw[G,if_neg (by simp)]at m;rw[G]at t;rw[qN]at t;have W:=joI (fun w' (hb:Below w.heap.size w w')=>jjB (H.out.below hb))
  cases j:vU p with
  | true =>
   rw[j,if_pos rfl]at m;have d:=joI (fun v w' X O=>qF.no (w:=w) (T:=T) (R:=R) (b:=b) (text:=text) (p:=p) (v:=v) (w':=w') (by rw[m];decide) X O)
   rw[m]at d;rw[j]at W;generalize jW p.said=K at *
   generalize jV p.said=Z at *
   unfold zC at t;clear h o i N;go_enter func84,ntmps84;go_wp2_with fail;refine U.mono ?_;rintro e f ⟨rfl,rfl⟩;go_wp2_with fail;refine t.mono ?_;rintro e f ⟨rfl,q⟩;have x:=q.size
   go_wp2_with fail;have hP:=H.out.below q
   have r0:f.cell? ⟨b,0,none⟩=some (.int .i64 p.begin_):=hP.cells.cell 0;have A:=hP.lt
   have y:=q.alloc x (.cells #[.string (B K),.string (B Z)] 148);have z:=W.out _ y
   go_wp2_with fail;refine z.mono ?_;rintro e D ⟨rfl,rfl⟩;have r1:(f.alloc (.cells #[.string (B K),.string (B Z)] 148)).cell? ⟨b,0,none⟩=some (.int .i64 p.begin_):=by rw[jqX _ _ _ (jqY A)];exact r0
   go_wp2;go_ret;exact d.out _ _ (jB.new _ _ 11 _ (f.heap.size+1) (by simp) (by omega)) (y.alloc (by simp;omega) _)
  | false =>
  rw[j,if_neg (by simp)]at m;have e0:jd p={p with fields:=p.fields++[(jW p.said,jV p.said)],said:=[]}:=by unfold jd;rw[if_neg Q]
  have d:=joI (fun T' w' X O=>qF.yes (w:=w) (T:=T) (T':=T') (R:=R) (b:=b) (text:=text) (p:=p) (w':=w') m X O);rw[e0]at d;rw[j]at W;generalize jW p.said=K at *
  generalize jV p.said=Z at *
  unfold zC at t;obtain⟨i0,hi,ai,aj,ak⟩:=info_parts jjo;obtain⟨a6,c6,e6,_⟩:=je h.r6;clear h o i N e0;go_enter func84,ntmps84;go_wp2_with fail;refine U.mono ?_;rintro e f ⟨rfl,rfl⟩;go_wp2_with fail;refine t.mono ?_;rintro e f ⟨rfl,q⟩;have x:=q.size
  have hP:=H.out.below q;have A:=hP.lt
  have y:=q.alloc x (.cells #[.string (B K),.string (B Z)] 148);have z:=W.out _ y
  go_wp2_with fail;refine z.mono ?_;rintro e D ⟨rfl,rfl⟩;have I:=joI (H.out.below y)
  have g0:(f.alloc (.cells #[.string (B K),.string (B Z)] 148)).cell? ⟨f.heap.size,0,none⟩=some (.string (B K)):=(ja.new _ _ _).cell 0;have g1:(f.alloc (.cells #[.string (B K),.string (B Z)] 148)).cell? ⟨f.heap.size,1,none⟩=some (.string (B Z)):=(ja.new _ _ _).cell 1
  have aq:f.heap.size<(f.alloc (.cells #[.string (B K),.string (B Z)] 148)).heap.size:=by simp
  have B2:=joI y;have a8:w.heap.size<=(f.alloc (.cells #[.string (B K),.string (B Z)] 148)).heap.size:=y.size
  clear W z t U hP q y;generalize f.alloc (.cells #[.string (B K),.string (B Z)] 148)=D at *
  generalize f.heap.size=bx at *
  have av:=I.out.lt;have q6:D.cell? ⟨b,6,none⟩=some (.slice a6 p.fields.length c6):=by rw[<- e6];exact I.out.cells.cell 6
  have HC:=joI I.out.cells;have HO:=joI I.out.r6
  have HE:=joI (Zj (w:=D) I.out.tp I.out.t6 (by decide));rw[e6]at HO HE;have HF:=joI (fun w' am Y hr E P=>jJ.field (p':={p with fields:=p.fields++[(K,Z)],said:=[]}) I.out (jpg hR a8) (w':=w') am Y hr E P rfl rfl)
  go_wp2;go_cut [] (fun wx=>∃s c,ja wx b 162 (yx p text V.v1 V.v3 (.slice (some ⟨s,0,none⟩) (p.fields.length+1) c)) /\
   wx.ownsRow 0 148 2 (.slice (some ⟨s,0,none⟩) (p.fields.length+1) c) (p.fields.length+1) (ju p.fields++[.string (B K),.string (B Z)]) /\
   xQ D.heap.size wx.heap.size V.v6.ownBlock (Value.slice (some ⟨s,0,none⟩) (p.fields.length+1) c).ownBlock/\s≠b/\jH (fun r=>r=b\/some r=V.v6.ownBlock) D wx)
  case first =>
   go_region_law ((refine zb rfl (.tmp 41) (.tmp 43) 73 rfl 148 i0 _ 2 32 underlying73 hi ai aj ak rfl (by decide) (.slice a6 p.fields.length c6) p.fields.length (ju p.fields) (by simp[Act.eval]) (by exact(HO.out.alloc _).drew) ⟨D.heap.size,0,none⟩ 1 1 [.string (B K),.string (B Z)] (by simp[Act.eval]) rfl (jp D 148 [.string (B K),.string (B Z)]) (by intro u G;simp at G;rcases G with rfl | rfl<;>rfl) (by unfold maxLen;omega) (by omega) ?_);intro v' w' P ag af;obtain⟨⟨s,c,rfl⟩,L,au,E,aa⟩:=xN HC.out HO.out HE.out (((joL _ D).alloc (joJ _) _).drew) P ag af;have ax:w'.cell? ⟨b,6,none⟩=some V.v6:=L.cell 6;have ar:=L.frozen 6)
   all_goals
    go_wp2;go_meet;have C:s≠b:=by
     intro e;rcases E with h|⟨k,h,O,_⟩
     ·exact HE.out (h.symm.trans (by rw[e];rfl))
     have hh:s=k:=joN (show some s=some k from h);omega
    rw[<- e6]at E aa;refine⟨s,c,?_,js (p:=⟨b,6,none⟩) P (fun e=>C (by cases e;rfl)) _,?_,C,(aa.mono (fun r _ h=>.inr h)).setCell (p:=⟨b,6,none⟩) (.inl (.inl rfl)) _⟩
    ·simpa [yx]using L.set 6 (.slice (some ⟨s,0,none⟩) (p.fields.length+1) c)
    unfold xQ;simpa [World.setCell]using E
  case rest =>
  obtain⟨s,c,Y,hr,E,C,P⟩:=hcut;have k1:wc.cell? ⟨b,1,none⟩=some V.v1:=Y.cell 1
  have ay:=Y.frozen 1;rw[e1]at k1;go_wp2;go_ret;refine Exists.elim (HF.out _ (.slice (some ⟨s,0,none⟩) (p.fields.length+1) c) ?k1 ?k2 ?k3 ?k4) fun T' g=>d.out T' _ ⟨_,g.1⟩ ((zV.below B2.out).trans g.2)
  case k1=>simpa [yx]using Y.set 1 (.slice none 0 0)
  case k2 =>
   rw[XQ,joK];exact js (p:=⟨b,1,none⟩) hr (fun e=>C (by cases e;rfl)) _
  case k3=>unfold xQ at E ⊢;simpa [World.setCell]using E
  case k4=>exact P.setCell (p:=⟨b,1,none⟩) (.inl (.inl rfl)) _
 rw[if_pos G]at m;have ah:0<jy p.said:=jqp G
 have d:=joI (fun v w' X O=>qF.no (w:=w) (T:=T) (R:=R) (b:=b) (text:=text) (p:=p) (v:=v) (w':=w') (by rw[m];exact G) X O);rw[m]at d;have J:=zf _ ah
 have ae:=joI J;rw[J]at t;generalize jy p.said=n at *
 generalize jW p.said=K at *
 generalize jV p.said=Z at *
 unfold zC at t;clear h o i N J;go_enter func84,ntmps84;go_wp2_with fail;refine U.mono ?_;rintro e f ⟨rfl,rfl⟩;go_wp2_with fail;refine t.mono ?_;rintro e f ⟨rfl,q⟩;have x:=q.size
 have hP:=H.out.below q;have r0:f.cell? ⟨b,0,none⟩=some (.int .i64 p.begin_):=hP.cells.cell 0
 have A:=hP.lt;have y:=q.alloc x (.cells #[.string (B K),.string (B Z)] 148)
 have r1:(f.alloc (.cells #[.string (B K),.string (B Z)] 148)).cell? ⟨b,0,none⟩=some (.int .i64 p.begin_):=by rw[jqX _ _ _ (jqY A)];exact r0
 go_wp2;go_ret;rw[<- ae.out];exact d.out _ _ (jB.new _ _ n _ (f.heap.size+1) (by simp) (by omega)) (y.alloc (by simp;omega) _)
end
section
attribute [local go_sem] qN jbj
def JT(w:World)(T:Nat->Nat)(R b:Nat)(text:ByteArray)(p:PS)(x:Ln)(e:Ending)(w':World):Prop :=
 match zq text.data.toList p x with
 | .error (a,n)=>∃v,e=.returned v/\jB w.heap.size w' v a n/\jH (fun r=>T r≠0) w w'
 | .ok q=>e=.returned .nilIface/\∃T',jK w' T' R b text q/\zV w T w' T'
theorem JT.no{w:World}{T:Nat->Nat}{R b:Nat}{text:ByteArray}{p:PS}{x:Ln}{v:Value}{w':World}{a n:Nat}(h:zq text.data.toList p x=.error (a,n))(c:jB w.heap.size w' v a n)(d:jH (fun r=>T r≠0) w w'):JT w T R b text p x (.returned v) w':=by unfold JT;rw[h];exact⟨v,rfl,c,d⟩
theorem JT.yes{w:World}{T T':Nat->Nat}{R b:Nat}{text:ByteArray}{p q:PS}{x:Ln}{w':World}(h:zq text.data.toList p x=.ok q)(a:jK w' T' R b text q)(c:zV w T w' T'):JT w T R b text p x (.returned .nilIface) w':=by unfold JT;rw[h];exact⟨rfl,T',a,c⟩
theorem jkE{w:World}{T:Nat->Nat}{R b:Nat}{text:ByteArray}{p:PS}(h:jK w T R b text p):T w.heap.size=0:=by
 obtain⟨V,h⟩:=h;rcases Nat.decEq (T w.heap.size) 0 with e|e
 ·have:=(h.low _ e).2;omega
 exact e
theorem jK.lt{w:World}{T:Nat->Nat}{R b:Nat}{text:ByteArray}{p:PS}(h:jK w T R b text p):b<w.heap.size:=by obtain⟨V,h⟩:=h;exact h.lt
theorem Qc{w k:World}{T l:Nat->Nat}{R b:Nat}{text:ByteArray}{p q:PS}(h:jK k l R b text q)(o:zV w T k l)(t:R<=w.heap.size)(i:(q.said.map List.length).sum+q.said.length<=90000)(u:q.fields.length<=1000000):
  Calls prog 84 #[.pointer (some ⟨b,0,none⟩)] k fun e c =>
   if ji q=0 then e=.returned .nilIface/\∃d,jK c d R b text (jd q)/\zV w T c d/\zV k l c d
   else ∃v,e=.returned v/\jB w.heap.size c v q.begin_ (ji q)/\jH (fun r=>T r≠0) w c/\v ≠ .nilIface/\∃a,v=.iface 87 (.pointer a):=by
 have s:=o.only.size;refine(VR h (jpg t s) i u).mono fun e c g => ?_;unfold qF at g;split
 ·rename_i n;rw[if_pos n]at g;obtain⟨m,d,f,j⟩:=g;exact⟨m,d,f,o.trans j,j⟩
 rename_i n;rw[if_neg n]at g;obtain⟨v,m,f,j⟩:=g;refine⟨v,m,f.mono s,o.only.below j s,?_,?_⟩
 ·obtain⟨q,_,e,_⟩:=f;rw[e];intro h;cases h
 obtain⟨q,_,e,_⟩:=f;exact⟨_,e⟩
theorem jkW{w:World}{T:Nat->Nat}{R b:Nat}{text:ByteArray}{p:PS}(h:jK w T R b text p)(hR:R<=w.heap.size)(x:Ln)(Z:Inv p x.at_)(hx:x.at_+x.text.length+1<=70000)(ae:x.no<=x.at_)(G:vl p x=true):
  Calls prog 83 #[.pointer (some ⟨b,0,none⟩),.agg #[.int .i64 x.no,.int .i64 x.at_,.string (B x.text),.bool x.ended]] w fun e w'=>JT w T R b text p x e w':=by
 have hk:jm x.text=3:=by unfold vl at G;simp at G;exact G.1
 have hu:(!p.said.isEmpty)=true:=by unfold vl at G;simp at G;simp[G.2]
 have K:∀w,Calls prog 141 #[.string (B x.text)] w fun e w'=>e=.returned (.int .i64 3)/\Below w.heap.size w w':=fun w=>by have:=ZT (B x.text) (by rw[jg];unfold maxLen;omega) w;rw[jj,hk]at this;exact this
 have D:=zV.below (T:=T) ((joL w.heap.size w).alloc (joJ _) (.cells #[.int .i64 x.no,.int .i64 x.at_,.string (B x.text),.bool x.ended] 157));have c0:=ja.new w 157 #[.int .i64 x.no,.int .i64 x.at_,.string (B x.text),.bool x.ended]
 have l0:=jkE h;have hw:zx p x=JR p x:=by unfold zx;rw[if_pos G];rfl
 have l:zQ p x = !x.ended:=by unfold zQ;rw[hk,G];simp
 have j:ve p x = !x.ended:=by unfold ve;rw[l,G];simp
 have hb:=Z.said;have r:((JR p x).said.map List.length).sum+(JR p x).said.length<=90000:=by simp[JR];omega
 have E:(JR p x).fields.length<=1000000:=by have:=Z.fields;show p.fields.length<=_;omega
 have hn:p.said.length<=1000000:=by omega
 have O:=joI (fun c (T1:Nat->Nat) C (g:jJ c T1 R b text p C) a7=>jjy g a7 x hn);have EF:=joI (fun c T1 (g:jK c T1 R b text (JR p x)) (s:zV w T c T1)=>Qc (p:=p) g s hR r E)
 have H:=joI h;have J:=joI c0
 have f:=joI D;cases o:x.ended with
 | true =>
  rw[o]at l j;simp only[Bool.not_true]at l j;have u:=joI (fun T' w' W X=>JT.yes (w:=w) (T:=T) (T':=T') (R:=R) (b:=b) (text:=text) (p:=p) (q:=JR p x) (x:=x) (w':=w') (by unfold zq;rw[j,l];simp[qT,j,JK,hk,hw]) W X)
  rw[o]at O J f;clear h c0 D Z EF r E hb;go_enter func83,ntmps83;go_wp2_with fail;refine(K _).mono ?_;rintro e c ⟨rfl,m⟩;have A:=f.out.trans (zV.below m)
  have i:jK c T R b text p:=(H.out.below ((joL _ _).alloc (joJ _) _)).below m;obtain⟨C,i⟩:=i;have d:=jb J.out m (by simp)
  have z:=A.only.size;have k:R<=c.drew.heap.size:=jpg hR z
  clear m H J f;go_wp2_with fail;refine(yJ i).mono ?_;rw[hu];rintro e L ⟨rfl,rfl⟩;have d0:c.cell? ⟨w.heap.size,0,none⟩=some (.int .i64 x.no):=d.cell 0
  have d1:c.cell? ⟨w.heap.size,1,none⟩=some (.int .i64 x.at_):=d.cell 1;have d2:c.cell? ⟨w.heap.size,2,none⟩=some (.string (B x.text)):=d.cell 2
  have U:c.cell? ⟨w.heap.size,3,none⟩=some (.bool true):=d.cell 3;have y:Hid (jJ c.drew T R b text p C):=i.same (fun _ _=>rfl) (joJ _)
  have t:Hid (ja c.drew w.heap.size 157 _):=d;have P:Hid (zV w T c.drew T):=A.drewN 1
  clear i d A;go_wp2;go_region_with (go_at_call 143;refine(O.out _ T C y.out k).mono ?_;rintro e L ⟨rfl,Q,V,I⟩;have N:=t.out.only I.only (fun e=>e l0);have U:L.cell? ⟨w.heap.size,3,none⟩=some (.bool true):=N.cell 3)
  all_goals
   go_wp2;go_ret;exact u.out Q _ V (P.out.trans I)
 | false =>
 rw[o]at l j;simp only[Bool.not_false]at l j;rw[o]at O J f;by_cases h0:ji (JR p x)=0
 ·have u:=joI (fun v w' W X=>JT.no (w:=w) (T:=T) (R:=R) (b:=b) (text:=text) (p:=p) (x:=x) (v:=v) (w':=w') (a:=x.no) (n:=2) (by unfold zq;rw[j,l,hw,h0];simp) W X);clear h c0 D Z r E hb;go_enter func83,ntmps83;go_wp2_with fail;refine(K _).mono ?_;rintro e c ⟨rfl,m⟩;have A:=f.out.trans (zV.below m)
  have i:jK c T R b text p:=(H.out.below ((joL _ _).alloc (joJ _) _)).below m;obtain⟨C,i⟩:=i;have d:=jb J.out m (by simp)
  have z:=A.only.size;have k:R<=c.drew.heap.size:=jpg hR z
  clear m H J f;go_wp2_with fail;refine(yJ i).mono ?_;rw[hu];rintro e L ⟨rfl,rfl⟩;have d0:c.cell? ⟨w.heap.size,0,none⟩=some (.int .i64 x.no):=d.cell 0
  have d1:c.cell? ⟨w.heap.size,1,none⟩=some (.int .i64 x.at_):=d.cell 1;have d2:c.cell? ⟨w.heap.size,2,none⟩=some (.string (B x.text)):=d.cell 2
  have U:c.cell? ⟨w.heap.size,3,none⟩=some (.bool false):=d.cell 3;have lz:=d.lt
  have y:Hid (jJ c.drew T R b text p C):=i.same (fun _ _=>rfl) (joJ _);have t:Hid (ja c.drew w.heap.size 157 _):=d
  have P:Hid (zV w T c.drew T):=A.drewN 1;clear i d A;go_wp2;go_region_with (go_at_call 143;refine(O.out _ T C y.out k).mono ?_;rintro e L ⟨rfl,Q,V,I⟩;have N:=t.out.only I.only (fun e=>e l0);have U:L.cell? ⟨w.heap.size,3,none⟩=some (.bool false):=N.cell 3)
  all_goals
   go_wp2_with fail;refine(EF.out _ Q V (P.out.trans I)).mono ?_;rintro e w3 Y;rw[if_pos h0]at Y;obtain⟨rfl,T3,g3,s3,a8⟩:=Y;have C3:=N.only a8.only (fun e=>e ((I.old _ lz).2 l0))
   have aa:w3.cell? ⟨w.heap.size,0,none⟩=some (.int .i64 x.no):=C3.cell 0;have af:=C3.lt
   go_wp2;go_ret;exact u.out _ _ (jB.new _ _ 2 _ w3.heap.size rfl (by omega)) (s3.only.alloc _)
 have u:=joI (fun v w' W X=>JT.no (w:=w) (T:=T) (R:=R) (b:=b) (text:=text) (p:=p) (x:=x) (v:=v) (w':=w') (a:=(JR p x).begin_) (n:=ji (JR p x)) (by unfold zq;rw[j,hw,if_pos ⟨rfl,h0⟩]) W X);clear h c0 D Z r E hb;go_enter func83,ntmps83;go_wp2_with fail;refine(K _).mono ?_;rintro e c ⟨rfl,m⟩;have A:=f.out.trans (zV.below m)
 have i:jK c T R b text p:=(H.out.below ((joL _ _).alloc (joJ _) _)).below m;obtain⟨C,i⟩:=i;have d:=jb J.out m (by simp)
 have z:=A.only.size;have k:R<=c.drew.heap.size:=jpg hR z
 clear m H J f;go_wp2_with fail;refine(yJ i).mono ?_;rw[hu];rintro e L ⟨rfl,rfl⟩;have d0:c.cell? ⟨w.heap.size,0,none⟩=some (.int .i64 x.no):=d.cell 0
 have d1:c.cell? ⟨w.heap.size,1,none⟩=some (.int .i64 x.at_):=d.cell 1;have d2:c.cell? ⟨w.heap.size,2,none⟩=some (.string (B x.text)):=d.cell 2
 have U:c.cell? ⟨w.heap.size,3,none⟩=some (.bool false):=d.cell 3;have y:Hid (jJ c.drew T R b text p C):=i.same (fun _ _=>rfl) (joJ _)
 have t:Hid (ja c.drew w.heap.size 157 _):=d;have P:Hid (zV w T c.drew T):=A.drewN 1
 clear i d A;go_wp2;go_region_with (go_at_call 143;refine(O.out _ T C y.out k).mono ?_;rintro e L ⟨rfl,Q,V,I⟩;have N:=t.out.only I.only (fun e=>e l0);have U:L.cell? ⟨w.heap.size,3,none⟩=some (.bool false):=N.cell 3)
 all_goals
  go_wp2_with fail;refine(EF.out _ Q V (P.out.trans I)).mono ?_;rintro e w3 Y;rw[if_neg h0]at Y;obtain⟨v,rfl,f3,o3,_,a3,rfl⟩:=Y;go_wp2;go_ret;exact u.out _ _ f3 o3
theorem ZU(l:List UInt8):jm l=1\/jm l=2\/jm l=3\/jm l=4\/jm l=5:=by
 unfold jm;split;· simp
 split;· simp
 split;· simp
 split;· simp
 split<;>simp
theorem jiy{w:World}{T:Nat->Nat}{R b:Nat}{text:ByteArray}{p:PS}(h:jK w T R b text p)(hR:R<=w.heap.size)(x:Ln)(Z:Inv p x.at_)(hx:x.at_+x.bytes.length<=text.size)(ht:text.size<=70000)(ar:x.no<=x.at_)(z:vl p x=false):
  Calls prog 83 #[.pointer (some ⟨b,0,none⟩),.agg #[.int .i64 x.no,.int .i64 x.at_,.string (B x.text),.bool x.ended]] w fun e w'=>JT w T R b text p x e w':=by
 have aq:x.text.length<=x.bytes.length:=by unfold Ln.bytes;simp
 have K:∀w,Calls prog 141 #[.string (B x.text)] w fun e w'=>e=.returned (.int .i64 (jm x.text:Nat))/\Below w.heap.size w w':=fun w=>by have:=ZT (B x.text) (by rw[jg];unfold maxLen;omega) w;rw[jj]at this;exact this
 have hu:jm x.text=3->(!p.said.isEmpty)=false:=by intro h3;unfold vl at z;rw[h3]at z;simpa using z
 have hl:=h.lt;have l0:=jkE h
 have H:=joI h;have C0:=joI (ja.new w 157 #[.int .i64 x.no,.int .i64 x.at_,.string (B x.text),.bool x.ended])
 have t:=joI (zV.below (T:=T) ((joL w.heap.size w).alloc (joJ _) (.cells #[.int .i64 x.no,.int .i64 x.at_,.string (B x.text),.bool x.ended] 157)));have hw:zx p x=p:=by unfold zx;rw[z];rfl
 have m:ve p x=true:=by unfold ve;rw[z];simp
 have ae:qT p x=jd p:=by unfold qT;rw[m,if_pos rfl,hw]
 have hb:=Z.said;have Q:p.fields.length<=1000000:=by have:=Z.fields;omega
 have EF:=joI (fun r T1 (g:jK r T1 R b text p) (s:zV w T r T1)=>Qc (p:=p) g s hR (by omega) Q);have a7:=joI Z
 have HX:=joI hx;clear h Z hb Q hx;rcases ZU x.text with j|j|j|j|j
 all_goals cases f:x.ended
 all_goals
  rw[j]at K;rw[f]at C0 t;go_enter func83,ntmps83;go_wp2_with fail;refine(K _).mono ?_;rintro e r ⟨rfl,X⟩;have s1:=t.out.trans (zV.below X)
  have W:jK r T R b text p:=(H.out.below ((joL _ _).alloc (joJ _) _)).below X;have l1:=W.lt
  have E:=jb C0.out X (by simp);have au:=s1.only.size
  have d0:r.cell? ⟨w.heap.size,0,none⟩=some (.int .i64 x.no):=E.cell 0;have d1:r.cell? ⟨w.heap.size,1,none⟩=some (.int .i64 x.at_):=E.cell 1
  have d2:r.cell? ⟨w.heap.size,2,none⟩=some (.string (B x.text)):=E.cell 2;have d3:r.cell? ⟨w.heap.size,3,none⟩=_:=E.cell 3
  simp only[joQ,joP,joO]at d3;have lz:=E.lt
  clear X H C0 t;go_wp2_with fail
  try (have h3:jm x.text=3:=j;obtain⟨V1,u⟩:=W;refine(yJ u).mono ?_;rw[hu j];rintro e w2 ⟨rfl,rfl⟩;replace W:jK r T R b text p:=⟨V1,u⟩;clear u;go_wp2_with fail)
  refine(EF.out _ T W s1).mono ?_;rintro e i Y;by_cases P:ji p=0;rotate_left
  ·have c:=joI (fun v w' L N=>JT.no (w:=w) (T:=T) (R:=R) (b:=b) (text:=text) (p:=p) (x:=x) (v:=v) (w':=w') (a:=p.begin_) (n:=ji p) (by unfold zq;rw[m,hw,if_pos ⟨rfl,P⟩]) L N);rw[if_neg P]at Y;obtain⟨v,rfl,f3,o3,_,a3,rfl⟩:=Y;go_wp2;go_ret;exact c.out _ _ f3 o3
 all_goals
  rw[if_pos P]at Y;obtain⟨rfl,l,y,D,C⟩:=Y;have G:=E.only C.only (fun e=>e (l0))
  have ag:i.cell? ⟨w.heap.size,0,none⟩=some (.int .i64 x.no):=G.cell 0;have ah:i.cell? ⟨w.heap.size,1,none⟩=some (.int .i64 x.at_):=G.cell 1
  have ai:i.cell? ⟨w.heap.size,2,none⟩=some (.string (B x.text)):=G.cell 2;have aa:i.cell? ⟨w.heap.size,3,none⟩=_:=G.cell 3
  simp only[joQ,joP,joO]at aa;have av:=G.lt
  have l3:=y.lt
 all_goals try (have A:zQ p x=true:=(by unfold zQ;rw[j,z,f]<;>rfl);have c:=joI (fun v w' L N=>JT.no (w:=w) (T:=T) (R:=R) (b:=b) (text:=text) (p:=p) (x:=x) (v:=v) (w':=w') (a:=x.no) (n:=2) (by unfold zq;rw[m,A,hw,P];simp) L N);go_wp2;go_ret;exact c.out _ _ (jB.new _ _ 2 _ i.heap.size rfl (by omega)) (D.only.alloc _))
 all_goals
  have A:zQ p x=false:=by unfold zQ;rw[j,z,f]<;>rfl
  have c:=joI (fun T' w' L N=>JT.yes (w:=w) (T:=T) (T':=T') (R:=R) (b:=b) (text:=text) (p:=p) (q:=JK text.data.toList (jd p) x) (x:=x) (w':=w') (by unfold zq;rw[m,A,hw,P,ae];simp) L N);have am:x.bytes.length=x.text.length+1:=by unfold Ln.bytes;rw[f];simp
 ·have L:jm x.text=1:=j;have O:JK text.data.toList (jd p) x=zl text.data.toList (jk text.data.toList (jd p) x.at_) 1 (x.at_+x.text.length+1):=by unfold JK;rw[j];rfl
  rw[O]at c;have hx:=HX.out
  have d:=a7.out.endField;have U:=d.endBlock text.data.toList x.at_ d.at_ (joJ _)
  have a3:=yo text.data.toList (jd p) x.at_ d.at_;have n1:IntKind.i64.wrap ((x.at_:Int)+(x.text.length:Int))=(x.at_:Int)+(x.text.length:Int):=jph _ (by omega)
  have n2:IntKind.i64.wrap ((x.at_:Int)+(x.text.length:Int)+1)=(x.at_:Int)+(x.text.length:Int)+1:=jph _ (by omega);have zB:=jg x.text
  have HB:=joI (fun i l (g:jK i l R b text (jd p)) k=>VT g k x.at_ d.at_ (by omega) (by omega) (by have:=d.items;have:=d.at_;omega) (by have:=d.stanzas;have:=d.at_;omega));have HI:=joI (fun i l I (g:jJ i l R b text (jk text.data.toList (jd p) x.at_) I) k=>Zv g k 1 (x.at_+x.text.length+1) (by omega) (by omega) (by omega) (by have:=U.items;omega))
  clear U d a3;have o:R<=i.heap.size:=jpg hR D.only.size
  go_wp2_with fail;refine(HB.out _ l y o).mono ?_;rintro e w4 ⟨rfl,T4,J,V⟩;have C4:=G.only V.only (fun e=>e ((C.old _ lz).2 l0))
  have aj:w4.cell? ⟨w.heap.size,1,none⟩=some (.int .i64 x.at_):=C4.cell 1;have ak:w4.cell? ⟨w.heap.size,2,none⟩=some (.string (B x.text)):=C4.cell 2
  have aw:=C4.lt;have af:R<=w4.heap.size:=jpg o V.only.size
  have l4:=J.lt;obtain⟨V4,J⟩:=J;go_wp2_with fail;rw[show Value.int .i64 ((x.at_:Int)+(x.text.length:Int)+1)=Value.int .i64 ((x.at_+x.text.length+1:Nat):Int) from rfl];refine(HI.out _ T4 V4 J af).mono ?_;rintro e w5 ⟨rfl,T5,g5,s5⟩;go_wp2;go_ret;exact c.out T5 _ g5 ((D.trans V).trans s5)
 ·have N:jm x.text=2:=j;have O:JK text.data.toList (jd p) x=jd p:=by unfold JK;rw[j];rfl
  rw[O]at c;go_wp2;go_ret;exact c.out _ _ y D
 have O:JK text.data.toList (jd p) x=jar (jd p) x:=by unfold JK jar;rw[j,if_pos rfl]
 rw[O]at c;have HS:=joI (fun i l I (g:jJ i l R b text (jd p) I) k=>jf6 g k x)
 rw[f]at HS;obtain⟨I,y⟩:=y;have a8:Hid (jJ i.drew l R b text (jd p) I):=y.same (fun _ _=>rfl) (joJ _)
 have S3:Hid (zV w T i.drew l):=D.drewN 1;have o:R<=i.drew.heap.size:=jpg hR D.only.size
 clear y D C;go_wp2;go_region_with (go_at_call 144;refine(HS.out _ l I a8.out o).mono ?_;rintro e w4 ⟨rfl,T4,J,V⟩)
 all_goals
  go_wp2;go_ret;exact c.out T4 _ J (S3.out.trans V)
end
section
attribute [local go_sem] joY
theorem jmF{W a:World}{b n:Nat}{t:TypeId}{v:Value}(h:Boxed W b t v)(c:Below n W a)(d:b<n):Boxed a b t v:=(c.block b d).trans h
theorem jA{W:World}{base base':Nat}{e:TypeId}{size:Nat}{v:Value}{n:Nat}{xs:List Value}(h:W.ownsRow base e size v n xs)(d:base'<=base):W.ownsRow base' e size v n xs:=by
 refine⟨h.1,?_⟩;rcases h.2 with i|⟨g,b,c,j,f,a⟩
 ·exact .inl i
 exact .inr ⟨g,b,c,j,jpg d f,a⟩
theorem jlh{W:World}{base:Nat}{e:TypeId}{size:Nat}{v:Value}{n:Nat}{xs:List Value}(h:W.ownsRow base e size v n xs):∃b a,v=.slice b n a:=by
 rcases h.2 with ⟨rfl,rfl⟩|⟨g,a,c,rfl,_⟩
 ·exact⟨none,0,rfl⟩
 exact⟨_,a,rfl⟩
theorem Vg(w:World)(a b:Obj)(t:TypeId)(v:Value):Boxed (((w.alloc a).alloc b).alloc (.cells #[v] t)) (w.heap.size+2) t v:=by have:=xI (w.alloc a) b t v;rwa [joZ]at this
theorem jhX(w:World)(a b c:Obj)(t:TypeId)(v:Value):Boxed ((((w.alloc a).alloc b).alloc c).alloc (.cells #[v] t)) (w.heap.size+3) t v:=by have:=Vg (w.alloc a) b c t v;rwa [joZ]at this
theorem yd{P:Program}{d:Type}{g:Operand}{u:Array Tmp}{assign body:Code}{Q:Exit->Act->World->Prop}{a:Act}{w:World}
  {gf:Nat} {lb:Array Value} (C:a.eval g=.func (.func gf) #[] lb) (y:∀args w,(callFunc gf args).run P w=.ok (.enter gf args) w)
  {e:d->Array Value} {k:Nat} {xs:List d} (n:jmx P gf lb e k xs w) (s:∀x,(e x).size=u.size)
  (I:List d->World->Prop) (o:Code->List d->World->Prop) (A:zU w.heap.size (k+2) I) (r:∀c,zU w.heap.size 2 (o c)) (z:I [] w)
  (M:Act->List d->d->Act->World->Prop) (hM:∀a b x q,zU w.heap.size 2 (fun(_:Unit) W=>M a b x q W))
  (f:∀(l:Nat) (b:List d) (x:d) (h:List d) (W:World),xs=b++x::h->w.heap.size+(k+2)<=W.heap.size->I b W ->
   assign.wpIn (Fence.wide.inRound l) 7 P (Yy w.heap.size (k+2) (M a b x) W) {tmps:=(u.zip (e x)).foldl (fun t (p,v)=>t.setIfInBounds p v) a.tmps,defers:=[]} W)
  (i:∀(l:Nat) (b:List d) (x:d) (h:List d) (q:Act) (W:World),xs=b++x::h->w.heap.size+(k+2)<=W.heap.size->M a b x q W ->
   body.wpIn (Fence.wide.inRound l) 7 P (left w.heap.size (k+2) I o (b++[x]) W) q W)
  (j:∀(W:World),I xs W->W.heap[w.heap.size]?=some (.deferred (some []))->Q .normal {a with defers:={target:=.collected w.heap.size,args:=#[]}::a.defers} W)
  (m:∀(c:Code) (b:List d) (W:World),b <+: xs->o c b W->W.heap[w.heap.size]?=some (.deferred (some []))->c.wpIn Fence.wide 9 P Q {a with defers:={target:=.collected w.heap.size,args:=#[]}::a.defers} W) :
  (Code.rangeFunc g u assign body).wpIn Fence.wide 9 P Q a w :=
 jfN C y n s I o A r z (M a) (hM a) f i j m
theorem Gd(a b:List UInt8):(⟨a.toArray⟩:ByteArray) ++ ⟨b.toArray⟩=⟨(a++b).toArray⟩:=by rw[<- jqU ((⟨a.toArray⟩:ByteArray) ++ ⟨b.toArray⟩),ByteArray.data_append,Array.toList_append]
theorem JI{W:World}{b c:Nat}{t:TypeId}{v:Value}(h:Boxed W b t v)(a:b≠c)(u:Value):Boxed (W.setCell ⟨c,0,none⟩ u) b t v:=h.other a u
end
end Go.Proofs.YtbapfpekklcicaaGreatDoor
