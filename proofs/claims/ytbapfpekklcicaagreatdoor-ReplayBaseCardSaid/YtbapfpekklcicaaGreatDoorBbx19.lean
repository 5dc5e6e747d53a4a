/- Texts put together:QH,NY,RM,RO,EU,ET,GI,CA,CP,AB,DA. -/
import Derived.Lib.AtoiAll
import Derived.Lib.ItoaLen
import Derived.Test.YtbapfpekklcicaaGreatDoorBbx16
import Derived.Test.YtbapfpekklcicaaGreatDoorBbx18
set_option linter.unusedVariables false
set_option maxRecDepth 100000
set_option maxHeartbeats 16000000
namespace Go.Proofs.YtbapfpekklcicaaGreatDoor
open Go.RowKit Go.Shelf Tryz
abbrev joX:=@List.eq_nil_of_length_eq_zero
abbrev jpk:=@List.eq_nil_or_concat
abbrev jpl:=@List.concat_eq_append
abbrev jpD:=@Bool.true_and
abbrev jpF:=@List.take_append_of_le_length
abbrev jpG:=@List.append_cancel_left
abbrev jpM:=@Nat.xor_lt_two_pow
abbrev jqc:=@Nat.mod_lt
abbrev jqi:=@Nat.testBit_xor
abbrev jqk:=@Nat.pow_succ
abbrev jqn:=@List.foldl_append
abbrev jqr:=@Nat.xor_assoc
abbrev jqB:=@Nat.eq_of_testBit_eq
theorem jfs{t:List UInt8}{p:PS}{x:Ln}{a n:Nat}(h:zo t p x=.error (a,n)):n≠0/\n<=11:=by
 unfold zo at h;split at h
 ·rename_i b;cases h;exact⟨b.2,VN _⟩
 split at h
 ·cases h;exact⟨by decide,by decide⟩
 cases h
theorem jjY(t:List UInt8):∀(c:List Ln) (p:PS) (a n:Nat),qO t p c=.error (a,n)->n≠0/\n<=11
 | [],p,a,n,h=>by cases h
 | x::c,p,a,n,h=>by
  have b:(match zo t p x with | .error e=>Except.error e | .ok q=>qO t q c)=.error (a,n):=h;cases d:zo t p x with
  | error e =>
   rw[d]at b;cases b;exact jfs d
  | ok q =>
  rw[d]at b;exact jjY t c q a n b
theorem ZI{t:List UInt8}{a n:Nat}(h:jv t=.error (a,n)):n≠0/\n<=11:=by
 unfold jv at h;cases b:qO t PS.new (jf t) with
 | error e =>
  rw[b]at h;cases h;exact jjY t _ _ _ _ b
 | ok p =>
 rw[b]at h;dsimp only at h;unfold ZM at h;split at h
 ·rename_i c;cases h;exact⟨c,VN _⟩
 cases h
theorem YE{w w':World}{t:List UInt8}{e:Ending}{a n:Nat}(h:qI w t e w')(d:jv t=.error (a,n)):Below w.heap.size w w'/\e=.returned (.tuple #[.slice none 0 0,.int .i64 (a:Nat),.int .i64 (n:Nat)]):=by obtain⟨c,b⟩:=h;rw[<- YM,d]at b;exact⟨c,b⟩
theorem jau{w w':World}{t:List UInt8}{e:Ending}{its:List It}(h:qI w t e w')(d:jv t=.ok its):Below w.heap.size w w'/\∃v,e=.returned (.tuple #[v,.int .i64 (-9),.int .i64 0])/\Its w' v its:=by obtain⟨c,a⟩:=h;rw[<- YM,d]at a;obtain⟨v,b,f,_⟩:=a;exact⟨c,v,b,f⟩
theorem jav{w w':World}{t:List UInt8}{e:Ending}{its:List It}(h:qI w t e w')(c:jv t=.ok its):Below w.heap.size w w'/\∃v,e=.returned (.tuple #[v,.int .i64 (-9),.int .i64 0])/\Its w' v its/\jhJ w.heap.size w' v its:=by obtain⟨b,a⟩:=h;rw[<- YM,c]at a;exact⟨b,a⟩
section
attribute [local go_sem] jn9
def jmU(w:World)(t:List UInt8)(e:Ending)(w':World):Prop :=
 Below w.heap.size w w'/\match jv t with
  | .error (a,n)=>e=.returned (.tuple #[.agg #[.slice none 0 0,.int .i64 0],.int .i64 (a:Nat),.int .i64 (n:Nat)])
  | .ok its=>∃v qs,e=.returned (.tuple #[.agg #[v,.int .i64 (jQ its).next],.int .i64 (-9),.int .i64 0])/\zN w' v qs/\qs.map Prod.fst=(jQ its).es/\(∀b,v.ownBlock=some b->w.heap.size<=b)/\(∀q∈qs,∀b,q.2.ownBlock=some b->w.heap.size<=b)
theorem yC.next{w wr:World}{a:Nat}{v:Value}{b:List Pr}{c:Int}(h:yC w wr a v b c)(n:Int):yC w (wr.setCell ⟨a,1,none⟩ (.int .i64 n)) a v b n:=by
 refine⟨?_,jy h.row h.ne _,h.below.setCell (p:=⟨a,1,none⟩) h.lo _,h.lo⟩;have:=h.head.set 1 (.int .i64 n)
 simpa [List.setIfInBounds_toArray,List.set]using this
theorem jgE{its:List It}{k:Nat}{it:It}(h:its[k]?=some it):zq 1 (its.take (k+1))=zq 1 (its.take k)++[(it,if it.kind=3 then jB 1 (its.take k) else 0)]/\jB 1 (its.take (k+1))=if it.kind=3 then jB 1 (its.take k)+1 else jB 1 (its.take k):=by
 have e:its.take (k+1)=its.take k++[it]:=by rw[jor,h];rfl
 rw[e];exact ZW 1 _ it
theorem jd4(s:ByteArray)(hs:s.size<=60000)(w:World):Calls prog 35 #[.string s] w fun e w'=>jmU w s.data.toList e w':=by
 obtain⟨Z,O⟩:∃Z,Z=w.alloc (.cells #[.slice none 0 0,.int .i64 0] 37):=⟨_,rfl⟩
 have b1:Below w.heap.size w Z:=by rw[O];exact(jnV _ w).alloc (jnT _) _
 have BX:=jnS (show jd Z w.heap.size 37 #[.slice none 0 0,.int .i64 0] by rw[O];exact jd.new _ _ _);have PA:=jnS (Vx s hs Z)
 have aa:=jnS b1;have av:=b1.size
 have a8:Z.heap.size=w.heap.size+1:=by rw[O];simp
 have aC:=jnS a8;clear b1 a8;go_enter func35,ntmps35;go_wp2_with fail;rw[<- O];clear O;refine PA.out.mono ?_;rintro e o hP;clear PA;cases hp:jv s.data.toList with
 | error an =>
  obtain⟨a,n⟩:=an;obtain⟨b2,rfl⟩:=YE hP hp;have hn:n≠0:=(ZI hp).1
  have R:=jb BX.out b2 BX.out.lt;have U:=jnS (aa.out.trans (b2.mono av))
  have c0:=R.cell 0;have c1:=R.cell 1
  have f0:=R.frozen 0;have f1:=R.frozen 1
  simp only[jn0,jnZ,jnX]at c0 c1;have aO:((n:Int) != 0)=true:=bne_iff_ne.2 (by omega)
  have HD:=jnS R;have HP:=jnS hp
  clear hP b2 hp R;go_wp2_with fail;have RE:=((HD.out.set 0 (.slice none 0 0)).set 1 (.int .i64 0))
  rw[Vo]at RE;refine bodyPost_ret (Vq rfl _ _ w.heap.size _ rfl RE rfl) rfl ?_;refine⟨(U.out.setCell (p:=⟨w.heap.size,0,none⟩) (jnT _) _).setCell (p:=⟨w.heap.size,1,none⟩) (jnT _) _,?_⟩;rw[HP.out];rfl
 | ok l =>
 obtain⟨b2,v,rfl,_,ai,c,aj,P⟩:=jav hP hp;have aF:=(vt hp).2.1
 rw[<- joa]at aF;have U:=jnS (aa.out.trans (b2.mono av))
 have R:=jnS (jb BX.out b2 BX.out.lt);have aI:=U.out.size
 have aL:=b2.size;have aK:w.heap.size<o.heap.size:=by have:=R.out.lt;omega
 obtain⟨va,vc,rfl,_⟩:=je c;have af:=jnS c
 have ay:=jnS aj;have ax:=jnS P
 have HP:=jnS hp;obtain⟨i0,hi,aq,ar,au⟩:=info_parts jiM;clear hP hp b2 c aj P BX;go_wp2_with fail;go_loopw [9] (fun i wr=>∃(k:Nat) (u:Value) (z:List Pr),k<=l.length/\i=.int .i64 k/\yC o wr o.heap.size u z (jB 1 (l.take k))/\z.map Prod.fst=zq 1 (l.take k)/\(∀q∈z,vK o q.2 q.1.1.fields/\∀b,q.2.ownBlock=some b->Z.heap.size<=b)) (fun i _=>l.length-(intOf i).toNat)
 case atStart=>exact⟨0,_,[],jn3 _,rfl,yC.start o 1,rfl,fun q h=>by cases h⟩
 case round =>
 obtain⟨k,u,z,hk,rfl,d,N,I⟩:=hrel;have hb:=d.below
 have aS:=hb.size;have g0:wr.cell? ⟨o.heap.size,0,none⟩=some u:=d.head.cell 0
 have g1:wr.cell? ⟨o.heap.size,1,none⟩=some (.int .i64 (jB 1 (l.take k))):=d.head.cell 1;have aM:=d.head.frozen 1
 have aQ:z.length<=l.length:=by have h1:=congrArg List.length N;rw[joi,xv,jn2]at h1;omega
 have aG:=yP 1 (l.take k);rw[jn2]at aG;obtain⟨ua,uc,rfl,_⟩:=je d.row;by_cases X:k<l.length
 ·obtain⟨E,W⟩:∃E,l[k]?=some E:=⟨_,jnW X⟩
  obtain⟨x,hx⟩:∃x,ai[k]?=some x:=⟨_,jnW (by rw[ay.out];exact X)⟩
  have Y:=ax.out k E x W hx;obtain⟨G,H,rfl,_⟩:=je Y;have c:=af.out
  obtain⟨g,cg,ap⟩:=joW c (by omega);obtain⟨a0,a1,a2⟩:=vd l ai k E _ W hx;rw[ap]at c;have a7:g<o.heap.size:=(joV c g rfl).2
  have d0:wr.cell? ⟨g,k*3,none⟩=some (.int .i64 E.kind):=(hb.cell (p:=⟨g,k*3,none⟩) a7).trans (by rw[job c (k*3) (by omega),a0]);have d1:wr.cell? ⟨g,k*3+1,none⟩=some (.string (B E.raw)):=(hb.cell (p:=⟨g,k*3+1,none⟩) a7).trans (by rw[job c (k*3+1) (by omega),a1])
  have d2:wr.cell? ⟨g,k*3+1+1,none⟩=some (.slice G E.fields.length H):=(hb.cell (p:=⟨g,k*3+1+1,none⟩) a7).trans (by rw[job c (k*3+1+1) (by omega),a2]);obtain⟨e1,e2⟩:=jgE W;have E1:=jnS e1
  have E2:=jnS e2;have K:=jnS d
  have V:=jnS N;have HM:=jnS I
  have ag:Hid (vK o (.slice G E.fields.length H) E.fields/\∀b,(Value.slice G E.fields.length H).ownBlock=some b->Z.heap.size<=b):=⟨xw Y,fun b e=>(Y.lt b e).1⟩
  injection ap with q1 _ q3;subst q1 q3;have aN:g<wr.heap.size:=by omega
  have aP:o.heap.size<wr.heap.size:=d.head.lt;generalize jB 1 (l.take k)=J at *
  clear d N I W hx Y c a0 a1 a2 e1 e2;by_cases L:E.kind=3
  ·have aE:((E.kind:Int)==3)=true:=by rw[L];decide
   obtain⟨kd,m,t⟩:=E;dsimp only at *
   subst L;have aR:IntKind.i64.wrap (J+1)=J+1:=jos _ (by omega)
   replace E1:=jnS (E1.out.trans (by rw[if_pos rfl]));replace E2:=jnS (E2.out.trans (if_pos rfl));obtain⟨Q,C⟩:∃Q,Q=(wr.setCell ⟨o.heap.size,1,none⟩ (.int .i64 (J+1))).alloc (.cells #[.int .i64 3,.string (B m),.slice G t.length H,.int .i64 J] 112):=⟨_,rfl⟩
   have A:=jnS (show yC o Q o.heap.size (.slice ua z.length uc) z (J+1) by rw[C];exact((K.out.next _).alloc _));have c:=A.out.row
   have D:Q.heap.size=wr.heap.size+1:=by rw[C];simp[World.setCell]
   have hv:=jC Q 112 [.int .i64 3,.string (B m),.slice G t.length H,.int .i64 J];rw[D]at hv;have HV:=jnS hv
   have aD:=jnS D;clear hv D;subst C;go_wp2_with (at_builtin;refine wpList_append_own _ rfl _ _ 35 rfl o.heap.size 112 i0 _ 4 56 underlying35 hi aq ar au rfl (by decide) _ _ _ rfl (c.alloc _) ⟨wr.heap.size+1,0,none⟩ 1 1 _ rfl rfl HV.out ?c2 ?c3 ?c4 ?c5 ?_)
   case c2=>exact⟨rfl,rfl,rfl,rfl⟩
   case c3=>unfold maxLen;omega
   case c4=>omega
   case c5=>first | omega | (simp[World.setCell];omega)
   intro v' w6 j f _;have r:=(A.out.alloc (.cells #[.int .i64 3,.string (B m),.slice G t.length H,.int .i64 J] 112)).grow (p:=((⟨3,m,t⟩,J),.slice G t.length H)) j f
   have h6:=(A.out.alloc (.cells #[.int .i64 3,.string (B m),.slice G t.length H,.int .i64 J] 112)).grown_head f;have q0:=h6.cell 0
   have aJ:=h6.frozen 0;simp only[jn0,jnZ]at q0;have A6:=jnS r
   obtain⟨g',ah,rfl⟩:=ownsRow_succ j;clear r h6 j f;go_wp2_with fail;refine⟨⟨k+1,_,z++[((⟨3,m,t⟩,J),.slice G t.length H)],X,by go_num,by rw[E2.out];exact A6.out,by rw[E1.out,joB,V.out];rfl,fun q y => ?_⟩,by simp[intOf];omega⟩;rcases List.mem_append.1 y with y|y
   ·exact HM.out q y
   rw[List.mem_singleton.1 y];exact ag.out
  have aE:((E.kind:Int)==3)=false:=beq_eq_false_iff_ne.2 L;replace E1:=jnS (E1.out.trans (by rw[if_neg L]));replace E2:=jnS (E2.out.trans (if_neg L));obtain⟨kd,m,t⟩:=E;dsimp only at *
  clear L;obtain⟨Q,C⟩:∃Q,Q=wr.alloc (.cells #[.int .i64 kd,.string (B m),.slice G t.length H,.int .i64 0] 112):=⟨_,rfl⟩
  have A:=jnS (show yC o Q o.heap.size (.slice ua z.length uc) z J by rw[C];exact(K.out.alloc _));have c:=A.out.row
  have D:Q.heap.size=wr.heap.size+1:=by rw[C];simp
  have hv:=jC Q 112 [.int .i64 kd,.string (B m),.slice G t.length H,.int .i64 0];rw[D]at hv;have HV:=jnS hv
  have aD:=jnS D;clear hv D;subst C;go_wp2_with (at_builtin;refine wpList_append_own _ rfl _ _ 35 rfl o.heap.size 112 i0 _ 4 56 underlying35 hi aq ar au rfl (by decide) _ _ _ rfl (c.alloc _) ⟨wr.heap.size+1,0,none⟩ 1 1 _ rfl rfl HV.out ?c2 ?c3 ?c4 ?c5 ?_)
  case c2=>exact⟨rfl,rfl,rfl,rfl⟩
  case c3=>unfold maxLen;omega
  case c4=>omega
  case c5=>first | omega | (simp[World.setCell];omega)
  intro v' w6 j f _;have r:=(A.out.alloc (.cells #[.int .i64 kd,.string (B m),.slice G t.length H,.int .i64 0] 112)).grow (p:=((⟨kd,m,t⟩,0),.slice G t.length H)) j f
  have h6:=(A.out.alloc (.cells #[.int .i64 kd,.string (B m),.slice G t.length H,.int .i64 0] 112)).grown_head f;have q0:=h6.cell 0
  have aJ:=h6.frozen 0;simp only[jn0,jnZ]at q0;have A6:=jnS r
  obtain⟨g',ah,rfl⟩:=ownsRow_succ j;clear r h6 j f;go_wp2_with fail;refine⟨⟨k+1,_,z++[((⟨kd,m,t⟩,0),.slice G t.length H)],X,by go_num,by rw[E2.out];exact A6.out,by rw[E1.out,joB,V.out];rfl,fun q y => ?_⟩,by simp[intOf];omega⟩;rcases List.mem_append.1 y with y|y
  ·exact HM.out q y
  rw[List.mem_singleton.1 y];exact ag.out
 obtain rfl:k=l.length:=by omega
 rw[jom]at d N;have D2:=jb R.out hb (by omega)
 have r0:=D2.cell 0;have r1:=D2.cell 1
 have f0:=D2.frozen 0;have f1:=D2.frozen 1
 simp only[jn0,jnZ,jnX]at r0 r1;rw[jom]at g1;have RE:=((D2.set 0 (.slice ua z.length uc)).set 1 (.int .i64 (jB 1 l)))
 rw[Vo]at RE;have aB:=jnS RE
 have K:=jnS d;have V:=jnS N
 have HM:=jnS I;have aw:=jnS (U.out.trans (hb.mono aI))
 have am:(Value.slice ua z.length uc).ownBlock≠some w.heap.size:=fun e=>by have:=(d.row.lt _ e).1;omega
 have ae:=jnS am;generalize ak:jB 1 l=J at *
 have aA:=jnS ak;clear ak;clear d N I D2 RE am hb;go_wp2_with fail;refine bodyPost_ret (Vq rfl _ _ w.heap.size _ rfl aB.out rfl) rfl ?_;refine⟨(aw.out.setCell (p:=⟨w.heap.size,0,none⟩) (jnT _) _).setCell (p:=⟨w.heap.size,1,none⟩) (jnT _) _,?_⟩;rw[HP.out];have aH:jI (· = w.heap.size) o ((wr.setCell ⟨w.heap.size,0,none⟩ (.slice ua z.length uc)).setCell ⟨w.heap.size,1,none⟩ (.int .i64 J)):=((jI.of_below K.out.below (jnT _)).cellS 0 _).cellS 1 _
 have a8:=aC.out;refine⟨.slice ua z.length uc,z,by rw[show(jQ l).next=J from aA.out];rfl,⟨jy (jy (jE K.out.row (jn3 _)) ae.out _) ae.out _,fun q y=>(HM.out q y).1.only aH (fun _ b e q2=>by have:=(HM.out q y).2 b e;omega)⟩,V.out,fun b e=>by have:=(K.out.row.lt b e).1;omega,fun q y b e=>by have:=(HM.out q y).2 b e;omega⟩
end
structure jnQ(a0:Act)(w0:World)(n:Nat)(dst:Nat->Option Nat)(Pv:Nat->Value->World->Prop)(R:World->World->Prop)(l:Array Bool)(a:Act)(w:World):Prop where
 dfr:a.defers=a0.defers
 sz:a.tmps.size=a0.tmps.size
 frm:∀j,(∀k,k<n->dst k≠some j)->a.tmps[j]?=a0.tmps[j]?
 val:∀i d,l.getD i false=true->dst i=some d->∃v,a.tmps[d]?=some v/\Pv i v w
 wd:R w0 w
def pvL(L:List (Value->World->Prop))(i:Nat)(v:Value)(w:World):Prop:=match L[i]? with | some P=>P v w | none=>True
def jlW:List (Value->World->Prop)->Prop
 | []=>True
 | P::r=>(∀v x y,Below x.heap.size x y->P v x->P v y)/\jlW r
theorem Uh:∀{L:List (Value->World->Prop)} (_:jlW L) {i:Nat} {v:Value} {x y:World},Below x.heap.size x y->pvL L i v x->pvL L i v y
 | [],_,i,v,x,y,_,_=>trivial
 | P::r,h,0,v,x,y,a,b=>h.1 v x y a b
 | P::r,h,i+1,v,x,y,a,b=>Uh (L:=r) h.2 (i:=i) a b
section
attribute [local go_sem] jn9
theorem evT{a:Act}{i:Nat}{v:Value}(h:a.tmps[i]?=some v):a.eval (.tmp i)=v:=by show a.tmps.getD i undef=v;rw[joA,h];rfl
theorem qV{ops:Array Oper}{o:Oper}{a:Act}(h:o.guard=none):Region.wanted o (yielded ops a.tmps)=true:=by unfold Region.wanted;rw[h]
theorem jhF:∀(L:List (Nat×Value)) (s t:Array Value),s.size=t.size->(∀p∈L,s[p.1]?=some p.2)->(∀j,j∉L.map Prod.fst->s[j]?=t[j]?)->s=L.foldl (fun u p=>u.setIfInBounds p.1 p.2) t
 | [],s,t,_,_,h=>jpZ (fun j=>h j (by simp))
 | p::L,s,t,c,a,d=>by
  rw[List.foldl_cons];refine jhF L s _ (by simpa using c) (fun q i=>a q (jn4 _ i)) (fun j f => ?_);rw[joE];have b:=a p jn5
  by_cases q:p.1=j
  ·have:p.1<t.size:=by rw[<- c];exact(Array.getElem?_eq_some_iff.1 b).1
   rw[if_pos q,if_pos this,<- q];exact b
  rw[if_neg q];exact d j (by rw[joy];intro g;rcases List.mem_cons.1 g with e | e;exact q e.symm;exact f e)
theorem Gt{a a0:Act}(L:List (Nat×Value))(b:a.defers=a0.defers)(f:a.tmps.size=a0.tmps.size)(c:∀p∈L,a.tmps[p.1]?=some p.2)(e:∀j,j∉L.map Prod.fst->a.tmps[j]?=a0.tmps[j]?):a={a0 with tmps:=L.foldl (fun u p=>u.setIfInBounds p.1 p.2) a0.tmps}:=by have:=jhF L a.tmps a0.tmps f c e;obtain⟨t,d⟩:=a;obtain⟨h,g⟩:=a0;simp only at this b ⊢;subst this b;rfl
section
variable {o:Oper} {a:Act} {w:World} {K:Act->World->Prop} {Q:Exit->Act->World->Prop}
theorem KS{v:Value}(e:(execOp a.eval o).run prog w=.ok (.value v) w)(b:K (a.put o.dst v) w):Oper.wp prog o a w K Q:=by unfold Oper.wp;rw[e];exact b
theorem YV{x:Operand}{v:Value}(c:o.op=Op.move x)(hx:a.eval x=v)(b:K (a.put o.dst v) w):Oper.wp prog o a w K Q :=
 KS (by simp only[execOp,c,hx];simp[go_sem]) b
theorem jdb{x:Operand}{T:TypeId}{k b i j:Nat}(d:(Instr.fieldAt T (.pointer (some ⟨b,i,none⟩)) k).run prog w=.ok (.pointer (some ⟨b,j,none⟩)) w)(e:o.op=Op.fieldAddr T x k)(hx:a.eval x=.pointer (some ⟨b,i,none⟩))(c:K (a.put o.dst (.pointer (some ⟨b,j,none⟩))) w):Oper.wp prog o a w K Q :=
 KS (by simp only[execOp,e,hx];simp[d]) c
theorem Zg{x:Operand}{T:TypeId}{b i:Nat}{u:Value}(hl:(Instr.loadAt T (.pointer (some ⟨b,i,none⟩))).run prog w=.ok u w)(d:o.op=Op.load T x)(hx:a.eval x=.pointer (some ⟨b,i,none⟩))(c:K (a.put o.dst u) w):Oper.wp prog o a w K Q :=
 KS (by simp only[execOp,d,hx];simp[hl]) c
end
section
variable {o:Oper} {a:Act} {w:World} {K:Act->World->Prop} {Q:Exit->Act->World->Prop} {T:Value->World->Prop}
theorem Yf{x:Operand}{u:Value}(F:Nat){d:TypeId}(j:o.op=Op.call {callee:=Callee.value (Operand.func F),args:=#[x],argTypes:=#[d]})(hx:a.eval x=u)
  (f:∀args w,(callFunc F args).run prog w=.ok (.enter F args) w) (g:Calls prog F #[u] w fun e b=>∃v,e=.returned v/\T v b) (i:∀v b,T v b->K (a.put o.dst v) b):Oper.wp prog o a w K Q:=by
 unfold Oper.wp;have e:(execOp a.eval o).run prog w=.ok (.enter F #[u]) w:=by have c:a.eval (.func F)=.func (.func F) #[] #[]:=rfl;generalize a.eval=k at hx c ⊢;simp only[execOp,j];simp[go_sem,resolve,invoke,hx,c,f]
 rw[e];refine g.mono ?_;rintro e b ⟨v,rfl,h⟩;exact i v b h
theorem jiy{x y:Operand}{u z:Value}(F:Nat){f g:TypeId}(l:o.op=Op.call {callee:=Callee.value (Operand.func F),args:=#[x,y],argTypes:=#[f,g]})(hx:a.eval x=u)(d:a.eval y=z)
  (i:∀args w,(callFunc F args).run prog w=.ok (.enter F args) w) (j:Calls prog F #[u,z] w fun e b=>∃v,e=.returned v/\T v b) (k:∀v b,T v b->K (a.put o.dst v) b):Oper.wp prog o a w K Q:=by
 unfold Oper.wp;have e:(execOp a.eval o).run prog w=.ok (.enter F #[u,z]) w:=by have c:a.eval (.func F)=.func (.func F) #[] #[]:=rfl;generalize a.eval=m at hx d c ⊢;simp only[execOp,l];simp[go_sem,resolve,invoke,hx,d,c,i]
 rw[e];refine j.mono ?_;rintro e b ⟨v,rfl,h⟩;exact k v b h
end
section
variable {o:Oper} {a:Act} {w:World} {K:Act->World->Prop} {Q:Exit->Act->World->Prop}
end
theorem Gb{w:World}{v:Value}{fs:List Fld}{b:Nat}{T:TypeId}{c:Array Value}(h:vK w v fs)(g:fs≠[])(m:v.ownBlock=some b)(n:jd w b T c)(q:∀x∈c,∀s,x ≠ .string s):False:=by
 obtain⟨A,l,rfl,p,d⟩:=h;obtain⟨f,o⟩:∃f,fs[0]?=some f:=by
  cases fs with
  | nil=>exact absurd rfl g
  | cons a r=>exact⟨a,rfl⟩
 obtain⟨k,i,rfl,_,j,_⟩:=d 0 f o;have e:k=b:=by cases m;rfl
 subst e;rw[Nat.zero_mul,jpv,n.cell i]at j;exact q _ (Array.mem_of_getElem? j) _ rfl
end
namespace Rp
attribute [local go_sem] jn9
theorem jdY{d:Func}{p u:Tmp}{e:TypeId}(h:d.results=#[.cell p e,.tmp u])(tmps:Array Value)(P:Program)(w:World):
  (results d tmps).run P w=((asAddr (tmps.getD p undef)).run P w).andThen fun a b=>((loadVar e a).run P b).andThen fun v c=>.ok (.tuple #[v,tmps.getD u undef]) c:=by
 simp only[results,h];simp[Sem.run_bind,Result.andThen]
theorem jfK{c:Func}{p u:Tmp}(h:c.results=#[.cell p 83,.tmp u])(tmps:Array Value)(w:World)(b:Nat)(a:Array Value)(e:tmps.getD p undef=.pointer (some ⟨b,0,none⟩))
  (d:jd w b 83 a) (f:a.size=3):(results c tmps).run prog w=.ok (.tuple #[.agg a,tmps.getD u undef]) w:=by
 have L:=run_loadVar_row (P:=prog) w b 83 83 a (0,0) _ d underlying83 rfl (by rw[f];kernel_rfl);rw[jdY h,e];show((loadVar _ _).run _ _).andThen _=_
 rw[L];rfl
theorem jm0{W:World}{b:Nat}{T:TypeId}{a0 a1 a2:Value}(h:jd W b T #[a0,a1,a2])(v0 a c:Value):
  jd (((W.setCell ⟨b,0,none⟩ v0).setCell ⟨b,1,none⟩ a).setCell ⟨b,2,none⟩ c) b T #[v0,a,c]/\jI (· = b) W (((W.setCell ⟨b,0,none⟩ v0).setCell ⟨b,1,none⟩ a).setCell ⟨b,2,none⟩ c):=by
 have k:=((h.set 0 v0).set 1 a).set 2 c;refine⟨by simpa [List.setIfInBounds_toArray,List.set]using k,(((jI.refl (· = b) W).cellS 0 v0).cellS 1 a).cellS 2 c⟩
theorem jis{w w':World}{s:List UInt8}{its:List It}{e:Ending}(h:OfR w s e w')(i:jv s=.ok its)(r:s.length<=60000):
  Below w.heap.size w w'/\∃b c k,e=.returned (.tuple #[ptr b,.nilIface])/\zS w.heap.size w' b c k (jQ its) s.length:=by
 obtain⟨m,b,c,k,rfl,g,d,f,j⟩:=h.yes i;have n:=vt i
 have a:(jQ its).es.length<=s.length/\(jQ its).next<=(s.length:Int)+1:=by
  have l:(jQ its).es.length=its.length:=xv 1 its;have p:=(yP 1 its).2
  have q:(jQ its).next=jB 1 its:=rfl;omega
 refine⟨m,b,c,k,rfl,f,j,jb9 i,fun e o => ?_,g,d,a.1,a.2⟩;have l:e.1∈its:=by rw[<- QR 1 its];exact jpu o
 obtain⟨t,u⟩:=n.2.2 _ l;exact⟨by omega,by omega⟩
theorem jhl{S0:Nat}{w:World}{lb:Nat}{f:Value}{g:List Pr}{l:LS}{m b:Nat}{T:TypeId}{a:Array Value}(C:zS S0 w lb f g l m)(i:jd w b T a)(j:∀x∈a,∀s,x ≠ .string s)(k:b<S0):∀r,Ki lb f g (.slice none 0 0) [] r->r≠b:=by
 rintro r (rfl|h|h|⟨p,d,c,h⟩|⟨p,d,_⟩) e
 ·have:=C.lb0;omega
 ·have:=C.ev0 r h;omega
 ·cases h
 ·exact Gb (C.la.lr.ents.each p d).1 c (by rw[h,e]) i j
 cases d
def jhT:Value:=.agg #[.pointer none,.int .i64 0,.slice none 0 0]
def jdJ(w w':World)(s:List UInt8)(bs:List (List Ed))(e:Ending):Prop:=Below w.heap.size w w' /\
  ((∃a n u,jv s=.error (a,n)/\e=.returned (.tuple #[jhT,u])/\jz w.heap.size w' u a n) \/
   (∃its i u,jv s=.ok its/\vj (jQ its) bs i/\e=.returned (.tuple #[jhT,u])/\jz w.heap.size w' u i 10) \/
   (∃its k lb ev ps gv us,jv s=.ok its/\qq (jQ its) bs=some k/\e=.returned (.tuple #[.agg #[ptr lb,.int .i64 (jQ its).next,gv],.nilIface])/\zS w.heap.size w' lb ev ps k (s.length+xL bs)/\XQ w.heap.size w' gv (Xo (jQ its) bs) us))
theorem jnL{w a:World}(b:Below w.heap.size w a)(c:jd a w.heap.size 83 #[.pointer none,.int .i64 0,.slice none 0 0])(k:Nat)(X:World)
  (i:X=(((a.alloc (.cells #[.int .i64 (k:Int),.iface 54 (.int .i64 10)] 90)).setCell ⟨w.heap.size,0,none⟩ (.pointer none)).setCell ⟨w.heap.size,1,none⟩ (.int .i64 0)).setCell ⟨w.heap.size,2,none⟩ (.slice none 0 0)) :
  Below w.heap.size w X/\jd X w.heap.size 83 #[.pointer none,.int .i64 0,.slice none 0 0]/\jz w.heap.size X (.iface 87 (.pointer (some ⟨a.heap.size,0,none⟩))) k 10:=by
 subst i;have h:=jd.new a 90 #[.int .i64 (k:Int),.iface 54 (.int .i64 10)]
 have f:=b.alloc b.size (.cells #[.int .i64 (k:Int),.iface 54 (.int .i64 10)] 90);obtain⟨g,d⟩:=jm0 (c.alloc (.cells #[.int .i64 (k:Int),.iface 54 (.int .i64 10)] 90)) (.pointer none) (.int .i64 0) (.slice none 0 0);have j:=c.lt
 exact⟨f.trans (d.to_below f.size (fun r l e=>by omega)),g,⟨a.heap.size,b.size,rfl,by rw[zn 10 (by decide)];exact h.only d (fun e=>by omega)⟩⟩
theorem Yc(s:List UInt8)(c:List (List Ed))(v:Value)(w:World)(hs:s.length+xL c<=5000)(hn:c.length<=100000)(hv:BtV w v c)(H:jfd c)(hg:ErrT w):
  Calls prog 37 #[.string (B s),v] w fun e w'=>jdJ w w' s c e:=by
 obtain⟨R,t⟩:∃z,w.alloc (.cells #[.pointer none,.int .i64 0,.slice none 0 0] 83)=z:=⟨_,rfl⟩
 have ae:Below w.heap.size w R:=by rw[<- t];exact(jnV _ w).alloc (jnT _) _
 have aj:R.heap.size=w.heap.size+1:=by rw[<- t];simp
 have C0:jd R w.heap.size 83 #[.pointer none,.int .i64 0,.slice none 0 0]:=by rw[<- t];exact jd.new _ _ _
 have OF:=jnS (jmd (B s) (by rw[jg];omega) R);rw[jj]at OF;have l:=jnS ae
 have D:=jnS C0;have aB:=jnS t
 have O:=jnS aj;have BV:Hid (∀W,Below w.heap.size w W->BtV W v c/\ErrT W):=fun W hW=>⟨hv.below hW (jnT _),hg.below hW (jnT _)⟩
 have aq:=jnS H;obtain⟨A,aK,rfl,aI,_⟩:=_root_.id hv;clear ae C0 t aj hv hg H;go_enter func37,ntmps37;go_wp2_with fail;rw[aB.out];refine OF.out.mono ?_;rintro e U J;clear OF;cases V:jv s with
 | error an =>
  obtain⟨a,n⟩:=an;obtain⟨L,u,rfl,hf⟩:=J.no V;obtain⟨q,hq,rfl,ai⟩:=hf;have Y:=jnS (l.out.trans (L.mono l.out.size))
  have C:=jb D.out L D.out.lt;obtain⟨P1,o1⟩:=jm0 C (.pointer none) (.int .i64 0) (.slice none 0 0);have ax:=jnS P1
  have BF:=jnS (Y.out.trans (o1.to_below Y.out.size (fun r hr e=>by omega)));have aN:w.heap.size+1<=q:=by have:=O.out;omega
  have HF:=jnS (show jz w.heap.size _ (.iface 87 (.pointer (some ⟨q,0,none⟩))) a n from⟨q,by omega,rfl,ai.only o1 (fun e=>by omega)⟩);have c0:=C.cell 0
  have c1:=C.cell 1;have c2:=C.cell 2
  have f0:=C.frozen 0;have f1:=C.frozen 1
  have f2:=C.frozen 2;simp only[jn0,jnZ,jnX]at c0 c1 c2;have HP:=jnS V
  clear J ai L C P1 o1 V;go_wp2_with fail;refine bodyPost_ret (jfK rfl _ _ w.heap.size _ rfl ax.out rfl) rfl ?_;exact⟨BF.out,.inl ⟨a,n,_,HP.out,rfl,HF.out⟩⟩
 | ok d =>
 obtain⟨L,lb,ev,ps,rfl,Z⟩:=jis J V (by omega);have Y:=jnS (l.out.trans (L.mono l.out.size))
 have C:=jnS (jb D.out L D.out.lt);have aJ:=l.out.size
 have a7:=jnS Z;have NX:=jnS (jc8 lb ev ps _ U Z.la.lr ⟨by have:=Z.ok.pos;omega,by have:=Z.nx;omega⟩)
 have HP:=jnS V;have aG:=L.size
 clear J V L Z;unfold ptr at *
 go_wp2_with fail;refine NX.out.mono ?_;rintro e aP ⟨rfl,rfl⟩;obtain⟨w2,K⟩:∃z,U.alloc (.cells #[.pointer (some ⟨lb,0,none⟩),.int .i64 (jQ d).next,.slice none 0 0] 83)=z:=⟨_,rfl⟩
 have G:Below U.heap.size U w2:=by rw[<- K];exact(jnV _ _).alloc (jnT _) _
 have C2:jd w2 U.heap.size 83 #[.pointer (some ⟨lb,0,none⟩),.int .i64 (jQ d).next,.slice none 0 0]:=by rw[<- K];exact jd.new _ _ _
 have B2:=jnS (Y.out.trans (G.mono Y.out.size));have ap:=jnS (jb C.out G (by have:=O.out;omega))
 have aD:=jnS (show jbv R.heap.size w2 U.heap.size (jQ d).next (jQ d) (s.length+xL (c.take 0)) (Xo (jQ d) (c.take 0)) from⟨⟨lb,ev,ps,_,[],C2,by simpa [xL]using a7.out.below G (jnT _),XQ.nil _ _⟩,aG⟩);have aC:=jnS K
 have N:w.heap.size<R.heap.size:=by have:=O.out;omega
 generalize I:jQ d=y at *
 clear NX a7 G C2 K;go_wp2_with fail;rw[aC.out];go_loopw [26] (fun iv wr=>∃(i:Nat) (k:LS),i<=c.length/\iv=.int .i64 (i:Nat)/\qq y (c.take i)=some k/\Below w.heap.size w wr/\jd wr w.heap.size 83 #[.pointer none,.int .i64 0,.slice none 0 0]/\jbv R.heap.size wr U.heap.size y.next k (s.length+xL (c.take i)) (Xo y (c.take i))) (fun iv _=>c.length-(intOf iv).toNat)
 case atStart=>exact⟨0,y,jn3 _,rfl,rfl,B2.out,ap.out,aD.out⟩
 case round =>
 obtain⟨i,k,hi,rfl,p,H,j,hP⟩:=hrel;by_cases ah:i<c.length
 ·obtain⟨x,hx⟩:∃x,c[i]?=some x:=⟨_,jnW ah⟩
  obtain⟨af,ag⟩:=BV.out wr H;obtain⟨A',aH,e',_,hc⟩:=_root_.id af;obtain⟨g,aO,u,eA,aM,cg,hu⟩:=hc i x hx;injection e' with e1 e2 e3;subst e1;subst e3;subst eA;obtain⟨ua,uc,rfl,_⟩:=_root_.id hu;have aF:=Yw c i
  have P:=jnS (jmJ hP x _ hu (aq.out x (jn7 hx)) ag (by omega) (by rw[jb5,jn2];omega));have au:=jnS j
  have HB:=jnS H;have m:=jnS p
  have HX:=jnS hx;clear hP j H p hx af ag hc hu aF;go_wp2_with fail;refine P.out.mono ?_;rintro e X ⟨b5,h5⟩;have B5:=jnS (HB.out.trans (b5.mono (by omega)))
  have f:=jb au.out b5 N;rcases h5 with ⟨h0,rfl⟩|⟨h0,rfl,aa⟩
  ·
   have RF:=jnS (show vj y c i from⟨k,x,m.out,HX.out,h0⟩);have CA:=jnS (jnL B5.out f i)
   have c0:=f.cell 0;have c1:=f.cell 1
   have c2:=f.cell 2;simp only[jn0,jnZ,jnX]at c0 c1 c2;have d0:∀o,(X.alloc o).cell? ⟨w.heap.size,0,none⟩=_:=fun o=>((f.alloc o).cell 0).trans rfl
   have d1:∀o,(X.alloc o).cell? ⟨w.heap.size,1,none⟩=_:=fun o=>((f.alloc o).cell 1).trans rfl;have d2:∀o,(X.alloc o).cell? ⟨w.heap.size,2,none⟩=_:=fun o=>((f.alloc o).cell 2).trans rfl
   have g0:∀o,(X.alloc o).frozen? ⟨w.heap.size,0,none⟩=false:=fun o=>(f.alloc o).frozen 0;have g1:∀o,(X.alloc o).frozen? ⟨w.heap.size,1,none⟩=false:=fun o=>(f.alloc o).frozen 1
   have g2:∀o,(X.alloc o).frozen? ⟨w.heap.size,2,none⟩=false:=fun o=>(f.alloc o).frozen 2;clear b5 f P h0;go_wp2_with fail;refine bodyPost_ret (jfK rfl _ _ w.heap.size _ rfl (CA.out _ rfl).2.1 rfl) rfl ?_;exact⟨(CA.out _ rfl).1,.inr (.inl ⟨d,i,_,HP.out,by rw[I];exact RF.out,rfl,(CA.out _ rfl).2.2⟩)⟩
  have ar:=jnS f;have ay:=jnS aa
  have PN:Hid (qq y (c.take (i+1))=some (zE k x)):=by show _=_;rw[JZ HX.out,QA m.out,if_pos h0]
  have GN:Hid (Xo y (c.take (i+1))=Xo y (c.take i)++[za k x]):=by show _=_;rw[JZ HX.out,UX _ _ _ _ m.out]
  have SN:Hid (xL (c.take (i+1))=xL (c.take i)+x.length):=jkt HX.out;clear b5 f aa P h0;go_wp2_with fail;go_roundw
  case rel=>exact⟨i+1,zE k x,ah,by go_num,PN.out,B5.out,ar.out,by rw[GN.out,SN.out,<- jpC];exact ay.out⟩
  case measure=>simp[intOf];omega
 have aE:c.take i=c:=jol (by omega);rw[aE]at p hP;obtain⟨⟨Q,a8,ak,aL,am,cK,CK,GK⟩,_⟩:=hP;obtain⟨ga,gc,rfl,_⟩:=je GK.row;obtain⟨PE,oE⟩:=jm0 j (ptr Q) (.int .i64 y.next) (.slice ga (Xo y c).length gc);have E:=CK.only oE (fun r hr e=>jhl CK j (by intro x hx s;simp at hx;rcases hx with rfl | rfl | rfl<;>exact fun h=>by cases h) N r hr e)
 have GE:=GK.box j (by decide) (by decide) oE;have aw:=jnS (show zS w.heap.size _ Q a8 ak k (s.length+xL c) from⟨E.la,E.es,E.ok,E.sz,by have:=E.lb0;omega,fun b e=>by have:=E.ev0 b e;omega,E.len,E.nx⟩)
 have av:=jnS (show XQ w.heap.size _ _ (Xo y c) am from⟨jE GE.row (by omega),fun i g u h1 h2=>jE (GE.each i g u h1 h2) (by omega)⟩);have aA:=jnS PE
 have BE:=jnS (H.trans (oE.to_below H.size (fun r hr e=>by omega)));have m:=jnS p
 have c0:=j.cell 0;have c1:=j.cell 1
 have c2:=j.cell 2;have f0:=j.frozen 0
 have f1:=j.frozen 1;have f2:=j.frozen 2
 have d0:=cK.cell 0;have d1:=cK.cell 1
 have d2:=cK.cell 2;simp only[jn0,jnZ,jnX]at c0 c1 c2 d0 d1 d2;clear p cK CK GK PE oE E GE H j;unfold ptr at *
 go_wp2_with fail;refine bodyPost_ret (jfK rfl _ _ w.heap.size _ rfl aA.out rfl) rfl ?_;exact⟨BE.out,.inr (.inr ⟨d,k,Q,a8,ak,_,am,HP.out,by rw[I];exact m.out,by rw[I];rfl,aw.out,by rw[I];exact av.out⟩)⟩
end Rp
namespace Sm.M
def st(x:Nat):Nat:=if x / 2147483648=1 then (x*2 % 4294967296) ^^^ 79764919 else x*2 % 4294967296
def stn:Nat->Nat->Nat
 | 0,x=>x
 | n+1,x=>stn n (st x)
def jls(x c:Nat):Nat:=stn 8 (x ^^^ (c*16777216))
def feed(x:Nat)(l:List UInt8):Nat:=l.foldl (fun x c=>jls x c.toNat) x
theorem jkA(x:Nat):st x<4294967296:=by
 unfold st;split
 ·exact jpM (n:=32) (jqc _ (by decide)) (by decide)
 exact jqc _ (by decide)
theorem stn_lt(n x:Nat)(h:x<4294967296):stn n x<4294967296:=by
 induction n generalizing x with
 | zero=>exact h
 | succ n a=>exact a _ (jkA x)
theorem stn_succ(n x:Nat):stn (n+1) x=st (stn n x):=by
 induction n generalizing x with
 | zero=>rfl
 | succ n a=>show stn (n+1) (st x)=st (stn n (st x));exact a _
theorem jji(x c:Nat)(h:x<4294967296)(a:c<256):jls x c<4294967296 :=
 stn_lt _ _ (jpM (n:=32) h (by omega))
theorem feed_lt(l:List UInt8)(x:Nat)(h:x<4294967296):feed x l<4294967296:=by
 induction l generalizing x with
 | nil=>exact h
 | cons c l a=>exact a _ (jji x _ h c.toNat_lt)
theorem feed_append(x:Nat)(l r:List UInt8):feed x (l++r)=feed (feed x l) r:=by simp[feed,List.foldl_append]
theorem feed_snoc(x:Nat)(l:List UInt8)(c:UInt8):feed x (l++[c])=jls (feed x l) c.toNat:=by simp[feed,List.foldl_append]
theorem tb(x i:Nat)(h:x<4294967296):(x*2 % 4294967296).testBit i=(decide (i<32)&&decide (0<i)&&x.testBit (i-1)):=by
 have:(x*2 % 4294967296)=(x <<< 1) % 2 ^ 32:=by rw[Nat.shiftLeft_eq]
 rw[this,Nat.testBit_mod_two_pow,Nat.testBit_shiftLeft];by_cases a:i<32<;>by_cases b:0<i<;>simp[a,b]<;>omega
theorem top(x:Nat)(h:x<4294967296):(x / 2147483648=1)↔x.testBit 31=true:=by rw[Nat.testBit_eq_decide_div_mod_eq,show 2 ^ 31=2147483648 from rfl];simp;omega
theorem jkD(x y:Nat)(hx:x<4294967296)(a:y<4294967296):(x ^^^ y)*2 % 4294967296=(x*2 % 4294967296) ^^^ (y*2 % 4294967296):=by apply jqB;intro i;rw[tb _ _ (jpM (n:=32) hx a),jqi,jqi,tb _ _ hx,tb _ _ a];cases decide (i<32)<;>cases decide (0<i)<;>simp
theorem jl3(x y:Nat)(hx:x<4294967296)(d:y<4294967296):st (x ^^^ y)=st x ^^^ st y:=by
 have c:x ^^^ y<4294967296:=jpM (n:=32) hx d;unfold st;rw[jkD x y hx d];simp only[top x hx,top y d,top _ c,jqi];generalize x*2 % 4294967296=a;generalize y*2 % 4294967296=b;generalize 79764919=p;cases x.testBit 31<;>cases y.testBit 31<;>simp
 ·rw[jqr]
 ·rw[jqr,jqr,Nat.xor_comm b p]
 rw[jqr,Nat.xor_comm p,jqr,Nat.xor_self,Nat.xor_zero]
theorem jku(n x y:Nat)(hx:x<4294967296)(a:y<4294967296):stn n (x ^^^ y)=stn n x ^^^ stn n y:=by
 induction n generalizing x y with
 | zero=>rfl
 | succ n b=>show stn n (st _)=_;rw[jl3 x y hx a,b _ _ (jkA x) (jkA y)];rfl
theorem jl5(x:Nat)(h:x<2147483648):st x=x*2:=by unfold st;rw[if_neg (by omega)];omega
theorem jkv(n x:Nat)(h:x*2 ^ n<4294967296):stn n x=x*2 ^ n:=by
 induction n generalizing x with
 | zero=>simp[stn]
 | succ n a =>
 have e:x*2 ^ (n+1)=x*2*2 ^ n:=by rw[jqk,Nat.mul_comm (2 ^ n) 2,Nat.mul_assoc]
 have hx:x<2147483648:=by
  have:=Nat.one_le_two_pow (n:=n);have b:x*2*1<=x*2*2 ^ n:=Nat.mul_le_mul_left _ this
  omega
 show stn n (st x)=_;rw[jl5 x hx,a _ (by rw[<- e];exact h),e]
theorem four(x:Nat)(hx:x<4294967296):stn 4 x=(x*16 % 4294967296) ^^^ stn 4 (x / 268435456*268435456):=by
 have e:x=(x / 268435456*268435456) ^^^ (x % 268435456):=by
  have h:=Nat.two_pow_add_eq_or_of_lt (i:=28) (b:=x % 268435456) (jqc _ (by decide)) (x / 268435456);have d:x / 268435456*268435456 ^^^ x % 268435456=2 ^ 28*(x / 268435456)+x % 268435456:=by
   rw[Nat.mul_comm,show(268435456:Nat)=2 ^ 28 from rfl];apply jqB;intro i;rw[h,jqi,Nat.testBit_or,Nat.testBit_two_pow_mul,Nat.testBit_mod_two_pow];by_cases a:i<28
   ·simp[a,Nat.not_le.2 a]
   simp[a]
  omega
 have c:x / 268435456*268435456<4294967296:=by omega
 have hl:x % 268435456<4294967296:=by omega
 conv=>lhs;rw[e]
 rw[jku 4 _ _ c hl,jkv 4 (x % 268435456) (by omega),Nat.xor_comm];congr 1;omega
theorem m24(c:Nat)(h:c<256):c*16777216<4294967296:=by omega
theorem m16(c:Nat)(h:c<256):c*65536<16777216:=by omega
theorem a1(t:Nat):t*65536*256=t*16777216:=by omega
theorem a2(t:Nat):t*256*256=t*65536:=by omega
theorem z24(p y:Nat)(h:p*16777216=y)(a:y<16777216):p=0/\y=0:=by omega
theorem z8(p y:Nat)(h:p*256=y)(a:y<256):p=0/\y=0:=by omega
end Sm.M
namespace Sm
def cat(ss:List ByteArray):List UInt8:=ss.flatMap (·.data.toList)
theorem jjD(a:List ByteArray)(k:Nat)(s:ByteArray)(h:a[k]?=some s):cat (a.take (k+1))=cat (a.take k)++s.data.toList:=by
 have c:k<a.length:=by
  rcases joo k a.length with b|b
  ·exact b
  rw[jon b]at h;cases h
 rw[jpx c,cat,jow];have:a[k]=s:=by rw[jnW c]at h;injection h
 rw[this];simp[cat]
def M.crc(l:List UInt8):Nat:=4294967295-M.feed 4294967295 l
theorem M.crc_lt(l:List UInt8):M.crc l<4294967296:=by unfold M.crc;omega
def dg(n:Nat):UInt8:=if n<10 then UInt8.ofNat (48+n) else UInt8.ofNat (87+n)
def figs(x:Nat):ByteArray:=⟨#[dg (x / 268435456 % 16),dg (x / 16777216 % 16),dg (x / 1048576 % 16),dg (x / 65536 % 16),dg (x / 4096 % 16),dg (x / 256 % 16),dg (x / 16 % 16),dg (x % 16)]⟩
theorem jgT(x k:Nat)(a:k<8):(figs x).data.toList.drop (8-(k+1))=dg (x / 16 ^ k % 16)::(figs x).data.toList.drop (8-k):=by
 match k,a with
 | 0,_ | 1,_ | 2,_ | 3,_ | 4,_ | 5,_ | 6,_ | 7,_=>simp[figs]
 | n+8,h=>omega
def val(c:Nat):Option Nat:=if 48<=c/\c<=57 then some (c-48) else if 97<=c/\c<=102 then some (c-87) else none
def DIG:List UInt8:=[48,49,50,51,52,53,54,55,56,57,97,98,99,100,101,102]
def ix(c:Nat):Int:=match val c with | some d=>d | none => -1
theorem jlX{c d:Nat}(h:val c=some d):d<16:=by
 unfold val at h;split at h
 ·injection h;omega
 split at h
 ·injection h;omega
 cases h
def tk(acc:Nat):List UInt8->Option Nat
 | []=>some acc
 | c::l=>match val c.toNat with
  | none=>none
  | some d=>tk (acc*16 % 4294967296+d) l
def takes(l:List UInt8):Option Nat:=if l.length=8 then tk 0 l else none
theorem jmK:∀(c:Fin 256) (k:Fin 16),((dg k.val).toNat=c.val)↔(val c.val=some k.val):=by decide +kernel
theorem jlY{n:Nat}(h:n<16):val (dg n).toNat=some n:=by exact(jmK ⟨(dg n).toNat,(dg n).toNat_lt⟩ ⟨n,h⟩).1 rfl
theorem jaa(a n:Nat)(l:List UInt8)(h:n<16):tk a (dg n::l)=tk (a*16 % 4294967296+n) l:=by rw[tk,jlY h]
theorem takes_figs(x:Nat)(hx:x<4294967296):takes (figs x).data.toList=some x:=by
 unfold takes;rw[if_pos (show(figs x).data.toList.length=8 from rfl)];have e:(figs x).data.toList=[dg (x / 268435456 % 16),dg (x / 16777216 % 16),dg (x / 1048576 % 16),dg (x / 65536 % 16),dg (x / 4096 % 16),dg (x / 256 % 16),dg (x / 16 % 16),dg (x % 16)]:=rfl
 rw[e,jaa _ _ _ (by omega),jaa _ _ _ (by omega),jaa _ _ _ (by omega),jaa _ _ _ (by omega),jaa _ _ _ (by omega),jaa _ _ _ (by omega),jaa _ _ _ (by omega),jaa _ _ _ (by omega)];rw[show 0*16 % 4294967296+x / 268435456 % 16=x / 268435456 by omega,show x / 268435456*16 % 4294967296+x / 16777216 % 16=x / 16777216 by omega,
  show x / 16777216*16 % 4294967296+x / 1048576 % 16=x / 1048576 by omega,show x / 1048576*16 % 4294967296+x / 65536 % 16=x / 65536 by omega,
  show x / 65536*16 % 4294967296+x / 4096 % 16=x / 4096 by omega,show x / 4096*16 % 4294967296+x / 256 % 16=x / 256 by omega,
  show x / 256*16 % 4294967296+x / 16 % 16=x / 16 by omega,show x / 16*16 % 4294967296+x % 16=x by omega]
 rfl
end Sm
section
open Go.Lib
theorem QY{u:Nat}(h:u<10):(UInt8.ofNat (48+u)).toNat=48+u:=by rw[UInt8.toNat_ofNat'];omega
theorem jY(u:Nat):∀c∈decDigits u,48<=c.toNat/\c.toNat<=57:=by
 induction u using Nat.strongRecOn with
 | _ u b =>
 intro c a;by_cases h:u<10
 ·rw[decDigits_one h]at a;rw[List.mem_singleton.1 a,QY h];omega
 rw[decDigits,dif_neg h]at a;rcases List.mem_append.1 a with a|a
 ·exact b (u / 10) (by omega) c a
 rw[List.mem_singleton.1 a,QY (by omega)];omega
theorem Ws(u:Nat):decDigits u≠[]:=by
 intro h;have:=decDigits_length u
 have:=nDigits_pos u;rw[h]at *;simp at *;omega
theorem KH(c:UInt8):∀(l:List UInt8) (acc:Nat),parseUint10 acc (l++[c])=(match parseUint10 acc l with | .ok a=>parseUint10 a [c] | NumEnd.syntax=>NumEnd.syntax | .range=>.range)
 | [],acc=>rfl
 | d::r,acc=>by
  show parseUint10 acc (d::(r++[c]))=_
  unfold parseUint10
  split
  ·split
   ·rfl
   split
   ·rfl
   exact KH c r _
  rfl
theorem ZJ(u:Nat)(hu:u<18446744073709551616):parseUint10 0 (decDigits u)=.ok u:=by
 induction u using Nat.strongRecOn with
 | _ u ih =>
 by_cases h:u<10
 ·rw[decDigits_one h]
  unfold parseUint10
  rw[QY h,if_pos (by omega),if_neg (by omega),if_neg (by omega)]
  unfold parseUint10
  congr 1;omega
 rw[decDigits,dif_neg h,KH,ih (u / 10) (by omega) (by omega)]
 show parseUint10 (u / 10) _=_
 unfold parseUint10
 rw[QY (show u % 10<10 by omega),if_pos (by omega),if_neg (by omega),if_neg (by omega)]
 unfold parseUint10
 congr 1;omega
def I64(n:Int):Prop := -9223372036854775808<=n/\n<=9223372036854775807
theorem jhx{n:Int}(h:I64 n):atoiAll (itoa n)=.ok n:=by
 obtain⟨f,g⟩:=h;unfold itoa;by_cases e:n<0
 ·rw[if_pos e];unfold atoiAll;have a:(45:UInt8).toNat=45:=rfl
  simp only[a,or_true,if_true];have d:parseMag (decDigits n.natAbs)=.ok n.natAbs:=by unfold parseMag;rw[if_neg (Ws _),ZJ _ (by omega)]
  rw[d];simp only[not_true,false_and,if_false,true_and];rw[if_neg (by omega)];congr 1;omega
 rw[if_neg e];have d:parseMag (decDigits n.toNat)=.ok n.toNat:=by unfold parseMag;rw[if_neg (Ws _),ZJ _ (by omega)]
 cases b:decDigits n.toNat with
 | nil=>exact absurd b (Ws _)
 | cons c r =>
 have i:=jY n.toNat c (by rw[b];exact jn5);unfold atoiAll;simp only;rw[if_neg (by omega),<- b,d];simp only;rw[if_neg (by omega),if_neg (by omega),if_neg (by omega)];congr 1;omega
def qt(l:List UInt8):Int:=match atoiAll l with | .ok v=>v | NumEnd.syntax=>0 | .range=>atoiSat l
theorem vy{n:Int}(h:I64 n):qt (itoa n)=n:=by unfold qt;rw[jhx h]
theorem jeq(n:Int):∀c∈itoa n,c.toNat=45\/(48<=c.toNat/\c.toNat<=57):=by
 intro c a;unfold itoa at a;split at a
 ·rcases List.mem_cons.1 a with rfl|a
  ·exact .inl rfl
  exact .inr (jY _ c a)
 exact .inr (jY _ c a)
theorem jk5{n:Int}{c:UInt8}(b:c.toNat≠45)(d:c.toNat<48\/57<c.toNat):c∉itoa n:=fun a=>by have:=jeq n c a;omega
theorem jiJ{a b:Int}(c:I64 a)(d:I64 b)(h:itoa a=itoa b):a=b:=by rw[<- vy c,<- vy d,h]
def Jc(n:Int)(l:List UInt8):Int:=l.foldl (fun n c=>10*n-((c.toNat:Int)-48)) n
theorem QP(n:Int)(l:List UInt8)(c:UInt8):Jc n (l++[c])=10*Jc n l-((c.toNat:Int)-48):=by unfold Jc;rw[jqn];rfl
theorem Jb(u:Nat):Jc 0 (decDigits u) = -(u:Int):=by
 induction u using Nat.strongRecOn with
 | _ u a =>
 by_cases h:u<10
 ·rw[decDigits_one h];show 10*(0:Int)-(((UInt8.ofNat (48+u)).toNat:Int)-48)=_
  rw[QY h];omega
 rw[decDigits,dif_neg h,QP,a (u / 10) (by omega),QY (show u % 10<10 by omega)];omega
theorem JE(u k:Nat):∃m:Nat,Jc 0 ((decDigits u).take k) = -(m:Int)/\m<=u:=by
 induction u using Nat.strongRecOn generalizing k with
 | _ u b =>
 by_cases a:(decDigits u).length<=k
 ·rw[jol a];exact⟨u,Jb u,jnT _⟩
 by_cases h:u<10
 ·rw[decDigits_one h]at a ⊢;have:k=0:=by simp at a;omega
  subst this;exact⟨0,rfl,jn3 _⟩
 rw[decDigits,dif_neg h]at a ⊢;rw[jnU]at a;simp only[jn1,joz]at a;rw[jpF (by omega)];obtain⟨m,e,c⟩:=b (u / 10) (by omega) k;exact⟨m,e,by omega⟩
end
namespace Fr
open Go.Lib
def sp:Bool->List UInt8->Bool
 | _,[]=>true
 | s,c::l=>(!s || c==32)&&sp (c==10) l
def fresh(s:Bool)(l:List UInt8):Bool:=match l.getLast? with | none=>s | some c=>c==10
def vD(l:List UInt8):Bool:=l.getLast?==some 10
def goodR(l:List UInt8):Bool:=decide (2<=l.length)&&decide (l.length<=50000)&&vD l&&sp true l
def AMD:List UInt8:=[37,97,109,101,110,100,32]
def END:List UInt8:=[37,101,110,100,32]
def jN(n:Nat)(f:List UInt8):List UInt8:=AMD++(decDigits n++32::f)
def zi(n:Nat):List UInt8:=END++(decDigits n++[10])
def recR(n:Nat)(f b:List UInt8):List UInt8:=jN n f++10::(b++zi n)
def vn(b:List UInt8):List UInt8:=(Sm.figs (Sm.M.crc b)).data.toList
def fullR(b:List UInt8):List UInt8:=recR b.length (vn b) b
def QV(f:List UInt8):Prop:=∃x,Sm.takes f=some x
structure jbw(l:List UInt8)(n:Nat)(f:List UInt8):Prop where
 lo:2<=n
 hi:n<=50000
 fig:QV f
 eq:l=jN n f
def xK(t:List UInt8):Prop:=∃n f b z,goodR b=true/\b.length=n/\QV f/\t++z=recR n f b/\z≠[]
def vG(t b:List UInt8):Prop:=goodR b=true/\∃zI,t=fullR b++zI
def jS(t:List UInt8)(k:Nat)(b:List UInt8)(n:Nat):Prop :=
 (vG t b/\k=1/\n=(fullR b).length)\/(xK t/\k=2/\b=[]/\n=0)\/(¬xK t/\(¬∃b,vG t b)/\k=3/\b=[]/\n=0)
theorem jhe{a b:Nat}(d:a<18446744073709551616)(e:b<18446744073709551616)(h:decDigits a=decDigits b):a=b:=by have c:=ZJ a d;rw[h,ZJ b e]at c;injection c with c;exact c.symm
theorem xC{n:Nat}(h:¬n<10):decDigits n=decDigits (n / 10)++[UInt8.ofNat (48+n % 10)]:=by rw[decDigits,dif_neg h]
theorem xD{n:Nat}(h:n<=99999):(decDigits n).length<=5:=by
 have step:∀(k m:Nat),(m<10 ^ k->(decDigits m).length<=k)->∀u,u<10 ^ (k+1)->(u / 10=m\/u<10)->(decDigits u).length<=k+1:=by
  intro k m d u c b;by_cases a:u<10
  ·rw[decDigits_one a];simp
  rcases b with b|b
  ·rw[xC a,jnU,b];have:m<10 ^ k:=by rw[jqk]at c;omega
   have:=d this;simp;omega
  exact absurd b a
 have f:∀k u:Nat,1<=k->u<10 ^ k->(decDigits u).length<=k:=by
  intro k
  induction k with
  | zero=>intro u e;omega
  | succ k d =>
  intro u _ c;by_cases e:k=0
  ·subst e;rw[decDigits_one (by simpa using c)];simp
  exact step k (u / 10) (d (u / 10) (by omega)) u c (.inl rfl)
 exact f 5 n (by omega) (by omega)
theorem Wr:∀(n:Nat) (a r:List UInt8),a≠[]->a++r=decDigits n->∃v,a=decDigits v/\v<=n/\(1<=n->1<=v):=by
 intro n
 induction n using Nat.strongRecOn with
 | _ n i =>
 intro a r f h;by_cases b:n<10
 ·rw[decDigits_one b]at h;cases a with
  | nil=>exact absurd rfl f
  | cons c a =>
  have hl:=congrArg List.length h;simp only[jnU,jn1,joz]at hl;obtain⟨rfl,rfl⟩:a=[]/\r=[]:=by constructor<;>apply joX<;>omega
  exact⟨n,by rw[decDigits_one b];simpa using h,jnT _,id⟩
 rcases jpk r with rfl|⟨j,x,rfl⟩
 ·exact⟨n,by simpa using h,jnT _,id⟩
 rw[xC b,jpl,<- jn8]at h;have g:=(List.append_inj' h rfl).1
 obtain⟨v,e,k,d⟩:=i (n / 10) (by omega) a j f g;exact⟨v,e,by omega,fun _=>d (by omega)⟩
theorem jjo(n:Nat):(10:UInt8)∉decDigits n:=fun h=>by have:=jY n _ h;simp at this
theorem Gk(n:Nat):(32:UInt8)∉decDigits n:=fun h=>by have:=jY n _ h;simp at this
theorem xy{f:List UInt8}(h:QV f):f.length=8:=by
 obtain⟨x,h⟩:=h;unfold Sm.takes at h;split at h
 ·assumption
 cases h
def Xi(c:UInt8):Bool:=(Sm.val c.toNat).isSome
theorem jjV:∀(l:List UInt8) (a:Nat),(∃x,Sm.tk a l=some x)↔l.all Xi=true
 | [],a=>by simp[Sm.tk]
 | c::l,a=>by
  unfold Sm.tk;cases b:Sm.val c.toNat with
  | none=>simp[Xi,b]
  | some d=>simp only[jpQ,Xi,b,Option.isSome_some,jpD];exact jjV l _
theorem vP{f:List UInt8}:QV f↔f.length=8/\f.all Xi=true:=by
 unfold QV Sm.takes;by_cases h:f.length=8
 ·simp only[h,if_true,true_and];exact jjV f 0
 simp[h]
theorem jmt{c:UInt8}(h:Xi c=true):c≠10/\c≠32:=by constructor<;>(rintro rfl;revert h;decide)
theorem jje{f:List UInt8}(h:QV f):(10:UInt8)∉f:=fun a=>(jmt (List.all_eq_true.1 (vP.1 h).2 _ a)).1 rfl
theorem qL(b:List UInt8):QV (vn b):=⟨_,Sm.takes_figs _ (Sm.M.crc_lt b)⟩
theorem vF{n:Nat}{f:List UInt8}(h:QV f):(10:UInt8)∉jN n f:=by
 unfold jN AMD;have:=jjo n
 have:=jje h;simp_all
theorem split_at{m:UInt8}:∀{a b x y:List UInt8},m∉a->m∉b->a++m::x=b++m::y->a=b/\x=y
 | [],[],x,y,_,_,h=>by simpa using h
 | [],c::b,x,y,_,f,h=>by simp at h;exact absurd (h.1▸jn5) f
 | c::a,[],x,y,e,_,h=>by simp at h;exact absurd (h.1▸jn5) e
 | c::a,d::b,x,y,e,f,h=>by simp only[jog,jpO]at h;obtain⟨rfl,h⟩:=h;obtain⟨rfl,rfl⟩:=split_at (fun q=>e (jn4 _ q)) (fun q=>f (jn4 _ q)) h;exact⟨rfl,rfl⟩
theorem Uw{n a:Nat}{f b:List UInt8}(i:n<=50000)(g:a<=50000)(h:jN n f=jN a b):n=a/\f=b:=by
 unfold jN at h;have c:=jpG h
 obtain⟨d,e⟩:=split_at (Gk n) (Gk a) c;exact⟨jhe (by omega) (by omega) d,e⟩
end Fr
end Go.Proofs.YtbapfpekklcicaaGreatDoor
