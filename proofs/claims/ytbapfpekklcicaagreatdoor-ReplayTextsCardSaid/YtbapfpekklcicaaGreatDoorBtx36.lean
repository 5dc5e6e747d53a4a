/- Texts put together:BH,HD,HE,SYN,SM,SO,SN,GF. -/
import Derived.Test.YtbapfpekklcicaaGreatDoorBtx35
set_option linter.unusedVariables false
set_option maxRecDepth 100000
set_option maxHeartbeats 16000000
namespace Go.Proofs.YtbapfpekklcicaaGreatDoor
open Go.RowKit Go.Shelf Tryz
section
attribute [local go_sem] joY
def jno(x:List UInt8):Value:=.string (B x)
theorem jaq{w:World}{base:Nat}{v:Value}{j:List (List UInt8)}(h:w.ownsRow base 9 1 v j.length (j.map jno)):Strs w v (j.map B):=by
 by_cases m:j=[]
 ·subst m;obtain⟨A,c,rfl,b⟩:=je h;exact⟨A,c,rfl,b,fun i z d=>by simp at d⟩
 have n:j.length≠0:=fun e=>m (List.length_eq_zero_iff.1 e);have a:=h
 obtain⟨g,k,f⟩:=jpO a (by omega);have b:j.length<=k:=by obtain⟨A,c,e,b⟩:=je h;rw[f]at e;cases e;exact b
 rw[f]at a;refine⟨_,k,by rw[f,jo8],by rw[jo8];exact b,fun i z d => ?_⟩;have l:=(List.getElem?_eq_some_iff.1 d).1
 rw[jo8]at l;refine⟨g,0,rfl,(a.lt g rfl).2,?_⟩;rw[jpl,jo1 a i (by omega)];rw[jpx]at d ⊢;cases hx:j[i]? with
 | none=>rw[hx]at d;cases d
 | some x=>rw[hx]at d;cases d;rfl
def joC(w w':World)(l:List UInt8)(e:Ending):Prop :=
 Below w.heap.size w w'/\((Qf l=none/\e=.returned (.tuple #[.slice none 0 0,.bool false]))\/∃eds u fvs,Qf l=some eds/\e=.returned (.tuple #[u,.bool true])/\yr w.heap.size w' u eds fvs)
theorem yr.low{lo a:Nat}{w:World}{v:Value}{eds:List Ed}{fvs:List Value}(h:yr lo w v eds fvs)(hl:a<=lo):yr a w v eds fvs :=
 ⟨jA h.row hl,h.len,fun i b c d e=>jA (h.each i b c d e) hl⟩
structure jnG(w wr:World)(l:List UInt8)(k:Nat)(ov sv:Value)(st:StD)(fvs:List Value):Prop where
 run:k<=(zS l).length->Jd ((zS l).take k) ([],[])=some st
 fin:k=(zS l).length+1->st.2=[]/\jfF (zS l)=some st.1
 own:yr w.heap.size wr ov st.1 fvs
 str:wr.ownsRow w.heap.size 9 1 sv st.2.length (st.2.map jno)
 bel:Below w.heap.size w wr
theorem ZG:∀(b:List (List UInt8)),(∀x∈b,x.length<=wL b)/\(b.map List.length).sum+b.length<=wL b
 | []=>⟨(fun x hx=>by cases hx),joJ _⟩
 | a::r=>by
  obtain⟨c,d⟩:=ZG r;have e:wL (a::r)=a.length+3+wL r:=by unfold wL;rw[jpr,jpR]
  refine⟨fun x hx => ?_,by rw[e,jpr,jpR,joR];omega⟩;rcases List.mem_cons.1 hx with q|q
  ·rw[e,q];omega
  have:=c x q;omega
theorem jiY{lo h n:Nat}{w m:World}{k l:Value}{E:List Ed}{fvs xs:List Value}(a:yr lo w k E fvs)(j:w.ownsRow h 9 1 l n xs)(g:w.grownBy m l.ownBlock):yr lo m k E fvs :=
 ⟨jU a.row (fun r e=>g.block r (a.row.lt r e).2 (fun q=>jZ j a.row (by decide) r q.symm e)),a.len,
  fun i b c d f=>jU (a.each i b c d f) (fun r e=>g.block r ((a.each i b c d f).lt r e).2 (fun q=>jZ j (a.each i b c d f) (by decide) r q.symm e))⟩
theorem jiZ{lo:Nat}{w k:World}{s f:Value}{E:List Ed}{fvs:List Value}{x:Ed}(l:yr lo w s E fvs)(hx:x.fields=[])
  (h:k.ownsRow lo 75 3 f (E.length+1) (xg E fvs++[.int .i64 x.kind,.int .i64 x.id,.slice none 0 0])) (g:w.grownBy k s.ownBlock):yr lo k f (E++[x]) (fvs++[.slice none 0 0]):=by
 have b:=l.len;have m:∀(d:Value) (n:Nat) (o:List Value),w.ownsRow lo 148 2 d n o->k.ownsRow lo 148 2 d n o:=fun d n o hx =>
  jU hx (fun r e=>g.block r (hx.lt r e).2 (fun q=>jZ l.row hx (by decide) r q.symm e))
 refine⟨?_,by rw[joK,joK,b];rfl,fun i y d a c => ?_⟩
 ·rw[Vd _ _ _ _ b,joK];exact h
 rcases jpc i E.length with q|q
 ·rw[jpf q]at a;rw[jpf (by omega)]at c;exact m _ _ _ (l.each i y d a c)
 rw[jo7 q]at a;rw[jo7 (by omega),b]at c;rcases p:i-E.length with _|j
 ·rw[p]at a c;simp at a c;subst a c;rw[hx];exact⟨rfl,.inl ⟨rfl,rfl⟩⟩
 rw[p]at a;simp at a
def Ub(s:List UInt8):Nat->Ed
 | 0=>⟨0,0,[]⟩
 | j+1=>jbV s ((j:Int)+1) (Ub s j)
theorem Zh(s:List UInt8):∀j,(Ub s j).fields=[]
 | 0=>rfl
 | j+1=>by
  show(jbV s _ _).fields=[]
  unfold jbV;split
  ·split
   ·rfl
   exact Zh s j
  exact Zh s j
theorem jg7(s:List UInt8):headD s=Ub s 3:=rfl
theorem jgM{k:Int}(a:k=1\/k=2\/k=3):zi k 0=Ko k++[48]:=by unfold zi Ko;rw[if_pos a,jn2];simp
theorem jiV{k:Int}(a:k=1\/k=2\/k=3):(Ko k).length<=9:=by rcases a with rfl | rfl | rfl<;>decide
theorem ZM(l:List UInt8)(hl:l.length<=6000)(w:World):
  Calls prog 58 #[.string (B l)] w fun e w'=>joC w w' l e:=by
 have bs:=jg l;have SP:=joI (yv (B l) (by omega) w)
 rw[show(B l).data.toList=l from jj l]at SP;have hn:(jf l).length=(zS l).length:=by unfold zS;rw[jo8]
 have q0:decide (50000<((B l).size:Int))=false:=by simp;omega
 generalize hX:B l=X at *
 go_enter func58,ntmps58;go_wp2_with fail;refine SP.out.mono ?_;rintro e w1 ⟨v1,rfl,aM,b1⟩;rw[hn]at aM;obtain⟨la,lc,rfl,_⟩:=je aM;have dK:(zS l).length<=6000:=by rw[<- hn];have:=zO l;omega
 have cd:=joI aM;have B1:=joI b1
 have cT:=b1.size;clear SP aM b1;generalize hN:(zS l).length=n at *
 go_wp2_with fail;go_loopw [4,5,7] (fun ov sv i wr=>∃(k:Nat) (st:StD) (L:List Value),i=.int .i64 k/\k<=n+1/\jnG w1 wr l k ov sv st L) (fun _ _ i _=>n+2-(intOf i).toNat)
 case atStart=>exact⟨0,([],[]),[],rfl,joT _,⟨fun _=>rfl,fun h=>by omega,⟨⟨rfl,.inl ⟨rfl,rfl⟩⟩,rfl,fun i ed fv h1 _=>by simp at h1⟩,⟨rfl,.inl ⟨rfl,rfl⟩⟩,joL _ _⟩⟩
 case round =>
 obtain⟨k,st,L,rfl,hk,HC⟩:=hrel;have aQ:=HC.bel
 obtain⟨d,C⟩:=st;obtain⟨oa,oc,rfl,_⟩:=je HC.own.row;obtain⟨sa,sc,rfl,_⟩:=je HC.str;dsimp only at *
 by_cases dr:k<=n
 ·have Z:=HC.run (by rw[hN];exact dr);have v:=jmn Z
  have Y:C≠[]->d≠[]:=jkv _ (fun q=>absurd rfl q) Z;have m:yr w1.heap.size wr (.slice oa d.length oc) d L:=HC.own
  have af:wr.ownsRow w1.heap.size 9 1 (.slice sa C.length sc) C.length (C.map jno):=HC.str;by_cases dp:k=n
  ·subst dp;have aq:jfF (zS l)=(zL (d,C)).map Prod.fst:=by unfold jfF;rw[<- hN,jpa]at Z;rw[Z];rfl
   by_cases t:C=[]
   ·subst t;have de:Hid (jnG w1 wr l (k+1) (.slice oa d.length oc) (.slice sa 0 sc) (d,[]) L):=⟨fun q=>by rw[hN]at q;omega,fun _=>⟨rfl,by rw[aq];unfold zL;rw[if_pos rfl];rfl⟩,HC.own,HC.str,HC.bel⟩
    simp only[jpm];clear HC Z v Y aq;go_wp2_with fail;go_roundw
    case rel=>exact⟨k+1,(d,[]),L,by go_num,joJ _,de.out⟩
    case measure=>first | (simp[intOf];done) | (simp[intOf];omega)
   have ay:=ZG C;have aD:=v.wt
   simp only at aD;have UF:=joI (ZK C _ wr (jaq af) (fun x hx=>by have:=ay.1 x hx;omega) (by omega) (by have:=ZJ C;omega))
   obtain⟨o,s,ae⟩:∃o s,d=o++[s]:=by
    rcases jqb d with z|⟨o,s,z⟩
    ·exact absurd z (Y t)
    exact⟨o,s,by rw[z,jqc]⟩
   have bo:d.length=o.length+1:=by rw[ae];simp
   have cR:0<C.length:=List.length_pos_iff.2 t;have qf:decide (0<(C.length:Int))=true:=by simp;omega
   obtain⟨I,au,cp⟩:=jpO m.row (by omega);obtain⟨rfl,rfl⟩:oa=some ⟨I,0,none⟩/\oc=au:=by injection cp with q1 _ q2;exact⟨q1,q2⟩
   obtain⟨fv,aK⟩:∃fv,L[o.length]?=some fv:=⟨_,joM (by rw[m.len,bo];omega)⟩
   have am:d[o.length]?=some s:=by rw[ae];simp
   have bz:=m.each o.length s fv am aK;have aA:=v.cnt s (joW am)
   simp only at aA;have c2:wr.cell? ⟨I,o.length*3+2,none⟩=some fv:=by rw[jo1 m.row (o.length*3+2) (by omega)];exact(Yw d L o.length s fv am aK).2.2
   have z2:wr.frozen? ⟨I,o.length*3+2,none⟩=false:=by
    rcases m.row.2 with ⟨q,_⟩|⟨g',cH,dl,q,_,hc,_⟩
    ·cases q
    cases q;simp[World.frozen?,hc]
   have D:=m.row.lt I rfl;have cQ:o.length<=40:=by have h4:=v.len;simp only at h4;omega
   have aE:=joI bz;have HO:=joI m
   have HB:=joI HC.bel;have aj:=joI aQ
   have aJ:s.fields.length<=100000:=by omega
   have O:=HC.bel;have q3:(k:Int)=(k:Int):=rfl
   clear HC m af Z v Y bz aA ay aD;go_wp2_with fail;refine UF.out.mono ?_;rintro e w2 ⟨rfl,Q⟩;have B2:=joI (O.trans (Q.mono O.size))
   have av:=joI (aj.out.trans (Q.mono aj.out.size));clear UF;by_cases N:jy C=0
   ·have cj:Hid (zL (d,C)=some (jki d (jW C,jV C),[])):=by show zL _=_;unfold zL;rw[if_neg t,if_pos N]
    rw[N];have aF:yr w1.heap.size w2 (.slice (some ⟨I,0,none⟩) (o.length+1) oc) (o++[s]) L:=by rw[<- ae,<- bo];exact HO.out.below Q (joJ _)
    have bY:=joI aF;have aB:=aE.out
    unfold zC;generalize hK:jW C=K at *
    generalize hV:jV C=V at *
    obtain⟨wf,ar⟩:∃wf,wf=w2.alloc (.cells #[.string (B K),.string (B V)] 148):=⟨_,rfl⟩
    have J:Below w2.heap.size w2 wf:=by rw[ar];exact(joL _ w2).alloc (joJ _) _
    have bi:ja wf w2.heap.size 148 #[.string (B K),.string (B V)]:=by rw[ar];exact ja.new _ _ _
    have bC:wf.ownsRow 0 148 2 fv s.fields.length (ju s.fields):=jA (jN (jN aB Q (joJ _)) J (joJ _)) (joT _);have bj:wf.cell? ⟨I,o.length*3+2,none⟩=some fv:=(J.cell (p:=⟨I,o.length*3+2,none⟩) (jo4 D.2 Q.size)).trans ((Q.cell (p:=⟨I,o.length*3+2,none⟩) D.2).trans c2)
    have bm:wf.frozen? ⟨I,o.length*3+2,none⟩=false:=(J.frozen (p:=⟨I,o.length*3+2,none⟩) (jo4 D.2 Q.size)).trans ((Q.frozen (p:=⟨I,o.length*3+2,none⟩) D.2).trans z2);have aR:I<wf.heap.size:=jo4 (jo4 D.2 Q.size) J.size
    have aC:∀u∈ju s.fields,u.oneCell'=true:=by intro u hu;unfold ju at hu;simp at hu;obtain⟨a,b,_,h|h⟩:=hu<;>subst h<;>rfl
    have aZ:=joI (aF.below J (joJ _));have BF:=joI (B2.out.trans (J.mono B2.out.size))
    have c7:=joI ae;clear aF bY aB c2 z2 ae am aK HO HB aj aE O Q J B2 av;go_upto_region 14 with fail;rw[<- ar];refine FD.region29x _ wf I o.length (o.length+1) oc w2.heap.size s.fields.length fv (ju s.fields) (B K) (B V) _ rfl rfl rfl (Nat.lt_succ_self _) (jrl rfl) aR bj bm bi bC aC aJ ?_;intro x0 x1 x2 x3 x4 x5 x6 x7 x8 x9 dv dw dx dy w3 g c aG bB;have aa:=jaQ (f:=(K,V)) aZ.out aG BF.out.size bB
    have bJ:=joI ((BF.out.trans (aG.mono BF.out.size)).setCell (p:=⟨I,o.length*3+2,none⟩) D.1 (FD.sl g (s.fields.length+1) c));have aX:Hid (jnG w1 (w3.setCell ⟨I,o.length*3+2,none⟩ (FD.sl g (s.fields.length+1) c)) l (k+1) (.slice (some ⟨I,0,none⟩) (o.length+1) oc) (.slice none 0 0) (o++[⟨s.kind,s.id,s.fields++[(K,V)]⟩],[]) (L.set o.length (FD.sl g (s.fields.length+1) c))) :=
     ⟨fun q=>by rw[hN]at q;omega,fun _=>⟨rfl,by rw[aq,cj.out,c7.out,Qo];rfl⟩,aa,⟨rfl,.inl ⟨rfl,rfl⟩⟩,bJ.out⟩
    clear aG bB aa bJ aZ BF bC bj bm aR aC bi ar;simp only[jo3,jpF,jpG];go_wp2_with fail;go_roundw
    case rel=>exact⟨k+1,_,_,by go_num,joJ _,aX.out⟩
    case measure=>first | (simp[intOf];done) | (simp[intOf];omega)
   have NO:Hid (Qf l=none):=XN (by rw[aq];unfold zL;rw[if_neg t,if_neg N];rfl);have qb:((((jy C:Nat):Int))==0)=false:=by simpa using N
   unfold zC;generalize jy C=cG at *
   clear HO HB aj aE O Q av;go_wp2_with fail;go_ret2;have aU:=B1.out.trans (B2.out.mono B1.out.size)
   exact⟨aU.alloc aU.size _,.inl ⟨NO.out,rfl⟩⟩
  have dD:k<n:=by omega
  obtain⟨x,hx⟩:∃x,(zS l)[k]?=some x:=⟨_,joM (by omega)⟩
  obtain⟨lg,cU,dq⟩:=jpO cd.out (by omega);obtain⟨rfl,rfl⟩:la=some ⟨lg,0,none⟩/\lc=cU:=by injection dq with q1 _ q2;exact⟨q1,q2⟩
  have cA:Hid (∀W,Below w1.heap.size w1 W->W.cell? ⟨lg,k*4+2,none⟩=some (.string (B x))):=fun W hW =>
   (hW.cell (p:=⟨lg,k*4+2,none⟩) (cd.out.lt lg rfl).2).trans (by rw[jo1 cd.out (k*4+2) (by omega)];exact jgL hx)
  have dN:x.length<=6001:=by
   have h1:∀xs:List (List UInt8),∀y∈xs,y.length<=Kh xs:=fun xs=>by
    induction xs with
    | nil=>intro y hy;cases hy
    | cons a r ih =>
    intro y hy;have e:Kh (a::r)=a.length+1+Kh r:=by unfold Kh;rw[jpr,jpR]
    rcases List.mem_cons.1 hy with q|q
    ·rw[e,q];omega
    have:=ih y q;omega
   have h2:=h1 _ x (joW hx);have:=Wl l
   omega
  have cY:Hid (∀W,Calls prog 111 #[.string (B x),.string ⟨#[32,32]⟩] W fun e w'=>e=.returned (.bool (Lib.hasPrefix x [32,32]))/\w'=W):=fun W=>JD x [32,32] (by omega) (by decide) W;have cZ:Hid (∀W,Calls prog 111 #[.string (B x),.string ⟨#[32,32,32]⟩] W fun e w'=>e=.returned (.bool (Lib.hasPrefix x [32,32,32]))/\w'=W):=fun W=>JD x [32,32,32] (by omega) (by decide) W
  have dP:((k:Int)==(n:Int))=false:=by simp;omega
  obtain⟨fl,aI⟩:∃fl:Bool,fl=(decide (C≠[]) && !Lib.hasPrefix x [32,32,32]):=⟨_,rfl⟩
  have c0:=cA.out wr aQ;have bX:=joI m
  have c8:=joI af;have bK:=joI aQ
  have be:=joI Z;have bW:=joI v
  have cB:=joI Y;have aY:=joI aI
  clear HC m af Z v Y aI;go_upto_region 9 with fail;go_cut [47] (fun b wx=>b=.bool fl/\wx=wr)
  case first =>
   by_cases t:C=[]
   ·have dJ:C.length=0:=by rw[t];rfl
    have bw:fl=false:=by rw[aY.out,t];rfl
    clear t;go_wp2_with fail;go_meet;exact⟨by rw[bw],rfl⟩
   have dL:0<C.length:=List.length_pos_iff.2 t;have bw:fl = !Lib.hasPrefix x [32,32,32]:=by rw[aY.out];simp[t]
   go_wp2_with fail;refine(cZ.out _).mono ?_;rintro e U ⟨rfl,rfl⟩;go_wp2_with fail;go_meet;exact⟨by rw[bw],rfl⟩
  case rest =>
  obtain⟨rfl,rfl⟩:=hcut;go_upto_if 47 with fail;go_cut [4,5,8,9,10] (fun ov sv _ _ _ wx=>∃(E:List Ed) (S:List (List UInt8)) (aL:List Value) (bG:Option Addr) (au:Nat) (bH:Option Addr) (bI:Nat),ov=.slice bG E.length au/\sv=.slice bH S.length bI/\yr w1.heap.size wx (.slice bG E.length au) E aL/\wx.ownsRow w1.heap.size 9 1 (.slice bH S.length bI) S.length (S.map jno)/\Below w1.heap.size w1 wx/\vq (d,C) x=xy (E,S) x/\E.length<=40)
  case first =>
   cases fl with
   | false =>
    have aw:Hid (vq (d,C) x=xy (d,C) x):=by
     show vq _ _=_;have h:=aY.out
     unfold vq;by_cases t:C=[]
     ·subst t;split
      ·rfl
      unfold zL;rw[if_pos rfl];rfl
     have:Lib.hasPrefix x [32,32,32]=true:=by simpa [t]using h
     rw[this,if_pos rfl];rfl
    go_wp2_with fail;go_meet;exact⟨d,C,L,oa,oc,sa,sc,rfl,rfl,bX.out,c8.out,bK.out,aw.out,bW.out.len⟩
   | true =>
   have aI:=aY.out;have t:C≠[]:=fun e=>by rw[e]at aI;simp at aI
   have R:Lib.hasPrefix x [32,32,32]=false:=by simpa [t]using aI
   have m:=bX.out;have af:=c8.out
   have v:=bW.out;have Y:=cB.out
   clear aI;have ay:=ZG C
   have aD:=v.wt;simp only at aD;have UF:=joI (ZK C _ wc (jaq af) (fun x hx=>by have:=ay.1 x hx;omega) (by omega) (by have:=ZJ C;omega))
   obtain⟨o,s,ae⟩:∃o s,d=o++[s]:=by
    rcases jqb d with z|⟨o,s,z⟩
    ·exact absurd z (Y t)
    exact⟨o,s,by rw[z,jqc]⟩
   have bo:d.length=o.length+1:=by rw[ae];simp
   have cR:0<C.length:=List.length_pos_iff.2 t;have qf:decide (0<(C.length:Int))=true:=by simp;omega
   obtain⟨I,au,cp⟩:=jpO m.row (by omega);obtain⟨rfl,rfl⟩:oa=some ⟨I,0,none⟩/\oc=au:=by injection cp with q1 _ q2;exact⟨q1,q2⟩
   obtain⟨fv,aK⟩:∃fv,L[o.length]?=some fv:=⟨_,joM (by rw[m.len,bo];omega)⟩
   have am:d[o.length]?=some s:=by rw[ae];simp
   have bz:=m.each o.length s fv am aK;have aA:=v.cnt s (joW am)
   simp only at aA;have c2:wc.cell? ⟨I,o.length*3+2,none⟩=some fv:=by rw[jo1 m.row (o.length*3+2) (by omega)];exact(Yw d L o.length s fv am aK).2.2
   have z2:wc.frozen? ⟨I,o.length*3+2,none⟩=false:=by
    rcases m.row.2 with ⟨q,_⟩|⟨g',cH,dl,q,_,hc,_⟩
    ·cases q
    cases q;simp[World.frozen?,hc]
   have D:=m.row.lt I rfl;have cQ:o.length<=40:=by have h4:=v.len;simp only at h4;omega
   have cD:=joI (show o.length+1<=40 by have h4:=v.len;simp only at h4;omega);have aE:=joI bz
   have HO:=joI m;have HB:=bK
   have aj:=joI aQ;have aJ:s.fields.length<=100000:=by omega
   have O:=bK.out;have q3:(k:Int)=(k:Int):=rfl
   clear m af v Y bz aA ay aD;go_wp2_with fail;refine UF.out.mono ?_;rintro e w2 ⟨rfl,Q⟩;have B2:=joI (O.trans (Q.mono O.size))
   have av:=joI (aj.out.trans (Q.mono aj.out.size));clear UF;by_cases N:jy C=0
   ·have cj:Hid (zL (d,C)=some (jki d (jW C,jV C),[])):=by show zL _=_;unfold zL;rw[if_neg t,if_pos N]
    rw[N];have aF:yr w1.heap.size w2 (.slice (some ⟨I,0,none⟩) (o.length+1) oc) (o++[s]) L:=by rw[<- ae,<- bo];exact HO.out.below Q (joJ _)
    have bY:=joI aF;have aB:=aE.out
    unfold zC;generalize hK:jW C=K at *
    generalize hV:jV C=V at *
    obtain⟨wf,ar⟩:∃wf,wf=w2.alloc (.cells #[.string (B K),.string (B V)] 148):=⟨_,rfl⟩
    have J:Below w2.heap.size w2 wf:=by rw[ar];exact(joL _ w2).alloc (joJ _) _
    have bi:ja wf w2.heap.size 148 #[.string (B K),.string (B V)]:=by rw[ar];exact ja.new _ _ _
    have bC:wf.ownsRow 0 148 2 fv s.fields.length (ju s.fields):=jA (jN (jN aB Q (joJ _)) J (joJ _)) (joT _);have bj:wf.cell? ⟨I,o.length*3+2,none⟩=some fv:=(J.cell (p:=⟨I,o.length*3+2,none⟩) (jo4 D.2 Q.size)).trans ((Q.cell (p:=⟨I,o.length*3+2,none⟩) D.2).trans c2)
    have bm:wf.frozen? ⟨I,o.length*3+2,none⟩=false:=(J.frozen (p:=⟨I,o.length*3+2,none⟩) (jo4 D.2 Q.size)).trans ((Q.frozen (p:=⟨I,o.length*3+2,none⟩) D.2).trans z2);have aR:I<wf.heap.size:=jo4 (jo4 D.2 Q.size) J.size
    have aC:∀u∈ju s.fields,u.oneCell'=true:=by intro u hu;unfold ju at hu;simp at hu;obtain⟨a,b,_,h|h⟩:=hu<;>subst h<;>rfl
    have aZ:=joI (aF.below J (joJ _));have BF:=joI (B2.out.trans (J.mono B2.out.size))
    have c7:=joI ae;clear aF bY aB c2 z2 ae am aK HO HB aj aE O Q J B2 av;go_upto_region 14 with fail;rw[<- ar];refine FD.region29x _ wf I o.length (o.length+1) oc w2.heap.size s.fields.length fv (ju s.fields) (B K) (B V) _ rfl rfl rfl (Nat.lt_succ_self _) (jrl rfl) aR bj bm bi bC aC aJ ?_;intro x0 x1 x2 x3 x4 x5 x6 x7 x8 x9 dv dw dx dy w3 g c aG bB;have aa:=jaQ (f:=(K,V)) aZ.out aG BF.out.size bB
    have bJ:=joI ((BF.out.trans (aG.mono BF.out.size)).setCell (p:=⟨I,o.length*3+2,none⟩) D.1 (FD.sl g (s.fields.length+1) c));have aw:Hid (vq (d,C) x=xy (o++[⟨s.kind,s.id,s.fields++[(K,V)]⟩],[]) x):=by show vq _ _=_;unfold vq;rw[R,if_neg (by simp),cj.out,c7.out,Qo];rfl
    have dh:Hid (yr w1.heap.size (w3.setCell ⟨I,o.length*3+2,none⟩ (FD.sl g (s.fields.length+1) c)) (.slice (some ⟨I,0,none⟩) (o++[⟨s.kind,s.id,s.fields++[(K,V)]⟩]:List Ed).length oc) (o++[⟨s.kind,s.id,s.fields++[(K,V)]⟩]) (L.set o.length (FD.sl g (s.fields.length+1) c))):=by show yr _ _ _ _ _;rw[joK];exact aa
    clear aG bB aa aZ BF bC bj bm aR aC bi ar;simp only[jo3,jpF,jpG];go_wp2_with fail;go_meet;exact⟨_,[],_,some ⟨I,0,none⟩,oc,none,0,by rw[joK];rfl,rfl,dh.out,⟨rfl,.inl ⟨rfl,rfl⟩⟩,bJ.out,aw.out,by rw[joK];exact cD.out⟩
   have NO:Hid (Qf l=none):=XN (Uk hx be.out (by unfold vq;rw[R,if_neg (by simp)];unfold zL;rw[if_neg t,if_neg N];rfl));have qb:((((jy C:Nat):Int))==0)=false:=by simpa using N
   unfold zC;generalize jy C=cG at *
   clear HO HB aj aE O Q av;go_wp2_with fail;go_ret2;have aU:=B1.out.trans (B2.out.mono B1.out.size)
   exact⟨aU.alloc aU.size _,.inl ⟨NO.out,rfl⟩⟩
  case rest =>
  obtain⟨E,S,aL,bG,au,bH,bI,rfl,rfl,hO,hS,hB,cS,dA⟩:=hcut;have HO:=joI hO
  have HS:=joI hS;have HB:=joI hB
  have aw:=joI cS;have cE:Hid (Jd ((zS l).take (k+1)) ([],[])=xy (E,S) x):=by show _=_;rw[jaz hx be.out,aw.out]
  have c1:=cA.out wc hB;have cJ:=B1.out.trans (hB.mono B1.out.size)
  have bR:=joI cJ;have dO:=hB.size
  clear c0 bX c8 bK aQ aY bW cB hO hS hB cS cJ;go_wp2_with fail;refine(cY.out _).mono ?_;rintro e U ⟨rfl,rfl⟩;cases aT:Lib.hasPrefix x [32,32]with
  | true =>
   by_cases hE:E=[]
   ·have NO:Hid (Qf l=none):=XN (Uk hx be.out (by rw[aw.out];unfold xy;rw[if_pos aT,if_pos hE]));have qe:((E.length:Int)==0)=true:=by rw[hE];rfl
    clear hE;go_wp2_with fail;go_ret2;exact⟨bR.out,.inl ⟨NO.out,rfl⟩⟩
   have qe:((E.length:Int)==0)=false:=by have:0<E.length:=List.length_pos_iff.2 hE;simp;omega
   have bL:Hid (Jd ((zS l).take (k+1)) ([],[])=some (E,S++[x.drop 2])):=by show _=_;rw[cE.out];unfold xy;rw[if_pos aT,if_neg hE]
   have dM:2<=x.length:=by
    unfold Lib.hasPrefix at aT;have:=(List.isPrefixOf_iff_prefix.1 aT).length_le
    simpa using this
   have v:=jmn bL.out;have ay:=ZG (S++[x.drop 2])
   have aD:=v.wt;simp only at aD;have dH:S.length+1<=6001:=by have:=ay.2;rw[joK]at this;simp at this;omega
   have bx:=jg x;have dE:(2:Int)<=(B x).size:=by rw[bx];omega
   have cI:(B x).extract 2 (B x).size=B (x.drop 2):=by apply jp5;apply Array.toList_inj.1;rw[jpS,jj,jj,bx,jpi (by simp)]
   have d8:=joI cI;obtain⟨i0,hi,cr,ct,cu⟩:=info_parts jbg;clear hE v ay aD cI bx aT;generalize cm:B x=XX at *
   clear cm;obtain⟨wa,ag⟩:∃wa,wa=U.alloc (.cells #[.string (XX.extract 2 XX.size)] 9):=⟨_,rfl⟩
   have ai:Below U.heap.size U wa:=by rw[ag];exact(joL _ U).alloc (joJ _) _
   have HV:Hid (∀(i:Nat) (u:Value),[Value.string (XX.extract 2 XX.size)][i]?=some u->wa.cell? ((⟨U.heap.size,0,none⟩:Addr).add i)=some u):=fun i u h=>by
    match i,h with
    | 0,h =>
     have ea:(⟨U.heap.size,0,none⟩:Addr).add 0=⟨U.heap.size,0,none⟩:=by unfold Addr.add;split<;>simp_all
     simp only[joP,Option.some.injEq]at h;rw[ea,ag,(ja.new U _ _).cell 0,<- h];rfl
    | i+1,h=>simp at h
   have HR:=joI (jN HS.out ai (joJ _));have aO:=joI (HO.out.below ai (joJ _))
   have ak:=joI (HB.out.trans (ai.mono HB.out.size));have bF:w1.heap.size<=wa.heap.size:=ak.out.size
   have aP:=HR;rw[ag]at HV HR bF;go_wp2_with (at_builtin;refine jz rfl _ _ 158 rfl w1.heap.size 9 i0 _ 1 16 underlying158 hi cr ct cu rfl (by decide) _ _ _ rfl HR.out ⟨U.heap.size,0,none⟩ 1 1 _ rfl rfl HV.out (by intro u hu;simp at hu;subst hu;rfl) (by unfold maxLen;omega) (by omega) bF ?_);rw[<- ag];intro cW w3 ah G ce;have bA:∀r,(Value.slice bH S.length bI).ownBlock=some r->w1.heap.size<=r:=fun r e=>(aP.out.lt r e).1
   have aX:Hid (jnG w1 w3 l (k+1) (.slice bG E.length au) cW (E,S++[x.drop 2]) aL):=by
    refine⟨fun _=>bL.out,fun q=>by rw[hN]at q;omega,jiY aO.out aP.out G,?_,ak.out.grown G ak.out.size bA⟩;have h3:=ah
    rw[d8.out]at h3;show w3.ownsRow _ _ _ _ (S++[x.drop 2]).length ((S++[x.drop 2]).map jno)
    rw[joK,jpt];exact h3
   obtain⟨ga,gc,rfl⟩:∃A c,cW=.slice A (S.length+1) c:=by obtain⟨A,c,e,_⟩:=je ah;exact⟨A,c,e⟩
   clear ah G ce bA aP HR HV aO ak HO HS HB ai ag;go_wp2_with fail;go_roundw
   case rel=>exact⟨k+1,_,_,by go_num,by omega,aX.out⟩
   case measure=>first | (simp[intOf];done) | (simp[intOf];omega)
  | false =>
  obtain⟨wn,bO⟩:∃wn,wn=U.alloc (.cells #[.int .i64 0,.int .i64 0,.slice none 0 0] 75):=⟨_,rfl⟩
  have cM:Below U.heap.size U wn:=by rw[bO];exact(joL _ U).alloc (joJ _) _
  have cN:ja wn U.heap.size 75 #[.int .i64 0,.int .i64 0,.slice none 0 0]:=by rw[bO];exact ja.new _ _ _
  have aX:=joI cN;have d9:=joI cM
  clear cN cM c1;go_wp2_with fail;rw[<- bO];clear bO;go_loopw [13] (fun kv wi=>∃j:Nat,j<=3/\kv=.int .i64 ((j:Int)+1)/\ja wi U.heap.size 75 #[.int .i64 (Ub x j).kind,.int .i64 (Ub x j).id,.slice none 0 0]/\Below U.heap.size U wi) (fun kv _=>5-(intOf kv).toNat)
  case atStart=>exact⟨0,by omega,rfl,aX.out,d9.out⟩
  case round =>
  obtain⟨j,hj,rfl,hc,aH⟩:=hrel;have bT:=joI hc
  have aN:=joI aH;have co:=hc.lt
  by_cases dI:j<3
  ·have hK:((j:Int)+1)=1\/((j:Int)+1)=2\/((j:Int)+1)=3:=by omega
   have dF:=jiV hK;have bN:=joI (fun w=>VB ((j:Int)+1) 0 (.slice none 0 0) (by unfold I64;omega) w)
   simp only[jgM hK]at bN;have cl:Hid (Ub x (j+1)=jbV x ((j:Int)+1) (Ub x j)):=rfl
   have dG:(B (Ko ((j:Int)+1)++[48])).size=(Ko ((j:Int)+1)).length+1:=by rw[jg];simp
   have xP:Hid ((B (Ko ((j:Int)+1)++[48])).extract 0 (Ko ((j:Int)+1)).length=B (Ko ((j:Int)+1))):=by show _=_;apply jp5;apply Array.toList_inj.1;rw[jpS,jj,jj];simp
   have aV:=joI (fun w=>JD x (Ko ((j:Int)+1)) (by omega) (by omega) w);have ck:Hid (∀y,jbV x ((j:Int)+1) y=if Lib.hasPrefix x (Ko ((j:Int)+1)) then (match numL (x.drop (Ko ((j:Int)+1)).length) with | some n=>⟨(j:Int)+1,n,[]⟩ | none=>y) else y):=fun y=>rfl
   have NM:=joI (fun w=>number_any (x.drop (Ko ((j:Int)+1)).length) (by simp;omega) w);have bx:=jg x
   have xd:Hid ((B x).extract (Ko ((j:Int)+1)).length (B x).size=B (x.drop (Ko ((j:Int)+1)).length)):=by show _=_;apply jp5;apply Array.toList_inj.1;rw[jpS,jj,jj,bx,jpi (by simp)]
   have qj:((j:Int)+1)<=3:=by omega
   generalize hPP:Ko ((j:Int)+1)=P at *
   clear hPP;generalize B (P++[48])=H at *
   generalize cm:B x=XX at *
   clear cm hc aH;cases R:Lib.hasPrefix x P with
   | false =>
    simp only[R]at aV;have ax:Hid (Ub x (j+1)=Ub x j):=by show _=_;rw[cl.out,ck.out,R,if_neg (by simp)]
    clear R bx;go_wp2_with fail;refine(bN.out _).mono ?_;rintro e wl ⟨rfl,a8⟩;have a7:=joI (bT.out.below a8 co)
    have aW:=joI (aN.out.trans (a8.mono aN.out.size));clear a8;go_wp2_with fail;rw[xP.out];refine(aV.out _).mono ?_;rintro e cX ⟨rfl,rfl⟩;go_wp2_with fail;go_roundw
    case rel=>exact⟨j+1,by omega,by go_num,by rw[ax.out];exact a7.out,aW.out⟩
    case measure=>first | (simp[intOf];done) | (simp[intOf];omega)
   | true =>
   simp only[R]at aV;have cL:P.length<=x.length:=by unfold Lib.hasPrefix at R;exact(List.isPrefixOf_iff_prefix.1 R).length_le
   have dB:((B P).size:Int)<=(XX.size:Int):=by rw[bx,jg];omega
   have dC:(B P).size<=XX.size:=by rw[bx,jg];omega
   cases aS:numL (x.drop P.length) with
   | none =>
    have ax:Hid (Ub x (j+1)=Ub x j):=by show _=_;rw[cl.out,ck.out,R,if_pos rfl,aS]
    have s:numEnd (x.drop P.length)=.returned (.tuple #[.int .i64 0,.bool false]):=by unfold numEnd;rw[aS];rfl
    simp only[s]at NM;clear R bx aS s cL;go_wp2_with fail;refine(bN.out _).mono ?_;rintro e wl ⟨rfl,a8⟩;have a7:=joI (bT.out.below a8 co)
    have aW:=joI (aN.out.trans (a8.mono aN.out.size));clear a8;go_wp2_with fail;rw[xP.out];refine(aV.out _).mono ?_;rintro e cX ⟨rfl,rfl⟩;go_wp2_with fail;rw[show(B P).size=P.length from jg P,xd.out];refine(NM.out _).mono ?_;rintro e bP ⟨rfl,rfl⟩;go_wp2_with fail;go_roundw
    case rel=>exact⟨j+1,by omega,by go_num,by rw[ax.out];exact a7.out,aW.out⟩
    case measure=>first | (simp[intOf];done) | (simp[intOf];omega)
   | some i =>
   have ax:Hid (Ub x (j+1)=⟨(j:Int)+1,i,[]⟩):=by show _=_;rw[cl.out,ck.out,R,if_pos rfl,aS]
   have s:numEnd (x.drop P.length)=.returned (.tuple #[.int .i64 i,.bool true]):=by unfold numEnd;rw[aS];rfl
   simp only[s]at NM;clear R bx aS s cL;go_wp2_with fail;refine(bN.out _).mono ?_;rintro e wl ⟨rfl,a8⟩;have a7:=joI (bT.out.below a8 co)
   have aW:=joI (aN.out.trans (a8.mono aN.out.size));clear a8;go_wp2_with fail;rw[xP.out];refine(aV.out _).mono ?_;rintro e cX ⟨rfl,rfl⟩;go_wp2_with fail;rw[show(B P).size=P.length from jg P,xd.out];refine(NM.out _).mono ?_;rintro e bP ⟨rfl,rfl⟩;have f0:=a7.out.frozen 0
   have f1:=a7.out.frozen 1;have f2:=a7.out.frozen 2
   have g0:bP.cell? ⟨U.heap.size,0,none⟩=some (.int .i64 (Ub x j).kind):=a7.out.cell 0;have g1:bP.cell? ⟨U.heap.size,1,none⟩=some (.int .i64 (Ub x j).id):=a7.out.cell 1
   have g2:bP.cell? ⟨U.heap.size,2,none⟩=some (.slice none 0 0):=a7.out.cell 2;go_wp2_with fail;go_roundw
   case rel =>
    refine⟨j+1,by omega,by go_num,?_,?_⟩
    ·rw[ax.out];have:=((a7.out.set 0 (.int .i64 ((j:Int)+1))).set 1 (.int .i64 i)).set 2 (.slice none 0 0)
     simpa [List.setIfInBounds_toArray]using this
    exact((aW.out.setCell (p:=⟨U.heap.size,0,none⟩) (joJ _) _).setCell (p:=⟨U.heap.size,1,none⟩) (joJ _) _).setCell (p:=⟨U.heap.size,2,none⟩) (joJ _) _
   case measure=>first | (simp[intOf];done) | (simp[intOf];omega)
  obtain rfl:j=3:=by omega
  have c0:wr.cell? ⟨U.heap.size,0,none⟩=some (.int .i64 (Ub x 3).kind):=hc.cell 0;have c1:wr.cell? ⟨U.heap.size,1,none⟩=some (.int .i64 (Ub x 3).id):=hc.cell 1
  have c2:wr.cell? ⟨U.heap.size,2,none⟩=some (.slice none 0 0):=hc.cell 2;have dm:=Zh x 3
  have bQ:xy (E,S) x=if (Ub x 3).kind=0\/40<=E.length then none else some (E++[Ub x 3],S):=by unfold xy;rw[aT,if_neg (by simp),jg7]
  have bg:=joI bQ;have cy:=joI (bR.out.trans (aH.mono bR.out.size))
  clear bQ hc;generalize Ub x 3=hd at *
  by_cases h0:hd.kind=0
  ·have NO:Hid (Qf l=none):=XN (Uk hx be.out (by rw[aw.out,bg.out,if_pos (.inl h0)]));have qk:(hd.kind==0)=true:=by simpa using h0
   clear h0;go_wp2_with fail;go_ret2;exact⟨cy.out,.inl ⟨NO.out,rfl⟩⟩
  have qk:(hd.kind==0)=false:=by simpa using h0
  by_cases ci:40<=E.length
  ·have NO:Hid (Qf l=none):=XN (Uk hx be.out (by rw[aw.out,bg.out,if_pos (.inr ci)]));have du:(40:Int)<=(E.length:Int):=by omega
   clear h0 ci;go_wp2_with fail;go_ret2;exact⟨cy.out,.inl ⟨NO.out,rfl⟩⟩
  have du:¬(40:Int)<=(E.length:Int):=by omega
  have bL:Hid (Jd ((zS l).take (k+1)) ([],[])=some (E++[hd],S)):=by show _=_;rw[cE.out,bg.out,if_neg (by omega)]
  have bZ:=joI (HO.out.below aH (joJ _));have cF:=joI (jN HS.out aH (joJ _))
  have cw:=joI (HB.out.trans (aH.mono HB.out.size));obtain⟨i0,hi,cr,ct,cu⟩:=info_parts jcl;obtain⟨wa,ag⟩:∃wa,wa=wr.alloc (.cells #[.int .i64 hd.kind,.int .i64 hd.id,.slice none 0 0] 75):=⟨_,rfl⟩
  have ai:Below wr.heap.size wr wa:=by rw[ag];exact(joL _ wr).alloc (joJ _) _
  have HV:Hid (∀(i:Nat) (u:Value),[Value.int .i64 hd.kind,.int .i64 hd.id,.slice none 0 0][i]?=some u->wa.cell? ((⟨wr.heap.size,0,none⟩:Addr).add i)=some u):=fun i u h=>by
   have ea:(⟨wr.heap.size,0,none⟩:Addr).add i=⟨wr.heap.size,i,none⟩:=by unfold Addr.add;split<;>simp_all
   rw[ea,ag,(ja.new wr _ _).cell i];simpa using h
  have bE:=jN bZ.out.row ai (joJ _);have aP:=joI bE
  have HR:=joI bE;have aO:=joI (bZ.out.below ai (joJ _))
  have bM:=joI (jN cF.out ai (joJ _));have ak:=joI (cw.out.trans (ai.mono cw.out.size))
  have bF:w1.heap.size<=wa.heap.size:=ak.out.size;rw[ag]at HV HR bF;clear h0 ci bE aH;go_wp2_with (at_builtin;refine jz rfl _ _ 55 rfl w1.heap.size 75 i0 _ 3 40 underlying55 hi cr ct cu rfl (by decide) _ _ _ rfl HR.out ⟨wr.heap.size,0,none⟩ 1 1 _ rfl rfl HV.out (by intro u hu;simp at hu;rcases hu with rfl | rfl | rfl<;>rfl) (by unfold maxLen;omega) (by omega) bF ?_);rw[<- ag];intro cV w3 ah G ce;have bA:∀r,(Value.slice bG E.length au).ownBlock=some r->w1.heap.size<=r:=fun r e=>(aP.out.lt r e).1
  have cz:Hid (jnG w1 w3 l (k+1) cV (.slice bH S.length bI) (E++[hd],S) (aL++[.slice none 0 0])) :=
   ⟨fun _=>bL.out,fun q=>by rw[hN]at q;omega,jiZ aO.out dm ah G,jU bM.out (fun r e=>G.block r (bM.out.lt r e).2 (fun q=>jZ aO.out.row bM.out (by decide) r q.symm e)),ak.out.grown G ak.out.size bA⟩
  obtain⟨ga,gc,rfl⟩:∃A c,cV=.slice A (E.length+1) c:=by obtain⟨A,c,e,_⟩:=je ah;exact⟨A,c,e⟩
  clear ah G ce bA aP HR HV aO bM ak bZ cF HO HS HB ai ag;go_wp2_with fail;go_roundw
  case rel=>exact⟨k+1,_,_,by go_num,by omega,cz.out⟩
  case measure=>first | (simp[intOf];done) | (simp[intOf];omega)
 obtain rfl:k=n+1:=by omega
 have q9:decide (((n+1:Nat):Int)<=(n:Int))=false:=by simp;omega
 have q8:decide ((n:Int)+1<=(n:Int))=false:=by simp;omega
 obtain⟨t,bu⟩:=HC.fin (by omega);have v:=jhz bu
 have cO:=jeI (by omega) v;have cP:=v.len
 simp only at t cP cO;have DE:=jjV (by omega) bu
 have CB:=joI (JY d _ wr HC.own.edv (by omega) cO);have HO:=joI (yr.low HC.own cT)
 have HB:=joI (B1.out.trans (HC.bel.mono B1.out.size));have bU:=joI DE
 have di:=joI v.ids;clear HC aQ t bu v DE;go_wp2_with fail;refine CB.out.mono ?_;rintro e w2 ⟨rfl,Q⟩;have B2:=joI (HB.out.trans (Q.mono HB.out.size))
 have cC:=joI (HO.out.below Q (joJ _));clear CB Q;by_cases h0:(qw d).2=0
 ·obtain⟨⟨_,_⟩,hg⟩:=vm h0;have EN:=joI (Km d _ w2 cC.out.edv (by omega) hg di.out)
  have HZ:=joI h0;rw[h0];generalize (qw d).1=dk at *
  clear h0 hg;by_cases he:jo d=l
  ·rw[he,hX]at EN;have dj:Hid (Qf l=some d):=by show _=_;rw[bU.out,if_pos ⟨HZ.out,he⟩]
   clear he;go_wp2_with fail;refine EN.out.mono ?_;rintro e w3 ⟨rfl,b3⟩;have B3:=joI (B2.out.trans (b3.mono B2.out.size))
   have df:=joI (cC.out.below b3 (joJ _));clear EN b3;go_wp2_with fail;go_ret2;exact⟨B3.out,.inr ⟨d,_,L,dj.out,rfl,df.out⟩⟩
  have NO:Hid (Qf l=none):=by show _=_;rw[bU.out,if_neg (fun z=>he z.2)]
  have dt:¬(B (jo d)).toList=X.toList:=fun e=>he (by rw[<- hX]at e;rw[jpn,jpn,jj,jj]at e;exact e);have aR:((B (jo d)).toList==X.toList)=false:=by simpa using dt
  generalize B (jo d)=V at *
  clear he;go_wp2_with fail;refine EN.out.mono ?_;rintro e w3 ⟨rfl,b3⟩;have B3:=joI (B2.out.trans (b3.mono B2.out.size))
  clear EN b3;go_wp2_with fail;go_ret2;exact⟨B3.out,.inl ⟨NO.out,rfl⟩⟩
 have NO:Hid (Qf l=none):=by show _=_;rw[bU.out,if_neg (fun z=>h0 z.1)]
 have qn:((((qw d).2:Nat):Int)==0)=false:=by simpa using h0
 generalize (qw d).1=dk at *
 generalize (qw d).2=cG at *
 go_wp2_with fail;go_ret2;exact⟨B2.out,.inl ⟨NO.out,rfl⟩⟩
end
section
attribute [local go_sem] joY
theorem jox{S0:Nat}{w:World}{lb:Nat}{f:Value}{d a:List Pr}{l:LS}{m:Nat}(C:zM S0 w lb f d l m)(h:m<=10000)(b:a.map Prod.fst=l.es):
  a.length<=10000/\(∀q∈a,q.1.1.raw.length<=100000)/\VJ a=l.es.map Prod.fst/\jok a=szE l.es:=by
 have ok:=C.ents h;have e:a.map Prod.fst=d.map Prod.fst:=b.trans C.es.symm
 refine⟨?_,fun q j => ?_,jgX b,?_⟩
 ·have:=congrArg List.length e;rw[jo8,jo8]at this;have:=ok.len
  omega
 ·have g:q.1∈d.map Prod.fst:=by rw[<- e];exact jqQ j
  obtain⟨p,i,c⟩:=List.mem_map.1 g;rw[<- c];exact ok.raw p i
 rw[<- b];unfold jok szE;rw[List.filter_map,jqj];rfl
end
namespace Bk
attribute [local go_sem] joY
theorem vp.same{t base base' c a:List UInt8}{n f:Nat}{d b:List (List UInt8)}(h:vp Dc t n base d c)(e:vp Dc t f base' b a):n=f/\base=base'/\d=b/\c=a:=by
 have g:=Hd.gen_one h.gen e.gen;subst g;have i:base=base':=by rw[<- h.isB,e.isB]
 subst i;obtain⟨j,k⟩:=Ym h.recd e.recd (.inl h.fin) (.inl e.fin);exact⟨rfl,rfl,j,k⟩
theorem je4{t base d b:List UInt8}{n:Nat}{a:List (List UInt8)}(h:vp Dc t n base a d)(g:Fr.goodR b=true)(f:Dc b=true):vp Dc (t.take (zg n base a)++Fr.fullR b) n base (a++[b]) []:=by
 refine h.again (.inr ?_) ⟨by simp,fun c e => ?_⟩ jdq
 ·have:=jd2 b [];rwa [jo9]at this
 rw[List.mem_singleton.1 e];exact⟨g,f⟩
theorem jhl{b:List UInt8}{eds:List Ed}(h:Qf b=some eds):eds.length<=40/\Kd eds:=by
 obtain⟨_,c,_,_⟩:=xH.1 h;obtain⟨⟨_,d⟩,e⟩:=vm c;refine⟨d,fun a j => ?_⟩;have g:=Zr (e a j)
 exact⟨by have:=g.len;omega,fun f i=>by have:=g.each f i;have:=Zq this.1;omega⟩
end Bk
section
section
variable {K:Act->World->Prop} {Q:Exit->Act->World->Prop} {o:Oper} {a:Act} {w:World}
end
end
namespace Bk
attribute [local go_sem] joY
theorem jnw{lo:Nat}{w:World}{a:Option Addr}{n c:Nat}{d:List Value}(h:w.ownsRow lo 55 1 (.slice a n c) n d){i:Nat}{u:Value}(l:d[i]?=some u)(m:i<n):∃g b,a=some ⟨g,b,none⟩/\g<w.heap.size/\w.cell? ⟨g,b+i,none⟩=some u:=by
 rcases jpH h with ⟨e,o⟩|⟨g,f,e⟩
 ·omega
 have j:=e;injection j with k;rw[e]at h;refine⟨g,0,k,(jpJ h g rfl).2,?_⟩;rw[jpl,jo1 h i (by omega)];exact l
end Bk
namespace Rp
open Bk
theorem jbC:∀(a:List Ed),a.length<=(jo a).length
 | []=>joT _
 | b::r=>by
  have d:=jbC r;have e:jo (b::r)=edT b++jo r:=by unfold jo zm edT jq;rw[jo5,jpo]
  have c:1<=(edT b).length:=by unfold edT jhE jq;rw[jo5];simp;omega
  rw[e,joK,joR];omega
theorem jam:∀a:List (List UInt8),(jq a).length<=(jq (a.map yu)).length
 | []=>joJ _
 | l::r=>by
  have d:=jam r;have b:jq (l::r)=(l++[10])++jq r:=by unfold jq;rw[jo5]
  have c:jq ((l::r).map yu)=(yu l++[10])++jq (r.map yu):=by unfold jq;rw[jpr,jo5]
  rw[b,c];simp only[yu,joK,joR];omega
theorem jnp:∀{b:List Ed} {c:Ed},c∈b->(edT c).length<=(jo b).length
 | [],_,h=>by cases h
 | a::r,c,h=>by
  have e:jo (a::r)=edT a++jo r:=by unfold jo zm edT jq;rw[jo5,jpo]
  rw[e,joK];rcases List.mem_cons.1 h with rfl|h
  ·omega
  have:=jnp h;omega
theorem jbr{b:List UInt8}(h:Dc b=true):(yZ b).length<=51/\Kd (yZ b)/\jbJ (yZ b)/\(yZ b).length<=b.length:=by
 unfold Dc at h;unfold yZ;cases d:Qf b with
 | none=>rw[d]at h;cases h
 | some c =>
 obtain⟨j,f⟩:=jhl d;obtain⟨k,_,_,g⟩:=xH.1 d;refine⟨jpg j (by decide),f,fun a i => ?_,?_⟩
 ·have a1:(edT a).length<=(jo c).length:=jnp i;have a2:(jO a.fields).length<=(edT a).length:=by
   rw[jcw];have:=jam (jE a.fields)
   have e:edT a=(zi a.kind a.id++[10])++jq ((jE a.fields).map yu):=by unfold edT jhE jq;rw[jo5]
   rw[e,joK];omega
  have:=(f a i).len;rw[g]at a1;exact⟨by omega,by omega⟩
 show c.length<=b.length;have:=jbC c
 rw[g]at this;exact this
theorem jl1(b:List UInt8):b.length<=(Fr.fullR b).length:=by unfold Fr.fullR Fr.recR;rw[joK,joR,joK];omega
def qu(bds:List (List UInt8)):List (List Ed):=bds.map yZ
theorem yA(a:List (List UInt8)):(qu a).length=a.length:=jo8 _
theorem jd3:∀(a:List (List UInt8)),(∀b∈a,Dc b=true)->xS (qu a)<=(a.flatMap Fr.fullR).length
 | [],_=>joT _
 | b::r,h=>by
  have f:=jd3 r (fun x hx=>h x (joU _ hx));have c:=(jbr (h b joV)).2.2.2
  have d:=jl1 b;have e:xS (qu (b::r))=(yZ b).length+xS (qu r):=rfl
  rw[e,jo5,joK];omega
theorem jh3{a:List (List UInt8)}(h:∀b∈a,Dc b=true):jiq (qu a):=fun x hx=>by obtain⟨b,f,rfl⟩:=List.mem_map.1 hx;obtain⟨c,d,e,_⟩:=jbr (h b f);exact⟨c,d,e⟩
theorem jh4{lo:Nat}{w:World}{m:Value}{a:List (List UInt8)}{o:List Value}(h:Kg lo w m a o):BtV w m (qu a):=by
 obtain⟨A,c,rfl,k⟩:=je h.row;refine⟨A,c,by rw[yA],by rw[yA];exact k,fun i b d => ?_⟩;unfold qu at d;rw[jpx]at d;cases j:a[i]? with
 | none=>rw[j]at d;cases d
 | some x =>
 rw[j]at d;obtain rfl:yZ x=b:=joN d;have f:=(List.getElem?_eq_some_iff.1 j).1
 obtain⟨u,n⟩:∃u,o[i]?=some u:=⟨_,joM (by rw[h.len];exact f)⟩
 obtain⟨g,l,e,r,q⟩:=jnw h.row n f;obtain⟨p,s⟩:=h.each i x u j n;exact⟨g,l,u,e,r,q,s.edv⟩
theorem JH{t base c:List UInt8}{n:Nat}{a:List (List UInt8)}(h:vp Dc t n base a c):jiq (qu a)/\base.length+xS (qu a)<=t.length/\a.length<=t.length:=by
 have d:∀b∈a,Dc b=true:=fun b f=>(h.recd.good b f).2;have g:=jd3 a d
 have e:=h.parts.len;have i:=XT a
 unfold zg at e;exact⟨jh3 d,by omega,by omega⟩
end Rp
end Go.Proofs.YtbapfpekklcicaaGreatDoor
