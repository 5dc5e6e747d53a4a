/- Texts put together:BH,HD. -/
import Derived.Test.YtbapfpekklcicaaGreatDoorBbx31
set_option linter.unusedVariables false
set_option maxRecDepth 100000
set_option maxHeartbeats 16000000
namespace Go.Proofs.YtbapfpekklcicaaGreatDoor
open Go.RowKit Go.Shelf Tryz
section
attribute [local go_sem] jn9
def jmG(x:List UInt8):Value:=.string (B x)
theorem jag{w:World}{base:Nat}{v:Value}{j:List (List UInt8)}(h:w.ownsRow base 9 1 v j.length (j.map jmG)):Strs w v (j.map B):=by
 by_cases m:j=[]
 ·subst m;obtain⟨A,c,rfl,b⟩:=je h;exact⟨A,c,rfl,b,fun i z d=>by simp at d⟩
 have n:j.length≠0:=fun e=>m (List.length_eq_zero_iff.1 e);have a:=h
 obtain⟨g,k,f⟩:=joW a (by omega);have b:j.length<=k:=by obtain⟨A,c,e,b⟩:=je h;rw[f]at e;cases e;exact b
 rw[f]at a;refine⟨_,k,by rw[f,joi],by rw[joi];exact b,fun i z d => ?_⟩;have l:=(List.getElem?_eq_some_iff.1 d).1
 rw[joi]at l;refine⟨g,0,rfl,(a.lt g rfl).2,?_⟩;rw[jov,job a i (by omega)];rw[joI]at d ⊢;cases hx:j[i]? with
 | none=>rw[hx]at d;cases d
 | some x=>rw[hx]at d;cases d;rfl
def jnM(w w':World)(l:List UInt8)(e:Ending):Prop :=
 Below w.heap.size w w'/\((Qd l=none/\e=.returned (.tuple #[.slice none 0 0,.bool false]))\/∃eds u fvs,Qd l=some eds/\e=.returned (.tuple #[u,.bool true])/\yn w.heap.size w' u eds fvs)
theorem yn.low{lo a:Nat}{w:World}{v:Value}{eds:List Ed}{fvs:List Value}(h:yn lo w v eds fvs)(hl:a<=lo):yn a w v eds fvs :=
 ⟨jE h.row hl,h.len,fun i b c d e=>jE (h.each i b c d e) hl⟩
structure jmX(w wr:World)(l:List UInt8)(k:Nat)(ov sv:Value)(st:StD)(fvs:List Value):Prop where
 run:k<=(zQ l).length->xX ((zQ l).take k) ([],[])=some st
 fin:k=(zQ l).length+1->st.2=[]/\je9 (zQ l)=some st.1
 own:yn w.heap.size wr ov st.1 fvs
 str:wr.ownsRow w.heap.size 9 1 sv st.2.length (st.2.map jmG)
 bel:Below w.heap.size w wr
theorem Zx:∀(b:List (List UInt8)),(∀x∈b,x.length<=wL b)/\(b.map List.length).sum+b.length<=wL b
 | []=>⟨(fun x hx=>by cases hx),jnT _⟩
 | a::r=>by
  obtain⟨c,d⟩:=Zx r;have e:wL (a::r)=a.length+3+wL r:=by unfold wL;rw[joy,jo2]
  refine⟨fun x hx => ?_,by rw[e,joy,jo2,jn1];omega⟩;rcases List.mem_cons.1 hx with q|q
  ·rw[e,q];omega
  have:=c x q;omega
theorem jio{lo h n:Nat}{w m:World}{k l:Value}{E:List Ed}{fvs xs:List Value}(a:yn lo w k E fvs)(j:w.ownsRow h 9 1 l n xs)(g:w.grownBy m l.ownBlock):yn lo m k E fvs :=
 ⟨zc a.row (fun r e=>g.block r (a.row.lt r e).2 (fun q=>jX j a.row (by decide) r q.symm e)),a.len,
  fun i b c d f=>zc (a.each i b c d f) (fun r e=>g.block r ((a.each i b c d f).lt r e).2 (fun q=>jX j (a.each i b c d f) (by decide) r q.symm e))⟩
theorem jip{lo:Nat}{w k:World}{s f:Value}{E:List Ed}{fvs:List Value}{x:Ed}(l:yn lo w s E fvs)(hx:x.fields=[])
  (h:k.ownsRow lo 75 3 f (E.length+1) (yT E fvs++[.int .i64 x.kind,.int .i64 x.id,.slice none 0 0])) (g:w.grownBy k s.ownBlock):yn lo k f (E++[x]) (fvs++[.slice none 0 0]):=by
 have b:=l.len;have m:∀(d:Value) (n:Nat) (o:List Value),w.ownsRow lo 148 2 d n o->k.ownsRow lo 148 2 d n o:=fun d n o hx =>
  zc hx (fun r e=>g.block r (hx.lt r e).2 (fun q=>jX l.row hx (by decide) r q.symm e))
 refine⟨?_,by rw[jnU,jnU,b];rfl,fun i y d a c => ?_⟩
 ·rw[QX _ _ _ _ b,jnU];exact h
 rcases joo i E.length with q|q
 ·rw[joq q]at a;rw[joq (by omega)]at c;exact m _ _ _ (l.each i y d a c)
 rw[joh q]at a;rw[joh (by omega),b]at c;rcases p:i-E.length with _|j
 ·rw[p]at a c;simp at a c;subst a c;rw[hx];exact⟨rfl,.inl ⟨rfl,rfl⟩⟩
 rw[p]at a;simp at a
def Wz(s:List UInt8):Nat->Ed
 | 0=>⟨0,0,[]⟩
 | j+1=>jbD s ((j:Int)+1) (Wz s j)
theorem JY(s:List UInt8):∀j,(Wz s j).fields=[]
 | 0=>rfl
 | j+1=>by
  show(jbD s _ _).fields=[]
  unfold jbD;split
  ·split
   ·rfl
   exact JY s j
  exact JY s j
theorem jgz(s:List UInt8):headD s=Wz s 3:=rfl
theorem jgd{k:Int}(a:k=1\/k=2\/k=3):zg k 0=XZ k++[48]:=by unfold zg XZ;rw[if_pos a,jnj];simp
theorem jil{k:Int}(a:k=1\/k=2\/k=3):(XZ k).length<=9:=by rcases a with rfl | rfl | rfl<;>decide
theorem ZF(l:List UInt8)(hl:l.length<=6000)(w:World):
  Calls prog 58 #[.string (B l)] w fun e w'=>jnM w w' l e:=by
 have bs:=jg l;have SP:=jnS (yr (B l) (by omega) w)
 rw[show(B l).data.toList=l from jj l]at SP;have hn:(jf l).length=(zQ l).length:=by unfold zQ;rw[joi]
 have q0:decide (50000<((B l).size:Int))=false:=by simp;omega
 generalize hX:B l=X at *
 go_enter func58,ntmps58;go_wp2_with fail;refine SP.out.mono ?_;rintro e w1 ⟨v1,rfl,aL,b1⟩;rw[hn]at aL;obtain⟨la,lc,rfl,_⟩:=je aL;have dI:(zQ l).length<=6000:=by rw[<- hn];have:=zL l;omega
 have c7:=jnS aL;have B1:=jnS b1
 have cR:=b1.size;clear SP aL b1;generalize hN:(zQ l).length=n at *
 go_wp2_with fail;go_loopw [4,5,7] (fun ov sv i wr=>∃(k:Nat) (st:StD) (L:List Value),i=.int .i64 k/\k<=n+1/\jmX w1 wr l k ov sv st L) (fun _ _ i _=>n+2-(intOf i).toNat)
 case atStart=>exact⟨0,([],[]),[],rfl,jn3 _,⟨fun _=>rfl,fun h=>by omega,⟨⟨rfl,.inl ⟨rfl,rfl⟩⟩,rfl,fun i ed fv h1 _=>by simp at h1⟩,⟨rfl,.inl ⟨rfl,rfl⟩⟩,jnV _ _⟩⟩
 case round =>
 obtain⟨k,st,L,rfl,hk,HC⟩:=hrel;have aP:=HC.bel
 obtain⟨d,C⟩:=st;obtain⟨oa,oc,rfl,_⟩:=je HC.own.row;obtain⟨sa,sc,rfl,_⟩:=je HC.str;dsimp only at *
 by_cases dp:k<=n
 ·have Z:=HC.run (by rw[hN];exact dp);have v:=jlJ Z
  have Y:C≠[]->d≠[]:=jjZ _ (fun q=>absurd rfl q) Z;have m:yn w1.heap.size wr (.slice oa d.length oc) d L:=HC.own
  have af:wr.ownsRow w1.heap.size 9 1 (.slice sa C.length sc) C.length (C.map jmG):=HC.str;by_cases dl:k=n
  ·subst dl;have ap:je9 (zQ l)=(zJ (d,C)).map Prod.fst:=by unfold je9;rw[<- hN,jom]at Z;rw[Z];rfl
   by_cases t:C=[]
   ·subst t;have d8:Hid (jmX w1 wr l (k+1) (.slice oa d.length oc) (.slice sa 0 sc) (d,[]) L):=⟨fun q=>by rw[hN]at q;omega,fun _=>⟨rfl,by rw[ap];unfold zJ;rw[if_pos rfl];rfl⟩,HC.own,HC.str,HC.bel⟩
    simp only[joz];clear HC Z v Y ap;go_wp2_with fail;go_roundw
    case rel=>exact⟨k+1,(d,[]),L,by go_num,jnT _,d8.out⟩
    case measure=>first | (simp[intOf];done) | (simp[intOf];omega)
   have ax:=Zx C;have aC:=v.wt
   simp only at aC;have UF:=jnS (ZC C _ wr (jag af) (fun x hx=>by have:=ax.1 x hx;omega) (by omega) (by have:=ZB C;omega))
   obtain⟨o,s,ae⟩:∃o s,d=o++[s]:=by
    rcases jpk d with z|⟨o,s,z⟩
    ·exact absurd z (Y t)
    exact⟨o,s,by rw[z,jpl]⟩
   have bm:d.length=o.length+1:=by rw[ae];simp
   have cP:0<C.length:=List.length_pos_iff.2 t;have qf:decide (0<(C.length:Int))=true:=by simp;omega
   obtain⟨I,ar,cm⟩:=joW m.row (by omega);obtain⟨rfl,rfl⟩:oa=some ⟨I,0,none⟩/\oc=ar:=by injection cm with q1 _ q2;exact⟨q1,q2⟩
   obtain⟨fv,aJ⟩:∃fv,L[o.length]?=some fv:=⟨_,jnW (by rw[m.len,bm];omega)⟩
   have am:d[o.length]?=some s:=by rw[ae];simp
   have bw:=m.each o.length s fv am aJ;have ay:=v.cnt s (jn7 am)
   simp only at ay;have c2:wr.cell? ⟨I,o.length*3+2,none⟩=some fv:=by rw[job m.row (o.length*3+2) (by omega)];exact(Yl d L o.length s fv am aJ).2.2
   have z2:wr.frozen? ⟨I,o.length*3+2,none⟩=false:=by
    rcases m.row.2 with ⟨q,_⟩|⟨g',cF,dj,q,_,hc,_⟩
    ·cases q
    cases q;simp[World.frozen?,hc]
   have D:=m.row.lt I rfl;have cO:o.length<=40:=by have h4:=v.len;simp only at h4;omega
   have aD:=jnS bw;have HO:=jnS m
   have HB:=jnS HC.bel;have aj:=jnS aP
   have aI:s.fields.length<=100000:=by omega
   have O:=HC.bel;have q3:(k:Int)=(k:Int):=rfl
   clear HC m af Z v Y bw ay ax aC;go_wp2_with fail;refine UF.out.mono ?_;rintro e w2 ⟨rfl,Q⟩;have B2:=jnS (O.trans (Q.mono O.size))
   have au:=jnS (aj.out.trans (Q.mono aj.out.size));clear UF;by_cases N:jt C=0
   ·have ce:Hid (zJ (d,C)=some (jjM d (jU C,jT C),[])):=by show zJ _=_;unfold zJ;rw[if_neg t,if_pos N]
    rw[N];have aE:yn w1.heap.size w2 (.slice (some ⟨I,0,none⟩) (o.length+1) oc) (o++[s]) L:=by rw[<- ae,<- bm];exact HO.out.below Q (jnT _)
    have bW:=jnS aE;have aA:=aD.out
    unfold zC;generalize hK:jU C=K at *
    generalize hV:jT C=V at *
    obtain⟨wf,aq⟩:∃wf,wf=w2.alloc (.cells #[.string (B K),.string (B V)] 148):=⟨_,rfl⟩
    have J:Below w2.heap.size w2 wf:=by rw[aq];exact(jnV _ w2).alloc (jnT _) _
    have bg:jd wf w2.heap.size 148 #[.string (B K),.string (B V)]:=by rw[aq];exact jd.new _ _ _
    have bB:wf.ownsRow 0 148 2 fv s.fields.length (jA s.fields):=jE (jO (jO aA Q (jnT _)) J (jnT _)) (jn3 _);have bi:wf.cell? ⟨I,o.length*3+2,none⟩=some fv:=(J.cell (p:=⟨I,o.length*3+2,none⟩) (jod D.2 Q.size)).trans ((Q.cell (p:=⟨I,o.length*3+2,none⟩) D.2).trans c2)
    have bj:wf.frozen? ⟨I,o.length*3+2,none⟩=false:=(J.frozen (p:=⟨I,o.length*3+2,none⟩) (jod D.2 Q.size)).trans ((Q.frozen (p:=⟨I,o.length*3+2,none⟩) D.2).trans z2);have aQ:I<wf.heap.size:=jod (jod D.2 Q.size) J.size
    have aB:∀u∈jA s.fields,u.oneCell'=true:=by intro u hu;unfold jA at hu;simp at hu;obtain⟨a,b,_,h|h⟩:=hu<;>subst h<;>rfl
    have aY:=jnS (aE.below J (jnT _));have BF:=jnS (B2.out.trans (J.mono B2.out.size))
    have bY:=jnS ae;clear aE bW aA c2 z2 ae am aJ HO HB aj aD O Q J B2 au;go_upto_region 14 with fail;rw[<- aq];refine FD.region29x _ wf I o.length (o.length+1) oc w2.heap.size s.fields.length fv (jA s.fields) (B K) (B V) _ rfl rfl rfl (Nat.lt_succ_self _) (jqu rfl) aQ bi bj bg bB aB aI ?_;intro x0 x1 x2 x3 x4 x5 x6 x7 x8 x9 dt du dv dw w3 g c aF bA;have aa:=jaE (f:=(K,V)) aY.out aF BF.out.size bA
    have bI:=jnS ((BF.out.trans (aF.mono BF.out.size)).setCell (p:=⟨I,o.length*3+2,none⟩) D.1 (FD.sl g (s.fields.length+1) c));have aW:Hid (jmX w1 (w3.setCell ⟨I,o.length*3+2,none⟩ (FD.sl g (s.fields.length+1) c)) l (k+1) (.slice (some ⟨I,0,none⟩) (o.length+1) oc) (.slice none 0 0) (o++[⟨s.kind,s.id,s.fields++[(K,V)]⟩],[]) (L.set o.length (FD.sl g (s.fields.length+1) c))) :=
     ⟨fun q=>by rw[hN]at q;omega,fun _=>⟨rfl,by rw[ap,ce.out,bY.out,Qk];rfl⟩,aa,⟨rfl,.inl ⟨rfl,rfl⟩⟩,bI.out⟩
    clear aF bA aa bI aY BF bB bi bj aQ aB bg aq;simp only[jof,joT,joU];go_wp2_with fail;go_roundw
    case rel=>exact⟨k+1,_,_,by go_num,jnT _,aW.out⟩
    case measure=>first | (simp[intOf];done) | (simp[intOf];omega)
   have NO:Hid (Qd l=none):=Xy (by rw[ap];unfold zJ;rw[if_neg t,if_neg N];rfl);have qb:((((jt C:Nat):Int))==0)=false:=by simpa using N
   unfold zC;generalize jt C=cE at *
   clear HO HB aj aD O Q au;go_wp2_with fail;go_ret2;have aT:=B1.out.trans (B2.out.mono B1.out.size)
   exact⟨aT.alloc aT.size _,.inl ⟨NO.out,rfl⟩⟩
  have dB:k<n:=by omega
  obtain⟨x,hx⟩:∃x,(zQ l)[k]?=some x:=⟨_,jnW (by omega)⟩
  obtain⟨lg,cS,dm⟩:=joW c7.out (by omega);obtain⟨rfl,rfl⟩:la=some ⟨lg,0,none⟩/\lc=cS:=by injection dm with q1 _ q2;exact⟨q1,q2⟩
  have cy:Hid (∀W,Below w1.heap.size w1 W->W.cell? ⟨lg,k*4+2,none⟩=some (.string (B x))):=fun W hW =>
   (hW.cell (p:=⟨lg,k*4+2,none⟩) (c7.out.lt lg rfl).2).trans (by rw[job c7.out (k*4+2) (by omega)];exact jgc hx)
  have dL:x.length<=6001:=by
   have h1:∀xs:List (List UInt8),∀y∈xs,y.length<=XS xs:=fun xs=>by
    induction xs with
    | nil=>intro y hy;cases hy
    | cons a r ih =>
    intro y hy;have e:XS (a::r)=a.length+1+XS r:=by unfold XS;rw[joy,jo2]
    rcases List.mem_cons.1 hy with q|q
    ·rw[e,q];omega
    have:=ih y q;omega
   have h2:=h1 _ x (jn7 hx);have:=KY l
   omega
  have cW:Hid (∀W,Calls prog 111 #[.string (B x),.string ⟨#[32,32]⟩] W fun e w'=>e=.returned (.bool (Lib.hasPrefix x [32,32]))/\w'=W):=fun W=>Ju x [32,32] (by omega) (by decide) W;have cX:Hid (∀W,Calls prog 111 #[.string (B x),.string ⟨#[32,32,32]⟩] W fun e w'=>e=.returned (.bool (Lib.hasPrefix x [32,32,32]))/\w'=W):=fun W=>Ju x [32,32,32] (by omega) (by decide) W
  have dN:((k:Int)==(n:Int))=false:=by simp;omega
  obtain⟨fl,aH⟩:∃fl:Bool,fl=(decide (C≠[]) && !Lib.hasPrefix x [32,32,32]):=⟨_,rfl⟩
  have c0:=cy.out wr aP;have bV:=jnS m
  have bZ:=jnS af;have bJ:=jnS aP
  have aZ:=jnS Z;have bU:=jnS v
  have cz:=jnS Y;have aX:=jnS aH
  clear HC m af Z v Y aH;go_upto_region 9 with fail;go_cut [47] (fun b wx=>b=.bool fl/\wx=wr)
  case first =>
   by_cases t:C=[]
   ·have dH:C.length=0:=by rw[t];rfl
    have bu:fl=false:=by rw[aX.out,t];rfl
    clear t;go_wp2_with fail;go_meet;exact⟨by rw[bu],rfl⟩
   have dJ:0<C.length:=List.length_pos_iff.2 t;have bu:fl = !Lib.hasPrefix x [32,32,32]:=by rw[aX.out];simp[t]
   go_wp2_with fail;refine(cX.out _).mono ?_;rintro e U ⟨rfl,rfl⟩;go_wp2_with fail;go_meet;exact⟨by rw[bu],rfl⟩
  case rest =>
  obtain⟨rfl,rfl⟩:=hcut;go_upto_if 47 with fail;go_cut [4,5,8,9,10] (fun ov sv _ _ _ wx=>∃(E:List Ed) (S:List (List UInt8)) (aK:List Value) (bF:Option Addr) (ar:Nat) (bG:Option Addr) (bH:Nat),ov=.slice bF E.length ar/\sv=.slice bG S.length bH/\yn w1.heap.size wx (.slice bF E.length ar) E aK/\wx.ownsRow w1.heap.size 9 1 (.slice bG S.length bH) S.length (S.map jmG)/\Below w1.heap.size w1 wx/\vl (d,C) x=xo (E,S) x/\E.length<=40)
  case first =>
   cases fl with
   | false =>
    have av:Hid (vl (d,C) x=xo (d,C) x):=by
     show vl _ _=_;have h:=aX.out
     unfold vl;by_cases t:C=[]
     ·subst t;split
      ·rfl
      unfold zJ;rw[if_pos rfl];rfl
     have:Lib.hasPrefix x [32,32,32]=true:=by simpa [t]using h
     rw[this,if_pos rfl];rfl
    go_wp2_with fail;go_meet;exact⟨d,C,L,oa,oc,sa,sc,rfl,rfl,bV.out,bZ.out,bJ.out,av.out,bU.out.len⟩
   | true =>
   have aH:=aX.out;have t:C≠[]:=fun e=>by rw[e]at aH;simp at aH
   have R:Lib.hasPrefix x [32,32,32]=false:=by simpa [t]using aH
   have m:=bV.out;have af:=bZ.out
   have v:=bU.out;have Y:=cz.out
   clear aH;have ax:=Zx C
   have aC:=v.wt;simp only at aC;have UF:=jnS (ZC C _ wc (jag af) (fun x hx=>by have:=ax.1 x hx;omega) (by omega) (by have:=ZB C;omega))
   obtain⟨o,s,ae⟩:∃o s,d=o++[s]:=by
    rcases jpk d with z|⟨o,s,z⟩
    ·exact absurd z (Y t)
    exact⟨o,s,by rw[z,jpl]⟩
   have bm:d.length=o.length+1:=by rw[ae];simp
   have cP:0<C.length:=List.length_pos_iff.2 t;have qf:decide (0<(C.length:Int))=true:=by simp;omega
   obtain⟨I,ar,cm⟩:=joW m.row (by omega);obtain⟨rfl,rfl⟩:oa=some ⟨I,0,none⟩/\oc=ar:=by injection cm with q1 _ q2;exact⟨q1,q2⟩
   obtain⟨fv,aJ⟩:∃fv,L[o.length]?=some fv:=⟨_,jnW (by rw[m.len,bm];omega)⟩
   have am:d[o.length]?=some s:=by rw[ae];simp
   have bw:=m.each o.length s fv am aJ;have ay:=v.cnt s (jn7 am)
   simp only at ay;have c2:wc.cell? ⟨I,o.length*3+2,none⟩=some fv:=by rw[job m.row (o.length*3+2) (by omega)];exact(Yl d L o.length s fv am aJ).2.2
   have z2:wc.frozen? ⟨I,o.length*3+2,none⟩=false:=by
    rcases m.row.2 with ⟨q,_⟩|⟨g',cF,dj,q,_,hc,_⟩
    ·cases q
    cases q;simp[World.frozen?,hc]
   have D:=m.row.lt I rfl;have cO:o.length<=40:=by have h4:=v.len;simp only at h4;omega
   have cB:=jnS (show o.length+1<=40 by have h4:=v.len;simp only at h4;omega);have aD:=jnS bw
   have HO:=jnS m;have HB:=bJ
   have aj:=jnS aP;have aI:s.fields.length<=100000:=by omega
   have O:=bJ.out;have q3:(k:Int)=(k:Int):=rfl
   clear m af v Y bw ay ax aC;go_wp2_with fail;refine UF.out.mono ?_;rintro e w2 ⟨rfl,Q⟩;have B2:=jnS (O.trans (Q.mono O.size))
   have au:=jnS (aj.out.trans (Q.mono aj.out.size));clear UF;by_cases N:jt C=0
   ·have ce:Hid (zJ (d,C)=some (jjM d (jU C,jT C),[])):=by show zJ _=_;unfold zJ;rw[if_neg t,if_pos N]
    rw[N];have aE:yn w1.heap.size w2 (.slice (some ⟨I,0,none⟩) (o.length+1) oc) (o++[s]) L:=by rw[<- ae,<- bm];exact HO.out.below Q (jnT _)
    have bW:=jnS aE;have aA:=aD.out
    unfold zC;generalize hK:jU C=K at *
    generalize hV:jT C=V at *
    obtain⟨wf,aq⟩:∃wf,wf=w2.alloc (.cells #[.string (B K),.string (B V)] 148):=⟨_,rfl⟩
    have J:Below w2.heap.size w2 wf:=by rw[aq];exact(jnV _ w2).alloc (jnT _) _
    have bg:jd wf w2.heap.size 148 #[.string (B K),.string (B V)]:=by rw[aq];exact jd.new _ _ _
    have bB:wf.ownsRow 0 148 2 fv s.fields.length (jA s.fields):=jE (jO (jO aA Q (jnT _)) J (jnT _)) (jn3 _);have bi:wf.cell? ⟨I,o.length*3+2,none⟩=some fv:=(J.cell (p:=⟨I,o.length*3+2,none⟩) (jod D.2 Q.size)).trans ((Q.cell (p:=⟨I,o.length*3+2,none⟩) D.2).trans c2)
    have bj:wf.frozen? ⟨I,o.length*3+2,none⟩=false:=(J.frozen (p:=⟨I,o.length*3+2,none⟩) (jod D.2 Q.size)).trans ((Q.frozen (p:=⟨I,o.length*3+2,none⟩) D.2).trans z2);have aQ:I<wf.heap.size:=jod (jod D.2 Q.size) J.size
    have aB:∀u∈jA s.fields,u.oneCell'=true:=by intro u hu;unfold jA at hu;simp at hu;obtain⟨a,b,_,h|h⟩:=hu<;>subst h<;>rfl
    have aY:=jnS (aE.below J (jnT _));have BF:=jnS (B2.out.trans (J.mono B2.out.size))
    have bY:=jnS ae;clear aE bW aA c2 z2 ae am aJ HO HB aj aD O Q J B2 au;go_upto_region 14 with fail;rw[<- aq];refine FD.region29x _ wf I o.length (o.length+1) oc w2.heap.size s.fields.length fv (jA s.fields) (B K) (B V) _ rfl rfl rfl (Nat.lt_succ_self _) (jqu rfl) aQ bi bj bg bB aB aI ?_;intro x0 x1 x2 x3 x4 x5 x6 x7 x8 x9 dt du dv dw w3 g c aF bA;have aa:=jaE (f:=(K,V)) aY.out aF BF.out.size bA
    have bI:=jnS ((BF.out.trans (aF.mono BF.out.size)).setCell (p:=⟨I,o.length*3+2,none⟩) D.1 (FD.sl g (s.fields.length+1) c));have av:Hid (vl (d,C) x=xo (o++[⟨s.kind,s.id,s.fields++[(K,V)]⟩],[]) x):=by show vl _ _=_;unfold vl;rw[R,if_neg (by simp),ce.out,bY.out,Qk];rfl
    have de:Hid (yn w1.heap.size (w3.setCell ⟨I,o.length*3+2,none⟩ (FD.sl g (s.fields.length+1) c)) (.slice (some ⟨I,0,none⟩) (o++[⟨s.kind,s.id,s.fields++[(K,V)]⟩]:List Ed).length oc) (o++[⟨s.kind,s.id,s.fields++[(K,V)]⟩]) (L.set o.length (FD.sl g (s.fields.length+1) c))):=by show yn _ _ _ _ _;rw[jnU];exact aa
    clear aF bA aa aY BF bB bi bj aQ aB bg aq;simp only[jof,joT,joU];go_wp2_with fail;go_meet;exact⟨_,[],_,some ⟨I,0,none⟩,oc,none,0,by rw[jnU];rfl,rfl,de.out,⟨rfl,.inl ⟨rfl,rfl⟩⟩,bI.out,av.out,by rw[jnU];exact cB.out⟩
   have NO:Hid (Qd l=none):=Xy (WU hx aZ.out (by unfold vl;rw[R,if_neg (by simp)];unfold zJ;rw[if_neg t,if_neg N];rfl));have qb:((((jt C:Nat):Int))==0)=false:=by simpa using N
   unfold zC;generalize jt C=cE at *
   clear HO HB aj aD O Q au;go_wp2_with fail;go_ret2;have aT:=B1.out.trans (B2.out.mono B1.out.size)
   exact⟨aT.alloc aT.size _,.inl ⟨NO.out,rfl⟩⟩
  case rest =>
  obtain⟨E,S,aK,bF,ar,bG,bH,rfl,rfl,hO,hS,hB,cQ,dx⟩:=hcut;have HO:=jnS hO
  have HS:=jnS hS;have HB:=jnS hB
  have av:=jnS cQ;have cC:Hid (xX ((zQ l).take (k+1)) ([],[])=xo (E,S) x):=by show _=_;rw[jap hx aZ.out,av.out]
  have c1:=cy.out wc hB;have cH:=B1.out.trans (hB.mono B1.out.size)
  have bQ:=jnS cH;have dM:=hB.size
  clear c0 bV bZ bJ aP aX bU cz hO hS hB cQ cH;go_wp2_with fail;refine(cW.out _).mono ?_;rintro e U ⟨rfl,rfl⟩;cases aS:Lib.hasPrefix x [32,32]with
  | true =>
   by_cases hE:E=[]
   ·have NO:Hid (Qd l=none):=Xy (WU hx aZ.out (by rw[av.out];unfold xo;rw[if_pos aS,if_pos hE]));have qe:((E.length:Int)==0)=true:=by rw[hE];rfl
    clear hE;go_wp2_with fail;go_ret2;exact⟨bQ.out,.inl ⟨NO.out,rfl⟩⟩
   have qe:((E.length:Int)==0)=false:=by have:0<E.length:=List.length_pos_iff.2 hE;simp;omega
   have bK:Hid (xX ((zQ l).take (k+1)) ([],[])=some (E,S++[x.drop 2])):=by show _=_;rw[cC.out];unfold xo;rw[if_pos aS,if_neg hE]
   have dK:2<=x.length:=by
    unfold Lib.hasPrefix at aS;have:=(List.isPrefixOf_iff_prefix.1 aS).length_le
    simpa using this
   have v:=jlJ bK.out;have ax:=Zx (S++[x.drop 2])
   have aC:=v.wt;simp only at aC;have dF:S.length+1<=6001:=by have:=ax.2;rw[jnU]at this;simp at this;omega
   have bx:=jg x;have dC:(2:Int)<=(B x).size:=by rw[bx];omega
   have cG:(B x).extract 2 (B x).size=B (x.drop 2):=by apply jpf;apply Array.toList_inj.1;rw[jo3,jj,jj,bx,jol (by simp)]
   have cY:=jnS cG;obtain⟨i0,hi,co,cp,cr⟩:=info_parts ja3;clear hE v ax aC cG bx aS;generalize ck:B x=XX at *
   clear ck;obtain⟨wa,ag⟩:∃wa,wa=U.alloc (.cells #[.string (XX.extract 2 XX.size)] 9):=⟨_,rfl⟩
   have ai:Below U.heap.size U wa:=by rw[ag];exact(jnV _ U).alloc (jnT _) _
   have HV:Hid (∀(i:Nat) (u:Value),[Value.string (XX.extract 2 XX.size)][i]?=some u->wa.cell? ((⟨U.heap.size,0,none⟩:Addr).add i)=some u):=fun i u h=>by
    match i,h with
    | 0,h =>
     have ea:(⟨U.heap.size,0,none⟩:Addr).add 0=⟨U.heap.size,0,none⟩:=by unfold Addr.add;split<;>simp_all
     simp only[jnZ,Option.some.injEq]at h;rw[ea,ag,(jd.new U _ _).cell 0,<- h];rfl
    | i+1,h=>simp at h
   have HR:=jnS (jO HS.out ai (jnT _));have aN:=jnS (HO.out.below ai (jnT _))
   have ak:=jnS (HB.out.trans (ai.mono HB.out.size));have bE:w1.heap.size<=wa.heap.size:=ak.out.size
   have aO:=HR;rw[ag]at HV HR bE;go_wp2_with (at_builtin;refine ju rfl _ _ 158 rfl w1.heap.size 9 i0 _ 1 16 underlying158 hi co cp cr rfl (by decide) _ _ _ rfl HR.out ⟨U.heap.size,0,none⟩ 1 1 _ rfl rfl HV.out (by intro u hu;simp at hu;subst hu;rfl) (by unfold maxLen;omega) (by omega) bE ?_);rw[<- ag];intro cU w3 ah G c8;have bz:∀r,(Value.slice bG S.length bH).ownBlock=some r->w1.heap.size<=r:=fun r e=>(aO.out.lt r e).1
   have aW:Hid (jmX w1 w3 l (k+1) (.slice bF E.length ar) cU (E,S++[x.drop 2]) aK):=by
    refine⟨fun _=>bK.out,fun q=>by rw[hN]at q;omega,jio aN.out aO.out G,?_,ak.out.grown G ak.out.size bz⟩;have h3:=ah
    rw[cY.out]at h3;show w3.ownsRow _ _ _ _ (S++[x.drop 2]).length ((S++[x.drop 2]).map jmG)
    rw[jnU,joB];exact h3
   obtain⟨ga,gc,rfl⟩:∃A c,cU=.slice A (S.length+1) c:=by obtain⟨A,c,e,_⟩:=je ah;exact⟨A,c,e⟩
   clear ah G c8 bz aO HR HV aN ak HO HS HB ai ag;go_wp2_with fail;go_roundw
   case rel=>exact⟨k+1,_,_,by go_num,by omega,aW.out⟩
   case measure=>first | (simp[intOf];done) | (simp[intOf];omega)
  | false =>
  obtain⟨wn,bN⟩:∃wn,wn=U.alloc (.cells #[.int .i64 0,.int .i64 0,.slice none 0 0] 75):=⟨_,rfl⟩
  have cJ:Below U.heap.size U wn:=by rw[bN];exact(jnV _ U).alloc (jnT _) _
  have cL:jd wn U.heap.size 75 #[.int .i64 0,.int .i64 0,.slice none 0 0]:=by rw[bN];exact jd.new _ _ _
  have aW:=jnS cL;have cZ:=jnS cJ
  clear cL cJ c1;go_wp2_with fail;rw[<- bN];clear bN;go_loopw [13] (fun kv wi=>∃j:Nat,j<=3/\kv=.int .i64 ((j:Int)+1)/\jd wi U.heap.size 75 #[.int .i64 (Wz x j).kind,.int .i64 (Wz x j).id,.slice none 0 0]/\Below U.heap.size U wi) (fun kv _=>5-(intOf kv).toNat)
  case atStart=>exact⟨0,by omega,rfl,aW.out,cZ.out⟩
  case round =>
  obtain⟨j,hj,rfl,hc,aG⟩:=hrel;have bR:=jnS hc
  have aM:=jnS aG;have cl:=hc.lt
  by_cases dG:j<3
  ·have hK:((j:Int)+1)=1\/((j:Int)+1)=2\/((j:Int)+1)=3:=by omega
   have dD:=jil hK;have bM:=jnS (fun w=>Vy ((j:Int)+1) 0 (.slice none 0 0) (by unfold I64;omega) w)
   simp only[jgd hK]at bM;have cj:Hid (Wz x (j+1)=jbD x ((j:Int)+1) (Wz x j)):=rfl
   have dE:(B (XZ ((j:Int)+1)++[48])).size=(XZ ((j:Int)+1)).length+1:=by rw[jg];simp
   have xP:Hid ((B (XZ ((j:Int)+1)++[48])).extract 0 (XZ ((j:Int)+1)).length=B (XZ ((j:Int)+1))):=by show _=_;apply jpf;apply Array.toList_inj.1;rw[jo3,jj,jj];simp
   have aU:=jnS (fun w=>Ju x (XZ ((j:Int)+1)) (by omega) (by omega) w);have ci:Hid (∀y,jbD x ((j:Int)+1) y=if Lib.hasPrefix x (XZ ((j:Int)+1)) then (match numL (x.drop (XZ ((j:Int)+1)).length) with | some n=>⟨(j:Int)+1,n,[]⟩ | none=>y) else y):=fun y=>rfl
   have NM:=jnS (fun w=>number_any (x.drop (XZ ((j:Int)+1)).length) (by simp;omega) w);have bx:=jg x
   have xd:Hid ((B x).extract (XZ ((j:Int)+1)).length (B x).size=B (x.drop (XZ ((j:Int)+1)).length)):=by show _=_;apply jpf;apply Array.toList_inj.1;rw[jo3,jj,jj,bx,jol (by simp)]
   have qj:((j:Int)+1)<=3:=by omega
   generalize hPP:XZ ((j:Int)+1)=P at *
   clear hPP;generalize B (P++[48])=H at *
   generalize ck:B x=XX at *
   clear ck hc aG;cases R:Lib.hasPrefix x P with
   | false =>
    simp only[R]at aU;have aw:Hid (Wz x (j+1)=Wz x j):=by show _=_;rw[cj.out,ci.out,R,if_neg (by simp)]
    clear R bx;go_wp2_with fail;refine(bM.out _).mono ?_;rintro e wl ⟨rfl,a8⟩;have a7:=jnS (bR.out.below a8 cl)
    have aV:=jnS (aM.out.trans (a8.mono aM.out.size));clear a8;go_wp2_with fail;rw[xP.out];refine(aU.out _).mono ?_;rintro e cV ⟨rfl,rfl⟩;go_wp2_with fail;go_roundw
    case rel=>exact⟨j+1,by omega,by go_num,by rw[aw.out];exact a7.out,aV.out⟩
    case measure=>first | (simp[intOf];done) | (simp[intOf];omega)
   | true =>
   simp only[R]at aU;have cI:P.length<=x.length:=by unfold Lib.hasPrefix at R;exact(List.isPrefixOf_iff_prefix.1 R).length_le
   have dy:((B P).size:Int)<=(XX.size:Int):=by rw[bx,jg];omega
   have dA:(B P).size<=XX.size:=by rw[bx,jg];omega
   cases aR:numL (x.drop P.length) with
   | none =>
    have aw:Hid (Wz x (j+1)=Wz x j):=by show _=_;rw[cj.out,ci.out,R,if_pos rfl,aR]
    have s:numEnd (x.drop P.length)=.returned (.tuple #[.int .i64 0,.bool false]):=by unfold numEnd;rw[aR];rfl
    simp only[s]at NM;clear R bx aR s cI;go_wp2_with fail;refine(bM.out _).mono ?_;rintro e wl ⟨rfl,a8⟩;have a7:=jnS (bR.out.below a8 cl)
    have aV:=jnS (aM.out.trans (a8.mono aM.out.size));clear a8;go_wp2_with fail;rw[xP.out];refine(aU.out _).mono ?_;rintro e cV ⟨rfl,rfl⟩;go_wp2_with fail;rw[show(B P).size=P.length from jg P,xd.out];refine(NM.out _).mono ?_;rintro e bO ⟨rfl,rfl⟩;go_wp2_with fail;go_roundw
    case rel=>exact⟨j+1,by omega,by go_num,by rw[aw.out];exact a7.out,aV.out⟩
    case measure=>first | (simp[intOf];done) | (simp[intOf];omega)
   | some i =>
   have aw:Hid (Wz x (j+1)=⟨(j:Int)+1,i,[]⟩):=by show _=_;rw[cj.out,ci.out,R,if_pos rfl,aR]
   have s:numEnd (x.drop P.length)=.returned (.tuple #[.int .i64 i,.bool true]):=by unfold numEnd;rw[aR];rfl
   simp only[s]at NM;clear R bx aR s cI;go_wp2_with fail;refine(bM.out _).mono ?_;rintro e wl ⟨rfl,a8⟩;have a7:=jnS (bR.out.below a8 cl)
   have aV:=jnS (aM.out.trans (a8.mono aM.out.size));clear a8;go_wp2_with fail;rw[xP.out];refine(aU.out _).mono ?_;rintro e cV ⟨rfl,rfl⟩;go_wp2_with fail;rw[show(B P).size=P.length from jg P,xd.out];refine(NM.out _).mono ?_;rintro e bO ⟨rfl,rfl⟩;have f0:=a7.out.frozen 0
   have f1:=a7.out.frozen 1;have f2:=a7.out.frozen 2
   have g0:bO.cell? ⟨U.heap.size,0,none⟩=some (.int .i64 (Wz x j).kind):=a7.out.cell 0;have g1:bO.cell? ⟨U.heap.size,1,none⟩=some (.int .i64 (Wz x j).id):=a7.out.cell 1
   have g2:bO.cell? ⟨U.heap.size,2,none⟩=some (.slice none 0 0):=a7.out.cell 2;go_wp2_with fail;go_roundw
   case rel =>
    refine⟨j+1,by omega,by go_num,?_,?_⟩
    ·rw[aw.out];have:=((a7.out.set 0 (.int .i64 ((j:Int)+1))).set 1 (.int .i64 i)).set 2 (.slice none 0 0)
     simpa [List.setIfInBounds_toArray]using this
    exact((aV.out.setCell (p:=⟨U.heap.size,0,none⟩) (jnT _) _).setCell (p:=⟨U.heap.size,1,none⟩) (jnT _) _).setCell (p:=⟨U.heap.size,2,none⟩) (jnT _) _
   case measure=>first | (simp[intOf];done) | (simp[intOf];omega)
  obtain rfl:j=3:=by omega
  have c0:wr.cell? ⟨U.heap.size,0,none⟩=some (.int .i64 (Wz x 3).kind):=hc.cell 0;have c1:wr.cell? ⟨U.heap.size,1,none⟩=some (.int .i64 (Wz x 3).id):=hc.cell 1
  have c2:wr.cell? ⟨U.heap.size,2,none⟩=some (.slice none 0 0):=hc.cell 2;have dk:=JY x 3
  have bP:xo (E,S) x=if (Wz x 3).kind=0\/40<=E.length then none else some (E++[Wz x 3],S):=by unfold xo;rw[aS,if_neg (by simp),jgz]
  have be:=jnS bP;have cu:=jnS (bQ.out.trans (aG.mono bQ.out.size))
  clear bP hc;generalize Wz x 3=hd at *
  by_cases h0:hd.kind=0
  ·have NO:Hid (Qd l=none):=Xy (WU hx aZ.out (by rw[av.out,be.out,if_pos (.inl h0)]));have qk:(hd.kind==0)=true:=by simpa using h0
   clear h0;go_wp2_with fail;go_ret2;exact⟨cu.out,.inl ⟨NO.out,rfl⟩⟩
  have qk:(hd.kind==0)=false:=by simpa using h0
  by_cases cd:40<=E.length
  ·have NO:Hid (Qd l=none):=Xy (WU hx aZ.out (by rw[av.out,be.out,if_pos (.inr cd)]));have dr:(40:Int)<=(E.length:Int):=by omega
   clear h0 cd;go_wp2_with fail;go_ret2;exact⟨cu.out,.inl ⟨NO.out,rfl⟩⟩
  have dr:¬(40:Int)<=(E.length:Int):=by omega
  have bK:Hid (xX ((zQ l).take (k+1)) ([],[])=some (E++[hd],S)):=by show _=_;rw[cC.out,be.out,if_neg (by omega)]
  have bX:=jnS (HO.out.below aG (jnT _));have cD:=jnS (jO HS.out aG (jnT _))
  have ct:=jnS (HB.out.trans (aG.mono HB.out.size));obtain⟨i0,hi,co,cp,cr⟩:=info_parts jb0;obtain⟨wa,ag⟩:∃wa,wa=wr.alloc (.cells #[.int .i64 hd.kind,.int .i64 hd.id,.slice none 0 0] 75):=⟨_,rfl⟩
  have ai:Below wr.heap.size wr wa:=by rw[ag];exact(jnV _ wr).alloc (jnT _) _
  have HV:Hid (∀(i:Nat) (u:Value),[Value.int .i64 hd.kind,.int .i64 hd.id,.slice none 0 0][i]?=some u->wa.cell? ((⟨wr.heap.size,0,none⟩:Addr).add i)=some u):=fun i u h=>by
   have ea:(⟨wr.heap.size,0,none⟩:Addr).add i=⟨wr.heap.size,i,none⟩:=by unfold Addr.add;split<;>simp_all
   rw[ea,ag,(jd.new wr _ _).cell i];simpa using h
  have bC:=jO bX.out.row ai (jnT _);have aO:=jnS bC
  have HR:=jnS bC;have aN:=jnS (bX.out.below ai (jnT _))
  have bL:=jnS (jO cD.out ai (jnT _));have ak:=jnS (ct.out.trans (ai.mono ct.out.size))
  have bE:w1.heap.size<=wa.heap.size:=ak.out.size;rw[ag]at HV HR bE;clear h0 cd bC aG;go_wp2_with (at_builtin;refine ju rfl _ _ 55 rfl w1.heap.size 75 i0 _ 3 40 underlying55 hi co cp cr rfl (by decide) _ _ _ rfl HR.out ⟨wr.heap.size,0,none⟩ 1 1 _ rfl rfl HV.out (by intro u hu;simp at hu;rcases hu with rfl | rfl | rfl<;>rfl) (by unfold maxLen;omega) (by omega) bE ?_);rw[<- ag];intro cT w3 ah G c8;have bz:∀r,(Value.slice bF E.length ar).ownBlock=some r->w1.heap.size<=r:=fun r e=>(aO.out.lt r e).1
  have cw:Hid (jmX w1 w3 l (k+1) cT (.slice bG S.length bH) (E++[hd],S) (aK++[.slice none 0 0])) :=
   ⟨fun _=>bK.out,fun q=>by rw[hN]at q;omega,jip aN.out dk ah G,zc bL.out (fun r e=>G.block r (bL.out.lt r e).2 (fun q=>jX aN.out.row bL.out (by decide) r q.symm e)),ak.out.grown G ak.out.size bz⟩
  obtain⟨ga,gc,rfl⟩:∃A c,cT=.slice A (E.length+1) c:=by obtain⟨A,c,e,_⟩:=je ah;exact⟨A,c,e⟩
  clear ah G c8 bz aO HR HV aN bL ak bX cD HO HS HB ai ag;go_wp2_with fail;go_roundw
  case rel=>exact⟨k+1,_,_,by go_num,by omega,cw.out⟩
  case measure=>first | (simp[intOf];done) | (simp[intOf];omega)
 obtain rfl:k=n+1:=by omega
 have q9:decide (((n+1:Nat):Int)<=(n:Int))=false:=by simp;omega
 have q8:decide ((n:Int)+1<=(n:Int))=false:=by simp;omega
 obtain⟨t,bo⟩:=HC.fin (by omega);have v:=jgZ bo
 have cM:=jeh (by omega) v;have cN:=v.len
 simp only at t cN cM;have DE:=jjp (by omega) bo
 have CB:=jnS (JS d _ wr HC.own.edv (by omega) cM);have HO:=jnS (yn.low HC.own cR)
 have HB:=jnS (B1.out.trans (HC.bel.mono B1.out.size));have bT:=jnS DE
 have df:=jnS v.ids;clear HC aP t bo v DE;go_wp2_with fail;refine CB.out.mono ?_;rintro e w2 ⟨rfl,Q⟩;have B2:=jnS (HB.out.trans (Q.mono HB.out.size))
 have cA:=jnS (HO.out.below Q (jnT _));clear CB Q;by_cases h0:(qu d).2=0
 ·obtain⟨⟨_,_⟩,hg⟩:=vg h0;have EN:=jnS (XY d _ w2 cA.out.edv (by omega) hg df.out)
  have HZ:=jnS h0;rw[h0];generalize (qu d).1=di at *
  clear h0 hg;by_cases he:jo d=l
  ·rw[he,hX]at EN;have dh:Hid (Qd l=some d):=by show _=_;rw[bT.out,if_pos ⟨HZ.out,he⟩]
   clear he;go_wp2_with fail;refine EN.out.mono ?_;rintro e w3 ⟨rfl,b3⟩;have B3:=jnS (B2.out.trans (b3.mono B2.out.size))
   have d9:=jnS (cA.out.below b3 (jnT _));clear EN b3;go_wp2_with fail;go_ret2;exact⟨B3.out,.inr ⟨d,_,L,dh.out,rfl,d9.out⟩⟩
  have NO:Hid (Qd l=none):=by show _=_;rw[bT.out,if_neg (fun z=>he z.2)]
  have dq:¬(B (jo d)).toList=X.toList:=fun e=>he (by rw[<- hX]at e;rw[jot,jot,jj,jj]at e;exact e);have aQ:((B (jo d)).toList==X.toList)=false:=by simpa using dq
  generalize B (jo d)=V at *
  clear he;go_wp2_with fail;refine EN.out.mono ?_;rintro e w3 ⟨rfl,b3⟩;have B3:=jnS (B2.out.trans (b3.mono B2.out.size))
  clear EN b3;go_wp2_with fail;go_ret2;exact⟨B3.out,.inl ⟨NO.out,rfl⟩⟩
 have NO:Hid (Qd l=none):=by show _=_;rw[bT.out,if_neg (fun z=>h0 z.1)]
 have qn:((((qu d).2:Nat):Int)==0)=false:=by simpa using h0
 generalize (qu d).1=di at *
 generalize (qu d).2=cE at *
 go_wp2_with fail;go_ret2;exact⟨B2.out,.inl ⟨NO.out,rfl⟩⟩
end
end Go.Proofs.YtbapfpekklcicaaGreatDoor
