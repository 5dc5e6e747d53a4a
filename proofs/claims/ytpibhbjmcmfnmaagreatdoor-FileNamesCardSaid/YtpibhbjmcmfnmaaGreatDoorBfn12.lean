/- Texts put together:PJ,PK,FK,BU,FN,GB,PN,PW,PX,PY,GD,PZ,TF,FO. -/
import Derived.Lib.FrozenHead
import Derived.Laws.AppendOwnNone
import Derived.Test.YtpibhbjmcmfnmaaGreatDoorBfn11
set_option linter.unusedVariables false
set_option maxRecDepth 100000
set_option maxHeartbeats 16000000
namespace Go.Proofs.YtpibhbjmcmfnmaaGreatDoor
open Go.RowKit Go.Shelf Tryz
abbrev jms:=@List.setIfInBounds_toArray
abbrev jm2:=@List.set_cons_zero
abbrev jm3:=@List.set_cons_succ
abbrev jnQ:=@Go.Lib.cell_of_heap
abbrev joe:=@List.filter_append
section
attribute [local go_sem] jmk jW
def Its(w:World)(v:Value)(its:List It):Prop :=
 ∃A cap,v=.slice A its.length cap/\its.length<=cap/\∀(i:Nat) (it:It),its[i]?=some it->∃b off fv,A=some ⟨b,off,none⟩/\b<w.heap.size /\
  w.cell? ⟨b,off+i*3,none⟩=some (.int .i64 it.kind)/\w.cell? ⟨b,off+i*3+1,none⟩=some (.string (B it.raw))/\w.cell? ⟨b,off+i*3+1+1,none⟩=some fv/\Yo w fv it.fields
theorem jB.its {w : World} {T : Nat -> Nat} {R b : Nat} {text : ByteArray} {p : PS} {V : PV} (h : jB w T R b text p V) : Its w V.v3 p.items := by
  rcases jnm h.r3 with ⟨e, hn⟩ | ⟨g, cap, e⟩
  . have : p.items = [] := List.length_eq_zero_iff.1 hn
    rw [e, this]
    exact ⟨none, 0, rfl, jma _, fun i it hi => by simp at hi⟩
  refine ⟨some ⟨g, 0, none⟩, cap, e, (by rcases h.r3.2 with ⟨q, _⟩ | ⟨g', cap', cur, q, _, _, q2, _⟩; · rw [e] at q; cases q
                                         rw [e] at q; cases q; exact q2), fun i it hi => ?_⟩
  have hlt : i < p.items.length := by
    rcases jmF i p.items.length with q | q
    . exact q
    rw [jmZ q] at hi; cases hi
  obtain ⟨fv, hfv⟩ : ∃ fv, V.fvs[i]? = some fv := ⟨_, jmd (by rw [h.nf]; exact hlt)⟩
  obtain ⟨a0, a1, a2⟩ := yF _ _ i it fv hi hfv
  have hr := h.r3
  rw [e] at hr
  refine ⟨g, 0, fv, rfl, (jnE hr g rfl).2, ?_, ?_, ?_, Vt (h.rf i it fv hi hfv).1⟩
  . rw [jmP, jmG hr (i * 3) (by omega)]; exact a0
  . rw [jmP, jmG hr (i * 3 + 1) (by omega)]; exact a1
  rw [jmP, jmG hr (i * 3 + 1 + 1) (by omega)]; exact a2
def jkF(w:World)(v:Value)(its:List It):Prop:=∀(i:Nat) (b off:Nat) (n cap m c:Nat),v=.slice (some ⟨b,off,none⟩) n cap->i<its.length->w.cell? ⟨b,off+i*3+1+1,none⟩=some (.slice none m c)->c=0
theorem jB.nil{w:World}{T:Nat->Nat}{R b:Nat}{text:ByteArray}{p:PS}{V:PV}(h:jB w T R b text p V):jkF w V.v3 p.items:=by
 intro i b off n cap m c e hlt hcell
 obtain⟨it,hi⟩:∃it,p.items[i]?=some it:=⟨_,jmd hlt⟩
 obtain⟨fv,hfv⟩:∃fv,V.fvs[i]?=some fv:=⟨_,jmd (by rw[h.nf];exact hlt)⟩
 obtain⟨_,_,a2⟩:=yF _ _ i it fv hi hfv
 have hr:=h.r3
 rcases jnm hr with ⟨e',hn⟩|⟨g,cap',e'⟩
 ·omega
 rw[e']at e hr
 cases e
 rw[jmP,jmG hr (i*3+1+1) (by omega),a2]at hcell
 cases hcell
 rcases(h.rf i it _ hi hfv).1.2 with ⟨q,_⟩|⟨g',cap',cur,q,_⟩
 ·cases q;rfl
 cases q
def Zk(w:World)(text:List UInt8)(e:Ending)(w':World):Prop :=
 Below w.heap.size w w'/\match jI text with
  | .error (a,n)=>∃v,e=.returned (.tuple #[.slice none 0 0,v])/\jn w.heap.size w' v a n
  | .ok its=>∃v,e=.returned (.tuple #[v,.nilIface])/\Its w' v its/\jkF w' v its
theorem Zk.no{w w':World}{text:List UInt8}{v:Value}{a n:Nat}(h:jI text=.error (a,n))(hb:Below w.heap.size w w')(hf:jn w.heap.size w' v a n):Zk w text (.returned (.tuple #[.slice none 0 0,v])) w' :=
 ⟨hb,by rw[h];exact⟨v,rfl,hf⟩⟩
theorem Zk.yes{w w':World}{text:List UInt8}{v:Value}{its:List It}(h:jI text=.ok its)(hb:Below w.heap.size w w')(hf:Its w' v its/\jkF w' v its):Zk w text (.returned (.tuple #[v,.nilIface])) w' :=
 ⟨hb,by rw[h];exact⟨v,rfl,hf⟩⟩
theorem XZ{Q:Ending->World->Prop}(w W:World)(v e:Value)(tmps:Array Value)(hO:Out w W v e)(hv1:v.oneCell'=true)(he1:e.oneCell'=true)(hK:W.heap[w.heap.size+4]?=some (.deferred (some [])))(t2:tmps[2]?=some (.pointer (some ⟨w.heap.size,0,none⟩)))(t3:tmps[3]?=some (.pointer (some ⟨w.heap.size+1,0,none⟩)))
  (hQ:Below w.heap.size w (W.putObj (w.heap.size+4) (.deferred none))->Q (.returned (.tuple #[v,e])) (W.putObj (w.heap.size+4) (.deferred none))) :
  bodyPostM Fence.wide 9 prog Tryz.f76 Q .ret {tmps:=tmps,defers:=[{target:=.collected (w.heap.size+4),args:=#[]}]} W:=by
 obtain⟨h4,h5,hB⟩:=hO
 have p1:=grownBy_putObj' W (w.heap.size+4) (.deferred none)
 have r4:ja (W.putObj (w.heap.size+4) (.deferred none)) w.heap.size 126 #[v]:=(p1.block _ h4.lt (fun e=>by have:=jmf e;omega)).trans h4
 have r5:ja (W.putObj (w.heap.size+4) (.deferred none)) (w.heap.size+1) 35 #[e]:=(p1.block _ h5.lt (fun e=>by have:=jmf e;omega)).trans h5
 have c4:(W.putObj (w.heap.size+4) (.deferred none)).cell? ⟨w.heap.size,0,none⟩=some v:=r4.cell 0
 have c5:(W.putObj (w.heap.size+4) (.deferred none)).cell? ⟨w.heap.size+1,0,none⟩=some e:=r5.cell 0
 refine⟨by simp,.inl ⟨_,_,rfl,run_takeDeferred hK,?_⟩⟩
 exact⟨.tuple #[v,e],by simp[results,Tryz.f76,go_sem,t2,t3,c4,c5],hQ (hB.trans (belowK_b (w:=w) (jma _) W _ _ _ (by omega) hK rfl rfl))⟩
theorem Vg:∀(n no at_:Nat) (l:List UInt8),l.length<=n->∀x∈za no at_ l,1<=x.bytes.length
 | 0,_,_,l,h,x,hx=>by
  have:l=[]:=List.length_eq_zero_iff.1 (by omega)
  subst this
  rw[jr]at hx;cases hx
 | n+1,no,at_,l,h,x,hx=>by
  by_cases hl:l=[]
  ·subst hl;rw[jr]at hx;cases hx
  have hp:=qz l hl
  rw[jA _ _ _ hl]at hx
  rcases List.mem_cons.1 hx with rfl|hx
  ·have:(Ln.bytes ⟨no,at_,head l,nl l⟩).length=qI l:=by
    unfold Ln.bytes qI;simp only[jmb];split<;>rfl
   omega
  exact Vg n _ _ _ (by simp only[jmn];omega) x hx
theorem jbr:∀(pre:List Ln),(∀x∈pre,1<=x.bytes.length)->pre.length<=(pre.flatMap Ln.bytes).length
 | [],_=>jma _
 | x::pre,h=>by
  have ih:=jbr pre (fun y hy=>h y (jmj _ hy))
  have:=h x jml
  rw[jmt,jmb,jme];omega
theorem QZ(s:ByteArray)(hs:s.size<=60000)(w:World):
  Calls prog 76 #[.string s] w fun e w'=>Zk w s.data.toList e w':=by
 obtain⟨xs,hxs⟩:∃xs,je s.data.toList=xs:=⟨_,rfl⟩
 have HXS:=jl9 hxs
 have hat:=fun pre x post (e:xs=pre++x::post)=>vD s.data.toList pre x post (hxs.trans e)
 have HAT:=jl9 hat
 have hj:(xs.flatMap Ln.bytes)=s.data.toList:=by rw[<- hxs];exact zg _
 have hjl:(xs.flatMap Ln.bytes).length=s.size:=by rw[hj,<- jmq]
 have HJL:=jl9 hjl
 have hpos:∀x∈xs,1<=x.bytes.length:=by rw[<- hxs];exact Vg _ 0 0 _ (jma _)
 have HPOS:=jl9 hpos
 clear hxs hat hjl hj hpos
 refine callsIn_wide (n:=9).1 ?_
 refine callsIn_of_wp_marks func76 rfl trivial ?_ rfl
 simp only[ntmps76,jmN,jme,jmB,Nat.reduceAdd,Nat.reduceSub,jmW,jmX,jm5,jm0,jmS,jmu]
 gi_wp2_with fail
 refine⟨trivial,(callsIn_wide.2 (yj s _)).mono ?_⟩
 rintro e w3 ⟨rfl,rfl⟩
 gi_wp2_with fail
 have k7:=jfb w (.cells #[.slice none 0 0] 126) (.cells #[.nilIface] 35) (.cells #[.int .i64 0,.slice none 0 0,.string s,.slice none 0 0,.int .i64 0,.int .i64 0,.slice none 0 0] 168) 9 (.string s)
 have HH:=qL s (w.heap.size+3) _ k7 (by omega)
 rw[HXS.out]at HH
 have n0:=jB.new ((w.alloc (.cells #[.slice none 0 0] 126)).alloc (.cells #[.nilIface] 35)) s (w.heap.size+2) (by simp)
 rw[jmw,jmw]at n0
 change jB _ (fun k=>if k=w.heap.size+2 then 1 else 0) _ (w.heap.size+2) _ _ _ at n0
 have o0:Out w ((((w.alloc (.cells #[.slice none 0 0] 126)).alloc (.cells #[.nilIface] 35)).alloc (.cells #[.int .i64 0,.slice none 0 0,.string s,.slice none 0 0,.int .i64 0,.int .i64 0,.slice none 0 0] 168)).alloc (.cells #[.string s] 9)) (.slice none 0 0) .nilIface:=by
  have h1:=ja.new (w.alloc (.cells #[.slice none 0 0] 126)) 35 #[.nilIface]
  rw[jmw]at h1
  exact⟨(((ja.new w _ _).alloc _).alloc _).alloc _,(h1.alloc _).alloc _,((((jmc _ w).alloc (jma _) _).alloc (by simp) _).alloc (by simp;omega) _).alloc (by simp;omega) _⟩
 have init:jhs w s [] ((((w.alloc (.cells #[.slice none 0 0] 126)).alloc (.cells #[.nilIface] 35)).alloc (.cells #[.int .i64 0,.slice none 0 0,.string s,.slice none 0 0,.int .i64 0,.int .i64 0,.slice none 0 0] 168)).alloc (.cells #[.string s] 9)) :=
  ⟨o0,_,PS.new,rfl,Inv.new,jC.below ⟨_,n0⟩ ((jmc _ _).alloc (jma _) _),fun k h1 h2=>if_neg (by omega)⟩
 have hz:((((w.alloc (.cells #[.slice none 0 0] 126)).alloc (.cells #[.nilIface] 35)).alloc (.cells #[.int .i64 0,.slice none 0 0,.string s,.slice none 0 0,.int .i64 0,.int .i64 0,.slice none 0 0] 168)).alloc (.cells #[.string s] 9)).heap.size=w.heap.size+4:=by simp
 refine vC (gf:=139) (lb:=#[.pointer (some ⟨w.heap.size+3,0,none⟩)]) rfl (enters_of func139 (by kernel_rfl) rfl) HH (fun _=>rfl)
  (jhs w s) (jkZ w s) (by rw[hz];exact fun pre W W' h ht=>h.turned ht (by omega) (by omega)) (fun c pre W W' h ht=>h.turned ht (by rw[hz];omega) (by rw[hz];omega)) init
  (fun a pre x a' W=>∃Bx,w.heap.size+9<=Bx/\a'={tmps:=(a.tmps.setIfInBounds 16 (.agg (qP x))).setIfInBounds 5 (.pointer (some ⟨Bx,0,none⟩)),defers:=[]}/\ja W Bx 164 (qP x)/\jhs w s pre W)
  ?hM ?assign ?body ?done ?stop
 case hM =>
  rw[hz]
  rintro a pre x a' _ W W' ⟨Bx,h1,h2,h3,h4⟩ ht
  exact⟨Bx,h1,h2,(ht.same Bx h3.lt (.inr (by omega))).trans h3,h4.turned ht (by omega) (by omega)⟩
 case assign =>
  rw[hz]
  intro l pre x post W hx hsz hi
  clear hx
  dsimp only[qP]
  gi_wp2
  exact⟨(vz.refl _ _ W).alloc hsz _,W.heap.size,by omega,rfl,ja.new _ _ _,hi.alloc _⟩
 case body =>
  rw[hz]
  rintro l pre x post a' W hx hsz ⟨Bx,hB,rfl,hc,hO,T,p,hr,hi,hp,hT⟩
  obtain⟨hno,hat⟩:=HAT.out pre x post hx
  rw[<- hat]at hi
  have hsum:=HJL.out
  rw[hx,jmL,jmt,jmb,jmb,<- hat]at hsum
  have hge:=jbr pre (fun y hy=>HPOS.out y (by rw[hx];exact List.mem_append_left _ hy))
  rw[<- hno,<- hat]at hge
  have hR:w.heap.size+2<=W.heap.size:=by omega
  have TK:=take_any hp hR x hi (by omega) hs hge
  have HR:=jl9 hr
  have HI:=jl9 hi
  have HX:=jl9 (show x.at_=(pre.flatMap Ln.bytes).length from hat)
  clear hx hr hi hat hsum hno
  simp only[jms,jm2,jm3,qP]at hc ⊢
  have q0:W.cell? ⟨Bx,0,none⟩=some (.int .i64 x.no):=hc.cell 0
  have q1:W.cell? ⟨Bx,1,none⟩=some (.int .i64 x.at_):=hc.cell 1
  have q2:W.cell? ⟨Bx,2,none⟩=some (.string ⟨x.text.toArray⟩):=hc.cell 2
  have q3:W.cell? ⟨Bx,3,none⟩=some (.bool x.ended):=hc.cell 3
  have stay:∀W1,jt (fun r=>T r≠0) W W1->vz (w.heap.size+4) 5 W W1:=fun W1 ho=>⟨ho.size,fun r h1 h2=>ho.same r (by omega) (fun hn=>hn (hT r (by omega) (by omega)))⟩
  have hTR:∀r,T r≠0->w.heap.size+2<=r:=fun r hr=>by obtain⟨V,hv⟩:=hp;exact(hv.low r hr).1
  gi_wp2_with fail
  refine⟨trivial,((callsIn_wide.2 TK).inRound l).mono ?_⟩
  rintro e W1 ht
  unfold xQ at ht
  cases htk:zJ s.data.toList p x with
  | error an =>
   obtain⟨a,n⟩:=an
   rw[htk]at ht
   obtain⟨v,rfl,hf,ho⟩:=ht
   have hrn:=We HR.out htk
   obtain⟨q,hq,rfl,hqc⟩:=hf
   have hO1:=hO.only ho hTR
   have c2:W1.cell? ⟨w.heap.size,0,none⟩=some (.slice none 0 0):=hO1.1.cell 0
   have f2:=hO1.1.frozen 0
   have c3:W1.cell? ⟨w.heap.size+1,0,none⟩=some .nilIface:=hO1.2.1.cell 0
   have f3:=hO1.2.1.frozen 0
   have hst:=stay W1 ho
   clear TK hO hc
   gi_wp2
   refine⟨(hst.setCell (.inl (by show w.heap.size<_;omega)) _).setCell (.inl (by show w.heap.size+1<_;omega)) _,rfl,a,n,_,hrn,hO1.set _ _,q,by omega,rfl,?_⟩
   exact ja.other (ja.other hqc (by show q≠w.heap.size;omega) _) (by show q≠w.heap.size+1;omega) _
  | ok p' =>
  rw[htk]at ht
  obtain⟨rfl,T',hp',hst⟩:=ht
  have hrn:=jdA HR.out htk
  obtain⟨hi',_⟩:=Inv.take HI.out hge htk
  clear TK hc
  gi_wp2
  refine⟨stay W1 hst.only,hO.only hst.only hTR,T',p',hrn,?_,hp',fun r h1 h2=>(hst.old r (by omega)).2 (hT r h1 h2)⟩
  rw[jmL,jmb,<- HX.out]
  simpa using hi'
 case done =>
  rw[hz]
  rintro W ⟨hO,T,p,hr,hi,hp,hT⟩ hmark
  have zW:w.heap.size+4<W.heap.size:=(Array.getElem?_eq_some_iff.1 hmark).1
  rw[HJL.out]at hi
  have hTR:∀r,T r≠0->w.heap.size+2<=r:=fun r hr=>by obtain⟨V,hv⟩:=hp;exact(hv.low r hr).1
  have EF:=Qc hp (by omega) (by have:=hi.said;omega) (by have:=hi.fields;omega)
  have PL:Hid (jI s.data.toList=Wv s.data.toList p):=by
   show _=_
   unfold jI;rw[HXS.out,hr]
  have HI:=jl9 hi.endField
  have h4:T (w.heap.size+4)=0:=hT _ (by omega) (by omega)
  clear hr hi hp
  gi_wp2_with fail
  refine⟨trivial,(callsIn_wide.2 EF).mono ?_⟩
  rintro e W1 hE
  unfold qk at hE
  by_cases h0:ji p=0
  ·rw[if_pos h0]at hE
   obtain⟨rfl,T1,g1,s1⟩:=hE
   have hO1:=hO.only s1.only hTR
   have hm1:=(s1.only.same _ zW (fun e=>e h4)).trans hmark
   have h41:=(s1.old _ zW).2 h4
   have hTR1:∀r,T1 r≠0->w.heap.size+2<=r:=fun r hr=>by obtain⟨V,hv⟩:=g1;exact(hv.low r hr).1
   have zW1:=s1.only.size
   have e0:=Vx p
   have hat:=HI.out.at_
   have EB:=Qd g1 (by omega) s.size hat (jma _) (by omega) (by have:=HI.out.items;omega) (by have:=HI.out.stanzas;omega)
   have l1:=g1.lt
   have PY:Hid (jI s.data.toList=.ok (js s.data.toList (jb p) s.size).items):=by
    show _=_
    rw[PL.out];unfold Wv;rw[if_neg (by simpa using h0),<- jmq]
   clear EF hO hmark HI PL g1
   gi_wp2_with fail
   refine⟨trivial,(callsIn_wide.2 EB).mono ?_⟩
   rintro e W2 ⟨rfl,T2,⟨V2,g2⟩,s2⟩
   have hO2:=hO1.only s2.only hTR1
   have hm2:=(s2.only.same _ (by omega) (fun e=>e h41)).trans hm1
   obtain⟨a3,c3,e3,_⟩:=jf g2.r3
   have hits:=g2.its
   have q3:W2.cell? ⟨w.heap.size+1+1,3,none⟩=some (.slice a3 (js s.data.toList (jb p) s.size).items.length c3):=by rw[<- e3];exact g2.cells.cell 3
   have l2:=g2.lt
   have c2:W2.cell? ⟨w.heap.size,0,none⟩=some (.slice none 0 0):=hO2.1.cell 0
   have f2:=hO2.1.frozen 0
   have c3':W2.cell? ⟨w.heap.size+1,0,none⟩=some .nilIface:=hO2.2.1.cell 0
   have f3:=hO2.2.1.frozen 0
   rw[e3]at hits
   have hT2:T2 (w.heap.size+4)=0:=(s2.old _ (by omega)).2 h41
   have HG:=jl9 (fun W' (hs:∀k,T2 k≠0->W'.heap[k]?=W2.heap[k]?) hz=>And.intro (g2.same (w':=W') hs hz).its (g2.same (w':=W') hs hz).nil)
   have hlow2:∀r,T2 r≠0->w.heap.size+2<=r:=fun r hr=>(g2.low r hr).1
   rw[e3]at HG
   clear EB hits g2
   gi_wp2
   refine XZ w _ (.slice a3 (js s.data.toList (jb p) s.size).items.length c3) .nilIface _ (hO2.set _ _) rfl rfl ?_ rfl rfl fun hb=>.yes PY.out hb (HG.out _ ?_ ?_)
   ·exact(jmz _ _ _ _ (by show w.heap.size+4≠w.heap.size+1;omega)).trans ((jmz _ _ _ _ (by show w.heap.size+4≠w.heap.size;omega)).trans hm2)
   ·intro k hk
    have h1:=hlow2 k hk
    rw[jna (by rintro rfl;exact hk hT2)]
    exact(jmz _ _ _ _ (by show k≠w.heap.size+1;omega)).trans (jmz _ _ _ _ (by show k≠w.heap.size;omega))
   simp[World.setCell]
  rw[if_neg h0]at hE
  obtain⟨v,rfl,⟨q,hq,rfl,hqc⟩,hb1⟩:=hE
  have hO1:Out w W1 (.slice none 0 0) .nilIface:=⟨hO.1.below hb1 hO.1.lt,hO.2.1.below hb1 hO.2.1.lt,hO.2.2.trans (hb1.mono hO.2.2.size)⟩
  have hm1:=(hb1.block _ zW).trans hmark
  have c2:W1.cell? ⟨w.heap.size,0,none⟩=some (.slice none 0 0):=hO1.1.cell 0
  have f2:=hO1.1.frozen 0
  have c3':W1.cell? ⟨w.heap.size+1,0,none⟩=some .nilIface:=hO1.2.1.cell 0
  have f3:=hO1.2.1.frozen 0
  have PN:Hid (jI s.data.toList=.error (p.begin_,ji p)):=by
   show _=_
   rw[PL.out];unfold Wv;rw[if_pos h0]
  clear EF hO hmark HI PL
  gi_wp2
  refine XZ w _ (.slice none 0 0) (.iface 133 (.pointer (some ⟨q,0,none⟩))) _ (hO1.set _ _) rfl rfl ?_ rfl rfl fun hb=>.no PN.out hb ⟨q,by omega,rfl,?_⟩
  ·exact(jmz _ _ _ _ (by show w.heap.size+4≠w.heap.size+1;omega)).trans ((jmz _ _ _ _ (by show w.heap.size+4≠w.heap.size;omega)).trans hm1)
  exact(jna (by omega)).trans (ja.other (ja.other hqc (by show q≠w.heap.size;omega) _) (by show q≠w.heap.size+1;omega) _)
 case stop =>
 rw[hz]
 rintro c pre W hpre ⟨rfl,a,n,v,hr,hO,⟨q,hq,rfl,hqc⟩⟩ hmark
 have PN:Hid (jI s.data.toList=.error (a,n)):=by
  show _=_
  unfold jI;rw[HXS.out,jdz hr hpre]
 gi_wp2
 refine XZ w _ (.slice none 0 0) (.iface 133 (.pointer (some ⟨q,0,none⟩))) _ hO rfl rfl hmark rfl rfl fun hb=>.no PN.out hb ⟨q,by omega,rfl,?_⟩
 exact(jna (by omega)).trans hqc
end
section
theorem jc1(q:Option Addr)(w:World):(Instr.typeAssert (.iface 133 (.pointer q)) 35 46 true).run prog w=.ok (.tuple #[.int .i64 0,.bool false]) w:=by kernel_rfl
theorem Uo(q:Option Addr)(w:World):(Instr.typeAssert (.iface 133 (.pointer q)) 35 133 true).run prog w=.ok (.tuple #[.pointer q,.bool true]) w:=by kernel_rfl
theorem Up(n:Int)(w:World):(Instr.typeAssert (.iface 46 (.int .i64 n)) 35 133 true).run prog w=.ok (.tuple #[.pointer none,.bool false]) w:=by kernel_rfl
theorem Uq(w:World):(Instr.typeAssert .nilIface 35 133 true).run prog w=.ok (.tuple #[.pointer none,.bool false]) w:=by kernel_rfl
theorem jc0(n:Int)(w:World):(Instr.typeAssert (.iface 46 (.int .i64 n)) 35 46 true).run prog w=.ok (.tuple #[.int .i64 n,.bool true]) w:=by kernel_rfl
attribute [local go_sem] jW jc1 Uo Up Uq jc0
end
section
theorem Ga{ls:List (List UInt8)}(h:jZ ls=0):zl (zZ ls) (zY ls)=0/\(zZ ls).length<=32/\(zY ls).length<=1000:=by
 cases hF:jbU ls with
 | false=>rw[(KP hF).1]at h;cases h
 | true =>
 by_cases hl:(vP ls).length<=1000
 ·obtain⟨a,r,rfl,hka,_⟩:=YQ hF
  obtain⟨_,e2,e3⟩:=YI hF hl
  have hg:jT (before a)=true:=(jj7 hka).2.2
  rw[e2,e3]
  exact⟨by unfold zl;rw[hg,if_pos rfl,if_pos hl],(vE hg).2.1,hl⟩
 rw[(QO hF hl).1]at h;cases h
attribute [local go_sem] jW
end
section
theorem jeg:Lays.n240 prog Tryz.lays156_ren:={Tryz.lays156 with}
def Bld(b R:Nat)(l:List UInt8)(W:World):Prop :=
 ∃p v,W.heap[b]?=some (.cells #[p,v] 182 (0,0))/\(p=.pointer none\/p=.pointer (some ⟨b,0,none⟩))/\W.ownsRow R 5 1 v l.length (Lib.byteCells l)
structure qw(b R:Nat)(W W':World):Prop where
 os:W'.os=W.os
 tape:W'.tape=W.tape
 output:W'.output=W.output
 size:W.heap.size<=W'.heap.size
 same:∀r,r<R->r<W.heap.size->r≠b->W'.heap[r]?=W.heap[r]?
 others:Lib.OthersKept 5 (some b) W W'
theorem qw.refl(b R:Nat)(W:World):qw b R W W:=⟨rfl,rfl,rfl,jma _,fun _ _ _ _=>rfl,Lib.OthersKept.refl _ _ _⟩
theorem qw.trans{b R:Nat}{X Y Z:World}(h:qw b R X Y)(g:qw b R Y Z):qw b R X Z :=
 ⟨g.os.trans h.os,g.tape.trans h.tape,g.output.trans h.output,jmy h.size g.size,fun r a c e=>(g.same r a (jmp c h.size) e).trans (h.same r a c e),h.others.trans g.others⟩
theorem qw.grown{b R:Nat}{X Y Z:World}(h:qw b R X Y){row:Option Nat}(hg:Y.grownBy Z row)(hr:∀r,row=some r->R<=r/\∃c fz,Y.heap[r]?=some (.cells c 5 fz)):qw b R X Z :=
 h.trans ⟨hg.os,hg.tape,hg.output,hg.size,fun r a c e=>hg.block r c (fun e2=>by have:=(hr r e2.symm).1;omega),(Lib.OthersKept.refl _ _ _).grown hg (fun g e=>(hr g e).2)⟩
theorem qw.put{b R:Nat}{X Y:World}(h:qw b R X Y)(j:Nat)(u:Value):qw b R X (Y.setCell ⟨b,j,none⟩ u) :=
 h.trans ⟨rfl,rfl,rfl,by simp[World.setCell],fun r _ _ e=>jmz _ _ _ _ e,Lib.OthersKept.setCell (b:=b) (Lib.OthersKept.refl _ _ Y) ⟨b,j,none⟩ rfl u⟩
theorem qw.other{b R c:Nat}{X Y:World}{cs:Array Value}{t:TypeId}(h:qw b R X Y)(hc:X.heap[c]?=some (.cells cs t (0,0)))(hne:c≠b)(ht:t≠5):Y.heap[c]?=some (.cells cs t (0,0)) :=
 h.others c _ hc (fun e=>hne (jmf e)) (fun c' fz e=>ht (by injection e))
theorem qw.alloc{b R:Nat}{X Y:World}(h:qw b R X Y)(o:Obj):qw b R X (Y.alloc o) :=
 h.grown (World.grownBy_alloc Y o none) (fun r e=>by cases e)
theorem qw.below{b R n:Nat}{X Y:World}(h:qw b R X Y)(hb:n<=b)(hR:n<=R)(hs:n<=X.heap.size):Below n X Y :=
 ⟨h.os,h.tape,h.output,h.size,fun r a=>h.same r (by omega) (by omega) (by omega)⟩
theorem qw.stay{b R B k:Nat}{X Y:World}(h:qw b R X Y)(hb:b<B)(hR:B+k<=R)(hs:B+k<=X.heap.size):vz B k X Y :=
 ⟨h.size,fun r a c=>h.same r (by omega) (by omega) (by omega)⟩
theorem qw.box{b R c:Nat}{X Y:World}{t:TypeId}{v:Value}(h:qw b R X Y)(hv:Boxed X c t v)(hc:c<R)(hne:c≠b):Boxed Y c t v :=
 (h.same c hc hv.lt hne).trans hv
theorem Bld.lt{b R:Nat}{l:List UInt8}{W:World}(h:Bld b R l W):b<W.heap.size:=by
 obtain⟨p,v,hb,_⟩:=h
 exact(Array.getElem?_eq_some_iff.1 hb).1
theorem Bld.alloc{b R:Nat}{l:List UInt8}{W:World}(h:Bld b R l W)(o:Obj):Bld b R l (W.alloc o):=by
 have hlt:=h.lt
 obtain⟨p,v,hb,hp,hv⟩:=h
 exact⟨p,v,(jnp _ _ _ hlt).trans hb,hp,hv.alloc _⟩
theorem Bld.new(w:World)(R:Nat):Bld w.heap.size R [] (w.alloc (.cells #[.pointer none,.slice none 0 0] 182)) :=
 ⟨_,_,jot w _,.inl rfl,by simp[Lib.byteCells],.inl ⟨rfl,rfl⟩⟩
theorem Bld.turned{b R B k:Nat}{l:List UInt8}{W W':World}(h:Bld b R l W)(ht:jY B k W W')(hb:b<B)(hR:B+k<=R):Bld b R l W':=by
 have hlt:=h.lt
 obtain⟨p,v,hb',hp,hv⟩:=h
 refine⟨p,v,(ht.same b hlt (.inl hb)).trans hb',hp,?_⟩
 exact ht.row hv (fun g e=>.inr (by have:=(hv.lt g e).1;omega))
theorem Bld.library{b R B:Nat}{l:List UInt8}{W:World}(h:Bld b R l W)(hB:B<=b)(hR:B<=R):Lib.IsBuilderF 182 5 B b (Lib.byteCells l) W:=by
 obtain⟨p,v,hb,hp,hv⟩:=h
 have hv2:W.ownsRow B 5 1 v (Lib.byteCells l).length (Lib.byteCells l):=by
  rw[jos]
  refine⟨hv.1,?_⟩
  rcases hv.2 with hn|⟨g,cap,cur,e1,e2,rest⟩
  ·exact .inl hn
  exact .inr ⟨g,cap,cur,e1,jmy hR e2,rest⟩
 have hne:v.ownBlock≠some b:=Lib.ownBlock_ne hv hb (by decide)
 refine Lib.IsBuilderF.of ?_
 rcases hp with rfl|rfl
 ·exact .inl ⟨hB,v,hb,hv2,hne⟩
 exact .inr ⟨hB,v,hb,hv2,hne⟩
theorem ZN(b R:Nat)(l:List UInt8)(s:ByteArray)(w:World)(h:Bld b R l w)(hbR:b<R)(hR:R<=w.heap.size)(hlen:l.length+s.size<=140737488355328):
  Calls prog 118 #[.pointer (some ⟨b,0,none⟩),.string s] w fun e w'=>e=.returned (.tuple #[.int .i64 s.size,.nilIface])/\Bld b R (l++s.data.toList) w'/\qw b R w w':=by
 obtain⟨i0,hi,hz0,hz1,hz2⟩:=info_parts Tryz.Builder_Extra_156.infoByte
 have hcopy:Calls prog 161 #[.pointer (some ⟨b,0,none⟩)] w fun e w'=>e=.returned (.tuple #[])/\(∃v,w'.heap[b]?=some (.cells #[.pointer (some ⟨b,0,none⟩),v] 182 (0,0))/\w'.ownsRow R 5 1 v l.length (Lib.byteCells l))/\qw b R w w':=by
  obtain⟨p,v,hb,hp,hv⟩:=h
  have hlt:b<w.heap.size:=(Array.getElem?_eq_some_iff.1 hb).1
  rcases hp with rfl|rfl
  ·refine(Any.Builder_copyCheck_fresh jeg Tryz.Builder_Extra_156.toX72 b w ?_ ?_ ?_).mono ?_
   ·rw[jnQ hb];rfl
   ·simp[World.shape?,hb];rfl
   ·exact Lib.frozen_of_heap hb 0
   rintro e w' ⟨rfl,rfl⟩
   refine⟨rfl,⟨v,?_,?_⟩,?_⟩
   ·simp[World.setCell,Array.getElem?_modify,hb]
   ·exact hv.kept (grownBy_setCell' w b _) (by
     cases hvb:v.ownBlock with
     | none=>exact .inl rfl
     | some g=>exact .inr (fun e=>by have:=(hv.lt g hvb).1;have:=jmf e;omega))
   exact(qw.refl b R w).put 0 _
  refine(Any.Builder_copyCheck_used jeg Tryz.Builder_Extra_156.toX72 b w ?_).mono ?_
  ·rw[jnQ hb];rfl
  rintro e w' ⟨rfl,rfl⟩
  exact⟨rfl,⟨v,hb,hv⟩,qw.refl b R _⟩
 go_enter func118,ntmps118
 go_wp2_with (go_at_call 161;refine hcopy.mono ?_)
 rintro e w1 ⟨rfl,⟨v,hbk,hown⟩,hw1⟩
 have c0:w1.cell? ⟨b,0,none⟩=some (.pointer (some ⟨b,0,none⟩)):=by rw[jnQ hbk];rfl
 have c1:w1.cell? ⟨b,1,none⟩=some v:=by rw[jnQ hbk];rfl
 go_wp2_with (at_builtin;refine Lib.wpList_append_own_string _ rfl _ _ 153 9 rfl R 5 i0 underlying153 underlying9 hi hz0 hz1 hz2 _ _ _ rfl hown s rfl ?c3 ?c4 ?c5 ?_)
 case c3=>unfold maxLen;omega
 case c4=>omega
 case c5=>have:=hw1.size;omega
 intro v' w2 hown' hgrow _
 have hlt:b<w1.heap.size:=(Array.getElem?_eq_some_iff.1 hbk).1
 have hrow:∀r,v.ownBlock=some r->R<=r:=fun r e=>(hown.lt r e).1
 have hb2:w2.heap[b]?=some (.cells #[.pointer (some ⟨b,0,none⟩),v] 182 (0,0)):=by
  rw[hgrow.block b hlt (fun e=>by have:=hrow b e.symm;omega)]
  exact hbk
 have d0:w2.cell? ⟨b,0,none⟩=some (.pointer (some ⟨b,0,none⟩)):=by rw[jnQ hb2];rfl
 have d1:w2.cell? ⟨b,1,none⟩=some v:=by rw[jnQ hb2];rfl
 have f1:w2.frozen? ⟨b,1,none⟩=false:=Lib.frozen_of_heap hb2 1
 obtain⟨ao,n',cap,rfl⟩:∃ao n' cap,v'=.slice ao n' cap:=by
  rcases hown'.2 with ⟨hv,_⟩|⟨g,cap,cur,hv,_⟩
  ·exact⟨_,_,_,hv⟩
  exact⟨_,_,_,hv⟩
 go_wp2
 go_ret2
 have hset:w2.grownBy (w2.setCell ⟨b,1,none⟩ (.slice ao n' cap)) (some b) :=
  ⟨rfl,rfl,rfl,by simp[World.setCell],fun k _ hk=>jmz _ _ _ k (fun e=>hk (by rw[e]))⟩
 refine⟨rfl,⟨.pointer (some ⟨b,0,none⟩),.slice ao n' cap,?_,.inr rfl,?_⟩,?_⟩
 ·simp[World.setCell,Array.getElem?_modify,hb2]
 ·rw[jmb,<- jmq,Lib.byteCells_append,<- Lib.strCells_eq]
  refine hown'.kept hset ?_
  cases hvb:(Value.slice ao n' cap).ownBlock with
  | none=>exact .inl rfl
  | some g=>exact .inr (fun e=>by have:=(hown'.lt g hvb).1;have:=jmf e;omega)
 refine(hw1.grown hgrow (fun r e=>⟨hrow r e,?_⟩)).put 1 _
 rcases hown.2 with ⟨hn,_⟩|⟨g,cap,cur,hv,_,hg,_⟩
 ·rw[hn]at e;cases e
 rw[hv]at e
 cases e
 exact⟨_,_,hg⟩
def foldN:List (List UInt8×List UInt8)->Nat
 | []=>0
 | f::r=>if zl f.1 f.2=0 then foldN r else zl f.1 f.2
def jU(fs:List (List UInt8×List UInt8)):List UInt8:=fs.flatMap fun f=>jl (zm f.1 f.2)
def foldT(fs:List (List UInt8×List UInt8)):List UInt8:=if foldN fs=0 then jU fs else []
theorem ja7:∀fs,foldN fs<=6
 | []=>by decide
 | f::r=>by
  unfold foldN
  split
  ·exact ja7 r
  unfold zl;split
  ·split<;>decide
  decide
theorem Yd{k v:List UInt8}(h:zl k v=0):jT k=true/\v.length<=1000:=by
 unfold zl at h
 split at h
 ·rename_i hg
  split at h
  ·rename_i hl;exact⟨hg,hl⟩
  cases h
 cases h
theorem jdn{k v:List UInt8}(h:zl k v=0):(jl (zm k v)).length<=4000:=by
 obtain⟨a,b⟩:=Yd h
 have c:=(vE a).2.1
 rw[QR]
 have:=jd7 k v
 omega
theorem jct(fs:List (List UInt8×List UInt8))(f:List UInt8×List UInt8):jU (fs++[f])=jU fs++jl (zm f.1 f.2):=by unfold jU;simp
theorem jbI(ls:List (List UInt8))(x:List UInt8):jl (ls++[x])=(jl ls++x)++[10]:=by unfold jl;simp
theorem jbH(ls:List (List UInt8))(j:Nat):(jl (ls.take j)).length<=(jl ls).length:=by
 conv=>rhs;rw[<- jmQ j ls,yY,jmb]
 omega
theorem Qo.wrote{w w':World}{base b R:Nat}{v:Value}{ss:List ByteArray}(h:Qo w base v ss)(hw:qw b R w w'){cs:Array Value}(hb:w.heap[b]?=some (.cells cs 182 (0,0))):Qo w' base v ss:=by
 refine⟨h.1,?_⟩
 rcases h.2 with hn|⟨g,cap,cur,hv,hg,hc,rest⟩
 ·exact .inl hn
 refine .inr ⟨g,cap,cur,hv,hg,hw.other hc ?_ (by decide),rest⟩
 rintro rfl
 rw[hb]at hc
 cases hc
theorem Bld.kept{b R N:Nat}{l:List UInt8}{W W':World}(h:Bld b R l W)(hb:Below N W W')(hN:W.heap.size<=N):Bld b R l W':=by
 have hlt:=h.lt
 obtain⟨p,v,hb',hp,hv⟩:=h
 exact⟨p,v,(hb.block b (by omega)).trans hb',hp,qT hv hb hN⟩
theorem Bld.cells{b R:Nat}{l:List UInt8}{W:World}(h:Bld b R l W):∃cs,W.heap[b]?=some (.cells cs 182 (0,0)):=by
 obtain⟨p,v,hb',_⟩:=h
 exact⟨_,hb'⟩
theorem jb5{w:World}{ad:Addr}{fs:List Fld}{cap:Nat}(hc:∀(i:Nat) (f:List UInt8×List UInt8),fs[i]?=some f->∃b off,some ad=some (⟨b,off,none⟩:Addr)/\b<w.heap.size/\w.cell? ⟨b,off+i*2,none⟩=some (.string (B f.1))/\w.cell? ⟨b,off+i*2+1,none⟩=some (.string (B f.2)))(o:Obj):
  ∀(j:Nat) u,(jG fs)[j]?=some u->(w.alloc o).cell? (ad.add j)=some u:=by
 intro j u hu
 have hj:j<(jG fs).length:=by
  rcases jmF j (jG fs).length with q|q
  ·exact q
  rw[jmZ q]at hu;cases hu
 rw[xN]at hj
 have hi2:j / 2<fs.length:=by omega
 obtain⟨f,hf⟩:∃f,fs[j / 2]?=some f:=⟨_,jmd hi2⟩
 obtain⟨b,off,e,hbb,c0,c1⟩:=hc _ f hf
 obtain⟨a1,a2⟩:=Yf fs _ f hf
 cases e
 rw[WideShapes.add_plain,jn0 _ _ _ (jou hbb)]
 rcases Nat.mod_two_eq_zero_or_one j with h|h
 ·have ej:j=j / 2*2:=by omega
  rw[<- ej]at a1 c0
  rw[c0,<- hu,a1]
 have ej:j=j / 2*2+1:=by omega
 rw[jnM,<- ej]at c1
 rw[<- ej]at a2
 rw[c1,<- hu,a2]
theorem jkm(w:World):(binOp BinOp.eql 61 (.slice none 0 0) (.slice none 0 0)).run prog w=.ok (.bool true) w:=by kernel_rfl
theorem jiX(ad:Addr)(n c:Nat)(w:World):(binOp BinOp.eql 61 (.slice (some ad) n c) (.slice none 0 0)).run prog w=.ok (.bool false) w:=by kernel_rfl
attribute [local go_sem] jkm jiX
theorem xy(fs:List Fld)(v:Value)(w:World)(hs:Yo w v fs)(hnil:∀n c,v=.slice none n c->c=0)(hn:fs.length<=1000000):
  Calls prog 204 #[v] w fun e w'=>∃v',e=.returned v'/\w'.ownsRow w.heap.size 155 2 v' fs.length (jG fs)/\Below w.heap.size w w':=by
 obtain⟨A,cap,rfl,hle,hc⟩:=hs
 obtain⟨i0,hi,hz0,hz1,hz2⟩:=info_parts Gw
 cases A with
 | none =>
  have he:fs=[]:=by
   cases fs with
   | nil=>rfl
   | cons a r=>obtain⟨b,off,e,_⟩:=hc 0 a rfl;cases e
  have hc0:=hnil _ _ rfl
  subst hc0
  subst he
  simp only[jmB]
  go_enter func204,ntmps204
  go_wp2_with fail
  go_ret
  exact⟨_,rfl,⟨rfl,.inl ⟨rfl,rfl⟩⟩,jmc _ _⟩
 | some ad =>
 have hoN:(w.alloc (.cells #[] 155)).ownsRow w.heap.size 155 2 (.slice (some ⟨w.heap.size,0,none⟩) 0 0) 0 []:=World.ownsRow_lit w #[] 0 (jma _) (by decide) rfl
 have hba:=(jmc w.heap.size w).alloc (jma _) (.cells #[] 155)
 have HC:=jl9 (jb5 (cap:=cap) hc (.cells #[] 155))
 have hone:∀u∈jG fs,u.oneCell'=true:=by
  intro u hu
  unfold jG at hu
  simp at hu
  obtain⟨a,b,_,h|h⟩:=hu<;>subst h<;>rfl
 have HL:=xN fs
 clear hc
 generalize jG fs=cf at *
 go_enter func204,ntmps204
 go_wp2_with (at_builtin;refine wpList_append_own _ rfl _ _ 61 rfl w.heap.size 155 i0 _ 2 32 underlying61 hi hz0 hz1 hz2 rfl (by decide) _ 0 [] rfl hoN ad fs.length cap cf rfl HL HC.out hone ?c3 ?c4 ?c5 ?_)
 case c3=>unfold maxLen;omega
 case c4=>omega
 case c5=>simp
 intro v' w3 hown' hgrow _
 have hb3:Below w.heap.size w w3:=hba.grown hgrow (by simp) (fun j ej=>(jnE hoN j ej).1)
 go_wp2_with fail
 go_ret
 exact⟨_,rfl,hown',hb3⟩
def Qs(its:List It):List (List Fld):=(its.filter fun it=>it.kind==3).map It.fields
theorem jdI(its:List It)(k:Nat)(it:It)(h:its[k]?=some it):Qs (its.take (k+1))=Qs (its.take k)++if it.kind=3 then [it.fields] else []:=by
 unfold Qs
 rw[jmO,h]
 simp only[Option.toList_some,joe,jnh]
 congr 1
 by_cases hk:it.kind=3
 ·simp[hk]
 simp[hk]
theorem jf5(its:List It):(Qs its).length<=its.length:=by unfold Qs;rw[jmE];exact jop _ _
theorem jgB:(prog.info? 61).map (fun i=>(i.zero,i.size,i.bytes))=some (some (.slice none 0 0),1,24):=by kernel_rfl
structure jdc(w wr:World)(v:Value)(vs:List Value)(rs:List (List Fld)):Prop where
 row:wr.ownsRow w.heap.size 61 1 v vs.length vs
 len:vs.length=rs.length
 each:∀(j:Nat) x r,vs[j]?=some x->rs[j]?=some r->wr.ownsRow w.heap.size 155 2 x r.length (jG r)
 below:Below w.heap.size w wr
theorem jid{α:Type}{l:List α}{a x:α}{j:Nat}(h:(l++[a])[j]?=some x):(j<l.length/\l[j]?=some x)\/(j=l.length/\x=a):=by
 rcases jmF j l.length with q|q
 ·rw[jmI q]at h;exact .inl ⟨q,h⟩
 rw[jmr q]at h
 have hz:j-l.length=0:=by
  rcases Nat.eq_zero_or_pos (j-l.length) with z|z
  ·exact z
  rw[jmZ (by simp;omega)]at h;cases h
 rw[hz]at h
 cases h
 exact .inr ⟨by omega,rfl⟩
theorem jdc.start(w:World):jdc w w (.slice none 0 0) [] []:=⟨⟨rfl,.inl ⟨rfl,rfl⟩⟩,rfl,fun j x r h=>by simp at h,jmc _ _⟩
theorem jdc.kept{w wr w2:World}{v:Value}{vs:List Value}{rs:List (List Fld)}(h:jdc w wr v vs rs)(hb:Below wr.heap.size wr w2):jdc w w2 v vs rs :=
 ⟨qT h.row hb (jma _),h.len,fun j x r h1 h2=>qT (h.each j x r h1 h2) hb (jma _),h.below.trans (hb.mono h.below.size)⟩
theorem jjP{W w3:World}{lo:Nat}{v x:Value}{n m:Nat}{xs ys:List Value}(hv:W.ownsRow lo 61 1 v n xs)(hx:W.ownsRow lo 155 2 x m ys)(hg:W.grownBy w3 v.ownBlock):w3.ownsRow lo 155 2 x m ys:=by
 refine jm hx fun b hb=>hg.block b (hx.lt b hb).2 (fun e => ?_)
 rcases hx.2 with ⟨rfl,_⟩|⟨g,cap,cur,rfl,_,hc,_⟩
 ·cases hb
 cases hb
 rcases hv.2 with ⟨rfl,_⟩|⟨g',cap',cur',rfl,_,hc',_⟩
 ·cases e
 have:g=g':=jmf e
 subst this
 rw[hc]at hc'
 injection hc' with hc'
 injection hc' with _ h2 _
 exact absurd h2 (by decide)
theorem jdc.snoc{w W w3:World}{v v' x:Value}{vs:List Value}{rs:List (List Fld)}{r:List Fld}(h:jdc w W v vs rs)(hx:W.ownsRow w.heap.size 155 2 x r.length (jG r))(ho:w3.ownsRow w.heap.size 61 1 v' (vs.length+1) (vs++[x]))(hg:(W.alloc (.cells #[x] 61)).grownBy w3 v.ownBlock):jdc w w3 v' (vs++[x]) (rs++[r]):=by
 have h':=h.kept ((jmc W.heap.size W).alloc (jma _) (.cells #[x] 61))
 have hx':=qT hx ((jmc W.heap.size W).alloc (jma _) (.cells #[x] 61)) (jma _)
 refine⟨by rw[jmb];exact ho,by simp[h.len],fun j y s hy hs => ?_,h'.below.grown hg h'.below.size (fun k e=>(h.row.lt k e).1)⟩
 rcases jid hy with ⟨q,hy⟩|⟨q,rfl⟩
 ·rw[jmI (by rw[<- h.len];exact q)]at hs
  exact jjP h'.row (h'.each j y s hy hs) hg
 rw[q,h.len,jmr (jma _)]at hs
 simp at hs
 subst hs;exact jjP h'.row hx' hg
theorem jhU(W:World)(x:Value)(t:TypeId):∀(j:Nat) u,[x][j]?=some u->(W.alloc (.cells #[x] t)).cell? ((⟨W.heap.size,0,none⟩:Addr).add j)=some u:=jN W t [x]
theorem QT(its:List It)(v:Value)(w:World)(h:Its w v its)(hnil:jkF w v its)(hn:its.length<=1000000)(hf:∀it∈its,it.fields.length<=1000000):
  Calls prog 251 #[v] w fun e w'=>∃u vs,e=.returned u/\jdc w w' u vs (Qs its):=by
 obtain⟨i0,hi,hz0,hz1,hz2⟩:=info_parts jgB
 have NI:=jl9 hnil
 have HF:=jl9 hf
 obtain⟨A,cap,rfl,hle,hc⟩:=h
 have HC:=jl9 hc
 clear hc hnil hf
 go_enter func251,ntmps251
 go_wp2_with fail
 go_loopw [3,8] (fun u i wr=>∃(k:Nat) (vs:List Value),k<=its.length/\i=.int .i64 k/\jdc w wr u vs (Qs (its.take k))) (fun _ i _=>its.length-(intOf i).toNat)
 case atStart=>exact⟨0,[],jmo _,rfl,jdc.start w⟩
 case round =>
 obtain⟨k,vs,hk,rfl,hacc⟩:=hrel
 by_cases hlt:k<its.length
 ·obtain⟨it,hit⟩:∃it,its[k]?=some it:=⟨_,jmd hlt⟩
  obtain⟨b,off,fv,rfl,hbb,c0,c1,c2,hfl⟩:=HC.out k it hit
  have hb:=hacc.below
  have hlb:=hb.size
  have rl:=jf5 (its.take k)
  rw[jmi]at rl
  have hvl:vs.length<=1000000:=by rw[hacc.len];omega
  obtain⟨fa,fc,rfl,_,_⟩:=id hfl
  have hnl:∀n c,Value.slice fa it.fields.length fc=.slice none n c->c=0:=fun n c e=>by
   cases e
   exact NI.out k b off _ _ _ _ rfl hlt c2
  replace c0:=(hb.cell (p:=⟨b,off+k*3,none⟩) hbb).trans c0
  replace c1:=(hb.cell (p:=⟨b,off+k*3+1,none⟩) hbb).trans c1
  replace c2:=(hb.cell (p:=⟨b,off+k*3+1+1,none⟩) hbb).trans c2
  have SN:=jl9 (jdI its k it hit)
  by_cases hk3:it.kind=3
  ·have hfw:=(hfl.below hb (jma _)).below ((jmc wr.heap.size wr).alloc (jma _) (.cells #[.int .i64 it.kind,.string (B it.raw),.slice fa it.fields.length fc] 236)) (jma _)
   have CL:=jl9 (xy it.fields _ _ hfw hnl (HF.out it (jmx hit)))
   have hba:=(jmc wr.heap.size wr).alloc (jma _) (.cells #[.int .i64 it.kind,.string (B it.raw),.slice fa it.fields.length fc] 236)
   have ACC:=jl9 (hacc.kept hba)
   rw[hk3]at c0 CL ACC
   clear hacc hit hfl HC hfw hba hnl NI HF
   go_wp2_with fail
   refine CL.out.mono ?_
   rintro e w2 ⟨x,rfl,hx,b2⟩
   have acc2:=ACC.out.kept b2
   have hx2:w2.ownsRow w.heap.size 155 2 x it.fields.length (jG it.fields):=ze hx (by simp;omega)
   have hrow:=acc2.row
   have ACC2:=jl9 acc2
   have HX2:=jl9 hx2
   have hlb2:=acc2.below.size
   obtain⟨xa,xc,hxe,_⟩:=jf hx
   subst hxe
   have HV:=jl9 (jhU w2 (.slice xa it.fields.length xc) 61)
   clear acc2 CL ACC b2 hx hx2
   go_wp2_with (at_builtin;refine wpList_append_own _ rfl _ _ 324 rfl w.heap.size 61 i0 _ 1 24 underlying324 hi hz0 hz1 hz2 rfl (by decide) _ _ _ rfl (hrow.alloc _) ⟨w2.heap.size,0,none⟩ 1 1 _ rfl rfl HV.out ?c2 ?c3 ?c4 ?c5 ?_)
   case c2=>intro u hu;simp at hu;subst hu;rfl
   case c3=>unfold maxLen;omega
   case c4=>omega
   case c5=>simp;omega
   intro v' w3 hown' hgrow _
   have hacc3:=ACC2.out.snoc HX2.out hown' hgrow
   obtain⟨g',cap',rfl⟩:=ownsRow_succ hown'
   go_wp2_with fail
   go_roundw
   case rel=>exact⟨k+1,_,hlt,by go_num,by rw[SN.out,if_pos hk3];exact hacc3⟩
   case measure=>simp[intOf];omega
  have hk2:((it.kind:Int)==3)=false:=beq_eq_false_iff_ne.2 (by omega)
  have ACC:=jl9 (hacc.kept ((jmc wr.heap.size wr).alloc (jma _) (.cells #[.int .i64 it.kind,.string (B it.raw),.slice fa it.fields.length fc] 236)))
  clear hacc hit hfl HC hnl NI HF
  go_wp2_with fail
  go_roundw
  case rel=>exact⟨k+1,vs,hlt,by go_num,by rw[SN.out,if_neg hk3,jmT];exact ACC.out⟩
  case measure=>simp[intOf];omega
 obtain rfl:k=its.length:=by omega
 rw[jmJ]at hacc
 clear HC NI HF
 go_wp2_with fail
 go_ret
 exact⟨_,vs,rfl,hacc⟩
end
section
open Go.Maps Go.ChangeShapes Go.Joins Go.WideShapes
end
section
attribute [local go_sem] jW
theorem ja6(fs:List (List UInt8×List UInt8))(v:Value)(w:World)(hs:Yo w v fs)(hn:fs.length<=1000)(hl:∀f∈fs,f.1.length<=100000/\f.2.length<=100000):
  Calls prog 120 #[v] w fun e w'=>e=.returned (.tuple #[.string (B (foldT fs)),qi (foldN fs)])/\Below w.heap.size w w':=by
 obtain⟨A,cap,rfl,hle,hc⟩:=hs
 have PC:=jl9 hc
 clear hc
 have B0:=Bld.new w (w.heap.size+1)
 go_enter func120,ntmps120
 go_wp2_with fail
 go_loopw [13] (fun i wr=>∃k:Nat,k<=fs.length/\i=.int .i64 k/\foldN fs=foldN (fs.drop k)/\Bld w.heap.size (w.heap.size+1) (jU (fs.take k)) wr/\(jU (fs.take k)).length<=4000*k/\Below w.heap.size w wr) (fun i _=>fs.length-(intOf i).toNat)
 case atStart=>exact⟨0,jmo _,rfl,rfl,B0,jma _,(jmc _ _).alloc (jma _) _⟩
 case round =>
 obtain⟨k,hk,rfl,hN,hbl,hle4,hb⟩:=hrel
 by_cases hlt:k<fs.length
 ·obtain⟨f,hf⟩:∃f,fs[k]?=some f:=⟨_,jmd hlt⟩
  obtain⟨b,off,rfl,hbb,c0,c1⟩:=PC.out k f hf
  replace c0:=(hb.cell (p:=⟨b,off+k*2,none⟩) hbb).trans c0
  replace c1:=(hb.cell (p:=⟨b,off+k*2+1,none⟩) hbb).trans c1
  obtain⟨hl1,hl2⟩:=hl f (jmx hf)
  have hdrop:fs.drop k=f::fs.drop (k+1):=by
   rw[jnn hlt]
   rw[jmd hlt]at hf
   rw[jmf hf]
  have htake:fs.take (k+1)=fs.take k++[f]:=by rw[jmO,hf];rfl
  rw[hdrop]at hN
  have NH:=jl9 hN
  have TH:=jl9 htake
  have hs1:=hb.size
  have hbs:=hbl.lt
  have HB:=jl9 (hbl.alloc (.cells #[.string (B f.1),.string (B f.2)] 155))
  have hba:=hb.alloc hs1 (.cells #[.string (B f.1),.string (B f.2)] 155)
  by_cases hck:zl f.1 f.2=0
  ·have LG:=fun w=>jd8 f.1 f.2 hl1 hl2 w hck
   clear hdrop htake hN hf
   unfold vf at LG
   go_wp2_with fail
   refine(LG _).mono ?_
   rintro e w2 ⟨sv,base,rfl,hown,b2⟩
   have hb2:=hba.trans (b2.mono (by simp;omega))
   have hbl2:=HB.out.kept b2 (jma _)
   have htl:=jdn hck
   have hm1:1<=(zm f.1 f.2).length:=by rw[jcb];omega
   have hm2:(zm f.1 f.2).length<=4000:=by rw[QR]at htl;omega
   have G1:Hid (jU (fs.take (k+1))=jU (fs.take k)++jl (zm f.1 f.2)):=by
    show _=_
    rw[TH.out,jct]
   have G2:Hid (foldN fs=foldN (fs.drop (k+1))):=by
    show _=_
    rw[NH.out];show(if zl f.1 f.2=0 then foldN (fs.drop (k+1)) else _)=_;rw[if_pos hck]
   clear HB b2 hba LG hbl hb c0 c1 TH NH hck
   obtain⟨g,cap',rfl⟩:=jnv hown (by simp;omega)
   rw[jmE]at hown ⊢
   generalize zm f.1 f.2=ls at *
   generalize jU (fs.take k)=pre at *
   go_wp2_with fail
   go_loopw [27] (fun i wq=>∃j:Nat,j<=ls.length/\i=.int .i64 j/\Bld w.heap.size (w.heap.size+1) (pre++jl (ls.take j)) wq/\wq.ownsRow base 9 1 (.slice (some ⟨g,0,none⟩) ls.length cap') ls.length ((ls.map B).map Value.string)/\Below w.heap.size w wq) (fun i _=>ls.length-(intOf i).toNat)
   case atStart=>exact⟨0,jmo _,rfl,by simpa [jl]using hbl2,by simpa [Qo]using hown,hb2⟩
   case round =>
   obtain⟨j,hj,rfl,hblj,hownj,hbj⟩:=hrel
   have hsj:=hbj.size
   by_cases hjl:j<ls.length
   ·obtain⟨x,hx⟩:∃x,ls[j]?=some x:=⟨_,jmd hjl⟩
    have hcx:=hownj.cellAt j (by omega)
    rw[jmC,jmC,hx]at hcx
    simp only[jnJ]at hcx
    have T1:Hid (jl (ls.take (j+1))=(jl (ls.take j)++x)++[10]):=by
     show _=_
     rw[jmO,hx];exact jbI _ _
    have t1:=jbH ls (j+1)
    rw[T1.out,jmb,jmb]at t1
    simp only[List.length_singleton]at t1
    have hlj:=hblj.lt
    clear hx
    go_wp2_with fail
    refine(ZN w.heap.size (w.heap.size+1) _ (B x) wr hblj (by omega) (by omega) (by rw[jq,jmb];omega)).mono ?_
    rintro e w5 ⟨rfl,hbl5,hw5⟩
    obtain⟨cs,hcs⟩:=hblj.cells
    have hownS:Qo wr base (.slice (some ⟨g,0,none⟩) ls.length cap') (ls.map B):=by unfold Qo;rw[jmE];exact hownj
    have hown5:=hownS.wrote hw5 hcs
    have hb5:=hbj.trans (hw5.below (jma _) (by omega) hsj)
    rw[ju]at hbl5
    have hs5:=hb5.size
    have hl5:=hbl5.lt
    clear hw5 hownS hownj hblj hcs hbj hcx
    go_wp2_with fail
    refine(ZN w.heap.size (w.heap.size+1) _ ⟨#[10]⟩ w5 hbl5 (by omega) (by omega) (by simp only[jmb];show _+1<=_;omega)).mono ?_
    rintro e w6 ⟨rfl,hbl6,hw6⟩
    obtain⟨cs,hcs⟩:=hbl5.cells
    have hown6:=hown5.wrote hw6 hcs
    have hb6:=hb5.trans (hw6.below (jma _) (by omega) hs5)
    clear hw6 hown5 hbl5 hcs hb5
    go_wp2_with fail
    go_roundw
    case rel =>
     refine⟨j+1,hjl,by go_num,?_,?_,hb6⟩
     ·rw[T1.out,<- jmA,<- jmA];exact hbl6
     unfold Qo at hown6;rw[jmE]at hown6;exact hown6
    case measure=>simp[intOf];omega
   obtain rfl:j=ls.length:=by omega
   rw[jmJ]at hblj
   go_wp2_with fail
   go_roundw
   case rel =>
    refine⟨k+1,hlt,by go_num,G2.out,by rw[G1.out];exact hblj,?_,hbj⟩
    rw[G1.out,jmb];omega
   case measure=>simp[intOf];omega
  have LB:=fun w=>jd9 f.1 f.2 hl1 hl2 w hck
  have hfn:foldN fs=zl f.1 f.2:=by rw[NH.out];unfold foldN;rw[if_neg hck]
  have hft:foldT fs=[]:=by unfold foldT;rw[hfn,if_neg hck]
  rw[jX _ (jnu hck)]at LB
  have hev:qi (foldN fs)=.iface 46 (.int .i64 (zl f.1 f.2:Int)):=by rw[hfn,jX _ (jnu hck)]
  have FTH:=jl9 hft
  have FNH:=jl9 hev
  clear hdrop htake hN hf hfn hft NH hck hev
  generalize zl f.1 f.2=cn at *
  unfold vf at LB
  go_wp2_with fail
  refine(LB _).mono ?_
  rintro e w2 ⟨rfl,b2⟩
  have hb2:=hba.trans (b2.mono (by simp;omega))
  clear b2 LB
  go_wp2_with fail
  go_ret2
  exact⟨by rw[FNH.out,FTH.out];rfl,hb2⟩
 obtain rfl:k=fs.length:=by omega
 rw[jmJ]at hbl
 rw[jnC]at hN
 have h0:foldN fs=0:=hN
 have hft:foldT fs=jU fs:=by unfold foldT;rw[if_pos h0]
 have FTH:=jl9 hft
 have FNH:=jl9 h0
 have hbs:=hbl.lt
 clear hN h0 hft PC hle4
 go_wp2_with fail
 refine(Tryz.Builder_String_any_k w.heap.size w.heap.size _ wr (hbl.library (jma _) (by omega)) (by omega)).mono ?_
 rintro e w5 ⟨rfl,_,b5,_⟩
 go_wp2_with fail
 go_ret2
 exact⟨by rw[FTH.out,FNH.out];rfl,hb.trans b5⟩
end
end Go.Proofs.YtpibhbjmcmfnmaaGreatDoor
