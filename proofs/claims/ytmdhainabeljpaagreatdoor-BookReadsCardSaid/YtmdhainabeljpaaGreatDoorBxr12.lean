/- Texts put together:PJ,PK,FK,BU,FN,GB,PN,PW,PX,PY,GD,PZ,TF. -/
import Derived.Lib.FrozenHead
import Derived.Laws.AppendOwnNone
import Derived.Test.YtmdhainabeljpaaGreatDoorBxr8
import Derived.Test.YtmdhainabeljpaaGreatDoorBxr11
set_option linter.unusedVariables false
set_option maxRecDepth 100000
set_option maxHeartbeats 16000000
namespace Go.Proofs.YtmdhainabeljpaaGreatDoor
abbrev jjt:=@List.mem_append_left
abbrev jjR:=@Go.Lib.cell_of_heap
end Go.Proofs.YtmdhainabeljpaaGreatDoor
namespace Go.Proofs.YtmdhainabeljpaaGreatDoor
open Go.RowKit Go.Shelf
attribute [local go_sem] jil qL
def Its(w:World)(v:Value)(its:List It):Prop :=
 ∃A cap,v=.slice A its.length cap/\its.length<=cap/\∀(i:Nat) (it:It),its[i]?=some it->∃b off fv,A=some ⟨b,off,none⟩/\b<w.heap.size /\
  w.cell? ⟨b,off+i*3,none⟩=some (.int .i64 it.kind)/\w.cell? ⟨b,off+i*3+1,none⟩=some (.string (B it.raw))/\w.cell? ⟨b,off+i*3+1+1,none⟩=some fv/\Wo w fv it.fields
theorem jA.its {w : World} {T : Nat -> Nat} {R b : Nat} {text : ByteArray} {p : PS} {V : PV} (h : jA w T R b text p V) : Its w V.v3 p.items := by
  rcases jiY h.r3 with ⟨e, hn⟩ | ⟨g, cap, e⟩
  . have : p.items = [] := List.length_eq_zero_iff.1 hn
    rw [e, this]
    exact ⟨none, 0, rfl, jh6 _, fun i it hi => by simp at hi⟩
  refine ⟨some ⟨g, 0, none⟩, cap, e, (by rcases h.r3.2 with ⟨q, _⟩ | ⟨g', cap', cur, q, _, _, q2, _⟩; · rw [e] at q; cases q
                                         rw [e] at q; cases q; exact q2), fun i it hi => ?_⟩
  have hlt : i < p.items.length := by
    rcases jir i p.items.length with q | q
    . exact q
    rw [jis q] at hi; cases hi
  obtain ⟨fv, hfv⟩ : ∃ fv, V.fvs[i]? = some fv := ⟨_, jia (by rw [h.nf]; exact hlt)⟩
  obtain ⟨a0, a1, a2⟩ := vq _ _ i it fv hi hfv
  have hr := h.r3
  rw [e] at hr
  refine ⟨g, 0, fv, rfl, (jje hr g rfl).2, ?_, ?_, ?_, Jf (h.rf i it fv hi hfv).1⟩
  . rw [jiH, jin hr (i * 3) (by omega)]; exact a0
  . rw [jiH, jin hr (i * 3 + 1) (by omega)]; exact a1
  rw [jiH, jin hr (i * 3 + 1 + 1) (by omega)]; exact a2
def jhn(w:World)(v:Value)(its:List It):Prop:=∀(i:Nat) (b off:Nat) (n cap m c:Nat),v=.slice (some ⟨b,off,none⟩) n cap->i<its.length->w.cell? ⟨b,off+i*3+1+1,none⟩=some (.slice none m c)->c=0
theorem jA.nil{w:World}{T:Nat->Nat}{R b:Nat}{text:ByteArray}{p:PS}{V:PV}(h:jA w T R b text p V):jhn w V.v3 p.items:=by
 intro i b off n cap m c e hlt hcell
 obtain⟨it,hi⟩:∃it,p.items[i]?=some it:=⟨_,jia hlt⟩
 obtain⟨fv,hfv⟩:∃fv,V.fvs[i]?=some fv:=⟨_,jia (by rw[h.nf];exact hlt)⟩
 obtain⟨_,_,a2⟩:=vq _ _ i it fv hi hfv
 have hr:=h.r3
 rcases jiY hr with ⟨e',hn⟩|⟨g,cap',e'⟩
 ·omega
 rw[e']at e hr
 cases e
 rw[jiH,jin hr (i*3+1+1) (by omega),a2]at hcell
 cases hcell
 rcases(h.rf i it _ hi hfv).1.2 with ⟨q,_⟩|⟨g',cap',cur,q,_⟩
 ·cases q;rfl
 cases q
def Zd(w:World)(text:List UInt8)(e:Ending)(w':World):Prop :=
 Below w.heap.size w w'/\match za text with
  | .error (a,n)=>∃v,e=.returned (.tuple #[.slice none 0 0,v])/\jz w.heap.size w' v a n
  | .ok its=>∃v,e=.returned (.tuple #[v,.nilIface])/\Its w' v its/\jhn w' v its
theorem Zd.no{w w':World}{text:List UInt8}{v:Value}{a n:Nat}(h:za text=.error (a,n))(hb:Below w.heap.size w w')(hf:jz w.heap.size w' v a n):Zd w text (.returned (.tuple #[.slice none 0 0,v])) w' :=
 ⟨hb,by rw[h];exact⟨v,rfl,hf⟩⟩
theorem Zd.yes{w w':World}{text:List UInt8}{v:Value}{its:List It}(h:za text=.ok its)(hb:Below w.heap.size w w')(hf:Its w' v its/\jhn w' v its):Zd w text (.returned (.tuple #[v,.nilIface])) w' :=
 ⟨hb,by rw[h];exact⟨v,rfl,hf⟩⟩
theorem Xh{Q:Ending->World->Prop}(w W:World)(v e:Value)(tmps:Array Value)(hO:Out w W v e)(hv1:v.oneCell'=true)(he1:e.oneCell'=true)(hK:W.heap[w.heap.size+4]?=some (.deferred (some [])))(t2:tmps[2]?=some (.pointer (some ⟨w.heap.size,0,none⟩)))(t3:tmps[3]?=some (.pointer (some ⟨w.heap.size+1,0,none⟩)))
  (hQ:Below w.heap.size w (W.putObj (w.heap.size+4) (.deferred none))->Q (.returned (.tuple #[v,e])) (W.putObj (w.heap.size+4) (.deferred none))) :
  bodyPostM Fence.wide 9 Tryz.prog Tryz.f15 Q .ret {tmps:=tmps,defers:=[{target:=.collected (w.heap.size+4),args:=#[]}]} W:=by
 obtain⟨h4,h5,hB⟩:=hO
 have p1:=grownBy_putObj' W (w.heap.size+4) (.deferred none)
 have r4:jd (W.putObj (w.heap.size+4) (.deferred none)) w.heap.size 47 #[v]:=(p1.block _ h4.lt (fun e=>by have:=jh9 e;omega)).trans h4
 have r5:jd (W.putObj (w.heap.size+4) (.deferred none)) (w.heap.size+1) 28 #[e]:=(p1.block _ h5.lt (fun e=>by have:=jh9 e;omega)).trans h5
 have c4:(W.putObj (w.heap.size+4) (.deferred none)).cell? ⟨w.heap.size,0,none⟩=some v:=r4.cell 0
 have c5:(W.putObj (w.heap.size+4) (.deferred none)).cell? ⟨w.heap.size+1,0,none⟩=some e:=r5.cell 0
 refine⟨by simp,.inl ⟨_,_,rfl,run_takeDeferred hK,?_⟩⟩
 exact⟨.tuple #[v,e],by simp[results,Tryz.f15,go_sem,t2,t3,c4,c5],hQ (hB.trans (belowK_b (w:=w) (jh6 _) W _ _ _ (by omega) hK rfl rfl))⟩
theorem yD:∀(n no at_:Nat) (l:List UInt8),l.length<=n->∀x∈jS no at_ l,1<=x.bytes.length
 | 0,_,_,l,h,x,hx=>by
  have:l=[]:=List.length_eq_zero_iff.1 (by omega)
  subst this
  rw[jq]at hx;cases hx
 | n+1,no,at_,l,h,x,hx=>by
  by_cases hl:l=[]
  ·subst hl;rw[jq]at hx;cases hx
  have hp:=qu l hl
  rw[js _ _ _ hl]at hx
  rcases List.mem_cons.1 hx with rfl|hx
  ·have:(Ln.bytes ⟨no,at_,zY l,nl l⟩).length=qy l:=by
    unfold Ln.bytes qy;simp only[jh7];split<;>rfl
   omega
  exact yD n _ _ _ (by simp only[jik];omega) x hx
theorem jab:∀(pre:List Ln),(∀x∈pre,1<=x.bytes.length)->pre.length<=(pre.flatMap Ln.bytes).length
 | [],_=>jh6 _
 | x::pre,h=>by
  have ih:=jab pre (fun y hy=>h y (jif _ hy))
  have:=h x jig
  rw[jio,jh7,jic];omega
theorem Kt(s:ByteArray)(hs:s.size<=60000)(w:World):
  Calls Tryz.prog 15 #[.string s] w fun e w'=>Zd w s.data.toList e w':=by
 obtain⟨xs,hxs⟩:∃xs,jf s.data.toList=xs:=⟨_,rfl⟩
 have HXS:=jh5 hxs
 have hat:=fun pre x post (e:xs=pre++x::post)=>qz s.data.toList pre x post (hxs.trans e)
 have HAT:=jh5 hat
 have hj:(xs.flatMap Ln.bytes)=s.data.toList:=by rw[<- hxs];exact jB _
 have hjl:(xs.flatMap Ln.bytes).length=s.size:=by rw[hj,<- jij]
 have HJL:=jh5 hjl
 have hpos:∀x∈xs,1<=x.bytes.length:=by rw[<- hxs];exact yD _ 0 0 _ (jh6 _)
 have HPOS:=jh5 hpos
 clear hxs hat hjl hj hpos
 refine callsIn_wide (n:=9).1 ?_
 refine callsIn_of_wp_marks Tryz.func15 rfl trivial ?_ rfl
 simp only[Tryz.ntmps15,jjw,jic,jiW,Nat.reduceAdd,Nat.reduceSub,jjm,jjn,jjx,jjp,ji4,jiq]
 gi_wp2_with fail
 refine⟨trivial,(callsIn_wide.2 (yj s _)).mono ?_⟩
 rintro e w3 ⟨rfl,rfl⟩
 gi_wp2_with fail
 have k7:=jgo w (.cells #[.slice none 0 0] 47) (.cells #[.nilIface] 28) (.cells #[.int .i64 0,.slice none 0 0,.string s,.slice none 0 0,.int .i64 0,.int .i64 0,.slice none 0 0] 81) 9 (.string s)
 have HH:=qQ s (w.heap.size+3) _ k7 (by omega)
 rw[HXS.out]at HH
 have n0:=jA.new ((w.alloc (.cells #[.slice none 0 0] 47)).alloc (.cells #[.nilIface] 28)) s (w.heap.size+2) (by simp)
 rw[jiO,jiO]at n0
 change jA _ (fun k=>if k=w.heap.size+2 then 1 else 0) _ (w.heap.size+2) _ _ _ at n0
 have o0:Out w ((((w.alloc (.cells #[.slice none 0 0] 47)).alloc (.cells #[.nilIface] 28)).alloc (.cells #[.int .i64 0,.slice none 0 0,.string s,.slice none 0 0,.int .i64 0,.int .i64 0,.slice none 0 0] 81)).alloc (.cells #[.string s] 9)) (.slice none 0 0) .nilIface:=by
  have h1:=jd.new (w.alloc (.cells #[.slice none 0 0] 47)) 28 #[.nilIface]
  rw[jiO]at h1
  exact⟨(((jd.new w _ _).alloc _).alloc _).alloc _,(h1.alloc _).alloc _,((((jh8 _ w).alloc (jh6 _) _).alloc (by simp) _).alloc (by simp;omega) _).alloc (by simp;omega) _⟩
 have init:jeO w s [] ((((w.alloc (.cells #[.slice none 0 0] 47)).alloc (.cells #[.nilIface] 28)).alloc (.cells #[.int .i64 0,.slice none 0 0,.string s,.slice none 0 0,.int .i64 0,.int .i64 0,.slice none 0 0] 81)).alloc (.cells #[.string s] 9)) :=
  ⟨o0,_,PS.new,rfl,Inv.new,jn.below ⟨_,n0⟩ ((jh8 _ _).alloc (jh6 _) _),fun k h1 h2=>if_neg (by omega)⟩
 have hz:((((w.alloc (.cells #[.slice none 0 0] 47)).alloc (.cells #[.nilIface] 28)).alloc (.cells #[.int .i64 0,.slice none 0 0,.string s,.slice none 0 0,.int .i64 0,.int .i64 0,.slice none 0 0] 81)).alloc (.cells #[.string s] 9)).heap.size=w.heap.size+4:=by simp
 refine vy (gf:=68) (lb:=#[.pointer (some ⟨w.heap.size+3,0,none⟩)]) rfl (enters_of Tryz.func68 (by kernel_rfl) rfl) HH (fun _=>rfl)
  (jeO w s) (jht w s) (by rw[hz];exact fun pre W W' h ht=>h.turned ht (by omega) (by omega)) (fun c pre W W' h ht=>h.turned ht (by rw[hz];omega) (by rw[hz];omega)) init
  (fun a pre x a' W=>∃Bx,w.heap.size+9<=Bx/\a'={tmps:=(a.tmps.setIfInBounds 16 (.agg (zO x))).setIfInBounds 5 (.pointer (some ⟨Bx,0,none⟩)),defers:=[]}/\jd W Bx 76 (zO x)/\jeO w s pre W)
  ?hM ?assign ?body ?done ?stop
 case hM =>
  rw[hz]
  rintro a pre x a' _ W W' ⟨Bx,h1,h2,h3,h4⟩ ht
  exact⟨Bx,h1,h2,(ht.same Bx h3.lt (.inr (by omega))).trans h3,h4.turned ht (by omega) (by omega)⟩
 case assign =>
  rw[hz]
  intro l pre x post W hx hsz hi
  clear hx
  dsimp only[zO]
  gi_wp2
  exact⟨(yh.refl _ _ W).alloc hsz _,W.heap.size,by omega,rfl,jd.new _ _ _,hi.alloc _⟩
 case body =>
  rw[hz]
  rintro l pre x post a' W hx hsz ⟨Bx,hB,rfl,hc,hO,T,p,hr,hi,hp,hT⟩
  obtain⟨hno,hat⟩:=HAT.out pre x post hx
  rw[<- hat]at hi
  have hsum:=HJL.out
  rw[hx,jiG,jio,jh7,jh7,<- hat]at hsum
  have hge:=jab pre (fun y hy=>HPOS.out y (by rw[hx];exact jjt _ hy))
  rw[<- hno,<- hat]at hge
  have hR:w.heap.size+2<=W.heap.size:=by omega
  have TK:=take_any hp hR x hi (by omega) hs hge
  have HR:=jh5 hr
  have HI:=jh5 hi
  have HX:=jh5 (show x.at_=(pre.flatMap Ln.bytes).length from hat)
  clear hx hr hi hat hsum hno
  simp only[jiw,jiU,jiV,zO]at hc ⊢
  have q0:W.cell? ⟨Bx,0,none⟩=some (.int .i64 x.no):=hc.cell 0
  have q1:W.cell? ⟨Bx,1,none⟩=some (.int .i64 x.at_):=hc.cell 1
  have q2:W.cell? ⟨Bx,2,none⟩=some (.string ⟨x.text.toArray⟩):=hc.cell 2
  have q3:W.cell? ⟨Bx,3,none⟩=some (.bool x.ended):=hc.cell 3
  have stay:∀W1,zH (fun r=>T r≠0) W W1->yh (w.heap.size+4) 5 W W1:=fun W1 ho=>⟨ho.size,fun r h1 h2=>ho.same r (by omega) (fun hn=>hn (hT r (by omega) (by omega)))⟩
  have hTR:∀r,T r≠0->w.heap.size+2<=r:=fun r hr=>by obtain⟨V,hv⟩:=hp;exact(hv.low r hr).1
  gi_wp2_with fail
  refine⟨trivial,((callsIn_wide.2 TK).inRound l).mono ?_⟩
  rintro e W1 ht
  unfold qt at ht
  cases htk:jL s.data.toList p x with
  | error an =>
   obtain⟨a,n⟩:=an
   rw[htk]at ht
   obtain⟨v,rfl,hf,ho⟩:=ht
   have hrn:=Kd HR.out htk
   obtain⟨q,hq,rfl,hqc⟩:=hf
   have hO1:=hO.only ho hTR
   have c2:W1.cell? ⟨w.heap.size,0,none⟩=some (.slice none 0 0):=hO1.1.cell 0
   have f2:=hO1.1.frozen 0
   have c3:W1.cell? ⟨w.heap.size+1,0,none⟩=some .nilIface:=hO1.2.1.cell 0
   have f3:=hO1.2.1.frozen 0
   have hst:=stay W1 ho
   clear TK hO hc
   gi_wp2
   refine⟨(hst.setCell (.inl (by show w.heap.size<_;omega)) _).setCell (.inl (by show w.heap.size+1<_;omega)) _,rfl,a,n,_,hrn,hO1.set _ _,q,by omega,rfl,?_⟩
   exact jd.other (jd.other hqc (by show q≠w.heap.size;omega) _) (by show q≠w.heap.size+1;omega) _
  | ok p' =>
  rw[htk]at ht
  obtain⟨rfl,T',hp',hst⟩:=ht
  have hrn:=jbR HR.out htk
  obtain⟨hi',_⟩:=Inv.take HI.out hge htk
  clear TK hc
  gi_wp2
  refine⟨stay W1 hst.only,hO.only hst.only hTR,T',p',hrn,?_,hp',fun r h1 h2=>(hst.old r (by omega)).2 (hT r h1 h2)⟩
  rw[jiG,jh7,<- HX.out]
  simpa using hi'
 case done =>
  rw[hz]
  rintro W ⟨hO,T,p,hr,hi,hp,hT⟩ hmark
  have zW:w.heap.size+4<W.heap.size:=(Array.getElem?_eq_some_iff.1 hmark).1
  rw[HJL.out]at hi
  have hTR:∀r,T r≠0->w.heap.size+2<=r:=fun r hr=>by obtain⟨V,hv⟩:=hp;exact(hv.low r hr).1
  have EF:=ZY hp (by omega) (by have:=hi.said;omega) (by have:=hi.fields;omega)
  have PL:Hid (za s.data.toList=JK s.data.toList p):=by
   show _=_
   unfold za;rw[HXS.out,hr]
  have HI:=jh5 hi.endField
  have h4:T (w.heap.size+4)=0:=hT _ (by omega) (by omega)
  have l0:=hp.lt
  clear hr hi hp
  gi_wp2_with fail
  refine⟨trivial,(callsIn_wide.2 EF).mono ?_⟩
  rintro e W1 hE
  unfold qo at hE
  by_cases h0:jh p=0
  ·rw[if_pos h0]at hE
   obtain⟨rfl,T1,g1,s1⟩:=hE
   have hO1:=hO.only s1.only hTR
   have hm1:=(s1.only.same _ zW (fun e=>e h4)).trans hmark
   have h41:=(s1.old _ zW).2 h4
   have hTR1:∀r,T1 r≠0->w.heap.size+2<=r:=fun r hr=>by obtain⟨V,hv⟩:=g1;exact(hv.low r hr).1
   have zW1:=s1.only.size
   have e0:=Jj p
   have hat:=HI.out.at_
   have EB:=Qa g1 (by omega) s.size hat (jh6 _) (by omega) (by have:=HI.out.items;omega) (by have:=HI.out.stanzas;omega)
   have l1:=g1.lt
   have PY:Hid (za s.data.toList=.ok (jm s.data.toList (ja p) s.size).items):=by
    show _=_
    rw[PL.out];unfold JK;rw[if_neg (by simpa using h0),<- jij]
   clear EF hO hmark HI PL g1
   gi_wp2_with fail
   refine⟨trivial,(callsIn_wide.2 EB).mono ?_⟩
   rintro e W2 ⟨rfl,T2,⟨V2,g2⟩,s2⟩
   have hO2:=hO1.only s2.only hTR1
   have hm2:=(s2.only.same _ (by omega) (fun e=>e h41)).trans hm1
   obtain⟨a3,c3,e3,_⟩:=jg g2.r3
   have hits:=g2.its
   have q3:W2.cell? ⟨w.heap.size+1+1,3,none⟩=some (.slice a3 (jm s.data.toList (ja p) s.size).items.length c3):=by rw[<- e3];exact g2.cells.cell 3
   have l2:=g2.lt
   have c2:W2.cell? ⟨w.heap.size,0,none⟩=some (.slice none 0 0):=hO2.1.cell 0
   have f2:=hO2.1.frozen 0
   have c3':W2.cell? ⟨w.heap.size+1,0,none⟩=some .nilIface:=hO2.2.1.cell 0
   have f3:=hO2.2.1.frozen 0
   rw[e3]at hits
   have HITS:=jh5 hits
   have hT2:T2 (w.heap.size+4)=0:=(s2.old _ (by omega)).2 h41
   have HG:=jh5 (fun W' (hs:∀k,T2 k≠0->W'.heap[k]?=W2.heap[k]?) hz=>And.intro (g2.same (w':=W') hs hz).its (g2.same (w':=W') hs hz).nil)
   have hlow2:∀r,T2 r≠0->w.heap.size+2<=r:=fun r hr=>(g2.low r hr).1
   rw[e3]at HG
   clear EB hits g2
   gi_wp2
   refine Xh w _ (.slice a3 (jm s.data.toList (ja p) s.size).items.length c3) .nilIface _ (hO2.set _ _) rfl rfl ?_ rfl rfl fun hb=>.yes PY.out hb (HG.out _ ?_ ?_)
   ·exact(jiJ _ _ _ _ (by show w.heap.size+4≠w.heap.size+1;omega)).trans ((jiJ _ _ _ _ (by show w.heap.size+4≠w.heap.size;omega)).trans hm2)
   ·intro k hk
    have h1:=hlow2 k hk
    rw[ji8 (by rintro rfl;exact hk hT2)]
    exact(jiJ _ _ _ _ (by show k≠w.heap.size+1;omega)).trans (jiJ _ _ _ _ (by show k≠w.heap.size;omega))
   simp[World.setCell]
  rw[if_neg h0]at hE
  obtain⟨v,rfl,⟨q,hq,rfl,hqc⟩,hb1⟩:=hE
  have hO1:Out w W1 (.slice none 0 0) .nilIface:=⟨hO.1.below hb1 hO.1.lt,hO.2.1.below hb1 hO.2.1.lt,hO.2.2.trans (hb1.mono hO.2.2.size)⟩
  have hm1:=(hb1.block _ zW).trans hmark
  have c2:W1.cell? ⟨w.heap.size,0,none⟩=some (.slice none 0 0):=hO1.1.cell 0
  have f2:=hO1.1.frozen 0
  have c3':W1.cell? ⟨w.heap.size+1,0,none⟩=some .nilIface:=hO1.2.1.cell 0
  have f3:=hO1.2.1.frozen 0
  have PN:Hid (za s.data.toList=.error (p.begin_,jh p)):=by
   show _=_
   rw[PL.out];unfold JK;rw[if_pos h0]
  clear EF hO hmark HI PL
  gi_wp2
  refine Xh w _ (.slice none 0 0) (.iface 54 (.pointer (some ⟨q,0,none⟩))) _ (hO1.set _ _) rfl rfl ?_ rfl rfl fun hb=>.no PN.out hb ⟨q,by omega,rfl,?_⟩
  ·exact(jiJ _ _ _ _ (by show w.heap.size+4≠w.heap.size+1;omega)).trans ((jiJ _ _ _ _ (by show w.heap.size+4≠w.heap.size;omega)).trans hm1)
  exact(ji8 (by omega)).trans (jd.other (jd.other hqc (by show q≠w.heap.size;omega) _) (by show q≠w.heap.size+1;omega) _)
 case stop =>
 rw[hz]
 rintro c pre W hpre ⟨rfl,a,n,v,hr,hO,⟨q,hq,rfl,hqc⟩⟩ hmark
 have PN:Hid (za s.data.toList=.error (a,n)):=by
  show _=_
  unfold za;rw[HXS.out,jbQ hr hpre]
 gi_wp2
 refine Xh w _ (.slice none 0 0) (.iface 54 (.pointer (some ⟨q,0,none⟩))) _ hO rfl rfl hmark rfl rfl fun hb=>.no PN.out hb ⟨q,by omega,rfl,?_⟩
 exact(ji8 (by omega)).trans hqc
end Go.Proofs.YtmdhainabeljpaaGreatDoor
namespace Go.Proofs.YtmdhainabeljpaaGreatDoor
open Go.RowKit Go.Shelf
theorem jbe(q:Option Addr)(w:World):(Instr.typeAssert (.iface 54 (.pointer q)) 28 43 true).run Tryz.prog w=.ok (.tuple #[.int .i64 0,.bool false]) w:=by kernel_rfl
theorem Wi(q:Option Addr)(w:World):(Instr.typeAssert (.iface 54 (.pointer q)) 28 54 true).run Tryz.prog w=.ok (.tuple #[.pointer q,.bool true]) w:=by kernel_rfl
theorem Wj(n:Int)(w:World):(Instr.typeAssert (.iface 43 (.int .i64 n)) 28 54 true).run Tryz.prog w=.ok (.tuple #[.pointer none,.bool false]) w:=by kernel_rfl
theorem Wk(w:World):(Instr.typeAssert .nilIface 28 54 true).run Tryz.prog w=.ok (.tuple #[.pointer none,.bool false]) w:=by kernel_rfl
theorem jbd(n:Int)(w:World):(Instr.typeAssert (.iface 43 (.int .i64 n)) 28 43 true).run Tryz.prog w=.ok (.tuple #[.int .i64 n,.bool true]) w:=by kernel_rfl
attribute [local go_sem] qL jbe Wi Wj Wk jbd
theorem jb3{lo:Nat}{w:World}{v:Value}{a n:Nat}(h:jz lo w v a n)(h1:n≠0)(h2:n<=1000):Calls Tryz.prog 8 #[v] w fun e w'=>e=.returned (.int .i64 n)/\w=w':=by
 obtain⟨q,_,rfl,hc⟩:=h
 have c1:w.cell? ⟨q,1,none⟩=some (.iface 43 (.int .i64 n)):=by rw[hc.cell 1];show some (Zy n)=_;rw[zk n (by omega)]
 have hl:=hc.lt
 have hne:((n:Int) != 0)=true:=by simp;omega
 have hne2:((n:Int)==0)=false:=by simp;omega
 clear hc h1
 go_enter Tryz.func8,Tryz.ntmps8
 go_wp2
 refine wp_loop_rounds 2 ?_
 rw[rounds_succ]
 go_wp2
 rw[rounds_succ]
 go_wp2
 go_ret
 exact⟨rfl,rfl⟩
theorem jeJ{lo:Nat}{w:World}{v:Value}{a n:Nat}(h:jz lo w v a n):Calls Tryz.prog 9 #[v] w fun e w'=>e=.returned (.int .i64 a)/\w=w':=by
 obtain⟨q,_,rfl,hc⟩:=h
 have c0:w.cell? ⟨q,0,none⟩=some (.int .i64 a):=hc.cell 0
 have hl:=hc.lt
 clear hc
 go_enter Tryz.func9,Tryz.ntmps9
 go_wp2
 go_ret
 exact⟨rfl,rfl⟩
theorem jhi(w:World):Calls Tryz.prog 9 #[.nilIface] w fun e w'=>e=.returned (.int .i64 (-9))/\w=w':=by
 go_enter Tryz.func9,Tryz.ntmps9
 go_wp2
 go_ret
 exact⟨rfl,rfl⟩
theorem jhj(n:Int)(w:World):Calls Tryz.prog 9 #[.iface 43 (.int .i64 n)] w fun e w'=>e=.returned (.int .i64 (-9))/\w=w':=by
 go_enter Tryz.func9,Tryz.ntmps9
 go_wp2
 go_ret
 exact⟨rfl,rfl⟩
end Go.Proofs.YtmdhainabeljpaaGreatDoor
namespace Go.Proofs.YtmdhainabeljpaaGreatDoor
open Go.RowKit Go.Shelf
theorem Qu{ls:List (List UInt8)}(h:jo ls=0):jR (jF ls) (jE ls)=0/\(jF ls).length<=32/\(jE ls).length<=1000:=by
 cases hF:VB ls with
 | false=>rw[(vE hF).1]at h;cases h
 | true =>
 by_cases hl:(zy ls).length<=1000
 ·obtain⟨a,r,rfl,hka,_⟩:=Zi hF
  obtain⟨_,e2,e3⟩:=yi hF hl
  have hg:ju (before a)=true:=(jfV hka).2.2
  rw[e2,e3]
  exact⟨by unfold jR;rw[hg,if_pos rfl,if_pos hl],(vz hg).2.1,hl⟩
 rw[(vF hF hl).1]at h;cases h
attribute [local go_sem] qL
end Go.Proofs.YtmdhainabeljpaaGreatDoor
namespace Go.Proofs.YtmdhainabeljpaaGreatDoor
open Go.RowKit Go.Shelf
theorem jcn:Lays.n240 Tryz.prog Tryz.lays156_ren:={Tryz.lays156 with}
def Bld(b R:Nat)(l:List UInt8)(W:World):Prop :=
 ∃p v,W.heap[b]?=some (.cells #[p,v] 137 (0,0))/\(p=.pointer none\/p=.pointer (some ⟨b,0,none⟩))/\W.ownsRow R 5 1 v l.length (Lib.byteCells l)
structure qE(b R:Nat)(W W':World):Prop where
 os:W'.os=W.os
 tape:W'.tape=W.tape
 output:W'.output=W.output
 size:W.heap.size<=W'.heap.size
 same:∀r,r<R->r<W.heap.size->r≠b->W'.heap[r]?=W.heap[r]?
 others:Lib.OthersKept 5 (some b) W W'
theorem qE.refl(b R:Nat)(W:World):qE b R W W:=⟨rfl,rfl,rfl,jh6 _,fun _ _ _ _=>rfl,Lib.OthersKept.refl _ _ _⟩
theorem qE.trans{b R:Nat}{X Y Z:World}(h:qE b R X Y)(g:qE b R Y Z):qE b R X Z :=
 ⟨g.os.trans h.os,g.tape.trans h.tape,g.output.trans h.output,jiv h.size g.size,fun r a c e=>(g.same r a (jih c h.size) e).trans (h.same r a c e),h.others.trans g.others⟩
theorem qE.grown{b R:Nat}{X Y Z:World}(h:qE b R X Y){row:Option Nat}(hg:Y.grownBy Z row)(hr:∀r,row=some r->R<=r/\∃c fz,Y.heap[r]?=some (.cells c 5 fz)):qE b R X Z :=
 h.trans ⟨hg.os,hg.tape,hg.output,hg.size,fun r a c e=>hg.block r c (fun e2=>by have:=(hr r e2.symm).1;omega),(Lib.OthersKept.refl _ _ _).grown hg (fun g e=>(hr g e).2)⟩
theorem qE.put{b R:Nat}{X Y:World}(h:qE b R X Y)(j:Nat)(u:Value):qE b R X (Y.setCell ⟨b,j,none⟩ u) :=
 h.trans ⟨rfl,rfl,rfl,by simp[World.setCell],fun r _ _ e=>jiJ _ _ _ _ e,Lib.OthersKept.setCell (b:=b) (Lib.OthersKept.refl _ _ Y) ⟨b,j,none⟩ rfl u⟩
theorem qE.other{b R c:Nat}{X Y:World}{cs:Array Value}{t:TypeId}(h:qE b R X Y)(hc:X.heap[c]?=some (.cells cs t (0,0)))(hne:c≠b)(ht:t≠5):Y.heap[c]?=some (.cells cs t (0,0)) :=
 h.others c _ hc (fun e=>hne (jh9 e)) (fun c' fz e=>ht (by injection e))
theorem qE.alloc{b R:Nat}{X Y:World}(h:qE b R X Y)(o:Obj):qE b R X (Y.alloc o) :=
 h.grown (World.grownBy_alloc Y o none) (fun r e=>by cases e)
theorem qE.below{b R n:Nat}{X Y:World}(h:qE b R X Y)(hb:n<=b)(hR:n<=R)(hs:n<=X.heap.size):Below n X Y :=
 ⟨h.os,h.tape,h.output,h.size,fun r a=>h.same r (by omega) (by omega) (by omega)⟩
theorem qE.stay{b R B k:Nat}{X Y:World}(h:qE b R X Y)(hb:b<B)(hR:B+k<=R)(hs:B+k<=X.heap.size):yh B k X Y :=
 ⟨h.size,fun r a c=>h.same r (by omega) (by omega) (by omega)⟩
theorem qE.box{b R c:Nat}{X Y:World}{t:TypeId}{v:Value}(h:qE b R X Y)(hv:Boxed X c t v)(hc:c<R)(hne:c≠b):Boxed Y c t v :=
 (h.same c hc hv.lt hne).trans hv
theorem Bld.lt{b R:Nat}{l:List UInt8}{W:World}(h:Bld b R l W):b<W.heap.size:=by
 obtain⟨p,v,hb,_⟩:=h
 exact(Array.getElem?_eq_some_iff.1 hb).1
theorem Bld.alloc{b R:Nat}{l:List UInt8}{W:World}(h:Bld b R l W)(o:Obj):Bld b R l (W.alloc o):=by
 have hlt:=h.lt
 obtain⟨p,v,hb,hp,hv⟩:=h
 exact⟨p,v,(jjQ _ _ _ hlt).trans hb,hp,hv.alloc _⟩
theorem Bld.new(w:World)(R:Nat):Bld w.heap.size R [] (w.alloc (.cells #[.pointer none,.slice none 0 0] 137)) :=
 ⟨_,_,jkq w _,.inl rfl,by simp[Lib.byteCells],.inl ⟨rfl,rfl⟩⟩
theorem Bld.turned{b R B k:Nat}{l:List UInt8}{W W':World}(h:Bld b R l W)(ht:zc B k W W')(hb:b<B)(hR:B+k<=R):Bld b R l W':=by
 have hlt:=h.lt
 obtain⟨p,v,hb',hp,hv⟩:=h
 refine⟨p,v,(ht.same b hlt (.inl hb)).trans hb',hp,?_⟩
 exact ht.row hv (fun g e=>.inr (by have:=(hv.lt g e).1;omega))
theorem Bld.library{b R B:Nat}{l:List UInt8}{W:World}(h:Bld b R l W)(hB:B<=b)(hR:B<=R):Lib.IsBuilderF 137 5 B b (Lib.byteCells l) W:=by
 obtain⟨p,v,hb,hp,hv⟩:=h
 have hv2:W.ownsRow B 5 1 v (Lib.byteCells l).length (Lib.byteCells l):=by
  rw[Lib.byteCells_length]
  refine⟨hv.1,?_⟩
  rcases hv.2 with hn|⟨g,cap,cur,e1,e2,rest⟩
  ·exact .inl hn
  exact .inr ⟨g,cap,cur,e1,jiv hR e2,rest⟩
 have hne:v.ownBlock≠some b:=Lib.ownBlock_ne hv hb (by decide)
 refine Lib.IsBuilderF.of ?_
 rcases hp with rfl|rfl
 ·exact .inl ⟨hB,v,hb,hv2,hne⟩
 exact .inr ⟨hB,v,hb,hv2,hne⟩
theorem ZF(b R:Nat)(l:List UInt8)(s:ByteArray)(w:World)(h:Bld b R l w)(hbR:b<R)(hR:R<=w.heap.size)(hlen:l.length+s.size<=140737488355328):
  Calls Tryz.prog 88 #[.pointer (some ⟨b,0,none⟩),.string s] w fun e w'=>e=.returned (.tuple #[.int .i64 s.size,.nilIface])/\Bld b R (l++s.data.toList) w'/\qE b R w w':=by
 obtain⟨i0,hi,hz0,hz1,hz2⟩:=info_parts Tryz.Builder_Extra_156.infoByte
 have hcopy:Calls Tryz.prog 125 #[.pointer (some ⟨b,0,none⟩)] w fun e w'=>e=.returned (.tuple #[])/\(∃v,w'.heap[b]?=some (.cells #[.pointer (some ⟨b,0,none⟩),v] 137 (0,0))/\w'.ownsRow R 5 1 v l.length (Lib.byteCells l))/\qE b R w w':=by
  obtain⟨p,v,hb,hp,hv⟩:=h
  have hlt:b<w.heap.size:=(Array.getElem?_eq_some_iff.1 hb).1
  rcases hp with rfl|rfl
  ·refine(Any.Builder_copyCheck_fresh jcn Tryz.Builder_Extra_156.toX72 b w ?_ ?_ ?_).mono ?_
   ·rw[jjR hb];rfl
   ·simp[World.shape?,hb];rfl
   ·exact Lib.frozen_of_heap hb 0
   rintro e w' ⟨rfl,rfl⟩
   refine⟨rfl,⟨v,?_,?_⟩,?_⟩
   ·simp[World.setCell,Array.getElem?_modify,hb]
   ·exact hv.kept (grownBy_setCell' w b _) (by
     cases hvb:v.ownBlock with
     | none=>exact .inl rfl
     | some g=>exact .inr (fun e=>by have:=(hv.lt g hvb).1;have:=jh9 e;omega))
   exact(qE.refl b R w).put 0 _
  refine(Any.Builder_copyCheck_used jcn Tryz.Builder_Extra_156.toX72 b w ?_).mono ?_
  ·rw[jjR hb];rfl
  rintro e w' ⟨rfl,rfl⟩
  exact⟨rfl,⟨v,hb,hv⟩,qE.refl b R _⟩
 go_enter Tryz.func88,Tryz.ntmps88
 go_wp2_with (go_at_call 125;refine hcopy.mono ?_)
 rintro e w1 ⟨rfl,⟨v,hbk,hown⟩,hw1⟩
 have c0:w1.cell? ⟨b,0,none⟩=some (.pointer (some ⟨b,0,none⟩)):=by rw[jjR hbk];rfl
 have c1:w1.cell? ⟨b,1,none⟩=some v:=by rw[jjR hbk];rfl
 go_wp2_with (at_builtin;refine Lib.wpList_append_own_string _ rfl _ _ 135 9 rfl R 5 i0 Tryz.underlying135 Tryz.underlying9 hi hz0 hz1 hz2 _ _ _ rfl hown s rfl ?c3 ?c4 ?c5 ?_)
 case c3=>unfold maxLen;omega
 case c4=>omega
 case c5=>have:=hw1.size;omega
 intro v' w2 hown' hgrow _
 have hlt:b<w1.heap.size:=(Array.getElem?_eq_some_iff.1 hbk).1
 have hrow:∀r,v.ownBlock=some r->R<=r:=fun r e=>(hown.lt r e).1
 have hb2:w2.heap[b]?=some (.cells #[.pointer (some ⟨b,0,none⟩),v] 137 (0,0)):=by
  rw[hgrow.block b hlt (fun e=>by have:=hrow b e.symm;omega)]
  exact hbk
 have d0:w2.cell? ⟨b,0,none⟩=some (.pointer (some ⟨b,0,none⟩)):=by rw[jjR hb2];rfl
 have d1:w2.cell? ⟨b,1,none⟩=some v:=by rw[jjR hb2];rfl
 have f1:w2.frozen? ⟨b,1,none⟩=false:=Lib.frozen_of_heap hb2 1
 obtain⟨ao,n',cap,rfl⟩:∃ao n' cap,v'=.slice ao n' cap:=by
  rcases hown'.2 with ⟨hv,_⟩|⟨g,cap,cur,hv,_⟩
  ·exact⟨_,_,_,hv⟩
  exact⟨_,_,_,hv⟩
 go_wp2
 go_ret2
 have hset:w2.grownBy (w2.setCell ⟨b,1,none⟩ (.slice ao n' cap)) (some b) :=
  ⟨rfl,rfl,rfl,by simp[World.setCell],fun k _ hk=>jiJ _ _ _ k (fun e=>hk (by rw[e]))⟩
 refine⟨rfl,⟨.pointer (some ⟨b,0,none⟩),.slice ao n' cap,?_,.inr rfl,?_⟩,?_⟩
 ·simp[World.setCell,Array.getElem?_modify,hb2]
 ·rw[jh7,<- jij,Lib.byteCells_append,<- Lib.strCells_eq]
  refine hown'.kept hset ?_
  cases hvb:(Value.slice ao n' cap).ownBlock with
  | none=>exact .inl rfl
  | some g=>exact .inr (fun e=>by have:=(hown'.lt g hvb).1;have:=jh9 e;omega)
 refine(hw1.grown hgrow (fun r e=>⟨hrow r e,?_⟩)).put 1 _
 rcases hown.2 with ⟨hn,_⟩|⟨g,cap,cur,hv,_,hg,_⟩
 ·rw[hn]at e;cases e
 rw[hv]at e
 cases e
 exact⟨_,_,hg⟩
def foldN:List (List UInt8×List UInt8)->Nat
 | []=>0
 | f::r=>if jR f.1 f.2=0 then foldN r else jR f.1 f.2
def zo(fs:List (List UInt8×List UInt8)):List UInt8:=fs.flatMap fun f=>jr (jO f.1 f.2)
def foldT(fs:List (List UInt8×List UInt8)):List UInt8:=if foldN fs=0 then zo fs else []
theorem GK:∀fs,foldN fs<=6
 | []=>by decide
 | f::r=>by
  unfold foldN
  split
  ·exact GK r
  unfold jR;split
  ·split<;>decide
  decide
theorem Vo{k v:List UInt8}(h:jR k v=0):ju k=true/\v.length<=1000:=by
 unfold jR at h
 split at h
 ·rename_i hg
  split at h
  ·rename_i hl;exact⟨hg,hl⟩
  cases h
 cases h
theorem jbz{k v:List UInt8}(h:jR k v=0):(jr (jO k v)).length<=4000:=by
 obtain⟨a,b⟩:=Vo h
 have c:=(vz a).2.1
 rw[yW]
 have:=Ky k v
 omega
theorem YD(fs:List (List UInt8×List UInt8))(f:List UInt8×List UInt8):zo (fs++[f])=zo fs++jr (jO f.1 f.2):=by unfold zo;simp
theorem Zg(ls:List (List UInt8))(x:List UInt8):jr (ls++[x])=(jr ls++x)++[10]:=by unfold jr;simp
theorem VY(ls:List (List UInt8))(j:Nat):(jr (ls.take j)).length<=(jr ls).length:=by
 conv=>rhs;rw[<- jiy j ls,yX,jh7]
 omega
theorem qY.wrote{w w':World}{base b R:Nat}{v:Value}{ss:List ByteArray}(h:qY w base v ss)(hw:qE b R w w'){cs:Array Value}(hb:w.heap[b]?=some (.cells cs 137 (0,0))):qY w' base v ss:=by
 refine⟨h.1,?_⟩
 rcases h.2 with hn|⟨g,cap,cur,hv,hg,hc,rest⟩
 ·exact .inl hn
 refine .inr ⟨g,cap,cur,hv,hg,hw.other hc ?_ (by decide),rest⟩
 rintro rfl
 rw[hb]at hc
 cases hc
theorem Bld.kept{b R N:Nat}{l:List UInt8}{W W':World}(h:Bld b R l W)(hb:Below N W W')(hN:W.heap.size<=N):Bld b R l W':=by
 have hlt:=h.lt
 obtain⟨p,v,hb',hp,hv⟩:=h
 exact⟨p,v,(hb.block b (by omega)).trans hb',hp,zu hv hb hN⟩
theorem Bld.cells{b R:Nat}{l:List UInt8}{W:World}(h:Bld b R l W):∃cs,W.heap[b]?=some (.cells cs 137 (0,0)):=by
 obtain⟨p,v,hb',_⟩:=h
 exact⟨_,hb'⟩
theorem KT(fs:List (List UInt8×List UInt8))(v v':Value)(w:World)(h:Wo w v fs)(h':Wo w v' fs)(hn:fs.length<=1000000):
  Calls Tryz.prog 64 #[v,v'] w fun e w'=>e=.returned (.bool true)/\∃m,w'=w.drewN m:=by
 obtain⟨A,cap,rfl,hle,hc⟩:=h
 obtain⟨A',cap',rfl,hle',hc'⟩:=h'
 have PC:=jh5 hc
 have PC':=jh5 hc'
 clear hc hc'
 go_enter Tryz.func64,Tryz.ntmps64
 go_wp2_with fail
 go_loopw [13] (fun i wr=>∃k:Nat,k<=fs.length/\i=.int .i64 k/\∃m,wr=w.drewN m) (fun i _=>fs.length-(intOf i).toNat)
 case atStart=>exact⟨0,jii _,rfl,0,rfl⟩
 case round =>
 obtain⟨k,hk,rfl,nd,hwr⟩:=hrel
 by_cases hlt:k<fs.length
 ·obtain⟨f,hf⟩:∃f,fs[k]?=some f:=⟨_,jia hlt⟩
  obtain⟨b,off,rfl,hbb,c0,c1⟩:=PC.out k f hf
  obtain⟨b',off',rfl,hbb',c0',c1'⟩:=PC'.out k f hf
  replace c0:wr.cell? ⟨b,off+k*2,none⟩=some (.string (B f.1)):=by rw[hwr];exact c0
  replace c1:wr.cell? ⟨b,off+k*2+1,none⟩=some (.string (B f.2)):=by rw[hwr];exact c1
  replace c0':wr.cell? ⟨b',off'+k*2,none⟩=some (.string (B f.1)):=by rw[hwr];exact c0'
  replace c1':wr.cell? ⟨b',off'+k*2+1,none⟩=some (.string (B f.2)):=by rw[hwr];exact c1'
  have HW:=jh5 hwr
  clear hf PC PC' hwr
  generalize B f.1=X at *
  generalize B f.2=Y at *
  go_wp2_with (go_quiet (fail))
  go_roundw
  case rel=>exact⟨k+1,hlt,by go_num,nd+_,by rw[HW.out];exact World.drewN_drewN _ _ _⟩
  case measure=>simp[intOf];omega
 obtain rfl:k=fs.length:=by omega
 clear PC PC'
 go_wp2_with fail
 go_ret
 exact⟨rfl,nd,by first | rfl | exact hwr⟩
theorem jaA{w:World}{ad:Addr}{fs:List Fld}{cap:Nat}(hc:∀(i:Nat) (f:List UInt8×List UInt8),fs[i]?=some f->∃b off,some ad=some (⟨b,off,none⟩:Addr)/\b<w.heap.size/\w.cell? ⟨b,off+i*2,none⟩=some (.string (B f.1))/\w.cell? ⟨b,off+i*2+1,none⟩=some (.string (B f.2)))(o:Obj):
  ∀(j:Nat) u,(jt fs)[j]?=some u->(w.alloc o).cell? (ad.add j)=some u:=by
 intro j u hu
 have hj:j<(jt fs).length:=by
  rcases jir j (jt fs).length with q|q
  ·exact q
  rw[jis q]at hu;cases hu
 rw[xL]at hj
 have hi2:j / 2<fs.length:=by omega
 obtain⟨f,hf⟩:∃f,fs[j / 2]?=some f:=⟨_,jia hi2⟩
 obtain⟨b,off,e,hbb,c0,c1⟩:=hc _ f hf
 obtain⟨a1,a2⟩:=Vp fs _ f hf
 cases e
 rw[WideShapes.add_plain,jj1 _ _ _ (jj2 hbb)]
 rcases Nat.mod_two_eq_zero_or_one j with h|h
 ·have ej:j=j / 2*2:=by omega
  rw[<- ej]at a1 c0
  rw[c0,<- hu,a1]
 have ej:j=j / 2*2+1:=by omega
 rw[jjL,<- ej]at c1
 rw[<- ej]at a2
 rw[c1,<- hu,a2]
theorem jha(w:World):(binOp BinOp.eql 38 (.slice none 0 0) (.slice none 0 0)).run Tryz.prog w=.ok (.bool true) w:=by kernel_rfl
theorem jgg(ad:Addr)(n c:Nat)(w:World):(binOp BinOp.eql 38 (.slice (some ad) n c) (.slice none 0 0)).run Tryz.prog w=.ok (.bool false) w:=by kernel_rfl
attribute [local go_sem] jha jgg
theorem jc0(fs:List Fld)(v:Value)(w:World)(hs:Wo w v fs)(hnil:∀n c,v=.slice none n c->c=0)(hn:fs.length<=1000000):
  Calls Tryz.prog 179 #[v] w fun e w'=>∃v',e=.returned v'/\w'.ownsRow w.heap.size 71 2 v' fs.length (jt fs)/\Below w.heap.size w w':=by
 obtain⟨A,cap,rfl,hle,hc⟩:=hs
 obtain⟨i0,hi,hz0,hz1,hz2⟩:=info_parts Va
 cases A with
 | none =>
  have he:fs=[]:=by
   cases fs with
   | nil=>rfl
   | cons a r=>obtain⟨b,off,e,_⟩:=hc 0 a rfl;cases e
  have hc0:=hnil _ _ rfl
  subst hc0
  subst he
  simp only[jiW]
  go_enter Tryz.func179,Tryz.ntmps179
  go_wp2_with fail
  go_ret
  exact⟨_,rfl,⟨rfl,.inl ⟨rfl,rfl⟩⟩,jh8 _ _⟩
 | some ad =>
 have hoN:(w.alloc (.cells #[] 71)).ownsRow w.heap.size 71 2 (.slice (some ⟨w.heap.size,0,none⟩) 0 0) 0 []:=World.ownsRow_lit w #[] 0 (jh6 _) (by decide) rfl
 have hba:=(jh8 w.heap.size w).alloc (jh6 _) (.cells #[] 71)
 have HC:=jh5 (jaA (cap:=cap) hc (.cells #[] 71))
 have hone:∀u∈jt fs,u.oneCell'=true:=by
  intro u hu
  unfold jt at hu
  simp at hu
  obtain⟨a,b,_,h|h⟩:=hu<;>subst h<;>rfl
 have HL:=xL fs
 clear hc
 generalize jt fs=cf at *
 go_enter Tryz.func179,Tryz.ntmps179
 go_wp2_with (at_builtin;refine wpList_append_own _ rfl _ _ 38 rfl w.heap.size 71 i0 _ 2 32 Tryz.underlying38 hi hz0 hz1 hz2 rfl (by decide) _ 0 [] rfl hoN ad fs.length cap cf rfl HL HC.out hone ?c3 ?c4 ?c5 ?_)
 case c3=>unfold maxLen;omega
 case c4=>omega
 case c5=>simp
 intro v' w3 hown' hgrow _
 have hb3:Below w.heap.size w w3:=hba.grown hgrow (by simp) (fun j ej=>(jje hoN j ej).1)
 go_wp2_with fail
 go_ret
 exact⟨_,rfl,hown',hb3⟩
def Qj(its:List It):List (List Fld):=(its.filter fun it=>it.kind==3).map It.fields
theorem jbU(its:List It)(k:Nat)(it:It)(h:its[k]?=some it):Qj (its.take (k+1))=Qj (its.take k)++if it.kind=3 then [it.fields] else []:=by
 unfold Qj
 rw[jiK,h]
 simp only[Option.toList_some,List.filter_append,ji1]
 congr 1
 by_cases hk:it.kind=3
 ·simp[hk]
 simp[hk]
theorem jdA(its:List It):(Qj its).length<=its.length:=by unfold Qj;rw[jiA];exact List.length_filter_le _ _
theorem jd3:(Tryz.prog.info? 38).map (fun i=>(i.zero,i.size,i.bytes))=some (some (.slice none 0 0),1,24):=by kernel_rfl
structure jbo(w wr:World)(v:Value)(vs:List Value)(rs:List (List Fld)):Prop where
 row:wr.ownsRow w.heap.size 38 1 v vs.length vs
 len:vs.length=rs.length
 each:∀(j:Nat) x r,vs[j]?=some x->rs[j]?=some r->wr.ownsRow w.heap.size 71 2 x r.length (jt r)
 below:Below w.heap.size w wr
theorem jbM{α:Type}{l:List α}{a x:α}{j:Nat}(h:(l++[a])[j]?=some x):(j<l.length/\l[j]?=some x)\/(j=l.length/\x=a):=by
 rcases jir j l.length with q|q
 ·rw[jiT q]at h;exact .inl ⟨q,h⟩
 rw[jiD q]at h
 have hz:j-l.length=0:=by
  rcases jjF (j-l.length) with z|z
  ·exact z
  rw[jis (by simp;omega)]at h;cases h
 rw[hz]at h
 cases h
 exact .inr ⟨by omega,rfl⟩
theorem jbo.start(w:World):jbo w w (.slice none 0 0) [] []:=⟨⟨rfl,.inl ⟨rfl,rfl⟩⟩,rfl,fun j x r h=>by simp at h,jh8 _ _⟩
theorem jbo.kept{w wr w2:World}{v:Value}{vs:List Value}{rs:List (List Fld)}(h:jbo w wr v vs rs)(hb:Below wr.heap.size wr w2):jbo w w2 v vs rs :=
 ⟨zu h.row hb (jh6 _),h.len,fun j x r h1 h2=>zu (h.each j x r h1 h2) hb (jh6 _),h.below.trans (hb.mono h.below.size)⟩
theorem jgH{W w3:World}{lo:Nat}{v x:Value}{n m:Nat}{xs ys:List Value}(hv:W.ownsRow lo 38 1 v n xs)(hx:W.ownsRow lo 71 2 x m ys)(hg:W.grownBy w3 v.ownBlock):w3.ownsRow lo 71 2 x m ys:=by
 refine jQ hx fun b hb=>hg.block b (hx.lt b hb).2 (fun e => ?_)
 rcases hx.2 with ⟨rfl,_⟩|⟨g,cap,cur,rfl,_,hc,_⟩
 ·cases hb
 cases hb
 rcases hv.2 with ⟨rfl,_⟩|⟨g',cap',cur',rfl,_,hc',_⟩
 ·cases e
 have:g=g':=jh9 e
 subst this
 rw[hc]at hc'
 injection hc' with hc'
 injection hc' with _ h2 _
 exact absurd h2 (by decide)
theorem jbo.snoc{w W w3:World}{v v' x:Value}{vs:List Value}{rs:List (List Fld)}{r:List Fld}(h:jbo w W v vs rs)(hx:W.ownsRow w.heap.size 71 2 x r.length (jt r))(ho:w3.ownsRow w.heap.size 38 1 v' (vs.length+1) (vs++[x]))(hg:(W.alloc (.cells #[x] 38)).grownBy w3 v.ownBlock):jbo w w3 v' (vs++[x]) (rs++[r]):=by
 have h':=h.kept ((jh8 W.heap.size W).alloc (jh6 _) (.cells #[x] 38))
 have hx':=zu hx ((jh8 W.heap.size W).alloc (jh6 _) (.cells #[x] 38)) (jh6 _)
 refine⟨by rw[jh7];exact ho,by simp[h.len],fun j y s hy hs => ?_,h'.below.grown hg h'.below.size (fun k e=>(h.row.lt k e).1)⟩
 rcases jbM hy with ⟨q,hy⟩|⟨q,rfl⟩
 ·rw[jiT (by rw[<- h.len];exact q)]at hs
  exact jgH h'.row (h'.each j y s hy hs) hg
 rw[q,h.len,jiD (jh6 _)]at hs
 simp at hs
 subst hs;exact jgH h'.row hx' hg
theorem jbt(W:World)(x:Value)(t:TypeId):∀(j:Nat) u,[x][j]?=some u->(W.alloc (.cells #[x] t)).cell? ((⟨W.heap.size,0,none⟩:Addr).add j)=some u:=zl W t [x]
theorem Qx(its:List It)(v:Value)(w:World)(h:Its w v its)(hnil:jhn w v its)(hn:its.length<=1000000)(hf:∀it∈its,it.fields.length<=1000000):
  Calls Tryz.prog 157 #[v] w fun e w'=>∃u vs,e=.returned u/\jbo w w' u vs (Qj its):=by
 obtain⟨i0,hi,hz0,hz1,hz2⟩:=info_parts jd3
 have NI:=jh5 hnil
 have HF:=jh5 hf
 obtain⟨A,cap,rfl,hle,hc⟩:=h
 have HC:=jh5 hc
 clear hc hnil hf
 go_enter Tryz.func157,Tryz.ntmps157
 go_wp2_with fail
 go_loopw [3,8] (fun u i wr=>∃(k:Nat) (vs:List Value),k<=its.length/\i=.int .i64 k/\jbo w wr u vs (Qj (its.take k))) (fun _ i _=>its.length-(intOf i).toNat)
 case atStart=>exact⟨0,[],jii _,rfl,jbo.start w⟩
 case round =>
 obtain⟨k,vs,hk,rfl,hacc⟩:=hrel
 by_cases hlt:k<its.length
 ·obtain⟨it,hit⟩:∃it,its[k]?=some it:=⟨_,jia hlt⟩
  obtain⟨b,off,fv,rfl,hbb,c0,c1,c2,hfl⟩:=HC.out k it hit
  have hb:=hacc.below
  have hlb:=hb.size
  have rl:=jdA (its.take k)
  rw[jiE]at rl
  have hvl:vs.length<=1000000:=by rw[hacc.len];omega
  obtain⟨fa,fc,rfl,_,_⟩:=id hfl
  have hnl:∀n c,Value.slice fa it.fields.length fc=.slice none n c->c=0:=fun n c e=>by
   cases e
   exact NI.out k b off _ _ _ _ rfl hlt c2
  replace c0:=(hb.cell (p:=⟨b,off+k*3,none⟩) hbb).trans c0
  replace c1:=(hb.cell (p:=⟨b,off+k*3+1,none⟩) hbb).trans c1
  replace c2:=(hb.cell (p:=⟨b,off+k*3+1+1,none⟩) hbb).trans c2
  have SN:=jh5 (jbU its k it hit)
  by_cases hk3:it.kind=3
  ·have hfw:=(hfl.below hb (jh6 _)).below ((jh8 wr.heap.size wr).alloc (jh6 _) (.cells #[.int .i64 it.kind,.string (B it.raw),.slice fa it.fields.length fc] 98)) (jh6 _)
   have CL:=jh5 (jc0 it.fields _ _ hfw hnl (HF.out it (jim hit)))
   have hba:=(jh8 wr.heap.size wr).alloc (jh6 _) (.cells #[.int .i64 it.kind,.string (B it.raw),.slice fa it.fields.length fc] 98)
   have ACC:=jh5 (hacc.kept hba)
   rw[hk3]at c0 CL ACC
   clear hacc hit hfl HC hfw hba hnl NI HF
   go_wp2_with fail
   refine CL.out.mono ?_
   rintro e w2 ⟨x,rfl,hx,b2⟩
   have acc2:=ACC.out.kept b2
   have hx2:w2.ownsRow w.heap.size 71 2 x it.fields.length (jt it.fields):=zd hx (by simp;omega)
   have hrow:=acc2.row
   have ACC2:=jh5 acc2
   have HX2:=jh5 hx2
   have hlb2:=acc2.below.size
   obtain⟨xa,xc,hxe,_⟩:=jg hx
   subst hxe
   have HV:=jh5 (jbt w2 (.slice xa it.fields.length xc) 38)
   clear acc2 CL ACC b2 hx hx2
   go_wp2_with (at_builtin;refine wpList_append_own _ rfl _ _ 193 rfl w.heap.size 38 i0 _ 1 24 Tryz.underlying193 hi hz0 hz1 hz2 rfl (by decide) _ _ _ rfl (hrow.alloc _) ⟨w2.heap.size,0,none⟩ 1 1 _ rfl rfl HV.out ?c2 ?c3 ?c4 ?c5 ?_)
   case c2=>intro u hu;simp at hu;subst hu;rfl
   case c3=>unfold maxLen;omega
   case c4=>omega
   case c5=>simp;omega
   intro v' w3 hown' hgrow _
   have hacc3:=ACC2.out.snoc HX2.out hown' hgrow
   obtain⟨g',cap',rfl⟩:=ownsRow_succ hown'
   go_wp2_with fail
   go_roundw
   case rel=>exact⟨k+1,_,hlt,by go_num,by rw[SN.out,if_pos hk3];exact hacc3⟩
   case measure=>simp[intOf];omega
  have hk2:((it.kind:Int)==3)=false:=beq_eq_false_iff_ne.2 (by omega)
  have ACC:=jh5 (hacc.kept ((jh8 wr.heap.size wr).alloc (jh6 _) (.cells #[.int .i64 it.kind,.string (B it.raw),.slice fa it.fields.length fc] 98)))
  clear hacc hit hfl HC hnl NI HF
  go_wp2_with fail
  go_roundw
  case rel=>exact⟨k+1,vs,hlt,by go_num,by rw[SN.out,if_neg hk3,jix];exact ACC.out⟩
  case measure=>simp[intOf];omega
 obtain rfl:k=its.length:=by omega
 rw[jiF]at hacc
 clear HC NI HF
 go_wp2_with fail
 go_ret
 exact⟨_,vs,rfl,hacc⟩
end Go.Proofs.YtmdhainabeljpaaGreatDoor
namespace Go.Proofs.YtmdhainabeljpaaGreatDoor
open Go.RowKit Go.Shelf
end Go.Proofs.YtmdhainabeljpaaGreatDoor
namespace Go.Proofs.YtmdhainabeljpaaGreatDoor
open Go.RowKit Go.Shelf Go.Maps Go.ChangeShapes Go.Joins Go.WideShapes
theorem jaJ {w : World} {base : Nat} {v : Value} {its : List It} {fvs : List Value} (h : w.ownsRow base 98 3 v its.length (jK its fvs)) (hl : fvs.length = its.length) (he : ∀ (j : Nat) it x, its[j]? = some it -> fvs[j]? = some x -> Wo w x it.fields) : Its w v its := by
  rcases jiY h with ⟨e, hn⟩ | ⟨g, cap, e⟩
  . have : its = [] := List.length_eq_zero_iff.1 hn
    rw [e, this]
    exact ⟨none, 0, rfl, jh6 _, fun i it hi => by simp at hi⟩
  refine ⟨some ⟨g, 0, none⟩, cap, e, (by rcases h.2 with ⟨q, _⟩ | ⟨g', cap', cur, q, _, _, q2, _⟩; · rw [e] at q; cases q
                                         rw [e] at q; cases q; exact q2), fun i it hi => ?_⟩
  have hlt : i < its.length := by
    rcases jir i its.length with q | q
    . exact q
    rw [jis q] at hi; cases hi
  obtain ⟨fv, hfv⟩ : ∃ fv, fvs[i]? = some fv := ⟨_, jia (by rw [hl]; exact hlt)⟩
  obtain ⟨a0, a1, a2⟩ := vq _ _ i it fv hi hfv
  rw [e] at h
  refine ⟨g, 0, fv, rfl, (jje h g rfl).2, ?_, ?_, ?_, he i it fv hi hfv⟩
  . rw [jiH, jin h (i * 3) (by omega)]; exact a0
  . rw [jiH, jin h (i * 3 + 1) (by omega)]; exact a1
  rw [jiH, jin h (i * 3 + 1 + 1) (by omega)]; exact a2
structure jdl(w wr:World)(v:Value)(fvs:List Value)(its:List It):Prop where
 row:wr.ownsRow w.heap.size 98 3 v its.length (jK its fvs)
 len:fvs.length=its.length
 each:∀(j:Nat) it x,its[j]?=some it->fvs[j]?=some x->wr.ownsRow w.heap.size 71 2 x it.fields.length (jt it.fields)
 below:Below w.heap.size w wr
theorem jdl.its{w wr:World}{v:Value}{fvs:List Value}{its:List It}(h:jdl w wr v fvs its):Its wr v its :=
 jaJ h.row h.len fun j it x h1 h2=>Jf (h.each j it x h1 h2)
theorem jdl.kept{w wr w2:World}{v:Value}{fvs:List Value}{its:List It}(h:jdl w wr v fvs its)(hb:Below wr.heap.size wr w2):jdl w w2 v fvs its :=
 ⟨zu h.row hb (jh6 _),h.len,fun j it x h1 h2=>zu (h.each j it x h1 h2) hb (jh6 _),h.below.trans (hb.mono h.below.size)⟩
theorem jfz{W w3:World}{lo:Nat}{v x:Value}{n m:Nat}{xs ys:List Value}(hv:W.ownsRow lo 98 3 v n xs)(hx:W.ownsRow lo 71 2 x m ys)(hg:W.grownBy w3 v.ownBlock):w3.ownsRow lo 71 2 x m ys:=by
 refine jQ hx fun b hb=>hg.block b (hx.lt b hb).2 (fun e => ?_)
 rcases hx.2 with ⟨rfl,_⟩|⟨g,cap,cur,rfl,_,hc,_⟩
 ·cases hb
 cases hb
 rcases hv.2 with ⟨rfl,_⟩|⟨g',cap',cur',rfl,_,hc',_⟩
 ·cases e
 have:g=g':=jh9 e
 subst this
 rw[hc]at hc'
 injection hc' with hc'
 injection hc' with _ h2 _
 exact absurd h2 (by decide)
theorem jdl.snoc{w W w3:World}{v v' x:Value}{fvs:List Value}{its:List It}{it:It}(h:jdl w W v fvs its)(hx:W.ownsRow w.heap.size 71 2 x it.fields.length (jt it.fields))(ho:w3.ownsRow w.heap.size 98 3 v' (its.length+1) (jK its fvs++[.int .i64 it.kind,.string (B it.raw),x]))(o:Obj)(hg:(W.alloc o).grownBy w3 v.ownBlock):jdl w w3 v' (fvs++[x]) (its++[it]):=by
 have h':=h.kept ((jh8 W.heap.size W).alloc (jh6 _) o)
 have hx':=zu hx ((jh8 W.heap.size W).alloc (jh6 _) o) (jh6 _)
 refine⟨by rw[jh7,vJ _ _ _ _ h.len];exact ho,by simp[h.len],fun j y s hy hs => ?_,h'.below.grown hg h'.below.size (fun k e=>(h.row.lt k e).1)⟩
 rcases jbM hy with ⟨q,hy⟩|⟨q,rfl⟩
 ·rw[jiT (by rw[h.len];exact q)]at hs
  exact jfz h'.row (h'.each j y s hy hs) hg
 rw[q,<- h.len,jiD (jh6 _)]at hs
 simp at hs
 subst hs;exact jfz h'.row hx' hg
end Go.Proofs.YtmdhainabeljpaaGreatDoor
namespace Go.Proofs.YtmdhainabeljpaaGreatDoor
open Go.RowKit Go.Shelf
end Go.Proofs.YtmdhainabeljpaaGreatDoor
