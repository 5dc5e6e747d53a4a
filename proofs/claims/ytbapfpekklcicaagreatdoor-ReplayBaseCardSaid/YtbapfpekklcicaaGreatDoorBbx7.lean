/- Texts put together:PJ,PK,FK,BU,FN,GB,PN,PW,PX,PY,GD,PZ,TF,FO. -/
import Derived.Lib.FrozenHead
import Derived.Laws.AppendOwnNone
import Derived.Test.YtbapfpekklcicaaGreatDoorBbx6
set_option linter.unusedVariables false
set_option maxRecDepth 100000
set_option maxHeartbeats 16000000
namespace Go.Proofs.YtbapfpekklcicaaGreatDoor
open Go.RowKit Go.Shelf Tryz
abbrev jof:=@List.setIfInBounds_toArray
abbrev joT:=@List.set_cons_zero
abbrev joU:=@List.set_cons_succ
abbrev jo8:=@List.filter_append
abbrev jpz:=@List.mem_append_left
abbrev jpV:=@Go.Lib.cell_of_heap
abbrev jqt:=@List.length_filter_le
abbrev jqy:=@Option.map_some
section
attribute [local go_sem] jn9 qS
def Its(w:World)(v:Value)(its:List It):Prop :=
 ∃A cap,v=.slice A its.length cap/\its.length<=cap/\∀(i:Nat) (it:It),its[i]?=some it->∃b off fv,A=some ⟨b,off,none⟩/\b<w.heap.size /\
  w.cell? ⟨b,off+i*3,none⟩=some (.int .i64 it.kind)/\w.cell? ⟨b,off+i*3+1,none⟩=some (.string (B it.raw))/\w.cell? ⟨b,off+i*3+1+1,none⟩=some fv/\vK w fv it.fields
theorem jG.its {w : World} {T : Nat -> Nat} {R b : Nat} {text : ByteArray} {p : PS} {V : PV} (h : jG w T R b text p V) : Its w V.v3 p.items := by
  rcases joQ h.r3 with ⟨e, hn⟩ | ⟨g, cap, e⟩
  . have : p.items = [] := List.length_eq_zero_iff.1 hn
    rw [e, this]
    exact ⟨none, 0, rfl, jnT _, fun i it hi => by simp at hi⟩
  refine ⟨some ⟨g, 0, none⟩, cap, e, (by rcases h.r3.2 with ⟨q, _⟩ | ⟨g', cap', cur, q, _, _, q2, _⟩; · rw [e] at q; cases q
                                         rw [e] at q; cases q; exact q2), fun i it hi => ?_⟩
  have hlt : i < p.items.length := by
    rcases joo i p.items.length with q | q
    . exact q
    rw [jon q] at hi; cases hi
  obtain ⟨fv, hfv⟩ : ∃ fv, V.fvs[i]? = some fv := ⟨_, jnW (by rw [h.nf]; exact hlt)⟩
  obtain ⟨a0, a1, a2⟩ := vd _ _ i it fv hi hfv
  have hr := h.r3
  rw [e] at hr
  refine ⟨g, 0, fv, rfl, (joV hr g rfl).2, ?_, ?_, ?_, xw (h.rf i it fv hi hfv).1⟩
  . rw [jov, job hr (i * 3) (by omega)]; exact a0
  . rw [jov, job hr (i * 3 + 1) (by omega)]; exact a1
  rw [jov, job hr (i * 3 + 1 + 1) (by omega)]; exact a2
def jmV(w:World)(v:Value)(its:List It):Prop:=∀(i:Nat) (b off:Nat) (n cap m c:Nat),v=.slice (some ⟨b,off,none⟩) n cap->i<its.length->w.cell? ⟨b,off+i*3+1+1,none⟩=some (.slice none m c)->c=0
theorem jG.nil{w:World}{T:Nat->Nat}{R b:Nat}{text:ByteArray}{p:PS}{V:PV}(h:jG w T R b text p V):jmV w V.v3 p.items:=by
 intro i b u n v m c e d a;obtain⟨k,s⟩:∃k,p.items[i]?=some k:=⟨_,jnW d⟩
 obtain⟨o,j⟩:∃o,V.fvs[i]?=some o:=⟨_,jnW (by rw[h.nf];exact d)⟩
 obtain⟨_,_,a2⟩:=vd _ _ i k o s j;have l:=h.r3
 rcases joQ l with ⟨r,y⟩|⟨g,f,r⟩
 ·omega
 rw[r]at e l;cases e;rw[jov,job l (i*3+1+1) (by omega),a2]at a;cases a;rcases(h.rf i k _ s j).1.2 with ⟨q,_⟩|⟨x,f,t,q,_⟩
 ·cases q;rfl
 cases q
def Qm(w:World)(text:List UInt8)(e:Ending)(w':World):Prop :=
 Below w.heap.size w w'/\match jv text with
  | .error (a,n)=>∃v,e=.returned (.tuple #[.slice none 0 0,v])/\jz w.heap.size w' v a n
  | .ok its=>∃v,e=.returned (.tuple #[v,.nilIface])/\Its w' v its/\jmV w' v its
theorem Qm.no{w w':World}{text:List UInt8}{v:Value}{a n:Nat}(h:jv text=.error (a,n))(b:Below w.heap.size w w')(c:jz w.heap.size w' v a n):Qm w text (.returned (.tuple #[.slice none 0 0,v])) w' :=
 ⟨b,by rw[h];exact⟨v,rfl,c⟩⟩
theorem Qm.yes{w w':World}{text:List UInt8}{v:Value}{its:List It}(h:jv text=.ok its)(a:Below w.heap.size w w')(b:Its w' v its/\jmV w' v its):Qm w text (.returned (.tuple #[v,.nilIface])) w' :=
 ⟨a,by rw[h];exact⟨v,rfl,b⟩⟩
theorem Ul{Q:Ending->World->Prop}(w W:World)(v e:Value)(tmps:Array Value)(f:Out w W v e)(g:v.oneCell'=true)(k:e.oneCell'=true)(b:W.heap[w.heap.size+4]?=some (.deferred (some [])))(i:tmps[2]?=some (.pointer (some ⟨w.heap.size,0,none⟩)))(t3:tmps[3]?=some (.pointer (some ⟨w.heap.size+1,0,none⟩)))
  (m:Below w.heap.size w (W.putObj (w.heap.size+4) (.deferred none))->Q (.returned (.tuple #[v,e])) (W.putObj (w.heap.size+4) (.deferred none))) :
  bodyPostM Fence.wide 9 prog Tryz.f49 Q .ret {tmps:=tmps,defers:=[{target:=.collected (w.heap.size+4),args:=#[]}]} W:=by
 obtain⟨c,d,j⟩:=f;have a:=grownBy_putObj' W (w.heap.size+4) (.deferred none)
 have l:jd (W.putObj (w.heap.size+4) (.deferred none)) w.heap.size 92 #[v]:=(a.block _ c.lt (fun e=>by have:=jnY e;omega)).trans c;have h:jd (W.putObj (w.heap.size+4) (.deferred none)) (w.heap.size+1) 32 #[e]:=(a.block _ d.lt (fun e=>by have:=jnY e;omega)).trans d
 have c4:(W.putObj (w.heap.size+4) (.deferred none)).cell? ⟨w.heap.size,0,none⟩=some v:=l.cell 0;have c5:(W.putObj (w.heap.size+4) (.deferred none)).cell? ⟨w.heap.size+1,0,none⟩=some e:=h.cell 0
 refine⟨by simp,.inl ⟨_,_,rfl,run_takeDeferred b,?_⟩⟩;exact⟨.tuple #[v,e],by simp[results,Tryz.f49,go_sem,i,t3,c4,c5],m (j.trans (belowK_b (w:=w) (jnT _) W _ _ _ (by omega) b rfl rfl))⟩
theorem xl:∀(n b a:Nat) (l:List UInt8),l.length<=n->∀x∈jP b a l,1<=x.bytes.length
 | 0,_,_,l,h,x,hx=>by have:l=[]:=List.length_eq_zero_iff.1 (by omega);subst this;rw[jq]at hx;cases hx
 | n+1,b,a,l,h,x,hx=>by
  by_cases hl:l=[]
  ·subst hl;rw[jq]at hx;cases hx
  have c:=qJ l hl;rw[jx _ _ _ hl]at hx;rcases List.mem_cons.1 hx with rfl|hx
  ·have:(Ln.bytes ⟨b,a,head l,nl l⟩).length=qF l:=by unfold Ln.bytes qF;simp only[jnU];split<;>rfl
   omega
  exact xl n _ _ _ (by simp only[jn6];omega) x hx
theorem jdE:∀(a:List Ln),(∀x∈a,1<=x.bytes.length)->a.length<=(a.flatMap Ln.bytes).length
 | [],_=>jnT _
 | x::a,h=>by
  have c:=jdE a (fun y b=>h y (jn4 _ b));have:=h x jn5
  rw[joc,jnU,jn1];omega
theorem YP(s:ByteArray)(hs:s.size<=60000)(w:World):
  Calls prog 49 #[.string s] w fun e w'=>Qm w s.data.toList e w':=by
 obtain⟨xs,z⟩:∃xs,jf s.data.toList=xs:=⟨_,rfl⟩
 have Z:=jnS z;have g:=fun f x i (e:xs=f++x::i)=>qR s.data.toList f x i (z.trans e)
 have ar:=jnS g;have hj:(xs.flatMap Ln.bytes)=s.data.toList:=by rw[<- z];exact jJ _
 have ai:(xs.flatMap Ln.bytes).length=s.size:=by rw[hj,<- joa]
 have ag:=jnS ai;have Q:∀x∈xs,1<=x.bytes.length:=by rw[<- z];exact xl _ 0 0 _ (jnT _)
 have ae:=jnS Q;clear z g ai hj Q;refine callsIn_wide (n:=9).1 ?_;refine callsIn_of_wp_marks func49 rfl trivial ?_ rfl;simp only[ntmps49,joY,jn1,joz,Nat.reduceAdd,Nat.reduceSub,joZ,jo0,jo6,jo1,joL,jog];gi_wp2_with fail;refine⟨trivial,(callsIn_wide.2 (yF s _)).mono ?_⟩;rintro e w3 ⟨rfl,rfl⟩;gi_wp2_with fail;have k7:=jhn w (.cells #[.slice none 0 0] 92) (.cells #[.nilIface] 32) (.cells #[.int .i64 0,.slice none 0 0,.string s,.slice none 0 0,.int .i64 0,.int .i64 0,.slice none 0 0] 162) 9 (.string s)
 have HH:=vp s (w.heap.size+3) _ k7 (by omega);rw[Z.out]at HH;have n0:=jG.new ((w.alloc (.cells #[.slice none 0 0] 92)).alloc (.cells #[.nilIface] 32)) s (w.heap.size+2) (by simp)
 rw[joe,joe]at n0;change jG _ (fun k=>if k=w.heap.size+2 then 1 else 0) _ (w.heap.size+2) _ _ _ at n0;have o0:Out w ((((w.alloc (.cells #[.slice none 0 0] 92)).alloc (.cells #[.nilIface] 32)).alloc (.cells #[.int .i64 0,.slice none 0 0,.string s,.slice none 0 0,.int .i64 0,.int .i64 0,.slice none 0 0] 162)).alloc (.cells #[.string s] 9)) (.slice none 0 0) .nilIface:=by have I:=jd.new (w.alloc (.cells #[.slice none 0 0] 92)) 32 #[.nilIface];rw[joe]at I;exact⟨(((jd.new w _ _).alloc _).alloc _).alloc _,(I.alloc _).alloc _,((((jnV _ w).alloc (jnT _) _).alloc (by simp) _).alloc (by simp;omega) _).alloc (by simp;omega) _⟩
 have ah:jjP w s [] ((((w.alloc (.cells #[.slice none 0 0] 92)).alloc (.cells #[.nilIface] 32)).alloc (.cells #[.int .i64 0,.slice none 0 0,.string s,.slice none 0 0,.int .i64 0,.int .i64 0,.slice none 0 0] 162)).alloc (.cells #[.string s] 9)) :=
  ⟨o0,_,PS.new,rfl,Inv.new,jH.below ⟨_,n0⟩ ((jnV _ _).alloc (jnT _) _),fun k I h2=>if_neg (by omega)⟩
 have E:((((w.alloc (.cells #[.slice none 0 0] 92)).alloc (.cells #[.nilIface] 32)).alloc (.cells #[.int .i64 0,.slice none 0 0,.string s,.slice none 0 0,.int .i64 0,.int .i64 0,.slice none 0 0] 162)).alloc (.cells #[.string s] 9)).heap.size=w.heap.size+4:=by simp
 refine ya (gf:=139) (lb:=#[.pointer (some ⟨w.heap.size+3,0,none⟩)]) rfl (enters_of func139 (by kernel_rfl) rfl) HH (fun _=>rfl)
  (jjP w s) (jm4 w s) (by rw[E];exact fun f W W' h t=>h.turned t (by omega) (by omega)) (fun c f W W' h t=>h.turned t (by rw[E];omega) (by rw[E];omega)) ah
  (fun a f x a' W=>∃C,w.heap.size+9<=C/\a'={tmps:=(a.tmps.setIfInBounds 16 (.agg (qg x))).setIfInBounds 5 (.pointer (some ⟨C,0,none⟩)),defers:=[]}/\jd W C 157 (qg x)/\jjP w s f W)
  ?hM ?assign ?body ?done ?stop
 case hM =>
  rw[E];rintro a f x a' _ W W' ⟨C,I,h2,h3,h4⟩ t;exact⟨C,I,h2,(t.same C h3.lt (.inr (by omega))).trans h3,h4.turned t (by omega) (by omega)⟩
 case assign =>
  rw[E];intro l f x i W hx aa o;clear hx;dsimp only[qg];gi_wp2;exact⟨(vX.refl _ _ W).alloc aa _,W.heap.size,by omega,rfl,jd.new _ _ _,o.alloc _⟩
 case body =>
  rw[E];rintro l f x i a' W hx aa ⟨C,hB,rfl,U,j,T,p,m,o,hp,hT⟩;obtain⟨aj,g⟩:=ar.out f x i hx;rw[<- g]at o;have L:=ag.out
  rw[hx,jow,joc,jnU,jnU,<- g]at L;have Y:=jdE f (fun y hy=>ae.out y (by rw[hx];exact jpz _ hy))
  rw[<- aj,<- g]at Y;have hR:w.heap.size+2<=W.heap.size:=by omega
  have TK:=take_any hp hR x o (by omega) hs Y;have HR:=jnS m
  have R:=jnS o;have HX:=jnS (show x.at_=(f.flatMap Ln.bytes).length from g)
  clear hx m o g L aj;simp only[jof,joT,joU,qg]at U ⊢;have q0:W.cell? ⟨C,0,none⟩=some (.int .i64 x.no):=U.cell 0
  have q1:W.cell? ⟨C,1,none⟩=some (.int .i64 x.at_):=U.cell 1;have q2:W.cell? ⟨C,2,none⟩=some (.string ⟨x.text.toArray⟩):=U.cell 2
  have q3:W.cell? ⟨C,3,none⟩=some (.bool x.ended):=U.cell 3;have N:∀u,jI (fun r=>T r≠0) W u->vX (w.heap.size+4) 5 W u:=fun u ho=>⟨ho.size,fun r I h2=>ho.same r (by omega) (fun hn=>hn (hT r (by omega) (by omega)))⟩
  have J:∀r,T r≠0->w.heap.size+2<=r:=fun r m=>by obtain⟨V,hv⟩:=hp;exact(hv.low r m).1
  gi_wp2_with fail;refine⟨trivial,((callsIn_wide.2 TK).inRound l).mono ?_⟩;rintro e u t;unfold JL at t;cases A:zo s.data.toList p x with
  | error an =>
   obtain⟨a,n⟩:=an;rw[A]at t;obtain⟨v,rfl,hf,ho⟩:=t;have X:=jao HR.out A
   obtain⟨q,hq,rfl,G⟩:=hf;have d:=j.only ho J
   have c2:u.cell? ⟨w.heap.size,0,none⟩=some (.slice none 0 0):=d.1.cell 0;have f2:=d.1.frozen 0
   have c3:u.cell? ⟨w.heap.size+1,0,none⟩=some .nilIface:=d.2.1.cell 0;have f3:=d.2.1.frozen 0
   have D:=N u ho;clear TK j U;gi_wp2;refine⟨(D.setCell (.inl (by show w.heap.size<_;omega)) _).setCell (.inl (by show w.heap.size+1<_;omega)) _,rfl,a,n,_,X,d.set _ _,q,by omega,rfl,?_⟩;exact jd.other (jd.other G (by show q≠w.heap.size;omega) _) (by show q≠w.heap.size+1;omega) _
  | ok p' =>
  rw[A]at t;obtain⟨rfl,T',ap,D⟩:=t;have X:=jfI HR.out A
  obtain⟨aq,_⟩:=Inv.take R.out Y A;clear TK U;gi_wp2;refine⟨N u D.only,j.only D.only J,T',p',X,?_,ap,fun r I h2=>(D.old r (by omega)).2 (hT r I h2)⟩;rw[jow,jnU,<- HX.out];simpa using aq
 case done =>
  rw[E];rintro W ⟨j,T,p,m,o,hp,hT⟩ b;have zW:w.heap.size+4<W.heap.size:=(Array.getElem?_eq_some_iff.1 b).1
  rw[ag.out]at o;have J:∀r,T r≠0->w.heap.size+2<=r:=fun r m=>by obtain⟨V,hv⟩:=hp;exact(hv.low r m).1
  have EF:=VM hp (by omega) (by have:=o.said;omega) (by have:=o.fields;omega);have PL:Hid (jv s.data.toList=ZM s.data.toList p):=by show _=_;unfold jv;rw[Z.out,m]
  have R:=jnS o.endField;have h4:T (w.heap.size+4)=0:=hT _ (by omega) (by omega)
  clear m o hp;gi_wp2_with fail;refine⟨trivial,(callsIn_wide.2 EF).mono ?_⟩;rintro e u hE;unfold qB at hE;by_cases h0:ji p=0
  ·rw[if_pos h0]at hE;obtain⟨rfl,T1,g1,s1⟩:=hE;have d:=j.only s1.only J
   have a7:=(s1.only.same _ zW (fun e=>e h4)).trans b;have ak:=(s1.old _ zW).2 h4
   have am:∀r,T1 r≠0->w.heap.size+2<=r:=fun r m=>by obtain⟨V,hv⟩:=g1;exact(hv.low r m).1
   have ax:=s1.only.size;have e0:=Zp p
   have g:=R.out.at_;have EB:=VO g1 (by omega) s.size g (jnT _) (by omega) (by have:=R.out.items;omega) (by have:=R.out.stanzas;omega)
   have l1:=g1.lt;have PY:Hid (jv s.data.toList=.ok (jk s.data.toList (ja p) s.size).items):=by show _=_;rw[PL.out];unfold ZM;rw[if_neg (by simpa using h0),<- joa]
   clear EF j b R PL g1;gi_wp2_with fail;refine⟨trivial,(callsIn_wide.2 EB).mono ?_⟩;rintro e W2 ⟨rfl,T2,⟨V2,P⟩,s2⟩;have H:=d.only s2.only am
   have au:=(s2.only.same _ (by omega) (fun e=>e ak)).trans a7;obtain⟨a3,c3,e3,_⟩:=je P.r3;have O:=P.its
   have q3:W2.cell? ⟨w.heap.size+1+1,3,none⟩=some (.slice a3 (jk s.data.toList (ja p) s.size).items.length c3):=by rw[<- e3];exact P.cells.cell 3
   have l2:=P.lt;have c2:W2.cell? ⟨w.heap.size,0,none⟩=some (.slice none 0 0):=H.1.cell 0
   have f2:=H.1.frozen 0;have aw:W2.cell? ⟨w.heap.size+1,0,none⟩=some .nilIface:=H.2.1.cell 0
   have f3:=H.2.1.frozen 0;rw[e3]at O;have av:T2 (w.heap.size+4)=0:=(s2.old _ (by omega)).2 ak
   have HG:=jnS (fun W' (hs:∀k,T2 k≠0->W'.heap[k]?=W2.heap[k]?) E=>And.intro (P.same (w':=W') hs E).its (P.same (w':=W') hs E).nil);have a8:∀r,T2 r≠0->w.heap.size+2<=r:=fun r m=>(P.low r m).1
   rw[e3]at HG;clear EB O P;gi_wp2;refine Ul w _ (.slice a3 (jk s.data.toList (ja p) s.size).items.length c3) .nilIface _ (H.set _ _) rfl rfl ?_ rfl rfl fun hb=>.yes PY.out hb (HG.out _ ?_ ?_)
   ·exact(joF _ _ _ _ (by show w.heap.size+4≠w.heap.size+1;omega)).trans ((joF _ _ _ _ (by show w.heap.size+4≠w.heap.size;omega)).trans au)
   ·intro k hk;have I:=a8 k hk
    rw[jo4 (by rintro rfl;exact hk av)];exact(joF _ _ _ _ (by show k≠w.heap.size+1;omega)).trans (joF _ _ _ _ (by show k≠w.heap.size;omega))
   simp[World.setCell]
  rw[if_neg h0]at hE;obtain⟨v,rfl,⟨q,hq,rfl,G⟩,K⟩:=hE;have d:Out w u (.slice none 0 0) .nilIface:=⟨j.1.below K j.1.lt,j.2.1.below K j.2.1.lt,j.2.2.trans (K.mono j.2.2.size)⟩
  have a7:=(K.block _ zW).trans b;have c2:u.cell? ⟨w.heap.size,0,none⟩=some (.slice none 0 0):=d.1.cell 0
  have f2:=d.1.frozen 0;have aw:u.cell? ⟨w.heap.size+1,0,none⟩=some .nilIface:=d.2.1.cell 0
  have f3:=d.2.1.frozen 0;have PN:Hid (jv s.data.toList=.error (p.begin_,ji p)):=by show _=_;rw[PL.out];unfold ZM;rw[if_pos h0]
  clear EF j b R PL;gi_wp2;refine Ul w _ (.slice none 0 0) (.iface 87 (.pointer (some ⟨q,0,none⟩))) _ (d.set _ _) rfl rfl ?_ rfl rfl fun hb=>.no PN.out hb ⟨q,by omega,rfl,?_⟩
  ·exact(joF _ _ _ _ (by show w.heap.size+4≠w.heap.size+1;omega)).trans ((joF _ _ _ _ (by show w.heap.size+4≠w.heap.size;omega)).trans a7)
  exact(jo4 (by omega)).trans (jd.other (jd.other G (by show q≠w.heap.size;omega) _) (by show q≠w.heap.size+1;omega) _)
 case stop =>
 rw[E];rintro c f W af ⟨rfl,a,n,v,m,j,⟨q,hq,rfl,G⟩⟩ b;have PN:Hid (jv s.data.toList=.error (a,n)):=by show _=_;unfold jv;rw[Z.out,jfH m af]
 gi_wp2;refine Ul w _ (.slice none 0 0) (.iface 87 (.pointer (some ⟨q,0,none⟩))) _ j rfl rfl b rfl rfl fun hb=>.no PN.out hb ⟨q,by omega,rfl,?_⟩;exact(jo4 (by omega)).trans G
end
section
theorem je3(q:Option Addr)(w:World):(Instr.typeAssert (.iface 87 (.pointer q)) 32 54 true).run prog w=.ok (.tuple #[.int .i64 0,.bool false]) w:=by kernel_rfl
theorem jbp(q:Option Addr)(w:World):(Instr.typeAssert (.iface 87 (.pointer q)) 32 87 true).run prog w=.ok (.tuple #[.pointer q,.bool true]) w:=by kernel_rfl
theorem jbq(n:Int)(w:World):(Instr.typeAssert (.iface 54 (.int .i64 n)) 32 87 true).run prog w=.ok (.tuple #[.pointer none,.bool false]) w:=by kernel_rfl
theorem jbr(w:World):(Instr.typeAssert .nilIface 32 87 true).run prog w=.ok (.tuple #[.pointer none,.bool false]) w:=by kernel_rfl
theorem je2(n:Int)(w:World):(Instr.typeAssert (.iface 54 (.int .i64 n)) 32 54 true).run prog w=.ok (.tuple #[.int .i64 n,.bool true]) w:=by kernel_rfl
attribute [local go_sem] qS je3 jbp jbq jbr je2
end
section
theorem Yt{ls:List (List UInt8)}(h:jt ls=0):ze (jU ls) (jT ls)=0/\(jU ls).length<=32/\(jT ls).length<=1000:=by
 cases b:GA ls with
 | false=>rw[(xQ b).1]at h;cases h
 | true =>
 by_cases hl:(qE ls).length<=1000
 ·obtain⟨a,r,rfl,c,_⟩:=Qt b;obtain⟨_,e,f⟩:=Qo b hl;have d:jF (before a)=true:=(jk4 c).2.2
  rw[e,f];exact⟨by unfold ze;rw[d,if_pos rfl,if_pos hl],(yb d).2.1,hl⟩
 rw[(JX b hl).1]at h;cases h
attribute [local go_sem] qS
end
section
theorem jgl:Lays.n240 prog Tryz.lays156_ren:={Tryz.lays156 with}
def Bld(b R:Nat)(l:List UInt8)(W:World):Prop :=
 ∃p v,W.heap[b]?=some (.cells #[p,v] 191 (0,0))/\(p=.pointer none\/p=.pointer (some ⟨b,0,none⟩))/\W.ownsRow R 5 1 v l.length (Lib.byteCells l)
structure qX(b R:Nat)(W W':World):Prop where
 os:W'.os=W.os
 tape:W'.tape=W.tape
 output:W'.output=W.output
 size:W.heap.size<=W'.heap.size
 same:∀r,r<R->r<W.heap.size->r≠b->W'.heap[r]?=W.heap[r]?
 others:Lib.OthersKept 5 (some b) W W'
theorem qX.refl(b R:Nat)(W:World):qX b R W W:=⟨rfl,rfl,rfl,jnT _,fun _ _ _ _=>rfl,Lib.OthersKept.refl _ _ _⟩
theorem qX.trans{b R:Nat}{X Y Z:World}(h:qX b R X Y)(g:qX b R Y Z):qX b R X Z :=
 ⟨g.os.trans h.os,g.tape.trans h.tape,g.output.trans h.output,jop h.size g.size,fun r a c e=>(g.same r a (jod c h.size) e).trans (h.same r a c e),h.others.trans g.others⟩
theorem qX.grown{b R:Nat}{X Y Z:World}(h:qX b R X Y){f:Option Nat}(d:Y.grownBy Z f)(i:∀r,f=some r->R<=r/\∃c k,Y.heap[r]?=some (.cells c 5 k)):qX b R X Z :=
 h.trans ⟨d.os,d.tape,d.output,d.size,fun r a c e=>d.block r c (fun j=>by have:=(i r j.symm).1;omega),(Lib.OthersKept.refl _ _ _).grown d (fun g e=>(i g e).2)⟩
theorem qX.put{b R:Nat}{X Y:World}(h:qX b R X Y)(j:Nat)(u:Value):qX b R X (Y.setCell ⟨b,j,none⟩ u) :=
 h.trans ⟨rfl,rfl,rfl,by simp[World.setCell],fun r _ _ e=>joF _ _ _ _ e,Lib.OthersKept.setCell (b:=b) (Lib.OthersKept.refl _ _ Y) ⟨b,j,none⟩ rfl u⟩
theorem qX.other{b R c:Nat}{X Y:World}{d:Array Value}{t:TypeId}(h:qX b R X Y)(g:X.heap[c]?=some (.cells d t (0,0)))(a:c≠b)(f:t≠5):Y.heap[c]?=some (.cells d t (0,0)) :=
 h.others c _ g (fun e=>a (jnY e)) (fun i j e=>f (by injection e))
theorem qX.alloc{b R:Nat}{X Y:World}(h:qX b R X Y)(o:Obj):qX b R X (Y.alloc o) :=
 h.grown (World.grownBy_alloc Y o none) (fun r e=>by cases e)
theorem qX.below{b R n:Nat}{X Y:World}(h:qX b R X Y)(c:n<=b)(e:n<=R)(d:n<=X.heap.size):Below n X Y :=
 ⟨h.os,h.tape,h.output,h.size,fun r a=>h.same r (by omega) (by omega) (by omega)⟩
theorem qX.stay{b R B k:Nat}{X Y:World}(h:qX b R X Y)(d:b<B)(f:B+k<=R)(e:B+k<=X.heap.size):vX B k X Y :=
 ⟨h.size,fun r a c=>h.same r (by omega) (by omega) (by omega)⟩
theorem qX.box{b R c:Nat}{X Y:World}{t:TypeId}{v:Value}(h:qX b R X Y)(d:Boxed X c t v)(e:c<R)(a:c≠b):Boxed Y c t v :=
 (h.same c e d.lt a).trans d
theorem Bld.lt{b R:Nat}{l:List UInt8}{W:World}(h:Bld b R l W):b<W.heap.size:=by obtain⟨p,v,a,_⟩:=h;exact(Array.getElem?_eq_some_iff.1 a).1
theorem Bld.alloc{b R:Nat}{l:List UInt8}{W:World}(h:Bld b R l W)(o:Obj):Bld b R l (W.alloc o):=by have a:=h.lt;obtain⟨p,v,d,c,e⟩:=h;exact⟨p,v,(jpI _ _ _ a).trans d,c,e.alloc _⟩
theorem Bld.new(w:World)(R:Nat):Bld w.heap.size R [] (w.alloc (.cells #[.pointer none,.slice none 0 0] 191)) :=
 ⟨_,_,jqx w _,.inl rfl,by simp[Lib.byteCells],.inl ⟨rfl,rfl⟩⟩
theorem Bld.turned{b R B k:Nat}{l:List UInt8}{W i:World}(h:Bld b R l W)(d:zm B k W i)(m:b<B)(n:B+k<=R):Bld b R l i:=by have a:=h.lt;obtain⟨p,v,c,j,f⟩:=h;refine⟨p,v,(d.same b a (.inl m)).trans c,j,?_⟩;exact d.row f (fun g e=>.inr (by have:=(f.lt g e).1;omega))
theorem Bld.library{b R B:Nat}{l:List UInt8}{W:World}(h:Bld b R l W)(k:B<=b)(q:B<=R):Lib.IsBuilderF 191 5 B b (Lib.byteCells l) W:=by
 obtain⟨p,v,j,n,i⟩:=h;have a:W.ownsRow B 5 1 v (Lib.byteCells l).length (Lib.byteCells l):=by
  rw[Lib.byteCells_length];refine⟨i.1,?_⟩;rcases i.2 with r|⟨g,f,e,m,o,c⟩
  ·exact .inl r
  exact .inr ⟨g,f,e,m,jop q o,c⟩
 have d:v.ownBlock≠some b:=Lib.ownBlock_ne i j (by decide);refine Lib.IsBuilderF.of ?_;rcases n with rfl|rfl
 ·exact .inl ⟨k,v,j,a,d⟩
 exact .inr ⟨k,v,j,a,d⟩
theorem Vj(b R:Nat)(l:List UInt8)(s:ByteArray)(w:World)(h:Bld b R l w)(P:b<R)(hR:R<=w.heap.size)(K:l.length+s.size<=140737488355328):
  Calls prog 119 #[.pointer (some ⟨b,0,none⟩),.string s] w fun e n=>e=.returned (.tuple #[.int .i64 s.size,.nilIface])/\Bld b R (l++s.data.toList) n/\qX b R w n:=by
 obtain⟨Q,W,I,G,J⟩:=info_parts Tryz.Builder_Extra_156.infoByte;have q:Calls prog 165 #[.pointer (some ⟨b,0,none⟩)] w fun e n=>e=.returned (.tuple #[])/\(∃v,n.heap[b]?=some (.cells #[.pointer (some ⟨b,0,none⟩),v] 191 (0,0))/\n.ownsRow R 5 1 v l.length (Lib.byteCells l))/\qX b R w n:=by
  obtain⟨p,v,t,O,j⟩:=h;have z:b<w.heap.size:=(Array.getElem?_eq_some_iff.1 t).1
  rcases O with rfl|rfl
  ·refine(Any.Builder_copyCheck_fresh jgl Tryz.Builder_Extra_156.toX72 b w ?_ ?_ ?_).mono ?_
   ·rw[jpV t];rfl
   ·simp[World.shape?,t];rfl
   ·exact Lib.frozen_of_heap t 0
   rintro e n ⟨rfl,rfl⟩;refine⟨rfl,⟨v,?_,?_⟩,?_⟩
   ·simp[World.setCell,Array.getElem?_modify,t]
   ·exact j.kept (grownBy_setCell' w b _) (by
     cases u:v.ownBlock with
     | none=>exact .inl rfl
     | some g=>exact .inr (fun e=>by have:=(j.lt g u).1;have:=jnY e;omega))
   exact(qX.refl b R w).put 0 _
  refine(Any.Builder_copyCheck_used jgl Tryz.Builder_Extra_156.toX72 b w ?_).mono ?_
  ·rw[jpV t];rfl
  rintro e n ⟨rfl,rfl⟩;exact⟨rfl,⟨v,t,j⟩,qX.refl b R _⟩
 go_enter func119,ntmps119;go_wp2_with (go_at_call 165;refine q.mono ?_);rintro e H ⟨rfl,⟨v,i,f⟩,D⟩;have c0:H.cell? ⟨b,0,none⟩=some (.pointer (some ⟨b,0,none⟩)):=by rw[jpV i];rfl
 have Z:H.cell? ⟨b,1,none⟩=some v:=by rw[jpV i];rfl
 go_wp2_with (at_builtin;refine Lib.wpList_append_own_string _ rfl _ _ 189 9 rfl R 5 Q underlying189 underlying9 W I G J _ _ _ rfl f s rfl ?c3 ?c4 ?c5 ?_)
 case c3=>unfold maxLen;omega
 case c4=>omega
 case c5=>have:=D.size;omega
 intro L x c d _;have z:b<H.heap.size:=(Array.getElem?_eq_some_iff.1 i).1
 have o:∀r,v.ownBlock=some r->R<=r:=fun r e=>(f.lt r e).1;have m:x.heap[b]?=some (.cells #[.pointer (some ⟨b,0,none⟩),v] 191 (0,0)):=by rw[d.block b z (fun e=>by have:=o b e.symm;omega)];exact i
 have X:x.cell? ⟨b,0,none⟩=some (.pointer (some ⟨b,0,none⟩)):=by rw[jpV m];rfl
 have Y:x.cell? ⟨b,1,none⟩=some v:=by rw[jpV m];rfl
 have f1:x.frozen? ⟨b,1,none⟩=false:=Lib.frozen_of_heap m 1;obtain⟨C,y,a,rfl⟩:∃C y a,L=.slice C y a:=by
  rcases c.2 with ⟨j,_⟩|⟨g,a,E,j,_⟩
  ·exact⟨_,_,_,j⟩
  exact⟨_,_,_,j⟩
 go_wp2;go_ret2;have A:x.grownBy (x.setCell ⟨b,1,none⟩ (.slice C y a)) (some b) :=
  ⟨rfl,rfl,rfl,by simp[World.setCell],fun k _ V=>joF _ _ _ k (fun e=>V (by rw[e]))⟩
 refine⟨rfl,⟨.pointer (some ⟨b,0,none⟩),.slice C y a,?_,.inr rfl,?_⟩,?_⟩
 ·simp[World.setCell,Array.getElem?_modify,m]
 ·rw[jnU,<- joa,Lib.byteCells_append,<- Lib.strCells_eq];refine c.kept A ?_;cases u:(Value.slice C y a).ownBlock with
  | none=>exact .inl rfl
  | some g=>exact .inr (fun e=>by have:=(c.lt g u).1;have:=jnY e;omega)
 refine(D.grown d (fun r e=>⟨o r e,?_⟩)).put 1 _;rcases f.2 with ⟨U,_⟩|⟨g,a,E,j,_,N,_⟩
 ·rw[U]at e;cases e
 rw[j]at e;cases e;exact⟨_,_,N⟩
def foldN:List (List UInt8×List UInt8)->Nat
 | []=>0
 | f::r=>if ze f.1 f.2=0 then foldN r else ze f.1 f.2
def jM(fs:List (List UInt8×List UInt8)):List UInt8:=fs.flatMap fun f=>jp (jW f.1 f.2)
def foldT(fs:List (List UInt8×List UInt8)):List UInt8:=if foldN fs=0 then jM fs else []
theorem jdr:∀a,foldN a<=6
 | []=>by decide
 | f::r=>by
  unfold foldN;split
  ·exact jdr r
  unfold ze;split
  ·split<;>decide
  decide
theorem XB{k v:List UInt8}(h:ze k v=0):jF k=true/\v.length<=1000:=by
 unfold ze at h;split at h
 ·rename_i a;split at h
  ·rename_i hl;exact⟨a,hl⟩
  cases h
 cases h
theorem jfq{k v:List UInt8}(h:ze k v=0):(jp (jW k v)).length<=4000:=by
 obtain⟨a,b⟩:=XB h;have c:=(yb a).2.1
 rw[xR];have:=jaJ k v
 omega
theorem Wk(fs:List (List UInt8×List UInt8))(f:List UInt8×List UInt8):jM (fs++[f])=jM fs++jp (jW f.1 f.2):=by unfold jM;simp
theorem Qq(ls:List (List UInt8))(x:List UInt8):jp (ls++[x])=(jp ls++x)++[10]:=by unfold jp;simp
theorem Ko(ls:List (List UInt8))(j:Nat):(jp (ls.take j)).length<=(jp ls).length:=by
 conv=>rhs;rw[<- joj j ls,xS,jnU]
 omega
theorem ym.wrote{w w':World}{base b R:Nat}{v:Value}{f:List ByteArray}(h:ym w base v f)(k:qX b R w w'){l:Array Value}(n:w.heap[b]?=some (.cells l 191 (0,0))):ym w' base v f:=by
 refine⟨h.1,?_⟩;rcases h.2 with m|⟨g,d,c,j,i,e,a⟩
 ·exact .inl m
 refine .inr ⟨g,d,c,j,i,k.other e ?_ (by decide),a⟩;rintro rfl;rw[n]at e;cases e
theorem Bld.kept{b R N:Nat}{l:List UInt8}{W d:World}(h:Bld b R l W)(c:Below N W d)(i:W.heap.size<=N):Bld b R l d:=by have f:=h.lt;obtain⟨p,v,a,e,g⟩:=h;exact⟨p,v,(c.block b (by omega)).trans a,e,zf g c i⟩
theorem Bld.cells{b R:Nat}{l:List UInt8}{W:World}(h:Bld b R l W):∃c,W.heap[b]?=some (.cells c 191 (0,0)):=by obtain⟨p,v,a,_⟩:=h;exact⟨_,a⟩
theorem jea{w:World}{m:Addr}{fs:List Fld}{cap:Nat}(s:∀(i:Nat) (f:List UInt8×List UInt8),fs[i]?=some f->∃b a,some m=some (⟨b,a,none⟩:Addr)/\b<w.heap.size/\w.cell? ⟨b,a+i*2,none⟩=some (.string (B f.1))/\w.cell? ⟨b,a+i*2+1,none⟩=some (.string (B f.2)))(o:Obj):
  ∀(j:Nat) u,(jA fs)[j]?=some u->(w.alloc o).cell? (m.add j)=some u:=by
 intro j u d;have r:j<(jA fs).length:=by
  rcases joo j (jA fs).length with q|q
  ·exact q
  rw[jon q]at d;cases d
 rw[JG]at r;have k:j / 2<fs.length:=by omega
 obtain⟨f,l⟩:∃f,fs[j / 2]?=some f:=⟨_,jnW k⟩
 obtain⟨b,a,e,g,p,n⟩:=s _ f l;obtain⟨a1,a2⟩:=XE fs _ f l;cases e;rw[WideShapes.add_plain,jp5 _ _ _ (jp6 g)];rcases Nat.mod_two_eq_zero_or_one j with h|h
 ·have c:j=j / 2*2:=by omega
  rw[<- c]at a1 p;rw[p,<- d,a1]
 have c:j=j / 2*2+1:=by omega
 rw[jpC,<- c]at n;rw[<- c]at a2;rw[n,<- d,a2]
theorem jmD(w:World):(binOp BinOp.eql 73 (.slice none 0 0) (.slice none 0 0)).run prog w=.ok (.bool true) w:=by kernel_rfl
theorem jlu(a:Addr)(n c:Nat)(w:World):(binOp BinOp.eql 73 (.slice (some a) n c) (.slice none 0 0)).run prog w=.ok (.bool false) w:=by kernel_rfl
attribute [local go_sem] jmD jlu
theorem Xz(fs:List Fld)(v:Value)(w:World)(K:vK w v fs)(i:∀n c,v=.slice none n c->c=0)(Q:fs.length<=1000000):
  Calls prog 78 #[v] w fun e z=>∃l,e=.returned l/\z.ownsRow w.heap.size 148 2 l fs.length (jA fs)/\Below w.heap.size w z:=by
 obtain⟨A,cap,rfl,C,t⟩:=K;obtain⟨J,L,p,o,x⟩:=info_parts Xg;cases A with
 | none =>
  have O:fs=[]:=by
   cases fs with
   | nil=>rfl
   | cons a r=>obtain⟨b,G,e,_⟩:=t 0 a rfl;cases e
  have m:=i _ _ rfl;subst m;subst O;simp only[joz];go_enter func78,ntmps78;go_wp2_with fail;go_ret;exact⟨_,rfl,⟨rfl,.inl ⟨rfl,rfl⟩⟩,jnV _ _⟩
 | some E =>
 have g:(w.alloc (.cells #[] 148)).ownsRow w.heap.size 148 2 (.slice (some ⟨w.heap.size,0,none⟩) 0 0) 0 []:=World.ownsRow_lit w #[] 0 (jnT _) (by decide) rfl;have s:=(jnV w.heap.size w).alloc (jnT _) (.cells #[] 148)
 have D:=jnS (jea (cap:=cap) t (.cells #[] 148));have k:∀u∈jA fs,u.oneCell'=true:=by intro u y;unfold jA at y;simp at y;obtain⟨a,b,_,h|h⟩:=y<;>subst h<;>rfl
 have P:=JG fs;clear t;generalize jA fs=N at *
 go_enter func78,ntmps78;go_wp2_with (at_builtin;refine wpList_append_own _ rfl _ _ 73 rfl w.heap.size 148 J _ 2 32 underlying73 L p o x rfl (by decide) _ 0 [] rfl g E fs.length cap N rfl P D.out k ?c3 ?c4 ?c5 ?_)
 case c3=>unfold maxLen;omega
 case c4=>omega
 case c5=>simp
 intro l H f d _;have q:Below w.heap.size w H:=s.grown d (by simp) (fun j I=>(joV g j I).1)
 go_wp2_with fail;go_ret;exact⟨_,rfl,f,q⟩
def Yb(its:List It):List (List Fld):=(its.filter fun it=>it.kind==3).map It.fields
theorem jfO(its:List It)(k:Nat)(it:It)(h:its[k]?=some it):Yb (its.take (k+1))=Yb (its.take k)++if it.kind=3 then [it.fields] else []:=by
 unfold Yb;rw[jor,h];simp only[Option.toList_some,jo8,joB];congr 1;by_cases a:it.kind=3
 ·simp[a]
 simp[a]
theorem jid(its:List It):(Yb its).length<=its.length:=by unfold Yb;rw[joi];exact jqt _ _
theorem jiN:(prog.info? 73).map (fun i=>(i.zero,i.size,i.bytes))=some (some (.slice none 0 0),1,24):=by kernel_rfl
structure jfe(w wr:World)(v:Value)(vs:List Value)(rs:List (List Fld)):Prop where
 row:wr.ownsRow w.heap.size 73 1 v vs.length vs
 len:vs.length=rs.length
 each:∀(j:Nat) x r,vs[j]?=some x->rs[j]?=some r->wr.ownsRow w.heap.size 148 2 x r.length (jA r)
 below:Below w.heap.size w wr
theorem jbH{b:Type}{l:List b}{a x:b}{j:Nat}(h:(l++[a])[j]?=some x):(j<l.length/\l[j]?=some x)\/(j=l.length/\x=a):=by
 rcases joo j l.length with q|q
 ·rw[joq q]at h;exact .inl ⟨q,h⟩
 rw[joh q]at h;have c:j-l.length=0:=by
  rcases jpK (j-l.length) with z|z
  ·exact z
  rw[jon (by simp;omega)]at h;cases h
 rw[c]at h;cases h;exact .inr ⟨by omega,rfl⟩
theorem jfe.start(w:World):jfe w w (.slice none 0 0) [] []:=⟨⟨rfl,.inl ⟨rfl,rfl⟩⟩,rfl,fun j x r h=>by simp at h,jnV _ _⟩
theorem jfe.kept{w b w2:World}{v:Value}{c:List Value}{d:List (List Fld)}(h:jfe w b v c d)(a:Below b.heap.size b w2):jfe w w2 v c d :=
 ⟨zf h.row a (jnT _),h.len,fun j x r f e=>zf (h.each j x r f e) a (jnT _),h.below.trans (a.mono h.below.size)⟩
theorem jl7{W f:World}{lo:Nat}{v x:Value}{n m:Nat}{xs h:List Value}(q:W.ownsRow lo 73 1 v n xs)(hx:W.ownsRow lo 148 2 x m h)(l:W.grownBy f v.ownBlock):f.ownsRow lo 148 2 x m h:=by
 refine zc hx fun b c=>l.block b (hx.lt b c).2 (fun e => ?_);rcases hx.2 with ⟨rfl,_⟩|⟨g,o,j,rfl,_,r,_⟩
 ·cases c
 cases c;rcases q.2 with ⟨rfl,_⟩|⟨p,d,i,rfl,_,a,_⟩
 ·cases e
 have:g=p:=jnY e;subst this;rw[r]at a;injection a with a;injection a with _ k _;exact absurd k (by decide)
theorem jfe.snoc{w W f:World}{v l x:Value}{c:List Value}{m:List (List Fld)}{r:List Fld}(h:jfe w W v c m)(hx:W.ownsRow w.heap.size 148 2 x r.length (jA r))(n:f.ownsRow w.heap.size 73 1 l (c.length+1) (c++[x]))(d:(W.alloc (.cells #[x] 73)).grownBy f v.ownBlock):jfe w f l (c++[x]) (m++[r]):=by
 have a:=h.kept ((jnV W.heap.size W).alloc (jnT _) (.cells #[x] 73));have i:=zf hx ((jnV W.heap.size W).alloc (jnT _) (.cells #[x] 73)) (jnT _)
 refine⟨by rw[jnU];exact n,by simp[h.len],fun j y s g b => ?_,a.below.grown d a.below.size (fun k e=>(h.row.lt k e).1)⟩;rcases jbH g with ⟨q,g⟩|⟨q,rfl⟩
 ·rw[joq (by rw[<- h.len];exact q)]at b;exact jl7 a.row (a.each j y s g b) d
 rw[q,h.len,joh (jnT _)]at b;simp at b;subst b;exact jl7 a.row i d
theorem jfl(W:World)(x:Value)(t:TypeId):∀(j:Nat) u,[x][j]?=some u->(W.alloc (.cells #[x] t)).cell? ((⟨W.heap.size,0,none⟩:Addr).add j)=some u:=jC W t [x]
theorem Yy(its:List It)(v:Value)(w:World)(h:Its w v its)(hnil:jmV w v its)(hn:its.length<=1000000)(hf:∀it∈its,it.fields.length<=1000000):
  Calls prog 233 #[v] w fun e w'=>∃u vs,e=.returned u/\jfe w w' u vs (Yb its):=by
 obtain⟨i0,hi,hz0,hz1,hz2⟩:=info_parts jiN
 have NI:=jnS hnil
 have HF:=jnS hf
 obtain⟨A,cap,rfl,hle,hc⟩:=h
 have HC:=jnS hc
 clear hc hnil hf
 go_enter func233,ntmps233
 go_wp2_with fail
 go_loopw [3,8] (fun u i wr=>∃(k:Nat) (vs:List Value),k<=its.length/\i=.int .i64 k/\jfe w wr u vs (Yb (its.take k))) (fun _ i _=>its.length-(intOf i).toNat)
 case atStart=>exact⟨0,[],jn3 _,rfl,jfe.start w⟩
 case round =>
 obtain⟨k,vs,hk,rfl,hacc⟩:=hrel
 by_cases hlt:k<its.length
 ·obtain⟨it,hit⟩:∃it,its[k]?=some it:=⟨_,jnW hlt⟩
  obtain⟨b,off,fv,rfl,hbb,c0,c1,c2,hfl⟩:=HC.out k it hit
  have hb:=hacc.below
  have hlb:=hb.size
  have rl:=jid (its.take k)
  rw[jn2]at rl
  have hvl:vs.length<=1000000:=by rw[hacc.len];omega
  obtain⟨fa,fc,rfl,_,_⟩:=id hfl
  have hnl:∀n c,Value.slice fa it.fields.length fc=.slice none n c->c=0:=fun n c e=>by
   cases e
   exact NI.out k b off _ _ _ _ rfl hlt c2
  replace c0:=(hb.cell (p:=⟨b,off+k*3,none⟩) hbb).trans c0
  replace c1:=(hb.cell (p:=⟨b,off+k*3+1,none⟩) hbb).trans c1
  replace c2:=(hb.cell (p:=⟨b,off+k*3+1+1,none⟩) hbb).trans c2
  have SN:=jnS (jfO its k it hit)
  by_cases hk3:it.kind=3
  ·have hfw:=(hfl.below hb (jnT _)).below ((jnV wr.heap.size wr).alloc (jnT _) (.cells #[.int .i64 it.kind,.string (B it.raw),.slice fa it.fields.length fc] 107)) (jnT _)
   have CL:=jnS (Xz it.fields _ _ hfw hnl (HF.out it (jn7 hit)))
   have hba:=(jnV wr.heap.size wr).alloc (jnT _) (.cells #[.int .i64 it.kind,.string (B it.raw),.slice fa it.fields.length fc] 107)
   have ACC:=jnS (hacc.kept hba)
   rw[hk3]at c0 CL ACC
   clear hacc hit hfl HC hfw hba hnl NI HF
   go_wp2_with fail
   refine CL.out.mono ?_
   rintro e w2 ⟨x,rfl,hx,b2⟩
   have acc2:=ACC.out.kept b2
   have hx2:w2.ownsRow w.heap.size 148 2 x it.fields.length (jA it.fields):=jE hx (by simp;omega)
   have hrow:=acc2.row
   have ACC2:=jnS acc2
   have HX2:=jnS hx2
   have hlb2:=acc2.below.size
   obtain⟨xa,xc,hxe,_⟩:=je hx
   subst hxe
   have HV:=jnS (jfl w2 (.slice xa it.fields.length xc) 73)
   clear acc2 CL ACC b2 hx hx2
   go_wp2_with (at_builtin;refine wpList_append_own _ rfl _ _ 289 rfl w.heap.size 73 i0 _ 1 24 underlying289 hi hz0 hz1 hz2 rfl (by decide) _ _ _ rfl (hrow.alloc _) ⟨w2.heap.size,0,none⟩ 1 1 _ rfl rfl HV.out ?c2 ?c3 ?c4 ?c5 ?_)
   case c2=>intro u hu;simp at hu;subst hu;rfl
   case c3=>unfold maxLen;omega
   case c4=>omega
   case c5=>simp;omega
   intro v' w3 hown' hgrow _
   have hacc3:=ACC2.out.snoc HX2.out hown' hgrow
   obtain⟨g',cap',rfl⟩:=ownsRow_succ hown'
   go_wp2_with fail
   go_roundw
   case rel=>exact⟨k+1,_,hlt,by go_num,by rw[SN.out,if_pos hk3];exact hacc3⟩
   case measure=>simp[intOf];omega
  have hk2:((it.kind:Int)==3)=false:=beq_eq_false_iff_ne.2 (by omega)
  have ACC:=jnS (hacc.kept ((jnV wr.heap.size wr).alloc (jnT _) (.cells #[.int .i64 it.kind,.string (B it.raw),.slice fa it.fields.length fc] 107)))
  clear hacc hit hfl HC hnl NI HF
  go_wp2_with fail
  go_roundw
  case rel=>exact⟨k+1,vs,hlt,by go_num,by rw[SN.out,if_neg hk3,jok];exact ACC.out⟩
  case measure=>simp[intOf];omega
 obtain rfl:k=its.length:=by omega
 rw[jom]at hacc
 clear HC NI HF
 go_wp2_with fail
 go_ret
 exact⟨_,vs,rfl,hacc⟩
end
section
open Go.Maps Go.ChangeShapes Go.Joins Go.WideShapes
theorem jep {w : World} {base : Nat} {v : Value} {its : List It} {fvs : List Value} (h : w.ownsRow base 107 3 v its.length (jV its fvs)) (hl : fvs.length = its.length) (he : ∀ (j : Nat) it x, its[j]? = some it -> fvs[j]? = some x -> vK w x it.fields) : Its w v its := by
  rcases joQ h with ⟨e, hn⟩ | ⟨g, cap, e⟩
  . have : its = [] := List.length_eq_zero_iff.1 hn
    rw [e, this]
    exact ⟨none, 0, rfl, jnT _, fun i it hi => by simp at hi⟩
  refine ⟨some ⟨g, 0, none⟩, cap, e, (by rcases h.2 with ⟨q, _⟩ | ⟨g', cap', cur, q, _, _, q2, _⟩; · rw [e] at q; cases q
                                         rw [e] at q; cases q; exact q2), fun i it hi => ?_⟩
  have hlt : i < its.length := by
    rcases joo i its.length with q | q
    . exact q
    rw [jon q] at hi; cases hi
  obtain ⟨fv, hfv⟩ : ∃ fv, fvs[i]? = some fv := ⟨_, jnW (by rw [hl]; exact hlt)⟩
  obtain ⟨a0, a1, a2⟩ := vd _ _ i it fv hi hfv
  rw [e] at h
  refine ⟨g, 0, fv, rfl, (joV h g rfl).2, ?_, ?_, ?_, he i it fv hi hfv⟩
  . rw [jov, job h (i * 3) (by omega)]; exact a0
  . rw [jov, job h (i * 3 + 1) (by omega)]; exact a1
  rw [jov, job h (i * 3 + 1 + 1) (by omega)]; exact a2
structure jhM(w wr:World)(v:Value)(fvs:List Value)(its:List It):Prop where
 row:wr.ownsRow w.heap.size 107 3 v its.length (jV its fvs)
 len:fvs.length=its.length
 each:∀(j:Nat) it x,its[j]?=some it->fvs[j]?=some x->wr.ownsRow w.heap.size 148 2 x it.fields.length (jA it.fields)
 below:Below w.heap.size w wr
theorem jhM.its{w a:World}{v:Value}{fvs:List Value}{its:List It}(h:jhM w a v fvs its):Its a v its :=
 jep h.row h.len fun j d x c b=>xw (h.each j d x c b)
theorem jhM.kept{w b w2:World}{v:Value}{fvs:List Value}{its:List It}(h:jhM w b v fvs its)(a:Below b.heap.size b w2):jhM w w2 v fvs its :=
 ⟨zf h.row a (jnT _),h.len,fun j e x d c=>zf (h.each j e x d c) a (jnT _),h.below.trans (a.mono h.below.size)⟩
theorem jkK{W f:World}{lo:Nat}{v x:Value}{n m:Nat}{xs h:List Value}(q:W.ownsRow lo 107 3 v n xs)(hx:W.ownsRow lo 148 2 x m h)(l:W.grownBy f v.ownBlock):f.ownsRow lo 148 2 x m h:=by
 refine zc hx fun b c=>l.block b (hx.lt b c).2 (fun e => ?_);rcases hx.2 with ⟨rfl,_⟩|⟨g,o,j,rfl,_,r,_⟩
 ·cases c
 cases c;rcases q.2 with ⟨rfl,_⟩|⟨p,d,i,rfl,_,a,_⟩
 ·cases e
 have:g=p:=jnY e;subst this;rw[r]at a;injection a with a;injection a with _ k _;exact absurd k (by decide)
theorem jhM.snoc{w W d:World}{v i x:Value}{fvs:List Value}{its:List It}{it:It}(h:jhM w W v fvs its)(hx:W.ownsRow w.heap.size 148 2 x it.fields.length (jA it.fields))(l:d.ownsRow w.heap.size 107 3 i (its.length+1) (jV its fvs++[.int .i64 it.kind,.string (B it.raw),x]))(o:Obj)(c:(W.alloc o).grownBy d v.ownBlock):jhM w d i (fvs++[x]) (its++[it]):=by
 have a:=h.kept ((jnV W.heap.size W).alloc (jnT _) o);have g:=zf hx ((jnV W.heap.size W).alloc (jnT _) o) (jnT _)
 refine⟨by rw[jnU,yh _ _ _ _ h.len];exact l,by simp[h.len],fun j y s f b => ?_,a.below.grown c a.below.size (fun k e=>(h.row.lt k e).1)⟩;rcases jbH f with ⟨q,f⟩|⟨q,rfl⟩
 ·rw[joq (by rw[h.len];exact q)]at b;exact jkK a.row (a.each j y s f b) c
 rw[q,<- h.len,joh (jnT _)]at b;simp at b;subst b;exact jkK a.row g c
end
section
attribute [local go_sem] qS
theorem jdq(fs:List (List UInt8×List UInt8))(v:Value)(w:World)(hs:vK w v fs)(hn:fs.length<=1000)(hl:∀f∈fs,f.1.length<=100000/\f.2.length<=100000):
  Calls prog 121 #[v] w fun e w'=>e=.returned (.tuple #[.string (B (foldT fs)),Zv (foldN fs)])/\Below w.heap.size w w':=by
 obtain⟨A,cap,rfl,hle,hc⟩:=hs
 have PC:=jnS hc
 clear hc
 have B0:=Bld.new w (w.heap.size+1)
 go_enter func121,ntmps121
 go_wp2_with fail
 go_loopw [13] (fun i wr=>∃k:Nat,k<=fs.length/\i=.int .i64 k/\foldN fs=foldN (fs.drop k)/\Bld w.heap.size (w.heap.size+1) (jM (fs.take k)) wr/\(jM (fs.take k)).length<=4000*k/\Below w.heap.size w wr) (fun i _=>fs.length-(intOf i).toNat)
 case atStart=>exact⟨0,jn3 _,rfl,rfl,B0,jnT _,(jnV _ _).alloc (jnT _) _⟩
 case round =>
 obtain⟨k,hk,rfl,hN,hbl,hle4,hb⟩:=hrel
 by_cases hlt:k<fs.length
 ·obtain⟨f,hf⟩:∃f,fs[k]?=some f:=⟨_,jnW hlt⟩
  obtain⟨b,off,rfl,hbb,c0,c1⟩:=PC.out k f hf
  replace c0:=(hb.cell (p:=⟨b,off+k*2,none⟩) hbb).trans c0
  replace c1:=(hb.cell (p:=⟨b,off+k*2+1,none⟩) hbb).trans c1
  obtain⟨hl1,hl2⟩:=hl f (jn7 hf)
  have hdrop:fs.drop k=f::fs.drop (k+1):=by
   rw[jou hlt]
   rw[jnW hlt]at hf
   rw[jnY hf]
  have htake:fs.take (k+1)=fs.take k++[f]:=by rw[jor,hf];rfl
  rw[hdrop]at hN
  have NH:=jnS hN
  have TH:=jnS htake
  have hs1:=hb.size
  have hbs:=hbl.lt
  have HB:=jnS (hbl.alloc (.cells #[.string (B f.1),.string (B f.2)] 148))
  have hba:=hb.alloc hs1 (.cells #[.string (B f.1),.string (B f.2)] 148)
  by_cases hck:ze f.1 f.2=0
  ·have LG:=fun w=>jf8 f.1 f.2 hl1 hl2 w hck
   clear hdrop htake hN hf
   unfold zC at LG
   go_wp2_with fail
   refine(LG _).mono ?_
   rintro e w2 ⟨sv,base,rfl,hown,b2⟩
   have hb2:=hba.trans (b2.mono (by simp;omega))
   have hbl2:=HB.out.kept b2 (jnT _)
   have htl:=jfq hck
   have hm1:1<=(jW f.1 f.2).length:=by rw[Wc];omega
   have hm2:(jW f.1 f.2).length<=4000:=by rw[xR]at htl;omega
   have G1:Hid (jM (fs.take (k+1))=jM (fs.take k)++jp (jW f.1 f.2)):=by
    show _=_
    rw[TH.out,Wk]
   have G2:Hid (foldN fs=foldN (fs.drop (k+1))):=by
    show _=_
    rw[NH.out];show(if ze f.1 f.2=0 then foldN (fs.drop (k+1)) else _)=_;rw[if_pos hck]
   clear HB b2 hba LG hbl hb c0 c1 TH NH hck
   obtain⟨g,cap',rfl⟩:=joW hown (by simp;omega)
   rw[joi]at hown ⊢
   generalize jW f.1 f.2=ls at *
   generalize jM (fs.take k)=pre at *
   go_wp2_with fail
   go_loopw [27] (fun i wq=>∃j:Nat,j<=ls.length/\i=.int .i64 j/\Bld w.heap.size (w.heap.size+1) (pre++jp (ls.take j)) wq/\wq.ownsRow base 9 1 (.slice (some ⟨g,0,none⟩) ls.length cap') ls.length ((ls.map B).map Value.string)/\Below w.heap.size w wq) (fun i _=>ls.length-(intOf i).toNat)
   case atStart=>exact⟨0,jn3 _,rfl,by simpa [jp]using hbl2,by simpa [ym]using hown,hb2⟩
   case round =>
   obtain⟨j,hj,rfl,hblj,hownj,hbj⟩:=hrel
   have hsj:=hbj.size
   by_cases hjl:j<ls.length
   ·obtain⟨x,hx⟩:∃x,ls[j]?=some x:=⟨_,jnW hjl⟩
    have hcx:=hownj.cellAt j (by omega)
    rw[joI,joI,hx]at hcx
    simp only[jqy]at hcx
    have T1:Hid (jp (ls.take (j+1))=(jp (ls.take j)++x)++[10]):=by
     show _=_
     rw[jor,hx];exact Qq _ _
    have t1:=Ko ls (j+1)
    rw[T1.out,jnU,jnU]at t1
    simp only[joN]at t1
    have hlj:=hblj.lt
    clear hx
    go_wp2_with fail
    refine(Vj w.heap.size (w.heap.size+1) _ (B x) wr hblj (by omega) (by omega) (by rw[jg,jnU];omega)).mono ?_
    rintro e w5 ⟨rfl,hbl5,hw5⟩
    obtain⟨cs,hcs⟩:=hblj.cells
    have hownS:ym wr base (.slice (some ⟨g,0,none⟩) ls.length cap') (ls.map B):=by unfold ym;rw[joi];exact hownj
    have hown5:=hownS.wrote hw5 hcs
    have hb5:=hbj.trans (hw5.below (jnT _) (by omega) hsj)
    rw[jj]at hbl5
    have hs5:=hb5.size
    have hl5:=hbl5.lt
    clear hw5 hownS hownj hblj hcs hbj hcx
    go_wp2_with fail
    refine(Vj w.heap.size (w.heap.size+1) _ ⟨#[10]⟩ w5 hbl5 (by omega) (by omega) (by simp only[jnU];show _+1<=_;omega)).mono ?_
    rintro e w6 ⟨rfl,hbl6,hw6⟩
    obtain⟨cs,hcs⟩:=hbl5.cells
    have hown6:=hown5.wrote hw6 hcs
    have hb6:=hb5.trans (hw6.below (jnT _) (by omega) hs5)
    clear hw6 hown5 hbl5 hcs hb5
    go_wp2_with fail
    go_roundw
    case rel =>
     refine⟨j+1,hjl,by go_num,?_,?_,hb6⟩
     ·rw[T1.out,<- jn8,<- jn8];exact hbl6
     unfold ym at hown6;rw[joi]at hown6;exact hown6
    case measure=>simp[intOf];omega
   obtain rfl:j=ls.length:=by omega
   rw[jom]at hblj
   go_wp2_with fail
   go_roundw
   case rel =>
    refine⟨k+1,hlt,by go_num,G2.out,by rw[G1.out];exact hblj,?_,hbj⟩
    rw[G1.out,jnU];omega
   case measure=>simp[intOf];omega
  have LB:=fun w=>jf9 f.1 f.2 hl1 hl2 w hck
  have hfn:foldN fs=ze f.1 f.2:=by rw[NH.out];unfold foldN;rw[if_neg hck]
  have hft:foldT fs=[]:=by unfold foldT;rw[hfn,if_neg hck]
  rw[zn _ (jpy hck)]at LB
  have hev:Zv (foldN fs)=.iface 54 (.int .i64 (ze f.1 f.2:Int)):=by rw[hfn,zn _ (jpy hck)]
  have FTH:=jnS hft
  have FNH:=jnS hev
  clear hdrop htake hN hf hfn hft NH hck hev
  generalize ze f.1 f.2=cn at *
  unfold zC at LB
  go_wp2_with fail
  refine(LB _).mono ?_
  rintro e w2 ⟨rfl,b2⟩
  have hb2:=hba.trans (b2.mono (by simp;omega))
  clear b2 LB
  go_wp2_with fail
  go_ret2
  exact⟨by rw[FNH.out,FTH.out];rfl,hb2⟩
 obtain rfl:k=fs.length:=by omega
 rw[jom]at hbl
 rw[jpc]at hN
 have h0:foldN fs=0:=hN
 have hft:foldT fs=jM fs:=by unfold foldT;rw[if_pos h0]
 have FTH:=jnS hft
 have FNH:=jnS h0
 have hbs:=hbl.lt
 clear hN h0 hft PC hle4
 go_wp2_with fail
 refine(Tryz.Builder_String_any_k w.heap.size w.heap.size _ wr (hbl.library (jnT _) (by omega)) (by omega)).mono ?_
 rintro e w5 ⟨rfl,_,b5,_⟩
 go_wp2_with fail
 go_ret2
 exact⟨by rw[FTH.out,FNH.out];rfl,hb.trans b5⟩
end
end Go.Proofs.YtbapfpekklcicaaGreatDoor
