/- Texts put together:PI,PJ,PK,FK,BU,FN,GB,PN,PW,PX,PY,GD. -/
import Derived.Lib.FrozenHead
import Derived.Laws.AppendOwnNone
import Derived.Test.YtbapfpekklcicaaGreatDoorBtx6
set_option linter.unusedVariables false
set_option maxRecDepth 100000
set_option maxHeartbeats 16000000
namespace Go.Proofs.YtbapfpekklcicaaGreatDoor
open Go.RowKit Go.Shelf Tryz
abbrev jo3:=@List.setIfInBounds_toArray
abbrev jpF:=@List.set_cons_zero
abbrev jpG:=@List.set_cons_succ
abbrev jqq:=@List.mem_append_left
abbrev jqN:=@Go.Lib.cell_of_heap
abbrev jqS:=@List.filter_append
section
attribute [local go_sem] qN jbj
theorem take_any{w:World}{T:Nat->Nat}{R b:Nat}{text:ByteArray}{p:PS}(h:jK w T R b text p)(c:R<=w.heap.size)(x:Ln)(f:Inv p x.at_)(hx:x.at_+x.bytes.length<=text.size)(j:text.size<=60000)(a:x.no<=x.at_):
  Calls prog 83 #[.pointer (some ⟨b,0,none⟩),.agg #[.int .i64 x.no,.int .i64 x.at_,.string (B x.text),.bool x.ended]] w fun e i=>JT w T R b text p x e i:=by
 cases d:vl p x with
 | true =>
  have g:x.text.length<=x.bytes.length:=by unfold Ln.bytes;simp
  exact jkW h c x f (by omega) a d
 | false =>
 exact jiy h c x f hx (by omega) a d
def Out(w W:World)(v e:Value):Prop :=
 ja W w.heap.size 92 #[v]/\ja W (w.heap.size+1) 32 #[e]/\Below w.heap.size w W
def jkl(w:World)(text:ByteArray)(pre:List Ln)(W:World):Prop :=
 Out w W (.slice none 0 0) .nilIface/\∃T p,qU text.data.toList PS.new pre=.ok p/\Inv p (pre.flatMap Ln.bytes).length/\jK W T (w.heap.size+2) (w.heap.size+2) text p/\∀k,w.heap.size+3<=k->k<w.heap.size+9->T k=0
def jnN(w:World)(text:ByteArray)(c:Code)(pre:List Ln)(W:World):Prop :=
 c=.ret/\∃a n v,qU text.data.toList PS.new pre=.error (a,n)/\Out w W (.slice none 0 0) v/\jB (w.heap.size+9) W v a n
theorem Out.turned{w W b:World}{v e:Value}{B k:Nat}(h:Out w W v e)(a:zn B k W b)(c:w.heap.size+2<=B):Out w b v e :=
 ⟨(a.same _ h.1.lt (.inl (by omega))).trans h.1,(a.same _ h.2.1.lt (.inl (by omega))).trans h.2.1,h.2.2.trans (a.below (by omega) h.2.2.size)⟩
theorem Out.alloc{w W:World}{v e:Value}(h:Out w W v e)(o:Obj):Out w (W.alloc o) v e:=⟨h.1.alloc o,h.2.1.alloc o,h.2.2.alloc h.2.2.size o⟩
theorem Out.only{w W b:World}{v e:Value}{S:Nat->Prop}(h:Out w W v e)(g:jH S W b)(a:∀r,S r->w.heap.size+2<=r):Out w b v e :=
 ⟨h.1.only g (fun s=>by have:=a _ s;omega),h.2.1.only g (fun s=>by have:=a _ s;omega),h.2.2.trans (g.to_below h.2.2.size (fun r c s=>by have:=a _ s;omega))⟩
theorem Out.set{w W:World}{v e:Value}(h:Out w W v e)(a b:Value):Out w ((W.setCell ⟨w.heap.size,0,none⟩ a).setCell ⟨w.heap.size+1,0,none⟩ b) a b:=by obtain⟨c,d,f⟩:=h;exact⟨ja.other (c.set 0 a) (by simp) _,ja.set (ja.other d (by simp) a) 0 b,(f.setCell (p:=⟨w.heap.size,0,none⟩) (joJ _) _).setCell (p:=⟨w.heap.size+1,0,none⟩) (by show _<=w.heap.size+1;omega) _⟩
theorem jK.turned{w w':World}{T:Nat->Nat}{R b B k:Nat}{text:ByteArray}{p:PS}(h:jK w T R b text p)(d:zn B k w w')(e:∀r,B<=r->r<B+k->T r=0):jK w' T R b text p:=by
 obtain⟨V,h⟩:=h;refine⟨V,h.same (fun r c=>d.same r (h.low r c).2 ?_) d.size⟩;rcases jpc r B with q|q
 ·exact .inl q
 rcases jpc r (B+k) with a|a
 ·exact absurd (e r q a) c
 exact .inr a
theorem jkl.turned{w W d:World}{text:ByteArray}{c:List Ln}{B k:Nat}(h:jkl w text c W)(f:zn B k W d)(m:w.heap.size+3<=B)(n:B+k<=w.heap.size+9):jkl w text c d:=by obtain⟨g,T,p,i,j,l,e⟩:=h;exact⟨g.turned f (by omega),T,p,i,j,l.turned f (fun r a b=>e r (by omega) (by omega)),e⟩
theorem jkl.alloc{w W:World}{text:ByteArray}{a:List Ln}(h:jkl w text a W)(o:Obj):jkl w text a (W.alloc o):=by obtain⟨b,T,p,c,d,e,f⟩:=h;exact⟨b.alloc o,T,p,c,d,e.below ((joL _ _).alloc (joJ _) o),f⟩
theorem jnN.turned{w W d:World}{text:ByteArray}{c:Code}{b:List Ln}{B k:Nat}(h:jnN w text c b W)(f:zn B k W d)(o:w.heap.size+3<=B)(p:B+k<=w.heap.size+9):jnN w text c b d:=by obtain⟨g,a,n,v,i,j,q,l,m,e⟩:=h;exact⟨g,a,n,v,i,j.turned f (by omega),q,l,m,(f.same q e.lt (.inr (by omega))).trans e⟩
theorem jgd{text:List UInt8}{a:List Ln}{p q:PS}{x:Ln}(h:qU text PS.new a=.ok p)(b:zq text p x=.ok q):qU text PS.new (a++[x])=.ok q:=by rw[vx,h];show(match zq text p x with | .error e=>_ | .ok q=>qU text q [])=_;rw[b];rfl
theorem jay{text:List UInt8}{a:List Ln}{p:PS}{e:Nat×Nat}{x:Ln}(h:qU text PS.new a=.ok p)(b:zq text p x=.error e):qU text PS.new (a++[x])=.error e:=by rw[vx,h];show(match zq text p x with | .error e=>_ | .ok q=>qU text q [])=_;rw[b]
theorem jgc{text:List UInt8}{a xs:List Ln}{e:Nat×Nat}(h:qU text PS.new a=.error e)(c:a <+: xs):qU text PS.new xs=.error e:=by obtain⟨b,rfl⟩:=c;rw[vx,h]
end
section
attribute [local go_sem] joY qN
def Its(w:World)(v:Value)(its:List It):Prop :=
 ∃A cap,v=.slice A its.length cap/\its.length<=cap/\∀(i:Nat) (it:It),its[i]?=some it->∃b off fv,A=some ⟨b,off,none⟩/\b<w.heap.size /\
  w.cell? ⟨b,off+i*3,none⟩=some (.int .i64 it.kind)/\w.cell? ⟨b,off+i*3+1,none⟩=some (.string (B it.raw))/\w.cell? ⟨b,off+i*3+1+1,none⟩=some fv/\vP w fv it.fields
theorem Its.below{w w':World}{v:Value}{its:List It}{n:Nat}(h:Its w v its)(d:Below n w w')(j:w.heap.size<=n):Its w' v its:=by
 obtain⟨A,f,u,g,r⟩:=h;refine⟨A,f,u,g,fun i x t => ?_⟩;obtain⟨b,c,o,q,e,k,l,m,s⟩:=r i x t;have a:=jo4 e j
 exact⟨b,c,o,q,jo4 e d.size,(d.cell (p:=⟨b,c+i*3,none⟩) a).trans k,(d.cell (p:=⟨b,c+i*3+1,none⟩) a).trans l,(d.cell (p:=⟨b,c+i*3+1+1,none⟩) a).trans m,s.below d j⟩
theorem jJ.its {w : World} {T : Nat -> Nat} {R b : Nat} {text : ByteArray} {p : PS} {V : PV} (h : jJ w T R b text p V) : Its w V.v3 p.items := by
  rcases jpH h.r3 with ⟨e, hn⟩ | ⟨g, cap, e⟩
  . have : p.items = [] := List.length_eq_zero_iff.1 hn
    rw [e, this]
    exact ⟨none, 0, rfl, joJ _, fun i it hi => by simp at hi⟩
  refine ⟨some ⟨g, 0, none⟩, cap, e, (by rcases h.r3.2 with ⟨q, _⟩ | ⟨g', cap', cur, q, _, _, q2, _⟩; · rw [e] at q; cases q
                                         rw [e] at q; cases q; exact q2), fun i it hi => ?_⟩
  have hlt : i < p.items.length := by
    rcases jpc i p.items.length with q | q
    . exact q
    rw [jpe q] at hi; cases hi
  obtain ⟨fv, hfv⟩ : ∃ fv, V.fvs[i]? = some fv := ⟨_, joM (by rw [h.nf]; exact hlt)⟩
  obtain ⟨a0, a1, a2⟩ := qE _ _ i it fv hi hfv
  have hr := h.r3
  rw [e] at hr
  refine ⟨g, 0, fv, rfl, (jpJ hr g rfl).2, ?_, ?_, ?_, ym (h.rf i it fv hi hfv).1⟩
  . rw [jpl, jo1 hr (i * 3) (by omega)]; exact a0
  . rw [jpl, jo1 hr (i * 3 + 1) (by omega)]; exact a1
  rw [jpl, jo1 hr (i * 3 + 1 + 1) (by omega)]; exact a2
def jkR(w:World)(v:Value)(its:List It):Prop:=∀(i:Nat) (b off:Nat) (n cap m c:Nat),v=.slice (some ⟨b,off,none⟩) n cap->i<its.length->w.cell? ⟨b,off+i*3+1+1,none⟩=some (.slice none m c)->c=0
theorem jJ.nil{w:World}{T:Nat->Nat}{R b:Nat}{text:ByteArray}{p:PS}{V:PV}(h:jJ w T R b text p V):jkR w V.v3 p.items:=by
 intro i b v n t m c e j a;obtain⟨k,s⟩:∃k,p.items[i]?=some k:=⟨_,joM j⟩
 obtain⟨l,f⟩:∃l,V.fvs[i]?=some l:=⟨_,joM (by rw[h.nf];exact j)⟩
 obtain⟨_,_,a2⟩:=qE _ _ i k l s f;have o:=h.r3
 rcases jpH o with ⟨r,y⟩|⟨g,d,r⟩
 ·omega
 rw[r]at e o;cases e;rw[jpl,jo1 o (i*3+1+1) (by omega),a2]at a;cases a;rcases(h.rf i k _ s f).1.2 with ⟨q,_⟩|⟨x,d,u,q,_⟩
 ·cases q;rfl
 cases q
def Qq(w:World)(text:List UInt8)(e:Ending)(w':World):Prop :=
 Below w.heap.size w w'/\match jD text with
  | .error (a,n)=>∃v,e=.returned (.tuple #[.slice none 0 0,v])/\jB w.heap.size w' v a n
  | .ok its=>∃v,e=.returned (.tuple #[v,.nilIface])/\Its w' v its/\jkR w' v its
theorem Qq.no{w w':World}{text:List UInt8}{v:Value}{a n:Nat}(h:jD text=.error (a,n))(b:Below w.heap.size w w')(c:jB w.heap.size w' v a n):Qq w text (.returned (.tuple #[.slice none 0 0,v])) w' :=
 ⟨b,by rw[h];exact⟨v,rfl,c⟩⟩
theorem Qq.yes{w w':World}{text:List UInt8}{v:Value}{its:List It}(h:jD text=.ok its)(a:Below w.heap.size w w')(b:Its w' v its/\jkR w' v its):Qq w text (.returned (.tuple #[v,.nilIface])) w' :=
 ⟨a,by rw[h];exact⟨v,rfl,b⟩⟩
theorem UX{Q:Ending->World->Prop}(w W:World)(v e:Value)(tmps:Array Value)(g:Out w W v e)(j:v.oneCell'=true)(i:e.oneCell'=true)(c:W.heap[w.heap.size+4]?=some (.deferred (some [])))(m:tmps[2]?=some (.pointer (some ⟨w.heap.size,0,none⟩)))(t3:tmps[3]?=some (.pointer (some ⟨w.heap.size+1,0,none⟩)))
  (h:Below w.heap.size w (W.putObj (w.heap.size+4) (.deferred none))->Q (.returned (.tuple #[v,e])) (W.putObj (w.heap.size+4) (.deferred none))) :
  bodyPostM Fence.wide 9 prog Tryz.f49 Q .ret {tmps:=tmps,defers:=[{target:=.collected (w.heap.size+4),args:=#[]}]} W:=by
 obtain⟨a,b,f⟩:=g;have d:=grownBy_putObj' W (w.heap.size+4) (.deferred none)
 have k:ja (W.putObj (w.heap.size+4) (.deferred none)) w.heap.size 92 #[v]:=(d.block _ a.lt (fun e=>by have:=joN e;omega)).trans a;have l:ja (W.putObj (w.heap.size+4) (.deferred none)) (w.heap.size+1) 32 #[e]:=(d.block _ b.lt (fun e=>by have:=joN e;omega)).trans b
 have c4:(W.putObj (w.heap.size+4) (.deferred none)).cell? ⟨w.heap.size,0,none⟩=some v:=k.cell 0;have c5:(W.putObj (w.heap.size+4) (.deferred none)).cell? ⟨w.heap.size+1,0,none⟩=some e:=l.cell 0
 refine⟨by simp,.inl ⟨_,_,rfl,run_takeDeferred c,?_⟩⟩;exact⟨.tuple #[v,e],by simp[results,Tryz.f49,go_sem,m,t3,c4,c5],h (f.trans (belowK_b (w:=w) (joJ _) W _ _ _ (by omega) c rfl rfl))⟩
theorem xw:∀(n b a:Nat) (l:List UInt8),l.length<=n->∀x∈jR b a l,1<=x.bytes.length
 | 0,_,_,l,h,x,hx=>by have:l=[]:=List.length_eq_zero_iff.1 (by omega);subst this;rw[jr]at hx;cases hx
 | n+1,b,a,l,h,x,hx=>by
  by_cases hl:l=[]
  ·subst hl;rw[jr]at hx;cases hx
  have c:=qP l hl;rw[jC _ _ _ hl]at hx;rcases List.mem_cons.1 hx with rfl|hx
  ·have:(Ln.bytes ⟨b,a,head l,nl l⟩).length=qK l:=by unfold Ln.bytes qK;simp only[joK];split<;>rfl
   omega
  exact xw n _ _ _ (by simp only[joX];omega) x hx
theorem jd0:∀(a:List Ln),(∀x∈a,1<=x.bytes.length)->a.length<=(a.flatMap Ln.bytes).length
 | [],_=>joJ _
 | x::a,h=>by
  have c:=jd0 a (fun y b=>h y (joU _ b));have:=h x joV
  rw[jo5,joK,joR];omega
theorem Xa(s:ByteArray)(hs:s.size<=60000)(w:World):
  Calls prog 49 #[.string s] w fun e w'=>Qq w s.data.toList e w':=by
 obtain⟨xs,E⟩:∃xs,jf s.data.toList=xs:=⟨_,rfl⟩
 have R:=joI E;have f:=fun d x g (e:xs=d++x::g)=>qX s.data.toList d x g (E.trans e)
 have am:=joI f;have hj:(xs.flatMap Ln.bytes)=s.data.toList:=by rw[<- E];exact jL _
 have ag:(xs.flatMap Ln.bytes).length=s.size:=by rw[hj,<- jo2]
 have a8:=joI ag;have N:∀x∈xs,1<=x.bytes.length:=by rw[<- E];exact xw _ 0 0 _ (joJ _)
 have aa:=joI N;clear E f ag hj N;refine callsIn_wide (n:=9).1 ?_;refine callsIn_of_wp_marks func49 rfl trivial ?_ rfl;simp only[ntmps49,jpN,joR,jpm,Nat.reduceAdd,Nat.reduceSub,jpK,jpL,jpU,jpQ,jpC,jo6];gi_wp2_with fail;refine⟨trivial,(callsIn_wide.2 (yL s _)).mono ?_⟩;rintro e w3 ⟨rfl,rfl⟩;gi_wp2_with fail;have k7:=jhX w (.cells #[.slice none 0 0] 92) (.cells #[.nilIface] 32) (.cells #[.int .i64 0,.slice none 0 0,.string s,.slice none 0 0,.int .i64 0,.int .i64 0,.slice none 0 0] 162) 9 (.string s)
 have HH:=vv s (w.heap.size+3) _ k7 (by omega);rw[R.out]at HH;have n0:=jJ.new ((w.alloc (.cells #[.slice none 0 0] 92)).alloc (.cells #[.nilIface] 32)) s (w.heap.size+2) (by simp)
 rw[joZ,joZ]at n0;change jJ _ (fun k=>if k=w.heap.size+2 then 1 else 0) _ (w.heap.size+2) _ _ _ at n0;have o0:Out w ((((w.alloc (.cells #[.slice none 0 0] 92)).alloc (.cells #[.nilIface] 32)).alloc (.cells #[.int .i64 0,.slice none 0 0,.string s,.slice none 0 0,.int .i64 0,.int .i64 0,.slice none 0 0] 162)).alloc (.cells #[.string s] 9)) (.slice none 0 0) .nilIface:=by have H:=ja.new (w.alloc (.cells #[.slice none 0 0] 92)) 32 #[.nilIface];rw[joZ]at H;exact⟨(((ja.new w _ _).alloc _).alloc _).alloc _,(H.alloc _).alloc _,((((joL _ w).alloc (joJ _) _).alloc (by simp) _).alloc (by simp;omega) _).alloc (by simp;omega) _⟩
 have ak:jkl w s [] ((((w.alloc (.cells #[.slice none 0 0] 92)).alloc (.cells #[.nilIface] 32)).alloc (.cells #[.int .i64 0,.slice none 0 0,.string s,.slice none 0 0,.int .i64 0,.int .i64 0,.slice none 0 0] 162)).alloc (.cells #[.string s] 9)) :=
  ⟨o0,_,PS.new,rfl,Inv.new,jK.below ⟨_,n0⟩ ((joL _ _).alloc (joJ _) _),fun k H h2=>if_neg (by omega)⟩
 have G:((((w.alloc (.cells #[.slice none 0 0] 92)).alloc (.cells #[.nilIface] 32)).alloc (.cells #[.int .i64 0,.slice none 0 0,.string s,.slice none 0 0,.int .i64 0,.int .i64 0,.slice none 0 0] 162)).alloc (.cells #[.string s] 9)).heap.size=w.heap.size+4:=by simp
 refine yd (gf:=139) (lb:=#[.pointer (some ⟨w.heap.size+3,0,none⟩)]) rfl (enters_of func139 (by kernel_rfl) rfl) HH (fun _=>rfl)
  (jkl w s) (jnN w s) (by rw[G];exact fun d W W' h t=>h.turned t (by omega) (by omega)) (fun c d W W' h t=>h.turned t (by rw[G];omega) (by rw[G];omega)) ak
  (fun a d x a' W=>∃u,w.heap.size+9<=u/\a'={tmps:=(a.tmps.setIfInBounds 16 (.agg (qi x))).setIfInBounds 5 (.pointer (some ⟨u,0,none⟩)),defers:=[]}/\ja W u 157 (qi x)/\jkl w s d W)
  ?hM ?assign ?body ?done ?stop
 case hM =>
  rw[G];rintro a d x a' _ W W' ⟨u,H,h2,h3,h4⟩ t;exact⟨u,H,h2,(t.same u h3.lt (.inr (by omega))).trans h3,h4.turned t (by omega) (by omega)⟩
 case assign =>
  rw[G];intro l d x g W hx aj o;clear hx;dsimp only[qi];gi_wp2;exact⟨(vO.refl _ _ W).alloc aj _,W.heap.size,by omega,rfl,ja.new _ _ _,o.alloc _⟩
 case body =>
  rw[G];rintro l d x g a' W hx aj ⟨u,hB,rfl,U,i,T,p,j,o,hp,hT⟩;obtain⟨ah,f⟩:=am.out d x g hx;rw[<- f]at o;have O:=a8.out
  rw[hx,jpo,jo5,joK,joK,<- f]at O;have X:=jd0 d (fun y hy=>aa.out y (by rw[hx];exact jqq _ hy))
  rw[<- ah,<- f]at X;have hR:w.heap.size+2<=W.heap.size:=by omega
  have TK:=take_any hp hR x o (by omega) hs X;have HR:=joI j
  have Q:=joI o;have HX:=joI (show x.at_=(d.flatMap Ln.bytes).length from f)
  clear hx j o f O ah;simp only[jo3,jpF,jpG,qi]at U ⊢;have q0:W.cell? ⟨u,0,none⟩=some (.int .i64 x.no):=U.cell 0
  have q1:W.cell? ⟨u,1,none⟩=some (.int .i64 x.at_):=U.cell 1;have q2:W.cell? ⟨u,2,none⟩=some (.string ⟨x.text.toArray⟩):=U.cell 2
  have q3:W.cell? ⟨u,3,none⟩=some (.bool x.ended):=U.cell 3;have P:∀m,jH (fun r=>T r≠0) W m->vO (w.heap.size+4) 5 W m:=fun m ho=>⟨ho.size,fun r H h2=>ho.same r (by omega) (fun hn=>hn (hT r (by omega) (by omega)))⟩
  have I:∀r,T r≠0->w.heap.size+2<=r:=fun r j=>by obtain⟨V,hv⟩:=hp;exact(hv.low r j).1
  gi_wp2_with fail;refine⟨trivial,((callsIn_wide.2 TK).inRound l).mono ?_⟩;rintro e m t;unfold JT at t;cases D:zq s.data.toList p x with
  | error an =>
   obtain⟨a,n⟩:=an;rw[D]at t;obtain⟨v,rfl,hf,ho⟩:=t;have a7:=jay HR.out D
   obtain⟨q,hq,rfl,A⟩:=hf;have b:=i.only ho I
   have c2:m.cell? ⟨w.heap.size,0,none⟩=some (.slice none 0 0):=b.1.cell 0;have f2:=b.1.frozen 0
   have c3:m.cell? ⟨w.heap.size+1,0,none⟩=some .nilIface:=b.2.1.cell 0;have f3:=b.2.1.frozen 0
   have C:=P m ho;clear TK i U;gi_wp2;refine⟨(C.setCell (.inl (by show w.heap.size<_;omega)) _).setCell (.inl (by show w.heap.size+1<_;omega)) _,rfl,a,n,_,a7,b.set _ _,q,by omega,rfl,?_⟩;exact ja.other (ja.other A (by show q≠w.heap.size;omega) _) (by show q≠w.heap.size+1;omega) _
  | ok p' =>
  rw[D]at t;obtain⟨rfl,T',aw,C⟩:=t;have a7:=jgd HR.out D
  obtain⟨au,_⟩:=Inv.take Q.out X D;clear TK U;gi_wp2;refine⟨P m C.only,i.only C.only I,T',p',a7,?_,aw,fun r H h2=>(C.old r (by omega)).2 (hT r H h2)⟩;rw[jpo,joK,<- HX.out];simpa using au
 case done =>
  rw[G];rintro W ⟨i,T,p,j,o,hp,hT⟩ hmark;have zW:w.heap.size+4<W.heap.size:=(Array.getElem?_eq_some_iff.1 hmark).1
  rw[a8.out]at o;have I:∀r,T r≠0->w.heap.size+2<=r:=fun r j=>by obtain⟨V,hv⟩:=hp;exact(hv.low r j).1
  have EF:=VR hp (by omega) (by have:=o.said;omega) (by have:=o.fields;omega);have PL:Hid (jD s.data.toList=ZS s.data.toList p):=by show _=_;unfold jD;rw[R.out,j]
  have Q:=joI o.endField;have h4:T (w.heap.size+4)=0:=hT _ (by omega) (by omega)
  clear j o hp;gi_wp2_with fail;refine⟨trivial,(callsIn_wide.2 EF).mono ?_⟩;rintro e m hE;unfold qF at hE;by_cases h0:ji p=0
  ·rw[if_pos h0]at hE;obtain⟨rfl,T1,g1,s1⟩:=hE;have b:=i.only s1.only I
   have Z:=(s1.only.same _ zW (fun e=>e h4)).trans hmark;have ae:=(s1.old _ zW).2 h4
   have af:∀r,T1 r≠0->w.heap.size+2<=r:=fun r j=>by obtain⟨V,hv⟩:=g1;exact(hv.low r j).1
   have ax:=s1.only.size;have e0:=Zw p
   have f:=Q.out.at_;have EB:=VT g1 (by omega) s.size f (joJ _) (by omega) (by have:=Q.out.items;omega) (by have:=Q.out.stanzas;omega)
   have l1:=g1.lt;have PY:Hid (jD s.data.toList=.ok (jk s.data.toList (jd p) s.size).items):=by show _=_;rw[PL.out];unfold ZS;rw[if_neg (by simpa using h0),<- jo2]
   clear EF i hmark Q PL g1;gi_wp2_with fail;refine⟨trivial,(callsIn_wide.2 EB).mono ?_⟩;rintro e W2 ⟨rfl,T2,⟨V2,K⟩,s2⟩;have z:=b.only s2.only af
   have av:=(s2.only.same _ (by omega) (fun e=>e ae)).trans Z;obtain⟨a3,c3,e3,_⟩:=je K.r3;have L:=K.its
   have q3:W2.cell? ⟨w.heap.size+1+1,3,none⟩=some (.slice a3 (jk s.data.toList (jd p) s.size).items.length c3):=by rw[<- e3];exact K.cells.cell 3
   have l2:=K.lt;have c2:W2.cell? ⟨w.heap.size,0,none⟩=some (.slice none 0 0):=z.1.cell 0
   have f2:=z.1.frozen 0;have aq:W2.cell? ⟨w.heap.size+1,0,none⟩=some .nilIface:=z.2.1.cell 0
   have f3:=z.2.1.frozen 0;rw[e3]at L;have ar:T2 (w.heap.size+4)=0:=(s2.old _ (by omega)).2 ae
   have HG:=joI (fun W' (hs:∀k,T2 k≠0->W'.heap[k]?=W2.heap[k]?) G=>And.intro (K.same (w':=W') hs G).its (K.same (w':=W') hs G).nil);have Y:∀r,T2 r≠0->w.heap.size+2<=r:=fun r j=>(K.low r j).1
   rw[e3]at HG;clear EB L K;gi_wp2;refine UX w _ (.slice a3 (jk s.data.toList (jd p) s.size).items.length c3) .nilIface _ (z.set _ _) rfl rfl ?_ rfl rfl fun hb=>.yes PY.out hb (HG.out _ ?_ ?_)
   ·exact(jpw _ _ _ _ (by show w.heap.size+4≠w.heap.size+1;omega)).trans ((jpw _ _ _ _ (by show w.heap.size+4≠w.heap.size;omega)).trans av)
   ·intro k hk;have H:=Y k hk
    rw[jpT (by rintro rfl;exact hk ar)];exact(jpw _ _ _ _ (by show k≠w.heap.size+1;omega)).trans (jpw _ _ _ _ (by show k≠w.heap.size;omega))
   simp[World.setCell]
  rw[if_neg h0]at hE;obtain⟨v,rfl,⟨q,hq,rfl,A⟩,J⟩:=hE;have b:Out w m (.slice none 0 0) .nilIface:=⟨i.1.below J i.1.lt,i.2.1.below J i.2.1.lt,i.2.2.trans (J.mono i.2.2.size)⟩
  have Z:=(J.block _ zW).trans hmark;have c2:m.cell? ⟨w.heap.size,0,none⟩=some (.slice none 0 0):=b.1.cell 0
  have f2:=b.1.frozen 0;have aq:m.cell? ⟨w.heap.size+1,0,none⟩=some .nilIface:=b.2.1.cell 0
  have f3:=b.2.1.frozen 0;have PN:Hid (jD s.data.toList=.error (p.begin_,ji p)):=by show _=_;rw[PL.out];unfold ZS;rw[if_pos h0]
  clear EF i hmark Q PL;gi_wp2;refine UX w _ (.slice none 0 0) (.iface 87 (.pointer (some ⟨q,0,none⟩))) _ (b.set _ _) rfl rfl ?_ rfl rfl fun hb=>.no PN.out hb ⟨q,by omega,rfl,?_⟩
  ·exact(jpw _ _ _ _ (by show w.heap.size+4≠w.heap.size+1;omega)).trans ((jpw _ _ _ _ (by show w.heap.size+4≠w.heap.size;omega)).trans Z)
  exact(jpT (by omega)).trans (ja.other (ja.other A (by show q≠w.heap.size;omega) _) (by show q≠w.heap.size+1;omega) _)
 case stop =>
 rw[G];rintro c d W ai ⟨rfl,a,n,v,j,i,⟨q,hq,rfl,A⟩⟩ hmark;have PN:Hid (jD s.data.toList=.error (a,n)):=by show _=_;unfold jD;rw[R.out,jgc j ai]
 gi_wp2;refine UX w _ (.slice none 0 0) (.iface 87 (.pointer (some ⟨q,0,none⟩))) _ i rfl rfl hmark rfl rfl fun hb=>.no PN.out hb ⟨q,by omega,rfl,?_⟩;exact(jpT (by omega)).trans A
end
section
theorem jfv(q:Option Addr)(w:World):(Instr.typeAssert (.iface 87 (.pointer q)) 32 54 true).run prog w=.ok (.tuple #[.int .i64 0,.bool false]) w:=by kernel_rfl
theorem jbD(q:Option Addr)(w:World):(Instr.typeAssert (.iface 87 (.pointer q)) 32 87 true).run prog w=.ok (.tuple #[.pointer q,.bool true]) w:=by kernel_rfl
theorem jbE(n:Int)(w:World):(Instr.typeAssert (.iface 54 (.int .i64 n)) 32 87 true).run prog w=.ok (.tuple #[.pointer none,.bool false]) w:=by kernel_rfl
theorem jbF(w:World):(Instr.typeAssert .nilIface 32 87 true).run prog w=.ok (.tuple #[.pointer none,.bool false]) w:=by kernel_rfl
theorem jfu(n:Int)(w:World):(Instr.typeAssert (.iface 54 (.int .i64 n)) 32 54 true).run prog w=.ok (.tuple #[.int .i64 n,.bool true]) w:=by kernel_rfl
attribute [local go_sem] qN jfv jbD jbE jbF jfu
theorem jgx{lo:Nat}{w:World}{v:Value}{a n:Nat}(h:jB lo w v a n)(d:n≠0)(j:n<=1000):Calls prog 12 #[v] w fun e g=>e=.returned (.int .i64 n)/\w=g:=by
 obtain⟨q,_,rfl,b⟩:=h;have i:w.cell? ⟨q,1,none⟩=some (.iface 54 (.int .i64 n)):=by rw[b.cell 1];show some (Zc n)=_;rw[zf n (by omega)]
 have f:((n:Int) != 0)=true:=by simp;omega
 have c:((n:Int)==0)=false:=by simp;omega
 clear b d;go_enter func12,ntmps12;go_wp2;refine wp_loop_rounds 2 ?_;rw[rounds_succ];go_wp2;rw[rounds_succ];go_wp2;go_ret;exact⟨rfl,rfl⟩
theorem jkg{lo:Nat}{w:World}{v:Value}{a n:Nat}(h:jB lo w v a n):Calls prog 13 #[v] w fun e c=>e=.returned (.int .i64 a)/\w=c:=by
 obtain⟨q,_,rfl,b⟩:=h;have d:w.cell? ⟨q,0,none⟩=some (.int .i64 a):=b.cell 0
 clear b;go_enter func13,ntmps13;go_wp2;go_ret;exact⟨rfl,rfl⟩
theorem jnx(w:World):Calls prog 13 #[.nilIface] w fun e a=>e=.returned (.int .i64 (-9))/\w=a:=by go_enter func13,ntmps13;go_wp2;go_ret;exact⟨rfl,rfl⟩
theorem jny(n:Int)(w:World):Calls prog 13 #[.iface 54 (.int .i64 n)] w fun e a=>e=.returned (.int .i64 (-9))/\w=a:=by go_enter func13,ntmps13;go_wp2;go_ret;exact⟨rfl,rfl⟩
theorem Its.at_{w:World}{v:Value}{its:List It}(h:Its w v its){i:Nat}{it:It}(o:its[i]?=some it):∃b a c e d,v=.slice (some ⟨b,a,none⟩) its.length c/\its.length<=c/\b<w.heap.size/\w.cell? ⟨b,a+i*3,none⟩=some (.int .i64 it.kind)/\w.cell? ⟨b,a+i*3+1,none⟩=some (.string (B it.raw))/\w.cell? ⟨b,a+i*3+1+1,none⟩=some (.slice e it.fields.length d)/\it.fields.length<=d:=by obtain⟨A,c,rfl,g,n⟩:=h;obtain⟨b,a,p,rfl,j,k,l,m,e,d,rfl,f,_⟩:=n i it o;exact⟨b,a,c,e,d,rfl,g,j,k,l,m,f⟩
end
section
theorem YD{ls:List (List UInt8)}(h:jy ls=0):zh (jW ls) (jV ls)=0/\(jW ls).length<=32/\(jV ls).length<=1000:=by
 cases b:jaf ls with
 | false=>rw[(xX b).1]at h;cases h
 | true =>
 by_cases hl:(qI ls).length<=1000
 ·obtain⟨a,r,rfl,c,_⟩:=QA b;obtain⟨_,e,f⟩:=Qu b hl;have d:jF (before a)=true:=(jlI c).2.2
  rw[e,f];exact⟨by unfold zh;rw[d,if_pos rfl,if_pos hl],(yf d).2.1,hl⟩
 rw[(Zg b hl).1]at h;cases h
attribute [local go_sem] qN
end
section
theorem jgU:Lays.n240 prog Tryz.lays156_ren:={Tryz.lays156 with}
def Bld(b R:Nat)(l:List UInt8)(W:World):Prop :=
 ∃p v,W.heap[b]?=some (.cells #[p,v] 191 (0,0))/\(p=.pointer none\/p=.pointer (some ⟨b,0,none⟩))/\W.ownsRow R 5 1 v l.length (Lib.byteCells l)
structure vf(b R:Nat)(W W':World):Prop where
 os:W'.os=W.os
 tape:W'.tape=W.tape
 output:W'.output=W.output
 size:W.heap.size<=W'.heap.size
 same:∀r,r<R->r<W.heap.size->r≠b->W'.heap[r]?=W.heap[r]?
 others:Lib.OthersKept 5 (some b) W W'
theorem vf.refl(b R:Nat)(W:World):vf b R W W:=⟨rfl,rfl,rfl,joJ _,fun _ _ _ _=>rfl,Lib.OthersKept.refl _ _ _⟩
theorem vf.trans{b R:Nat}{X Y Z:World}(h:vf b R X Y)(g:vf b R Y Z):vf b R X Z :=
 ⟨g.os.trans h.os,g.tape.trans h.tape,g.output.trans h.output,jpg h.size g.size,fun r a c e=>(g.same r a (jo4 c h.size) e).trans (h.same r a c e),h.others.trans g.others⟩
theorem vf.grown{b R:Nat}{X Y Z:World}(h:vf b R X Y){f:Option Nat}(d:Y.grownBy Z f)(i:∀r,f=some r->R<=r/\∃c k,Y.heap[r]?=some (.cells c 5 k)):vf b R X Z :=
 h.trans ⟨d.os,d.tape,d.output,d.size,fun r a c e=>d.block r c (fun j=>by have:=(i r j.symm).1;omega),(Lib.OthersKept.refl _ _ _).grown d (fun g e=>(i g e).2)⟩
theorem vf.put{b R:Nat}{X Y:World}(h:vf b R X Y)(j:Nat)(u:Value):vf b R X (Y.setCell ⟨b,j,none⟩ u) :=
 h.trans ⟨rfl,rfl,rfl,by simp[World.setCell],fun r _ _ e=>jpw _ _ _ _ e,Lib.OthersKept.setCell (b:=b) (Lib.OthersKept.refl _ _ Y) ⟨b,j,none⟩ rfl u⟩
theorem vf.other{b R c:Nat}{X Y:World}{d:Array Value}{t:TypeId}(h:vf b R X Y)(f:X.heap[c]?=some (.cells d t (0,0)))(a:c≠b)(g:t≠5):Y.heap[c]?=some (.cells d t (0,0)) :=
 h.others c _ f (fun e=>a (joN e)) (fun i j e=>g (by injection e))
theorem vf.alloc{b R:Nat}{X Y:World}(h:vf b R X Y)(o:Obj):vf b R X (Y.alloc o) :=
 h.grown (World.grownBy_alloc Y o none) (fun r e=>by cases e)
theorem vf.below{b R n:Nat}{X Y:World}(h:vf b R X Y)(d:n<=b)(c:n<=R)(e:n<=X.heap.size):Below n X Y :=
 ⟨h.os,h.tape,h.output,h.size,fun r a=>h.same r (by omega) (by omega) (by omega)⟩
theorem vf.stay{b R B k:Nat}{X Y:World}(h:vf b R X Y)(e:b<B)(d:B+k<=R)(f:B+k<=X.heap.size):vO B k X Y :=
 ⟨h.size,fun r a c=>h.same r (by omega) (by omega) (by omega)⟩
theorem vf.box{b R c:Nat}{X Y:World}{t:TypeId}{v:Value}(h:vf b R X Y)(d:Boxed X c t v)(e:c<R)(a:c≠b):Boxed Y c t v :=
 (h.same c e d.lt a).trans d
theorem Bld.lt{b R:Nat}{l:List UInt8}{W:World}(h:Bld b R l W):b<W.heap.size:=by obtain⟨p,v,a,_⟩:=h;exact(Array.getElem?_eq_some_iff.1 a).1
theorem Bld.alloc{b R:Nat}{l:List UInt8}{W:World}(h:Bld b R l W)(o:Obj):Bld b R l (W.alloc o):=by have a:=h.lt;obtain⟨p,v,c,d,e⟩:=h;exact⟨p,v,(jqz _ _ _ a).trans c,d,e.alloc _⟩
theorem Bld.new(w:World)(R:Nat):Bld w.heap.size R [] (w.alloc (.cells #[.pointer none,.slice none 0 0] 191)) :=
 ⟨_,_,jro w _,.inl rfl,by simp[Lib.byteCells],.inl ⟨rfl,rfl⟩⟩
theorem Bld.turned{b R B k:Nat}{l:List UInt8}{W d:World}(h:Bld b R l W)(f:zn B k W d)(j:b<B)(n:B+k<=R):Bld b R l d:=by have c:=h.lt;obtain⟨p,v,a,m,i⟩:=h;refine⟨p,v,(f.same b c (.inl j)).trans a,m,?_⟩;exact f.row i (fun g e=>.inr (by have:=(i.lt g e).1;omega))
theorem Bld.library{b R B:Nat}{l:List UInt8}{W:World}(h:Bld b R l W)(k:B<=b)(o:B<=R):Lib.IsBuilderF 191 5 B b (Lib.byteCells l) W:=by
 obtain⟨p,v,i,r,j⟩:=h;have c:W.ownsRow B 5 1 v (Lib.byteCells l).length (Lib.byteCells l):=by
  rw[Lib.byteCells_length];refine⟨j.1,?_⟩;rcases j.2 with q|⟨g,e,f,m,n,d⟩
  ·exact .inl q
  exact .inr ⟨g,e,f,m,jpg o n,d⟩
 have a:v.ownBlock≠some b:=Lib.ownBlock_ne j i (by decide);refine Lib.IsBuilderF.of ?_;rcases r with rfl|rfl
 ·exact .inl ⟨k,v,i,c,a⟩
 exact .inr ⟨k,v,i,c,a⟩
theorem ZD(b R:Nat)(l:List UInt8)(s:ByteArray)(w:World)(h:Bld b R l w)(L:b<R)(hR:R<=w.heap.size)(K:l.length+s.size<=140737488355328):
  Calls prog 119 #[.pointer (some ⟨b,0,none⟩),.string s] w fun e o=>e=.returned (.tuple #[.int .i64 s.size,.nilIface])/\Bld b R (l++s.data.toList) o/\vf b R w o:=by
 obtain⟨V,O,G,H,I⟩:=info_parts Tryz.Builder_Extra_156.infoByte;have t:Calls prog 165 #[.pointer (some ⟨b,0,none⟩)] w fun e o=>e=.returned (.tuple #[])/\(∃v,o.heap[b]?=some (.cells #[.pointer (some ⟨b,0,none⟩),v] 191 (0,0))/\o.ownsRow R 5 1 v l.length (Lib.byteCells l))/\vf b R w o:=by
  obtain⟨p,v,q,U,m⟩:=h;have z:b<w.heap.size:=(Array.getElem?_eq_some_iff.1 q).1
  rcases U with rfl|rfl
  ·refine(Any.Builder_copyCheck_fresh jgU Tryz.Builder_Extra_156.toX72 b w ?_ ?_ ?_).mono ?_
   ·rw[jqN q];rfl
   ·simp[World.shape?,q];rfl
   ·exact Lib.frozen_of_heap q 0
   rintro e o ⟨rfl,rfl⟩;refine⟨rfl,⟨v,?_,?_⟩,?_⟩
   ·simp[World.setCell,Array.getElem?_modify,q]
   ·exact m.kept (grownBy_setCell' w b _) (by
     cases u:v.ownBlock with
     | none=>exact .inl rfl
     | some g=>exact .inr (fun e=>by have:=(m.lt g u).1;have:=joN e;omega))
   exact(vf.refl b R w).put 0 _
  refine(Any.Builder_copyCheck_used jgU Tryz.Builder_Extra_156.toX72 b w ?_).mono ?_
  ·rw[jqN q];rfl
  rintro e o ⟨rfl,rfl⟩;exact⟨rfl,⟨v,q,m⟩,vf.refl b R _⟩
 go_enter func119,ntmps119;go_wp2_with (go_at_call 165;refine t.mono ?_);rintro e J ⟨rfl,⟨v,j,f⟩,C⟩;have X:J.cell? ⟨b,0,none⟩=some (.pointer (some ⟨b,0,none⟩)):=by rw[jqN j];rfl
 have Y:J.cell? ⟨b,1,none⟩=some v:=by rw[jqN j];rfl
 go_wp2_with (at_builtin;refine Lib.wpList_append_own_string _ rfl _ _ 189 9 rfl R 5 V underlying189 underlying9 O G H I _ _ _ rfl f s rfl ?c3 ?c4 ?c5 ?_)
 case c3=>unfold maxLen;omega
 case c4=>omega
 case c5=>have:=C.size;omega
 intro W x c d _;have z:b<J.heap.size:=(Array.getElem?_eq_some_iff.1 j).1
 have n:∀r,v.ownBlock=some r->R<=r:=fun r e=>(f.lt r e).1;have i:x.heap[b]?=some (.cells #[.pointer (some ⟨b,0,none⟩),v] 191 (0,0)):=by rw[d.block b z (fun e=>by have:=n b e.symm;omega)];exact j
 have Z:x.cell? ⟨b,0,none⟩=some (.pointer (some ⟨b,0,none⟩)):=by rw[jqN i];rfl
 have d1:x.cell? ⟨b,1,none⟩=some v:=by rw[jqN i];rfl
 have f1:x.frozen? ⟨b,1,none⟩=false:=Lib.frozen_of_heap i 1;obtain⟨y,D,a,rfl⟩:∃y D a,W=.slice y D a:=by
  rcases c.2 with ⟨m,_⟩|⟨g,a,E,m,_⟩
  ·exact⟨_,_,_,m⟩
  exact⟨_,_,_,m⟩
 go_wp2;go_ret2;have A:x.grownBy (x.setCell ⟨b,1,none⟩ (.slice y D a)) (some b) :=
  ⟨rfl,rfl,rfl,by simp[World.setCell],fun k _ P=>jpw _ _ _ k (fun e=>P (by rw[e]))⟩
 refine⟨rfl,⟨.pointer (some ⟨b,0,none⟩),.slice y D a,?_,.inr rfl,?_⟩,?_⟩
 ·simp[World.setCell,Array.getElem?_modify,i]
 ·rw[joK,<- jo2,Lib.byteCells_append,<- Lib.strCells_eq];refine c.kept A ?_;cases u:(Value.slice y D a).ownBlock with
  | none=>exact .inl rfl
  | some g=>exact .inr (fun e=>by have:=(c.lt g u).1;have:=joN e;omega)
 refine(C.grown d (fun r e=>⟨n r e,?_⟩)).put 1 _;rcases f.2 with ⟨Q,_⟩|⟨g,a,E,m,_,N,_⟩
 ·rw[Q]at e;cases e
 rw[m]at e;cases e;exact⟨_,_,N⟩
def foldN:List (List UInt8×List UInt8)->Nat
 | []=>0
 | f::r=>if zh f.1 f.2=0 then foldN r else zh f.1 f.2
def jO(fs:List (List UInt8×List UInt8)):List UInt8:=fs.flatMap fun f=>jq (jY f.1 f.2)
def foldT(fs:List (List UInt8×List UInt8)):List UInt8:=if foldN fs=0 then jO fs else []
theorem jdM:∀a,foldN a<=6
 | []=>by decide
 | f::r=>by
  unfold foldN;split
  ·exact jdM r
  unfold zh;split
  ·split<;>decide
  decide
theorem XO{k v:List UInt8}(h:zh k v=0):jF k=true/\v.length<=1000:=by
 unfold zh at h;split at h
 ·rename_i a;split at h
  ·rename_i hl;exact⟨a,hl⟩
  cases h
 cases h
theorem jfV{k v:List UInt8}(h:zh k v=0):(jq (jY k v)).length<=4000:=by
 obtain⟨a,b⟩:=XO h;have c:=(yf a).2.1
 rw[xY];have:=jaV k v
 omega
theorem Wx(fs:List (List UInt8×List UInt8))(f:List UInt8×List UInt8):jO (fs++[f])=jO fs++jq (jY f.1 f.2):=by unfold jO;simp
theorem Qw(ls:List (List UInt8))(x:List UInt8):jq (ls++[x])=(jq ls++x)++[10]:=by unfold jq;simp
theorem KG(ls:List (List UInt8))(j:Nat):(jq (ls.take j)).length<=(jq ls).length:=by
 conv=>rhs;rw[<- jpb j ls,xZ,joK]
 omega
theorem yq.wrote{w w':World}{base b R:Nat}{v:Value}{f:List ByteArray}(h:yq w base v f)(n:vf b R w w'){i:Array Value}(j:w.heap[b]?=some (.cells i 191 (0,0))):yq w' base v f:=by
 refine⟨h.1,?_⟩;rcases h.2 with l|⟨g,c,d,m,k,e,a⟩
 ·exact .inl l
 refine .inr ⟨g,c,d,m,k,n.other e ?_ (by decide),a⟩;rintro rfl;rw[j]at e;cases e
theorem Bld.kept{b R N:Nat}{l:List UInt8}{W c:World}(h:Bld b R l W)(d:Below N W c)(e:W.heap.size<=N):Bld b R l c:=by have f:=h.lt;obtain⟨p,v,a,g,i⟩:=h;exact⟨p,v,(d.block b (by omega)).trans a,g,jX i d e⟩
theorem Bld.cells{b R:Nat}{l:List UInt8}{W:World}(h:Bld b R l W):∃c,W.heap[b]?=some (.cells c 191 (0,0)):=by obtain⟨p,v,a,_⟩:=h;exact⟨_,a⟩
theorem jdl(its:List It)(h:∀a∈its,a.raw.length<=100000):∀k,((its.take k).flatMap It.raw).length<=100000*k:=by
 intro k
 induction k with
 | zero=>simp
 | succ k c =>
 rw[jpd,jpo,joK];cases b:its[k]? with
 | none=>simp only[Option.toList_none,jqM,jpm];omega
 | some a =>
 have:=h a (joW b);simp only[Option.toList_some,jo5,jqM,jo9];omega
theorem jaM(its:List It)(k:Nat)(it:It)(h:its[k]?=some it):(its.take (k+1)).flatMap It.raw=(its.take k).flatMap It.raw++it.raw:=by rw[jpd,h];simp
theorem jjh(its:List It)(v:Value)(w:World)(h:Its w v its)(X:its.length<=100000)(s:∀a∈its,a.raw.length<=100000):
  Calls prog 71 #[v] w fun e P=>e=.returned (.string (B (its.flatMap It.raw)))/\Below w.heap.size w P:=by
 have y:=Bld.new w (w.heap.size+1);have p:=joI h
 obtain⟨A,D,rfl,K,_⟩:=h;have n:=joI (jdl its s)
 have o:=joI s;clear s;go_enter func71,ntmps71;go_wp2_with fail;go_loopw [8] (fun i wr=>∃k:Nat,k<=its.length/\i=.int .i64 k/\Bld w.heap.size (w.heap.size+1) ((its.take k).flatMap It.raw) wr/\Below w.heap.size w wr) (fun i _=>its.length-(intOf i).toNat)
 case atStart=>exact⟨0,joT _,rfl,y,(joL _ _).alloc (joJ _) _⟩
 case round =>
 obtain⟨k,W,rfl,c,m⟩:=hrel;have L:=m.size
 have G:=c.lt;by_cases j:k<its.length
 ·obtain⟨a,d⟩:∃a,its[k]?=some a:=⟨_,joM j⟩
  obtain⟨b,N,t,u,x,e,_,E,R,U,V,H⟩:=(p.out.below m (joJ _)).at_ d;cases e;have I:=n.out k
  have J:=o.out a (joW d);have z:=joI (jaM its k a d)
  have r:=m.alloc L (.cells #[.int .i64 a.kind,.string (B a.raw),.slice u a.fields.length x] 107);have g:=c.alloc (.cells #[.int .i64 a.kind,.string (B a.raw),.slice u a.fields.length x] 107)
  have Y:=jg a.raw;clear d p n o c;generalize (its.take k).flatMap It.raw=O at *
  go_wp2_with fail;refine(ZD w.heap.size (w.heap.size+1) _ (B a.raw) _ g (by omega) (by simp;omega) (by omega)).mono ?_;rintro e Q ⟨rfl,f,l⟩;rw[jj]at f;have q:=r.trans (l.below (joJ _) (by omega) (by simp;omega))
  clear g l;go_wp2_with fail;go_roundw
  case rel=>exact⟨k+1,j,by go_num,by rw[z.out];exact f,q⟩
  case measure=>simp[intOf];omega
 obtain rfl:k=its.length:=by omega
 rw[jpa]at c;clear p n o;go_wp2_with fail;refine(Tryz.Builder_String_any_k w.heap.size w.heap.size _ wr (c.library (joJ _) (by omega)) (by omega)).mono ?_;rintro e Q ⟨rfl,_,C,_⟩;go_wp2_with fail;go_ret;exact⟨rfl,m.trans C⟩
theorem jb5(its:List It)(v:Value)(w:World)(h:Its w v its)(K:its.length<=100000)(m:∀c∈its,c.raw.length<=100000):
  Calls prog 74 #[v] w fun e C=>e=.returned (.string (B (its.flatMap It.raw)))/\Below w.heap.size w C:=by
 have j:=joI h;obtain⟨A,p,rfl,x,_⟩:=h;have f:=joI (jdl its m)
 have g:=joI m;clear m;go_enter func74,ntmps74;go_wp2_with fail;go_loopw [3,4] (fun s i wr=>∃k:Nat,k<=its.length/\i=.int .i64 k/\s=.string (B ((its.take k).flatMap It.raw))/\Below w.heap.size w wr) (fun _ i _=>its.length-(intOf i).toNat)
 case atStart=>exact⟨0,joT _,rfl,rfl,joL _ _⟩
 case round =>
 obtain⟨k,J,rfl,rfl,l⟩:=hrel;by_cases d:k<its.length
 ·obtain⟨c,a⟩:∃c,its[k]?=some c:=⟨_,joM d⟩
  obtain⟨b,y,n,H,I,e,_,q,D,E,G,r⟩:=(j.out.below l (joJ _)).at_ a;cases e;have t:=f.out k
  have u:=g.out c (joW a);have o:=joI (jaM its k c a)
  have N:=jg c.raw;have L:=jg ((its.take k).flatMap It.raw)
  clear a j f g;generalize (its.take k).flatMap It.raw=z at *
  go_wp2_with fail;go_roundw
  case rel=>exact⟨k+1,d,by go_num,by rw[o.out,jn],l⟩
  case measure=>simp[intOf];omega
 obtain rfl:k=its.length:=by omega
 rw[jpa];clear j f g;go_wp2_with fail;go_ret;exact⟨rfl,l⟩
theorem jeD{w:World}{l:Addr}{fs:List Fld}{cap:Nat}(r:∀(i:Nat) (f:List UInt8×List UInt8),fs[i]?=some f->∃b a,some l=some (⟨b,a,none⟩:Addr)/\b<w.heap.size/\w.cell? ⟨b,a+i*2,none⟩=some (.string (B f.1))/\w.cell? ⟨b,a+i*2+1,none⟩=some (.string (B f.2)))(o:Obj):
  ∀(j:Nat) u,(ju fs)[j]?=some u->(w.alloc o).cell? (l.add j)=some u:=by
 intro j u d;have s:j<(ju fs).length:=by
  rcases jpc j (ju fs).length with q|q
  ·exact q
  rw[jpe q]at d;cases d
 rw[JQ]at s;have k:j / 2<fs.length:=by omega
 obtain⟨f,p⟩:∃f,fs[j / 2]?=some f:=⟨_,joM k⟩
 obtain⟨b,a,e,g,m,n⟩:=r _ f p;obtain⟨a1,a2⟩:=XR fs _ f p;cases e;rw[WideShapes.add_plain,jqX _ _ _ (jqY g)];rcases Nat.mod_two_eq_zero_or_one j with h|h
 ·have c:j=j / 2*2:=by omega
  rw[<- c]at a1 m;rw[m,<- d,a1]
 have c:j=j / 2*2+1:=by omega
 rw[jqu,<- c]at n;rw[<- c]at a2;rw[n,<- d,a2]
theorem jnm(w:World):(binOp BinOp.eql 73 (.slice none 0 0) (.slice none 0 0)).run prog w=.ok (.bool true) w:=by kernel_rfl
theorem jl9(a:Addr)(n c:Nat)(w:World):(binOp BinOp.eql 73 (.slice (some a) n c) (.slice none 0 0)).run prog w=.ok (.bool false) w:=by kernel_rfl
attribute [local go_sem] jnm jl9
theorem xh(fs:List Fld)(v:Value)(w:World)(L:vP w v fs)(g:∀n c,v=.slice none n c->c=0)(Q:fs.length<=1000000):
  Calls prog 78 #[v] w fun e z=>∃y,e=.returned y/\z.ownsRow w.heap.size 148 2 y fs.length (ju fs)/\Below w.heap.size w z:=by
 obtain⟨A,cap,rfl,K,o⟩:=L;obtain⟨N,J,s,t,x⟩:=info_parts Xt;cases A with
 | none =>
  have I:fs=[]:=by
   cases fs with
   | nil=>rfl
   | cons a r=>obtain⟨b,O,e,_⟩:=o 0 a rfl;cases e
  have p:=g _ _ rfl;subst p;subst I;simp only[jpm];go_enter func78,ntmps78;go_wp2_with fail;go_ret;exact⟨_,rfl,⟨rfl,.inl ⟨rfl,rfl⟩⟩,joL _ _⟩
 | some E =>
 have i:(w.alloc (.cells #[] 148)).ownsRow w.heap.size 148 2 (.slice (some ⟨w.heap.size,0,none⟩) 0 0) 0 []:=World.ownsRow_lit w #[] 0 (joJ _) (by decide) rfl;have m:=(joL w.heap.size w).alloc (joJ _) (.cells #[] 148)
 have C:=joI (jeD (cap:=cap) o (.cells #[] 148));have k:∀u∈ju fs,u.oneCell'=true:=by intro u q;unfold ju at q;simp at q;obtain⟨a,b,_,h|h⟩:=q<;>subst h<;>rfl
 have D:=JQ fs;clear o;generalize ju fs=G at *
 go_enter func78,ntmps78;go_wp2_with (at_builtin;refine wpList_append_own _ rfl _ _ 73 rfl w.heap.size 148 N _ 2 32 underlying73 J s t x rfl (by decide) _ 0 [] rfl i E fs.length cap G rfl D C.out k ?c3 ?c4 ?c5 ?_)
 case c3=>unfold maxLen;omega
 case c4=>omega
 case c5=>simp
 intro y P f d _;have l:Below w.heap.size w P:=m.grown d (by simp) (fun j H=>(jpJ i j H).1)
 go_wp2_with fail;go_ret;exact⟨_,rfl,f,l⟩
def Yl(its:List It):List (List Fld):=(its.filter fun it=>it.kind==3).map It.fields
theorem jgj(its:List It)(k:Nat)(it:It)(h:its[k]?=some it):Yl (its.take (k+1))=Yl (its.take k)++if it.kind=3 then [it.fields] else []:=by
 unfold Yl;rw[jpd,h];simp only[Option.toList_some,jqS,jpt];congr 1;by_cases a:it.kind=3
 ·simp[a]
 simp[a]
theorem jiM(its:List It):(Yl its).length<=its.length:=by unfold Yl;rw[jo8];exact List.length_filter_le _ _
theorem jjn:(prog.info? 73).map (fun i=>(i.zero,i.size,i.bytes))=some (some (.slice none 0 0),1,24):=by kernel_rfl
structure jfJ(w wr:World)(v:Value)(vs:List Value)(rs:List (List Fld)):Prop where
 row:wr.ownsRow w.heap.size 73 1 v vs.length vs
 len:vs.length=rs.length
 each:∀(j:Nat) x r,vs[j]?=some x->rs[j]?=some r->wr.ownsRow w.heap.size 148 2 x r.length (ju r)
 below:Below w.heap.size w wr
theorem Ug{b:Type}{l:List b}{a x:b}{j:Nat}(h:(l++[a])[j]?=some x):(j<l.length/\l[j]?=some x)\/(j=l.length/\x=a):=by
 rcases jpc j l.length with q|q
 ·rw[jpf q]at h;exact .inl ⟨q,h⟩
 rw[jo7 q]at h;have c:j-l.length=0:=by
  rcases jp3 (j-l.length) with z|z
  ·exact z
  rw[jpe (by simp;omega)]at h;cases h
 rw[c]at h;cases h;exact .inr ⟨by omega,rfl⟩
theorem jfJ.start(w:World):jfJ w w (.slice none 0 0) [] []:=⟨⟨rfl,.inl ⟨rfl,rfl⟩⟩,rfl,fun j x r h=>by simp at h,joL _ _⟩
theorem jfJ.kept{w wr w2:World}{v:Value}{vs:List Value}{b:List (List Fld)}(h:jfJ w wr v vs b)(a:Below wr.heap.size wr w2):jfJ w w2 v vs b :=
 ⟨jX h.row a (joJ _),h.len,fun j x r c d=>jX (h.each j x r c d) a (joJ _),h.below.trans (a.mono h.below.size)⟩
theorem jmO{W h:World}{lo:Nat}{v x:Value}{n m:Nat}{xs i:List Value}(r:W.ownsRow lo 73 1 v n xs)(hx:W.ownsRow lo 148 2 x m i)(q:W.grownBy h v.ownBlock):h.ownsRow lo 148 2 x m i:=by
 refine jU hx fun b c=>q.block b (hx.lt b c).2 (fun e => ?_);rcases hx.2 with ⟨rfl,_⟩|⟨g,j,k,rfl,_,p,_⟩
 ·cases c
 cases c;rcases r.2 with ⟨rfl,_⟩|⟨l,d,f,rfl,_,a,_⟩
 ·cases e
 have:g=l:=joN e;subst this;rw[p]at a;injection a with a;injection a with _ o _;exact absurd o (by decide)
theorem jfJ.snoc{w W g:World}{v l x:Value}{vs:List Value}{i:List (List Fld)}{r:List Fld}(h:jfJ w W v vs i)(hx:W.ownsRow w.heap.size 148 2 x r.length (ju r))(m:g.ownsRow w.heap.size 73 1 l (vs.length+1) (vs++[x]))(c:(W.alloc (.cells #[x] 73)).grownBy g v.ownBlock):jfJ w g l (vs++[x]) (i++[r]):=by
 have a:=h.kept ((joL W.heap.size W).alloc (joJ _) (.cells #[x] 73));have d:=jX hx ((joL W.heap.size W).alloc (joJ _) (.cells #[x] 73)) (joJ _)
 refine⟨by rw[joK];exact m,by simp[h.len],fun j y s f b => ?_,a.below.grown c a.below.size (fun k e=>(h.row.lt k e).1)⟩;rcases Ug f with ⟨q,f⟩|⟨q,rfl⟩
 ·rw[jpf (by rw[<- h.len];exact q)]at b;exact jmO a.row (a.each j y s f b) c
 rw[q,h.len,jo7 (joJ _)]at b;simp at b;subst b;exact jmO a.row d c
theorem jfP(W:World)(x:Value)(t:TypeId):∀(j:Nat) u,[x][j]?=some u->(W.alloc (.cells #[x] t)).cell? ((⟨W.heap.size,0,none⟩:Addr).add j)=some u:=jp W t [x]
theorem YJ(its:List It)(v:Value)(w:World)(h:Its w v its)(r:jkR w v its)(hn:its.length<=1000000)(hf:∀d∈its,d.fields.length<=1000000):
  Calls prog 233 #[v] w fun e w'=>∃u D,e=.returned u/\jfJ w w' u D (Yl its):=by
 obtain⟨i0,hi,X,Y,Z⟩:=info_parts jjn;have O:=joI r
 have N:=joI hf;obtain⟨A,aa,rfl,ag,hc⟩:=h;have L:=joI hc
 clear hc r hf;go_enter func233,ntmps233;go_wp2_with fail;go_loopw [3,8] (fun u i wr=>∃(k:Nat) (D:List Value),k<=its.length/\i=.int .i64 k/\jfJ w wr u D (Yl (its.take k))) (fun _ i _=>its.length-(intOf i).toNat)
 case atStart=>exact⟨0,[],joT _,rfl,jfJ.start w⟩
 case round =>
 obtain⟨k,D,hk,rfl,a⟩:=hrel;by_cases o:k<its.length
 ·obtain⟨d,j⟩:∃d,its[k]?=some d:=⟨_,joM o⟩
  obtain⟨b,q,fv,rfl,t,V,c1,c2,m⟩:=L.out k d j;have G:=a.below
  have af:=G.size;have rl:=jiM (its.take k)
  rw[joS]at rl;have ah:D.length<=1000000:=by rw[a.len];omega
  obtain⟨P,Q,rfl,_,_⟩:=id m;have C:∀n c,Value.slice P d.fields.length Q=.slice none n c->c=0:=fun n c e=>by cases e;exact O.out k b q _ _ _ _ rfl o c2
  replace V:=(G.cell (p:=⟨b,q+k*3,none⟩) t).trans V;replace c1:=(G.cell (p:=⟨b,q+k*3+1,none⟩) t).trans c1;replace c2:=(G.cell (p:=⟨b,q+k*3+1+1,none⟩) t).trans c2;have SN:=joI (jgj its k d j)
  by_cases z:d.kind=3
  ·have I:=(m.below G (joJ _)).below ((joL wr.heap.size wr).alloc (joJ _) (.cells #[.int .i64 d.kind,.string (B d.raw),.slice P d.fields.length Q] 107)) (joJ _);have R:=joI (xh d.fields _ _ I C (N.out d (joW j)))
   have H:=(joL wr.heap.size wr).alloc (joJ _) (.cells #[.int .i64 d.kind,.string (B d.raw),.slice P d.fields.length Q] 107);have g:=joI (a.kept H)
   rw[z]at V R g;clear a j m L I H C O N;go_wp2_with fail;refine R.out.mono ?_;rintro e w2 ⟨x,rfl,hx,b2⟩;have f:=g.out.kept b2
   have K:w2.ownsRow w.heap.size 148 2 x d.fields.length (ju d.fields):=jA hx (by simp;omega);have J:=f.row
   have E:=joI f;have U:=joI K
   have a8:=f.below.size;obtain⟨xa,xc,W,_⟩:=je hx;subst W;have HV:=joI (jfP w2 (.slice xa d.fields.length xc) 73)
   clear f R g b2 hx K;go_wp2_with (at_builtin;refine wpList_append_own _ rfl _ _ 289 rfl w.heap.size 73 i0 _ 1 24 underlying289 hi X Y Z rfl (by decide) _ _ _ rfl (J.alloc _) ⟨w2.heap.size,0,none⟩ 1 1 _ rfl rfl HV.out ?c2 ?c3 ?c4 ?c5 ?_)
   case c2=>intro u hu;simp at hu;subst hu;rfl
   case c3=>unfold maxLen;omega
   case c4=>omega
   case c5=>simp;omega
   intro v' w3 l y _;have s:=E.out.snoc U.out l y
   obtain⟨g',a7,rfl⟩:=ownsRow_succ l;go_wp2_with fail;go_roundw
   case rel=>exact⟨k+1,_,o,by go_num,by rw[SN.out,if_pos z];exact s⟩
   case measure=>simp[intOf];omega
  have ae:((d.kind:Int)==3)=false:=beq_eq_false_iff_ne.2 (by omega);have g:=joI (a.kept ((joL wr.heap.size wr).alloc (joJ _) (.cells #[.int .i64 d.kind,.string (B d.raw),.slice P d.fields.length Q] 107)))
  clear a j m L C O N;go_wp2_with fail;go_roundw
  case rel=>exact⟨k+1,D,o,by go_num,by rw[SN.out,if_neg z,jo9];exact g.out⟩
  case measure=>simp[intOf];omega
 obtain rfl:k=its.length:=by omega
 rw[jpa]at a;clear L O N;go_wp2_with fail;go_ret;exact⟨_,D,rfl,a⟩
end
section
open Go.Maps Go.ChangeShapes Go.Joins Go.WideShapes
end
end Go.Proofs.YtbapfpekklcicaaGreatDoor
