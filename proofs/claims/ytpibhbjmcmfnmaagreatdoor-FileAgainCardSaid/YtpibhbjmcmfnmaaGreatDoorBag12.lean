/- Texts put together:RH,PI,PJ,PK,FK,BU,FN,GB,PN,PW,PX,PY,GD,PZ,TF. -/
import Derived.Lib.FrozenHead
import Derived.Laws.AppendOwnNone
import Derived.Test.YtpibhbjmcmfnmaaGreatDoorBag11
set_option linter.unusedVariables false
set_option maxRecDepth 100000
set_option maxHeartbeats 16000000
namespace Go.Proofs.YtpibhbjmcmfnmaaGreatDoor
open Go.RowKit Go.Shelf Tryz
abbrev jnq:=@List.setIfInBounds_toArray
abbrev jnM:=@List.set_cons_zero
abbrev jnN:=@List.set_cons_succ
abbrev joY:=@Go.Lib.cell_of_heap
abbrev jpn:=@List.filter_append
section
attribute [local go_sem] jnn
theorem jlr{W W':World}{b n:Nat}{t:TypeId}{v:Value}(h:Boxed W b t v)(hb:Below n W W')(hn:b<n):Boxed W' b t v:=(hb.block b hn).trans h
theorem zk{W:World}{base base':Nat}{e:TypeId}{size:Nat}{v:Value}{n:Nat}{xs:List Value}(h:W.ownsRow base e size v n xs)(hb:base'<=base):W.ownsRow base' e size v n xs:=by
 refine⟨h.1,?_⟩
 rcases h.2 with hn|⟨g,cap,cur,hv,hg,rest⟩
 ·exact .inl hn
 exact .inr ⟨g,cap,cur,hv,jns hb hg,rest⟩
theorem Qk(w:World)(o1 o2:Obj)(t:TypeId)(v:Value):Boxed (((w.alloc o1).alloc o2).alloc (.cells #[v] t)) (w.heap.size+2) t v:=by
 have:=xZ (w.alloc o1) o2 t v
 rwa [jnB]at this
theorem jgt(w:World)(o1 o2 o3:Obj)(t:TypeId)(v:Value):Boxed ((((w.alloc o1).alloc o2).alloc o3).alloc (.cells #[v] t)) (w.heap.size+3) t v:=by
 have:=Qk (w.alloc o1) o2 o3 t v
 rwa [jnB]at this
theorem vW{P:Program}{α:Type}{g:Operand}{ps:Array Tmp}{assign body:Code}{Q:Exit->Act->World->Prop}{a:Act}{w:World}
  {gf:Nat} {lb:Array Value} (hg:a.eval g=.func (.func gf) #[] lb) (eg:∀args w,(callFunc gf args).run P w=.ok (.enter gf args) w)
  {encs:α->Array Value} {k:Nat} {xs:List α} (hseq:jk8 P gf lb encs k xs w) (hps:∀x,(encs x).size=ps.size)
  (I:List α->World->Prop) (Ix:Code->List α->World->Prop) (hI:zN w.heap.size (k+2) I) (hIx:∀c,zN w.heap.size 2 (Ix c)) (h0:I [] w)
  (M:Act->List α->α->Act->World->Prop) (hM:∀a pre x a',zN w.heap.size 2 (fun(_:Unit) W=>M a pre x a' W))
  (hassign:∀(l:Nat) (pre:List α) (x:α) (post:List α) (W:World),xs=pre++x::post->w.heap.size+(k+2)<=W.heap.size->I pre W ->
   assign.wpIn (Fence.wide.inRound l) 7 P (Vs w.heap.size (k+2) (M a pre x) W) {tmps:=(ps.zip (encs x)).foldl (fun t (p,v)=>t.setIfInBounds p v) a.tmps,defers:=[]} W)
  (hbody:∀(l:Nat) (pre:List α) (x:α) (post:List α) (a':Act) (W:World),xs=pre++x::post->w.heap.size+(k+2)<=W.heap.size->M a pre x a' W ->
   body.wpIn (Fence.wide.inRound l) 7 P (left w.heap.size (k+2) I Ix (pre++[x]) W) a' W)
  (hdone:∀(W:World),I xs W->W.heap[w.heap.size]?=some (.deferred (some []))->Q .normal {a with defers:={target:=.collected w.heap.size,args:=#[]}::a.defers} W)
  (hstop:∀(c:Code) (pre:List α) (W:World),pre <+: xs->Ix c pre W->W.heap[w.heap.size]?=some (.deferred (some []))->c.wpIn Fence.wide 9 P Q {a with defers:={target:=.collected w.heap.size,args:=#[]}::a.defers} W) :
  (Code.rangeFunc g ps assign body).wpIn Fence.wide 9 P Q a w :=
 jes hg eg hseq hps I Ix hI hIx h0 (M a) (hM a) hassign hbody hdone hstop
theorem Jd{W:World}{b c:Nat}{t:TypeId}{v:Value}(h:Boxed W b t v)(hne:b≠c)(u:Value):Boxed (W.setCell ⟨c,0,none⟩ u) b t v:=h.other hne u
end
section
attribute [local go_sem] jT GT
theorem take_any{w:World}{T:Nat->Nat}{R b:Nat}{text:ByteArray}{p:PS}(h:jG w T R b text p)(hR:R<=w.heap.size)(x:Ln)(hi:Inv p x.at_)(hx:x.at_+x.bytes.length<=text.size)(ht:text.size<=60000)(hno:x.no<=x.at_):
  Calls prog 101 #[.pointer (some ⟨b,0,none⟩),.agg #[.int .i64 x.no,.int .i64 x.at_,.string (B x.text),.bool x.ended]] w fun e w'=>Jo w T R b text p x e w':=by
 cases hg:Jm p x with
 | true =>
  have hbl:x.text.length<=x.bytes.length:=by unfold Ln.bytes;simp
  exact jjx h hR x hi (by omega) hno hg
 | false =>
 exact jg7 h hR x hi hx (by omega) hno hg
def Out(w W:World)(v e:Value):Prop :=
 ja W w.heap.size 126 #[v]/\ja W (w.heap.size+1) 35 #[e]/\Below w.heap.size w W
def ji0(w:World)(text:ByteArray)(pre:List Ln)(W:World):Prop :=
 Out w W (.slice none 0 0) .nilIface/\∃T p,vK text.data.toList PS.new pre=.ok p/\Inv p (pre.flatMap Ln.bytes).length/\jG W T (w.heap.size+2) (w.heap.size+2) text p/\∀k,w.heap.size+3<=k->k<w.heap.size+9->T k=0
def jmi(w:World)(text:ByteArray)(c:Code)(pre:List Ln)(W:World):Prop :=
 c=.ret/\∃a n v,vK text.data.toList PS.new pre=.error (a,n)/\Out w W (.slice none 0 0) v/\jr (w.heap.size+9) W v a n
theorem Out.turned{w W W':World}{v e:Value}{B k:Nat}(h:Out w W v e)(ht:zh B k W W')(hB:w.heap.size+2<=B):Out w W' v e :=
 ⟨(ht.same _ h.1.lt (.inl (by omega))).trans h.1,(ht.same _ h.2.1.lt (.inl (by omega))).trans h.2.1,h.2.2.trans (ht.below (by omega) h.2.2.size)⟩
theorem Out.alloc{w W:World}{v e:Value}(h:Out w W v e)(o:Obj):Out w (W.alloc o) v e:=⟨h.1.alloc o,h.2.1.alloc o,h.2.2.alloc h.2.2.size o⟩
theorem Out.only{w W W':World}{v e:Value}{S:Nat->Prop}(h:Out w W v e)(g:jv S W W')(hS:∀r,S r->w.heap.size+2<=r):Out w W' v e :=
 ⟨h.1.only g (fun s=>by have:=hS _ s;omega),h.2.1.only g (fun s=>by have:=hS _ s;omega),h.2.2.trans (g.to_below h.2.2.size (fun r hr s=>by have:=hS _ s;omega))⟩
theorem Out.set{w W:World}{v e:Value}(h:Out w W v e)(v' e':Value):Out w ((W.setCell ⟨w.heap.size,0,none⟩ v').setCell ⟨w.heap.size+1,0,none⟩ e') v' e':=by
 obtain⟨h1,h2,h3⟩:=h
 exact⟨ja.other (h1.set 0 v') (by simp) _,ja.set (ja.other h2 (by simp) v') 0 e',(h3.setCell (p:=⟨w.heap.size,0,none⟩) (jnd _) _).setCell (p:=⟨w.heap.size+1,0,none⟩) (by show _<=w.heap.size+1;omega) _⟩
theorem jG.turned{w w':World}{T:Nat->Nat}{R b B k:Nat}{text:ByteArray}{p:PS}(h:jG w T R b text p)(ht:zh B k w w')(hz:∀r,B<=r->r<B+k->T r=0):jG w' T R b text p:=by
 obtain⟨V,h⟩:=h
 refine⟨V,h.same (fun r hr=>ht.same r (h.low r hr).2 ?_) ht.size⟩
 rcases jnK r B with q|q
 ·exact .inl q
 rcases jnK r (B+k) with q'|q'
 ·exact absurd (hz r q q') hr
 exact .inr q'
theorem ji0.turned{w W W':World}{text:ByteArray}{pre:List Ln}{B k:Nat}(h:ji0 w text pre W)(ht:zh B k W W')(hB:w.heap.size+3<=B)(hk:B+k<=w.heap.size+9):ji0 w text pre W':=by
 obtain⟨h1,T,p,h2,h3,h4,h5⟩:=h
 exact⟨h1.turned ht (by omega),T,p,h2,h3,h4.turned ht (fun r a b=>h5 r (by omega) (by omega)),h5⟩
theorem ji0.alloc{w W:World}{text:ByteArray}{pre:List Ln}(h:ji0 w text pre W)(o:Obj):ji0 w text pre (W.alloc o):=by
 obtain⟨h1,T,p,h2,h3,h4,h5⟩:=h
 exact⟨h1.alloc o,T,p,h2,h3,h4.below ((jne _ _).alloc (jnd _) o),h5⟩
theorem jmi.turned{w W W':World}{text:ByteArray}{c:Code}{pre:List Ln}{B k:Nat}(h:jmi w text c pre W)(ht:zh B k W W')(hB:w.heap.size+3<=B)(hk:B+k<=w.heap.size+9):jmi w text c pre W':=by
 obtain⟨h0,a,n,v,h1,h2,q,h3,h4,h5⟩:=h
 exact⟨h0,a,n,v,h1,h2.turned ht (by omega),q,h3,h4,(ht.same q h5.lt (.inr (by omega))).trans h5⟩
theorem jeO{text:List UInt8}{pre:List Ln}{p q:PS}{x:Ln}(h:vK text PS.new pre=.ok p)(ht:zO text p x=.ok q):vK text PS.new (pre++[x])=.ok q:=by
 rw[vh,h];show(match zO text p x with | .error e=>_ | .ok q=>vK text q [])=_;rw[ht];rfl
theorem UW{text:List UInt8}{pre:List Ln}{p:PS}{e:Nat×Nat}{x:Ln}(h:vK text PS.new pre=.ok p)(ht:zO text p x=.error e):vK text PS.new (pre++[x])=.error e:=by
 rw[vh,h];show(match zO text p x with | .error e=>_ | .ok q=>vK text q [])=_;rw[ht]
theorem jeN{text:List UInt8}{pre xs:List Ln}{e:Nat×Nat}(h:vK text PS.new pre=.error e)(hp:pre <+: xs):vK text PS.new xs=.error e:=by
 obtain⟨post,rfl⟩:=hp
 rw[vh,h]
end
section
attribute [local go_sem] jnn jT
def Its(w:World)(v:Value)(its:List It):Prop :=
 ∃A cap,v=.slice A its.length cap/\its.length<=cap/\∀(i:Nat) (it:It),its[i]?=some it->∃b off fv,A=some ⟨b,off,none⟩/\b<w.heap.size /\
  w.cell? ⟨b,off+i*3,none⟩=some (.int .i64 it.kind)/\w.cell? ⟨b,off+i*3+1,none⟩=some (.string (B it.raw))/\w.cell? ⟨b,off+i*3+1+1,none⟩=some fv/\Xj w fv it.fields
theorem jF.its {w : World} {T : Nat -> Nat} {R b : Nat} {text : ByteArray} {p : PS} {V : PV} (h : jF w T R b text p V) : Its w V.v3 p.items := by
  rcases jor h.r3 with ⟨e, hn⟩ | ⟨g, cap, e⟩
  . have : p.items = [] := List.length_eq_zero_iff.1 hn
    rw [e, this]
    exact ⟨none, 0, rfl, jnd _, fun i it hi => by simp at hi⟩
  refine ⟨some ⟨g, 0, none⟩, cap, e, (by rcases h.r3.2 with ⟨q, _⟩ | ⟨g', cap', cur, q, _, _, q2, _⟩; · rw [e] at q; cases q
                                         rw [e] at q; cases q; exact q2), fun i it hi => ?_⟩
  have hlt : i < p.items.length := by
    rcases jnK i p.items.length with q | q
    . exact q
    rw [jnY q] at hi; cases hi
  obtain ⟨fv, hfv⟩ : ∃ fv, V.fvs[i]? = some fv := ⟨_, jnh (by rw [h.nf]; exact hlt)⟩
  obtain ⟨a0, a1, a2⟩ := xb _ _ i it fv hi hfv
  have hr := h.r3
  rw [e] at hr
  refine ⟨g, 0, fv, rfl, (joK hr g rfl).2, ?_, ?_, ?_, YM (h.rf i it fv hi hfv).1⟩
  . rw [jnX, jnL hr (i * 3) (by omega)]; exact a0
  . rw [jnX, jnL hr (i * 3 + 1) (by omega)]; exact a1
  rw [jnX, jnL hr (i * 3 + 1 + 1) (by omega)]; exact a2
def jmd(w:World)(v:Value)(its:List It):Prop:=∀(i:Nat) (b off:Nat) (n cap m c:Nat),v=.slice (some ⟨b,off,none⟩) n cap->i<its.length->w.cell? ⟨b,off+i*3+1+1,none⟩=some (.slice none m c)->c=0
theorem jF.nil{w:World}{T:Nat->Nat}{R b:Nat}{text:ByteArray}{p:PS}{V:PV}(h:jF w T R b text p V):jmd w V.v3 p.items:=by
 intro i b off n cap m c e hlt hcell
 obtain⟨it,hi⟩:∃it,p.items[i]?=some it:=⟨_,jnh hlt⟩
 obtain⟨fv,hfv⟩:∃fv,V.fvs[i]?=some fv:=⟨_,jnh (by rw[h.nf];exact hlt)⟩
 obtain⟨_,_,a2⟩:=xb _ _ i it fv hi hfv
 have hr:=h.r3
 rcases jor hr with ⟨e',hn⟩|⟨g,cap',e'⟩
 ·omega
 rw[e']at e hr
 cases e
 rw[jnX,jnL hr (i*3+1+1) (by omega),a2]at hcell
 cases hcell
 rcases(h.rf i it _ hi hfv).1.2 with ⟨q,_⟩|⟨g',cap',cur,q,_⟩
 ·cases q;rfl
 cases q
def ZJ(w:World)(text:List UInt8)(e:Ending)(w':World):Prop :=
 Below w.heap.size w w'/\match jE text with
  | .error (a,n)=>∃v,e=.returned (.tuple #[.slice none 0 0,v])/\jr w.heap.size w' v a n
  | .ok its=>∃v,e=.returned (.tuple #[v,.nilIface])/\Its w' v its/\jmd w' v its
theorem ZJ.no{w w':World}{text:List UInt8}{v:Value}{a n:Nat}(h:jE text=.error (a,n))(hb:Below w.heap.size w w')(hf:jr w.heap.size w' v a n):ZJ w text (.returned (.tuple #[.slice none 0 0,v])) w' :=
 ⟨hb,by rw[h];exact⟨v,rfl,hf⟩⟩
theorem ZJ.yes{w w':World}{text:List UInt8}{v:Value}{its:List It}(h:jE text=.ok its)(hb:Below w.heap.size w w')(hf:Its w' v its/\jmd w' v its):ZJ w text (.returned (.tuple #[v,.nilIface])) w' :=
 ⟨hb,by rw[h];exact⟨v,rfl,hf⟩⟩
theorem Wk{Q:Ending->World->Prop}(w W:World)(v e:Value)(tmps:Array Value)(hO:Out w W v e)(hv1:v.oneCell'=true)(he1:e.oneCell'=true)(hK:W.heap[w.heap.size+4]?=some (.deferred (some [])))(t2:tmps[2]?=some (.pointer (some ⟨w.heap.size,0,none⟩)))(t3:tmps[3]?=some (.pointer (some ⟨w.heap.size+1,0,none⟩)))
  (hQ:Below w.heap.size w (W.putObj (w.heap.size+4) (.deferred none))->Q (.returned (.tuple #[v,e])) (W.putObj (w.heap.size+4) (.deferred none))) :
  bodyPostM Fence.wide 9 prog Tryz.f76 Q .ret {tmps:=tmps,defers:=[{target:=.collected (w.heap.size+4),args:=#[]}]} W:=by
 obtain⟨h4,h5,hB⟩:=hO
 have p1:=grownBy_putObj' W (w.heap.size+4) (.deferred none)
 have r4:ja (W.putObj (w.heap.size+4) (.deferred none)) w.heap.size 126 #[v]:=(p1.block _ h4.lt (fun e=>by have:=jng e;omega)).trans h4
 have r5:ja (W.putObj (w.heap.size+4) (.deferred none)) (w.heap.size+1) 35 #[e]:=(p1.block _ h5.lt (fun e=>by have:=jng e;omega)).trans h5
 have c4:(W.putObj (w.heap.size+4) (.deferred none)).cell? ⟨w.heap.size,0,none⟩=some v:=r4.cell 0
 have c5:(W.putObj (w.heap.size+4) (.deferred none)).cell? ⟨w.heap.size+1,0,none⟩=some e:=r5.cell 0
 refine⟨by simp,.inl ⟨_,_,rfl,run_takeDeferred hK,?_⟩⟩
 exact⟨.tuple #[v,e],by simp[results,Tryz.f76,go_sem,t2,t3,c4,c5],hQ (hB.trans (belowK_b (w:=w) (jnd _) W _ _ _ (by omega) hK rfl rfl))⟩
theorem Yw:∀(n no at_:Nat) (l:List UInt8),l.length<=n->∀x∈jQ no at_ l,1<=x.bytes.length
 | 0,_,_,l,h,x,hx=>by
  have:l=[]:=List.length_eq_zero_iff.1 (by omega)
  subst this
  rw[jp]at hx;cases hx
 | n+1,no,at_,l,h,x,hx=>by
  by_cases hl:l=[]
  ·subst hl;rw[jp]at hx;cases hx
  have hp:=qO l hl
  rw[jx _ _ _ hl]at hx
  rcases List.mem_cons.1 hx with rfl|hx
  ·have:(Ln.bytes ⟨no,at_,head l,nl l⟩).length=qI l:=by
    unfold Ln.bytes qI;simp only[jnf];split<;>rfl
   omega
  exact Yw n _ _ _ (by simp only[jnr];omega) x hx
theorem jcA:∀(pre:List Ln),(∀x∈pre,1<=x.bytes.length)->pre.length<=(pre.flatMap Ln.bytes).length
 | [],_=>jnd _
 | x::pre,h=>by
  have ih:=jcA pre (fun y hy=>h y (jnm _ hy))
  have:=h x jno
  rw[jnA,jnf,jni];omega
theorem Yk(s:ByteArray)(hs:s.size<=60000)(w:World):
  Calls prog 76 #[.string s] w fun e w'=>ZJ w s.data.toList e w':=by
 obtain⟨xs,hxs⟩:∃xs,jf s.data.toList=xs:=⟨_,rfl⟩
 have HXS:=jnc hxs
 have hat:=fun pre x post (e:xs=pre++x::post)=>vX s.data.toList pre x post (hxs.trans e)
 have HAT:=jnc hat
 have hj:(xs.flatMap Ln.bytes)=s.data.toList:=by rw[<- hxs];exact zg _
 have hjl:(xs.flatMap Ln.bytes).length=s.size:=by rw[hj,<- jnu]
 have HJL:=jnc hjl
 have hpos:∀x∈xs,1<=x.bytes.length:=by rw[<- hxs];exact Yw _ 0 0 _ (jnd _)
 have HPOS:=jnc hpos
 clear hxs hat hjl hj hpos
 refine callsIn_wide (n:=9).1 ?_
 refine callsIn_of_wp_marks func76 rfl trivial ?_ rfl
 simp only[ntmps76,jnV,jni,jnG,Nat.reduceAdd,Nat.reduceSub,jn3,jn4,joa,jn5,jnU,jny]
 gi_wp2_with fail
 refine⟨trivial,(callsIn_wide.2 (yG s _)).mono ?_⟩
 rintro e w3 ⟨rfl,rfl⟩
 gi_wp2_with fail
 have k7:=jgt w (.cells #[.slice none 0 0] 126) (.cells #[.nilIface] 35) (.cells #[.int .i64 0,.slice none 0 0,.string s,.slice none 0 0,.int .i64 0,.int .i64 0,.slice none 0 0] 168) 9 (.string s)
 have HH:=vf s (w.heap.size+3) _ k7 (by omega)
 rw[HXS.out]at HH
 have n0:=jF.new ((w.alloc (.cells #[.slice none 0 0] 126)).alloc (.cells #[.nilIface] 35)) s (w.heap.size+2) (by simp)
 rw[jnB,jnB]at n0
 change jF _ (fun k=>if k=w.heap.size+2 then 1 else 0) _ (w.heap.size+2) _ _ _ at n0
 have o0:Out w ((((w.alloc (.cells #[.slice none 0 0] 126)).alloc (.cells #[.nilIface] 35)).alloc (.cells #[.int .i64 0,.slice none 0 0,.string s,.slice none 0 0,.int .i64 0,.int .i64 0,.slice none 0 0] 168)).alloc (.cells #[.string s] 9)) (.slice none 0 0) .nilIface:=by
  have h1:=ja.new (w.alloc (.cells #[.slice none 0 0] 126)) 35 #[.nilIface]
  rw[jnB]at h1
  exact⟨(((ja.new w _ _).alloc _).alloc _).alloc _,(h1.alloc _).alloc _,((((jne _ w).alloc (jnd _) _).alloc (by simp) _).alloc (by simp;omega) _).alloc (by simp;omega) _⟩
 have init:ji0 w s [] ((((w.alloc (.cells #[.slice none 0 0] 126)).alloc (.cells #[.nilIface] 35)).alloc (.cells #[.int .i64 0,.slice none 0 0,.string s,.slice none 0 0,.int .i64 0,.int .i64 0,.slice none 0 0] 168)).alloc (.cells #[.string s] 9)) :=
  ⟨o0,_,PS.new,rfl,Inv.new,jG.below ⟨_,n0⟩ ((jne _ _).alloc (jnd _) _),fun k h1 h2=>if_neg (by omega)⟩
 have hz:((((w.alloc (.cells #[.slice none 0 0] 126)).alloc (.cells #[.nilIface] 35)).alloc (.cells #[.int .i64 0,.slice none 0 0,.string s,.slice none 0 0,.int .i64 0,.int .i64 0,.slice none 0 0] 168)).alloc (.cells #[.string s] 9)).heap.size=w.heap.size+4:=by simp
 refine vW (gf:=139) (lb:=#[.pointer (some ⟨w.heap.size+3,0,none⟩)]) rfl (enters_of func139 (by kernel_rfl) rfl) HH (fun _=>rfl)
  (ji0 w s) (jmi w s) (by rw[hz];exact fun pre W W' h ht=>h.turned ht (by omega) (by omega)) (fun c pre W W' h ht=>h.turned ht (by rw[hz];omega) (by rw[hz];omega)) init
  (fun a pre x a' W=>∃Bx,w.heap.size+9<=Bx/\a'={tmps:=(a.tmps.setIfInBounds 16 (.agg (vl x))).setIfInBounds 5 (.pointer (some ⟨Bx,0,none⟩)),defers:=[]}/\ja W Bx 164 (vl x)/\ji0 w s pre W)
  ?hM ?assign ?body ?done ?stop
 case hM =>
  rw[hz]
  rintro a pre x a' _ W W' ⟨Bx,h1,h2,h3,h4⟩ ht
  exact⟨Bx,h1,h2,(ht.same Bx h3.lt (.inr (by omega))).trans h3,h4.turned ht (by omega) (by omega)⟩
 case assign =>
  rw[hz]
  intro l pre x post W hx hsz hi
  clear hx
  dsimp only[vl]
  gi_wp2
  exact⟨(vT.refl _ _ W).alloc hsz _,W.heap.size,by omega,rfl,ja.new _ _ _,hi.alloc _⟩
 case body =>
  rw[hz]
  rintro l pre x post a' W hx hsz ⟨Bx,hB,rfl,hc,hO,T,p,hr,hi,hp,hT⟩
  obtain⟨hno,hat⟩:=HAT.out pre x post hx
  rw[<- hat]at hi
  have hsum:=HJL.out
  rw[hx,jnO,jnA,jnf,jnf,<- hat]at hsum
  have hge:=jcA pre (fun y hy=>HPOS.out y (by rw[hx];exact List.mem_append_left _ hy))
  rw[<- hno,<- hat]at hge
  have hR:w.heap.size+2<=W.heap.size:=by omega
  have TK:=take_any hp hR x hi (by omega) hs hge
  have HR:=jnc hr
  have HI:=jnc hi
  have HX:=jnc (show x.at_=(pre.flatMap Ln.bytes).length from hat)
  clear hx hr hi hat hsum hno
  simp only[jnq,jnM,jnN,vl]at hc ⊢
  have q0:W.cell? ⟨Bx,0,none⟩=some (.int .i64 x.no):=hc.cell 0
  have q1:W.cell? ⟨Bx,1,none⟩=some (.int .i64 x.at_):=hc.cell 1
  have q2:W.cell? ⟨Bx,2,none⟩=some (.string ⟨x.text.toArray⟩):=hc.cell 2
  have q3:W.cell? ⟨Bx,3,none⟩=some (.bool x.ended):=hc.cell 3
  have stay:∀W1,jv (fun r=>T r≠0) W W1->vT (w.heap.size+4) 5 W W1:=fun W1 ho=>⟨ho.size,fun r h1 h2=>ho.same r (by omega) (fun hn=>hn (hT r (by omega) (by omega)))⟩
  have hTR:∀r,T r≠0->w.heap.size+2<=r:=fun r hr=>by obtain⟨V,hv⟩:=hp;exact(hv.low r hr).1
  gi_wp2_with fail
  refine⟨trivial,((callsIn_wide.2 TK).inRound l).mono ?_⟩
  rintro e W1 ht
  unfold Jo at ht
  cases htk:zO s.data.toList p x with
  | error an =>
   obtain⟨a,n⟩:=an
   rw[htk]at ht
   obtain⟨v,rfl,hf,ho⟩:=ht
   have hrn:=UW HR.out htk
   obtain⟨q,hq,rfl,hqc⟩:=hf
   have hO1:=hO.only ho hTR
   have c2:W1.cell? ⟨w.heap.size,0,none⟩=some (.slice none 0 0):=hO1.1.cell 0
   have f2:=hO1.1.frozen 0
   have c3:W1.cell? ⟨w.heap.size+1,0,none⟩=some .nilIface:=hO1.2.1.cell 0
   have f3:=hO1.2.1.frozen 0
   have hst:=stay W1 ho
   clear TK hO hc
   gi_wp2
   refine⟨(hst.setCell (.inl (by show w.heap.size<_;omega)) _).setCell (.inl (by show w.heap.size+1<_;omega)) _,rfl,a,n,_,hrn,hO1.set _ _,q,by omega,rfl,?_⟩
   exact ja.other (ja.other hqc (by show q≠w.heap.size;omega) _) (by show q≠w.heap.size+1;omega) _
  | ok p' =>
  rw[htk]at ht
  obtain⟨rfl,T',hp',hst⟩:=ht
  have hrn:=jeO HR.out htk
  obtain⟨hi',_⟩:=Inv.take HI.out hge htk
  clear TK hc
  gi_wp2
  refine⟨stay W1 hst.only,hO.only hst.only hTR,T',p',hrn,?_,hp',fun r h1 h2=>(hst.old r (by omega)).2 (hT r h1 h2)⟩
  rw[jnO,jnf,<- HX.out]
  simpa using hi'
 case done =>
  rw[hz]
  rintro W ⟨hO,T,p,hr,hi,hp,hT⟩ hmark
  have zW:w.heap.size+4<W.heap.size:=(Array.getElem?_eq_some_iff.1 hmark).1
  rw[HJL.out]at hi
  have hTR:∀r,T r≠0->w.heap.size+2<=r:=fun r hr=>by obtain⟨V,hv⟩:=hp;exact(hv.low r hr).1
  have EF:=QT hp (by omega) (by have:=hi.said;omega) (by have:=hi.fields;omega)
  have PL:Hid (jE s.data.toList=Gp s.data.toList p):=by
   show _=_
   unfold jE;rw[HXS.out,hr]
  have HI:=jnc hi.endField
  have h4:T (w.heap.size+4)=0:=hT _ (by omega) (by omega)
  clear hr hi hp
  gi_wp2_with fail
  refine⟨trivial,(callsIn_wide.2 EF).mono ?_⟩
  rintro e W1 hE
  unfold qv at hE
  by_cases h0:jk p=0
  ·rw[if_pos h0]at hE
   obtain⟨rfl,T1,g1,s1⟩:=hE
   have hO1:=hO.only s1.only hTR
   have hm1:=(s1.only.same _ zW (fun e=>e h4)).trans hmark
   have h41:=(s1.old _ zW).2 h4
   have hTR1:∀r,T1 r≠0->w.heap.size+2<=r:=fun r hr=>by obtain⟨V,hv⟩:=g1;exact(hv.low r hr).1
   have zW1:=s1.only.size
   have e0:=YR p
   have hat:=HI.out.at_
   have EB:=QU g1 (by omega) s.size hat (jnd _) (by omega) (by have:=HI.out.items;omega) (by have:=HI.out.stanzas;omega)
   have l1:=g1.lt
   have PY:Hid (jE s.data.toList=.ok (jy s.data.toList (jb p) s.size).items):=by
    show _=_
    rw[PL.out];unfold Gp;rw[if_neg (by simpa using h0),<- jnu]
   clear EF hO hmark HI PL g1
   gi_wp2_with fail
   refine⟨trivial,(callsIn_wide.2 EB).mono ?_⟩
   rintro e W2 ⟨rfl,T2,⟨V2,g2⟩,s2⟩
   have hO2:=hO1.only s2.only hTR1
   have hm2:=(s2.only.same _ (by omega) (fun e=>e h41)).trans hm1
   obtain⟨a3,c3,e3,_⟩:=jg g2.r3
   have hits:=g2.its
   have q3:W2.cell? ⟨w.heap.size+1+1,3,none⟩=some (.slice a3 (jy s.data.toList (jb p) s.size).items.length c3):=by rw[<- e3];exact g2.cells.cell 3
   have l2:=g2.lt
   have c2:W2.cell? ⟨w.heap.size,0,none⟩=some (.slice none 0 0):=hO2.1.cell 0
   have f2:=hO2.1.frozen 0
   have c3':W2.cell? ⟨w.heap.size+1,0,none⟩=some .nilIface:=hO2.2.1.cell 0
   have f3:=hO2.2.1.frozen 0
   rw[e3]at hits
   have hT2:T2 (w.heap.size+4)=0:=(s2.old _ (by omega)).2 h41
   have HG:=jnc (fun W' (hs:∀k,T2 k≠0->W'.heap[k]?=W2.heap[k]?) hz=>And.intro (g2.same (w':=W') hs hz).its (g2.same (w':=W') hs hz).nil)
   have hlow2:∀r,T2 r≠0->w.heap.size+2<=r:=fun r hr=>(g2.low r hr).1
   rw[e3]at HG
   clear EB hits g2
   gi_wp2
   refine Wk w _ (.slice a3 (jy s.data.toList (jb p) s.size).items.length c3) .nilIface _ (hO2.set _ _) rfl rfl ?_ rfl rfl fun hb=>.yes PY.out hb (HG.out _ ?_ ?_)
   ·exact(jnE _ _ _ _ (by show w.heap.size+4≠w.heap.size+1;omega)).trans ((jnE _ _ _ _ (by show w.heap.size+4≠w.heap.size;omega)).trans hm2)
   ·intro k hk
    have h1:=hlow2 k hk
    rw[jof (by rintro rfl;exact hk hT2)]
    exact(jnE _ _ _ _ (by show k≠w.heap.size+1;omega)).trans (jnE _ _ _ _ (by show k≠w.heap.size;omega))
   simp[World.setCell]
  rw[if_neg h0]at hE
  obtain⟨v,rfl,⟨q,hq,rfl,hqc⟩,hb1⟩:=hE
  have hO1:Out w W1 (.slice none 0 0) .nilIface:=⟨hO.1.below hb1 hO.1.lt,hO.2.1.below hb1 hO.2.1.lt,hO.2.2.trans (hb1.mono hO.2.2.size)⟩
  have hm1:=(hb1.block _ zW).trans hmark
  have c2:W1.cell? ⟨w.heap.size,0,none⟩=some (.slice none 0 0):=hO1.1.cell 0
  have f2:=hO1.1.frozen 0
  have c3':W1.cell? ⟨w.heap.size+1,0,none⟩=some .nilIface:=hO1.2.1.cell 0
  have f3:=hO1.2.1.frozen 0
  have PN:Hid (jE s.data.toList=.error (p.begin_,jk p)):=by
   show _=_
   rw[PL.out];unfold Gp;rw[if_pos h0]
  clear EF hO hmark HI PL
  gi_wp2
  refine Wk w _ (.slice none 0 0) (.iface 133 (.pointer (some ⟨q,0,none⟩))) _ (hO1.set _ _) rfl rfl ?_ rfl rfl fun hb=>.no PN.out hb ⟨q,by omega,rfl,?_⟩
  ·exact(jnE _ _ _ _ (by show w.heap.size+4≠w.heap.size+1;omega)).trans ((jnE _ _ _ _ (by show w.heap.size+4≠w.heap.size;omega)).trans hm1)
  exact(jof (by omega)).trans (ja.other (ja.other hqc (by show q≠w.heap.size;omega) _) (by show q≠w.heap.size+1;omega) _)
 case stop =>
 rw[hz]
 rintro c pre W hpre ⟨rfl,a,n,v,hr,hO,⟨q,hq,rfl,hqc⟩⟩ hmark
 have PN:Hid (jE s.data.toList=.error (a,n)):=by
  show _=_
  unfold jE;rw[HXS.out,jeN hr hpre]
 gi_wp2
 refine Wk w _ (.slice none 0 0) (.iface 133 (.pointer (some ⟨q,0,none⟩))) _ hO rfl rfl hmark rfl rfl fun hb=>.no PN.out hb ⟨q,by omega,rfl,?_⟩
 exact(jof (by omega)).trans hqc
end
section
theorem jee(q:Option Addr)(w:World):(Instr.typeAssert (.iface 133 (.pointer q)) 35 46 true).run prog w=.ok (.tuple #[.int .i64 0,.bool false]) w:=by kernel_rfl
theorem jas(q:Option Addr)(w:World):(Instr.typeAssert (.iface 133 (.pointer q)) 35 133 true).run prog w=.ok (.tuple #[.pointer q,.bool true]) w:=by kernel_rfl
theorem jat(n:Int)(w:World):(Instr.typeAssert (.iface 46 (.int .i64 n)) 35 133 true).run prog w=.ok (.tuple #[.pointer none,.bool false]) w:=by kernel_rfl
theorem jau(w:World):(Instr.typeAssert .nilIface 35 133 true).run prog w=.ok (.tuple #[.pointer none,.bool false]) w:=by kernel_rfl
theorem jed(n:Int)(w:World):(Instr.typeAssert (.iface 46 (.int .i64 n)) 35 46 true).run prog w=.ok (.tuple #[.int .i64 n,.bool true]) w:=by kernel_rfl
attribute [local go_sem] jT jee jas jat jau jed
end
section
theorem jaK{ls:List (List UInt8)}(h:zi ls=0):zw (ql ls) (qk ls)=0/\(ql ls).length<=32/\(qk ls).length<=1000:=by
 cases hF:jc3 ls with
 | false=>rw[(Un hF).1]at h;cases h
 | true =>
 by_cases hl:(yl ls).length<=1000
 ·obtain⟨a,r,rfl,hka,_⟩:=XM hF
  obtain⟨_,e2,e3⟩:=XD hF hl
  have hg:za (before a)=true:=(jlL hka).2.2
  rw[e2,e3]
  exact⟨by unfold zw;rw[hg,if_pos rfl,if_pos hl],(vY hg).2.1,hl⟩
 rw[(Vx hF hl).1]at h;cases h
attribute [local go_sem] jT
end
section
theorem jft:Lays.n240 prog Tryz.lays156_ren:={Tryz.lays156 with}
def Bld(b R:Nat)(l:List UInt8)(W:World):Prop :=
 ∃p v,W.heap[b]?=some (.cells #[p,v] 182 (0,0))/\(p=.pointer none\/p=.pointer (some ⟨b,0,none⟩))/\W.ownsRow R 5 1 v l.length (Lib.byteCells l)
structure qK(b R:Nat)(W W':World):Prop where
 os:W'.os=W.os
 tape:W'.tape=W.tape
 output:W'.output=W.output
 size:W.heap.size<=W'.heap.size
 same:∀r,r<R->r<W.heap.size->r≠b->W'.heap[r]?=W.heap[r]?
 others:Lib.OthersKept 5 (some b) W W'
theorem qK.refl(b R:Nat)(W:World):qK b R W W:=⟨rfl,rfl,rfl,jnd _,fun _ _ _ _=>rfl,Lib.OthersKept.refl _ _ _⟩
theorem qK.trans{b R:Nat}{X Y Z:World}(h:qK b R X Y)(g:qK b R Y Z):qK b R X Z :=
 ⟨g.os.trans h.os,g.tape.trans h.tape,g.output.trans h.output,jns h.size g.size,fun r a c e=>(g.same r a (jnw c h.size) e).trans (h.same r a c e),h.others.trans g.others⟩
theorem qK.grown{b R:Nat}{X Y Z:World}(h:qK b R X Y){row:Option Nat}(hg:Y.grownBy Z row)(hr:∀r,row=some r->R<=r/\∃c fz,Y.heap[r]?=some (.cells c 5 fz)):qK b R X Z :=
 h.trans ⟨hg.os,hg.tape,hg.output,hg.size,fun r a c e=>hg.block r c (fun e2=>by have:=(hr r e2.symm).1;omega),(Lib.OthersKept.refl _ _ _).grown hg (fun g e=>(hr g e).2)⟩
theorem qK.put{b R:Nat}{X Y:World}(h:qK b R X Y)(j:Nat)(u:Value):qK b R X (Y.setCell ⟨b,j,none⟩ u) :=
 h.trans ⟨rfl,rfl,rfl,by simp[World.setCell],fun r _ _ e=>jnE _ _ _ _ e,Lib.OthersKept.setCell (b:=b) (Lib.OthersKept.refl _ _ Y) ⟨b,j,none⟩ rfl u⟩
theorem qK.other{b R c:Nat}{X Y:World}{cs:Array Value}{t:TypeId}(h:qK b R X Y)(hc:X.heap[c]?=some (.cells cs t (0,0)))(hne:c≠b)(ht:t≠5):Y.heap[c]?=some (.cells cs t (0,0)) :=
 h.others c _ hc (fun e=>hne (jng e)) (fun c' fz e=>ht (by injection e))
theorem qK.alloc{b R:Nat}{X Y:World}(h:qK b R X Y)(o:Obj):qK b R X (Y.alloc o) :=
 h.grown (World.grownBy_alloc Y o none) (fun r e=>by cases e)
theorem qK.below{b R n:Nat}{X Y:World}(h:qK b R X Y)(hb:n<=b)(hR:n<=R)(hs:n<=X.heap.size):Below n X Y :=
 ⟨h.os,h.tape,h.output,h.size,fun r a=>h.same r (by omega) (by omega) (by omega)⟩
theorem qK.stay{b R B k:Nat}{X Y:World}(h:qK b R X Y)(hb:b<B)(hR:B+k<=R)(hs:B+k<=X.heap.size):vT B k X Y :=
 ⟨h.size,fun r a c=>h.same r (by omega) (by omega) (by omega)⟩
theorem qK.box{b R c:Nat}{X Y:World}{t:TypeId}{v:Value}(h:qK b R X Y)(hv:Boxed X c t v)(hc:c<R)(hne:c≠b):Boxed Y c t v :=
 (h.same c hc hv.lt hne).trans hv
theorem Bld.lt{b R:Nat}{l:List UInt8}{W:World}(h:Bld b R l W):b<W.heap.size:=by
 obtain⟨p,v,hb,_⟩:=h
 exact(Array.getElem?_eq_some_iff.1 hb).1
theorem Bld.alloc{b R:Nat}{l:List UInt8}{W:World}(h:Bld b R l W)(o:Obj):Bld b R l (W.alloc o):=by
 have hlt:=h.lt
 obtain⟨p,v,hb,hp,hv⟩:=h
 exact⟨p,v,(jov _ _ _ hlt).trans hb,hp,hv.alloc _⟩
theorem Bld.new(w:World)(R:Nat):Bld w.heap.size R [] (w.alloc (.cells #[.pointer none,.slice none 0 0] 182)) :=
 ⟨_,_,jpD w _,.inl rfl,by simp[Lib.byteCells],.inl ⟨rfl,rfl⟩⟩
theorem Bld.turned{b R B k:Nat}{l:List UInt8}{W W':World}(h:Bld b R l W)(ht:zh B k W W')(hb:b<B)(hR:B+k<=R):Bld b R l W':=by
 have hlt:=h.lt
 obtain⟨p,v,hb',hp,hv⟩:=h
 refine⟨p,v,(ht.same b hlt (.inl hb)).trans hb',hp,?_⟩
 exact ht.row hv (fun g e=>.inr (by have:=(hv.lt g e).1;omega))
theorem Bld.library{b R B:Nat}{l:List UInt8}{W:World}(h:Bld b R l W)(hB:B<=b)(hR:B<=R):Lib.IsBuilderF 182 5 B b (Lib.byteCells l) W:=by
 obtain⟨p,v,hb,hp,hv⟩:=h
 have hv2:W.ownsRow B 5 1 v (Lib.byteCells l).length (Lib.byteCells l):=by
  rw[jpC]
  refine⟨hv.1,?_⟩
  rcases hv.2 with hn|⟨g,cap,cur,e1,e2,rest⟩
  ·exact .inl hn
  exact .inr ⟨g,cap,cur,e1,jns hR e2,rest⟩
 have hne:v.ownBlock≠some b:=Lib.ownBlock_ne hv hb (by decide)
 refine Lib.IsBuilderF.of ?_
 rcases hp with rfl|rfl
 ·exact .inl ⟨hB,v,hb,hv2,hne⟩
 exact .inr ⟨hB,v,hb,hv2,hne⟩
theorem Qv(b R:Nat)(l:List UInt8)(s:ByteArray)(w:World)(h:Bld b R l w)(hbR:b<R)(hR:R<=w.heap.size)(hlen:l.length+s.size<=140737488355328):
  Calls prog 118 #[.pointer (some ⟨b,0,none⟩),.string s] w fun e w'=>e=.returned (.tuple #[.int .i64 s.size,.nilIface])/\Bld b R (l++s.data.toList) w'/\qK b R w w':=by
 obtain⟨i0,hi,hz0,hz1,hz2⟩:=info_parts Tryz.Builder_Extra_156.infoByte
 have hcopy:Calls prog 161 #[.pointer (some ⟨b,0,none⟩)] w fun e w'=>e=.returned (.tuple #[])/\(∃v,w'.heap[b]?=some (.cells #[.pointer (some ⟨b,0,none⟩),v] 182 (0,0))/\w'.ownsRow R 5 1 v l.length (Lib.byteCells l))/\qK b R w w':=by
  obtain⟨p,v,hb,hp,hv⟩:=h
  have hlt:b<w.heap.size:=(Array.getElem?_eq_some_iff.1 hb).1
  rcases hp with rfl|rfl
  ·refine(Any.Builder_copyCheck_fresh jft Tryz.Builder_Extra_156.toX72 b w ?_ ?_ ?_).mono ?_
   ·rw[joY hb];rfl
   ·simp[World.shape?,hb];rfl
   ·exact Lib.frozen_of_heap hb 0
   rintro e w' ⟨rfl,rfl⟩
   refine⟨rfl,⟨v,?_,?_⟩,?_⟩
   ·simp[World.setCell,Array.getElem?_modify,hb]
   ·exact hv.kept (grownBy_setCell' w b _) (by
     cases hvb:v.ownBlock with
     | none=>exact .inl rfl
     | some g=>exact .inr (fun e=>by have:=(hv.lt g hvb).1;have:=jng e;omega))
   exact(qK.refl b R w).put 0 _
  refine(Any.Builder_copyCheck_used jft Tryz.Builder_Extra_156.toX72 b w ?_).mono ?_
  ·rw[joY hb];rfl
  rintro e w' ⟨rfl,rfl⟩
  exact⟨rfl,⟨v,hb,hv⟩,qK.refl b R _⟩
 go_enter func118,ntmps118
 go_wp2_with (go_at_call 161;refine hcopy.mono ?_)
 rintro e w1 ⟨rfl,⟨v,hbk,hown⟩,hw1⟩
 have c0:w1.cell? ⟨b,0,none⟩=some (.pointer (some ⟨b,0,none⟩)):=by rw[joY hbk];rfl
 have c1:w1.cell? ⟨b,1,none⟩=some v:=by rw[joY hbk];rfl
 go_wp2_with (at_builtin;refine Lib.wpList_append_own_string _ rfl _ _ 153 9 rfl R 5 i0 underlying153 underlying9 hi hz0 hz1 hz2 _ _ _ rfl hown s rfl ?c3 ?c4 ?c5 ?_)
 case c3=>unfold maxLen;omega
 case c4=>omega
 case c5=>have:=hw1.size;omega
 intro v' w2 hown' hgrow _
 have hlt:b<w1.heap.size:=(Array.getElem?_eq_some_iff.1 hbk).1
 have hrow:∀r,v.ownBlock=some r->R<=r:=fun r e=>(hown.lt r e).1
 have hb2:w2.heap[b]?=some (.cells #[.pointer (some ⟨b,0,none⟩),v] 182 (0,0)):=by
  rw[hgrow.block b hlt (fun e=>by have:=hrow b e.symm;omega)]
  exact hbk
 have d0:w2.cell? ⟨b,0,none⟩=some (.pointer (some ⟨b,0,none⟩)):=by rw[joY hb2];rfl
 have d1:w2.cell? ⟨b,1,none⟩=some v:=by rw[joY hb2];rfl
 have f1:w2.frozen? ⟨b,1,none⟩=false:=Lib.frozen_of_heap hb2 1
 obtain⟨ao,n',cap,rfl⟩:∃ao n' cap,v'=.slice ao n' cap:=by
  rcases hown'.2 with ⟨hv,_⟩|⟨g,cap,cur,hv,_⟩
  ·exact⟨_,_,_,hv⟩
  exact⟨_,_,_,hv⟩
 go_wp2
 go_ret2
 have hset:w2.grownBy (w2.setCell ⟨b,1,none⟩ (.slice ao n' cap)) (some b) :=
  ⟨rfl,rfl,rfl,by simp[World.setCell],fun k _ hk=>jnE _ _ _ k (fun e=>hk (by rw[e]))⟩
 refine⟨rfl,⟨.pointer (some ⟨b,0,none⟩),.slice ao n' cap,?_,.inr rfl,?_⟩,?_⟩
 ·simp[World.setCell,Array.getElem?_modify,hb2]
 ·rw[jnf,<- jnu,Lib.byteCells_append,<- Lib.strCells_eq]
  refine hown'.kept hset ?_
  cases hvb:(Value.slice ao n' cap).ownBlock with
  | none=>exact .inl rfl
  | some g=>exact .inr (fun e=>by have:=(hown'.lt g hvb).1;have:=jng e;omega)
 refine(hw1.grown hgrow (fun r e=>⟨hrow r e,?_⟩)).put 1 _
 rcases hown.2 with ⟨hn,_⟩|⟨g,cap,cur,hv,_,hg,_⟩
 ·rw[hn]at e;cases e
 rw[hv]at e
 cases e
 exact⟨_,_,hg⟩
def foldN:List (List UInt8×List UInt8)->Nat
 | []=>0
 | f::r=>if zw f.1 f.2=0 then foldN r else zw f.1 f.2
def zb(fs:List (List UInt8×List UInt8)):List UInt8:=fs.flatMap fun f=>jn (zA f.1 f.2)
def foldT(fs:List (List UInt8×List UInt8)):List UInt8:=if foldN fs=0 then zb fs else []
theorem jch:∀fs,foldN fs<=6
 | []=>by decide
 | f::r=>by
  unfold foldN
  split
  ·exact jch r
  unfold zw;split
  ·split<;>decide
  decide
theorem YX{k v:List UInt8}(h:zw k v=0):za k=true/\v.length<=1000:=by
 unfold zw at h
 split at h
 ·rename_i hg
  split at h
  ·rename_i hl;exact⟨hg,hl⟩
  cases h
 cases h
theorem jex{k v:List UInt8}(h:zw k v=0):(jn (zA k v)).length<=4000:=by
 obtain⟨a,b⟩:=YX h
 have c:=(vY a).2.1
 rw[Ya]
 have:=jfk k v
 omega
theorem jdE(fs:List (List UInt8×List UInt8))(f:List UInt8×List UInt8):zb (fs++[f])=zb fs++jn (zA f.1 f.2):=by unfold zb;simp
theorem jcT(ls:List (List UInt8))(x:List UInt8):jn (ls++[x])=(jn ls++x)++[10]:=by unfold jn;simp
theorem jcS(ls:List (List UInt8))(j:Nat):(jn (ls.take j)).length<=(jn ls).length:=by
 conv=>rhs;rw[<- jnQ j ls,xw,jnf]
 omega
theorem Vd.wrote{w w':World}{base b R:Nat}{v:Value}{ss:List ByteArray}(h:Vd w base v ss)(hw:qK b R w w'){cs:Array Value}(hb:w.heap[b]?=some (.cells cs 182 (0,0))):Vd w' base v ss:=by
 refine⟨h.1,?_⟩
 rcases h.2 with hn|⟨g,cap,cur,hv,hg,hc,rest⟩
 ·exact .inl hn
 refine .inr ⟨g,cap,cur,hv,hg,hw.other hc ?_ (by decide),rest⟩
 rintro rfl
 rw[hb]at hc
 cases hc
theorem Bld.kept{b R N:Nat}{l:List UInt8}{W W':World}(h:Bld b R l W)(hb:Below N W W')(hN:W.heap.size<=N):Bld b R l W':=by
 have hlt:=h.lt
 obtain⟨p,v,hb',hp,hv⟩:=h
 exact⟨p,v,(hb.block b (by omega)).trans hb',hp,vq hv hb hN⟩
theorem Bld.cells{b R:Nat}{l:List UInt8}{W:World}(h:Bld b R l W):∃cs,W.heap[b]?=some (.cells cs 182 (0,0)):=by
 obtain⟨p,v,hb',_⟩:=h
 exact⟨_,hb'⟩
theorem jdf{w:World}{ad:Addr}{fs:List Fld}{cap:Nat}(hc:∀(i:Nat) (f:List UInt8×List UInt8),fs[i]?=some f->∃b off,some ad=some (⟨b,off,none⟩:Addr)/\b<w.heap.size/\w.cell? ⟨b,off+i*2,none⟩=some (.string (B f.1))/\w.cell? ⟨b,off+i*2+1,none⟩=some (.string (B f.2)))(o:Obj):
  ∀(j:Nat) u,(jM fs)[j]?=some u->(w.alloc o).cell? (ad.add j)=some u:=by
 intro j u hu
 have hj:j<(jM fs).length:=by
  rcases jnK j (jM fs).length with q|q
  ·exact q
  rw[jnY q]at hu;cases hu
 rw[Jj]at hj
 have hi2:j / 2<fs.length:=by omega
 obtain⟨f,hf⟩:∃f,fs[j / 2]?=some f:=⟨_,jnh hi2⟩
 obtain⟨b,off,e,hbb,c0,c1⟩:=hc _ f hf
 obtain⟨a1,a2⟩:=YZ fs _ f hf
 cases e
 rw[WideShapes.add_plain,jo7 _ _ _ (jpE hbb)]
 rcases Nat.mod_two_eq_zero_or_one j with h|h
 ·have ej:j=j / 2*2:=by omega
  rw[<- ej]at a1 c0
  rw[c0,<- hu,a1]
 have ej:j=j / 2*2+1:=by omega
 rw[joT,<- ej]at c1
 rw[<- ej]at a2
 rw[c1,<- hu,a2]
theorem jlT(w:World):(binOp BinOp.eql 61 (.slice none 0 0) (.slice none 0 0)).run prog w=.ok (.bool true) w:=by kernel_rfl
theorem jkK(ad:Addr)(n c:Nat)(w:World):(binOp BinOp.eql 61 (.slice (some ad) n c) (.slice none 0 0)).run prog w=.ok (.bool false) w:=by kernel_rfl
attribute [local go_sem] jlT jkK
theorem xV(fs:List Fld)(v:Value)(w:World)(hs:Xj w v fs)(hnil:∀n c,v=.slice none n c->c=0)(hn:fs.length<=1000000):
  Calls prog 204 #[v] w fun e w'=>∃v',e=.returned v'/\w'.ownsRow w.heap.size 155 2 v' fs.length (jM fs)/\Below w.heap.size w w':=by
 obtain⟨A,cap,rfl,hle,hc⟩:=hs
 obtain⟨i0,hi,hz0,hz1,hz2⟩:=info_parts ja5
 cases A with
 | none =>
  have he:fs=[]:=by
   cases fs with
   | nil=>rfl
   | cons a r=>obtain⟨b,off,e,_⟩:=hc 0 a rfl;cases e
  have hc0:=hnil _ _ rfl
  subst hc0
  subst he
  simp only[jnG]
  go_enter func204,ntmps204
  go_wp2_with fail
  go_ret
  exact⟨_,rfl,⟨rfl,.inl ⟨rfl,rfl⟩⟩,jne _ _⟩
 | some ad =>
 have hoN:(w.alloc (.cells #[] 155)).ownsRow w.heap.size 155 2 (.slice (some ⟨w.heap.size,0,none⟩) 0 0) 0 []:=World.ownsRow_lit w #[] 0 (jnd _) (by decide) rfl
 have hba:=(jne w.heap.size w).alloc (jnd _) (.cells #[] 155)
 have HC:=jnc (jdf (cap:=cap) hc (.cells #[] 155))
 have hone:∀u∈jM fs,u.oneCell'=true:=by
  intro u hu
  unfold jM at hu
  simp at hu
  obtain⟨a,b,_,h|h⟩:=hu<;>subst h<;>rfl
 have HL:=Jj fs
 clear hc
 generalize jM fs=cf at *
 go_enter func204,ntmps204
 go_wp2_with (at_builtin;refine wpList_append_own _ rfl _ _ 61 rfl w.heap.size 155 i0 _ 2 32 underlying61 hi hz0 hz1 hz2 rfl (by decide) _ 0 [] rfl hoN ad fs.length cap cf rfl HL HC.out hone ?c3 ?c4 ?c5 ?_)
 case c3=>unfold maxLen;omega
 case c4=>omega
 case c5=>simp
 intro v' w3 hown' hgrow _
 have hb3:Below w.heap.size w w3:=hba.grown hgrow (by simp) (fun j ej=>(joK hoN j ej).1)
 go_wp2_with fail
 go_ret
 exact⟨_,rfl,hown',hb3⟩
def Vh(its:List It):List (List Fld):=(its.filter fun it=>it.kind==3).map It.fields
theorem jeY(its:List It)(k:Nat)(it:It)(h:its[k]?=some it):Vh (its.take (k+1))=Vh (its.take k)++if it.kind=3 then [it.fields] else []:=by
 unfold Vh
 rw[jnW,h]
 simp only[Option.toList_some,jpn,jol]
 congr 1
 by_cases hk:it.kind=3
 ·simp[hk]
 simp[hk]
theorem jho(its:List It):(Vh its).length<=its.length:=by unfold Vh;rw[jnI];exact jpz _ _
theorem jh0:(prog.info? 61).map (fun i=>(i.zero,i.size,i.bytes))=some (some (.slice none 0 0),1,24):=by kernel_rfl
structure jeo(w wr:World)(v:Value)(vs:List Value)(rs:List (List Fld)):Prop where
 row:wr.ownsRow w.heap.size 61 1 v vs.length vs
 len:vs.length=rs.length
 each:∀(j:Nat) x r,vs[j]?=some x->rs[j]?=some r->wr.ownsRow w.heap.size 155 2 x r.length (jM r)
 below:Below w.heap.size w wr
theorem jjN{α:Type}{l:List α}{a x:α}{j:Nat}(h:(l++[a])[j]?=some x):(j<l.length/\l[j]?=some x)\/(j=l.length/\x=a):=by
 rcases jnK j l.length with q|q
 ·rw[jnJ q]at h;exact .inl ⟨q,h⟩
 rw[jnz q]at h
 have hz:j-l.length=0:=by
  rcases Nat.eq_zero_or_pos (j-l.length) with z|z
  ·exact z
  rw[jnY (by simp;omega)]at h;cases h
 rw[hz]at h
 cases h
 exact .inr ⟨by omega,rfl⟩
theorem jeo.start(w:World):jeo w w (.slice none 0 0) [] []:=⟨⟨rfl,.inl ⟨rfl,rfl⟩⟩,rfl,fun j x r h=>by simp at h,jne _ _⟩
theorem jeo.kept{w wr w2:World}{v:Value}{vs:List Value}{rs:List (List Fld)}(h:jeo w wr v vs rs)(hb:Below wr.heap.size wr w2):jeo w w2 v vs rs :=
 ⟨vq h.row hb (jnd _),h.len,fun j x r h1 h2=>vq (h.each j x r h1 h2) hb (jnd _),h.below.trans (hb.mono h.below.size)⟩
theorem jlx{W w3:World}{lo:Nat}{v x:Value}{n m:Nat}{xs ys:List Value}(hv:W.ownsRow lo 61 1 v n xs)(hx:W.ownsRow lo 155 2 x m ys)(hg:W.grownBy w3 v.ownBlock):w3.ownsRow lo 155 2 x m ys:=by
 refine jq hx fun b hb=>hg.block b (hx.lt b hb).2 (fun e => ?_)
 rcases hx.2 with ⟨rfl,_⟩|⟨g,cap,cur,rfl,_,hc,_⟩
 ·cases hb
 cases hb
 rcases hv.2 with ⟨rfl,_⟩|⟨g',cap',cur',rfl,_,hc',_⟩
 ·cases e
 have:g=g':=jng e
 subst this
 rw[hc]at hc'
 injection hc' with hc'
 injection hc' with _ h2 _
 exact absurd h2 (by decide)
theorem jeo.snoc{w W w3:World}{v v' x:Value}{vs:List Value}{rs:List (List Fld)}{r:List Fld}(h:jeo w W v vs rs)(hx:W.ownsRow w.heap.size 155 2 x r.length (jM r))(ho:w3.ownsRow w.heap.size 61 1 v' (vs.length+1) (vs++[x]))(hg:(W.alloc (.cells #[x] 61)).grownBy w3 v.ownBlock):jeo w w3 v' (vs++[x]) (rs++[r]):=by
 have h':=h.kept ((jne W.heap.size W).alloc (jnd _) (.cells #[x] 61))
 have hx':=vq hx ((jne W.heap.size W).alloc (jnd _) (.cells #[x] 61)) (jnd _)
 refine⟨by rw[jnf];exact ho,by simp[h.len],fun j y s hy hs => ?_,h'.below.grown hg h'.below.size (fun k e=>(h.row.lt k e).1)⟩
 rcases jjN hy with ⟨q,hy⟩|⟨q,rfl⟩
 ·rw[jnJ (by rw[<- h.len];exact q)]at hs
  exact jlx h'.row (h'.each j y s hy hs) hg
 rw[q,h.len,jnz (jnd _)]at hs
 simp at hs
 subst hs;exact jlx h'.row hx' hg
theorem jjs(W:World)(x:Value)(t:TypeId):∀(j:Nat) u,[x][j]?=some u->(W.alloc (.cells #[x] t)).cell? ((⟨W.heap.size,0,none⟩:Addr).add j)=some u:=jS W t [x]
theorem Yb(its:List It)(v:Value)(w:World)(h:Its w v its)(hnil:jmd w v its)(hn:its.length<=1000000)(hf:∀it∈its,it.fields.length<=1000000):
  Calls prog 251 #[v] w fun e w'=>∃u vs,e=.returned u/\jeo w w' u vs (Vh its):=by
 obtain⟨i0,hi,hz0,hz1,hz2⟩:=info_parts jh0
 have NI:=jnc hnil
 have HF:=jnc hf
 obtain⟨A,cap,rfl,hle,hc⟩:=h
 have HC:=jnc hc
 clear hc hnil hf
 go_enter func251,ntmps251
 go_wp2_with fail
 go_loopw [3,8] (fun u i wr=>∃(k:Nat) (vs:List Value),k<=its.length/\i=.int .i64 k/\jeo w wr u vs (Vh (its.take k))) (fun _ i _=>its.length-(intOf i).toNat)
 case atStart=>exact⟨0,[],jnt _,rfl,jeo.start w⟩
 case round =>
 obtain⟨k,vs,hk,rfl,hacc⟩:=hrel
 by_cases hlt:k<its.length
 ·obtain⟨it,hit⟩:∃it,its[k]?=some it:=⟨_,jnh hlt⟩
  obtain⟨b,off,fv,rfl,hbb,c0,c1,c2,hfl⟩:=HC.out k it hit
  have hb:=hacc.below
  have hlb:=hb.size
  have rl:=jho (its.take k)
  rw[jnk]at rl
  have hvl:vs.length<=1000000:=by rw[hacc.len];omega
  obtain⟨fa,fc,rfl,_,_⟩:=id hfl
  have hnl:∀n c,Value.slice fa it.fields.length fc=.slice none n c->c=0:=fun n c e=>by
   cases e
   exact NI.out k b off _ _ _ _ rfl hlt c2
  replace c0:=(hb.cell (p:=⟨b,off+k*3,none⟩) hbb).trans c0
  replace c1:=(hb.cell (p:=⟨b,off+k*3+1,none⟩) hbb).trans c1
  replace c2:=(hb.cell (p:=⟨b,off+k*3+1+1,none⟩) hbb).trans c2
  have SN:=jnc (jeY its k it hit)
  by_cases hk3:it.kind=3
  ·have hfw:=(hfl.below hb (jnd _)).below ((jne wr.heap.size wr).alloc (jnd _) (.cells #[.int .i64 it.kind,.string (B it.raw),.slice fa it.fields.length fc] 236)) (jnd _)
   have CL:=jnc (xV it.fields _ _ hfw hnl (HF.out it (jnC hit)))
   have hba:=(jne wr.heap.size wr).alloc (jnd _) (.cells #[.int .i64 it.kind,.string (B it.raw),.slice fa it.fields.length fc] 236)
   have ACC:=jnc (hacc.kept hba)
   rw[hk3]at c0 CL ACC
   clear hacc hit hfl HC hfw hba hnl NI HF
   go_wp2_with fail
   refine CL.out.mono ?_
   rintro e w2 ⟨x,rfl,hx,b2⟩
   have acc2:=ACC.out.kept b2
   have hx2:w2.ownsRow w.heap.size 155 2 x it.fields.length (jM it.fields):=zk hx (by simp;omega)
   have hrow:=acc2.row
   have ACC2:=jnc acc2
   have HX2:=jnc hx2
   have hlb2:=acc2.below.size
   obtain⟨xa,xc,hxe,_⟩:=jg hx
   subst hxe
   have HV:=jnc (jjs w2 (.slice xa it.fields.length xc) 61)
   clear acc2 CL ACC b2 hx hx2
   go_wp2_with (at_builtin;refine wpList_append_own _ rfl _ _ 324 rfl w.heap.size 61 i0 _ 1 24 underlying324 hi hz0 hz1 hz2 rfl (by decide) _ _ _ rfl (hrow.alloc _) ⟨w2.heap.size,0,none⟩ 1 1 _ rfl rfl HV.out ?c2 ?c3 ?c4 ?c5 ?_)
   case c2=>intro u hu;simp at hu;subst hu;rfl
   case c3=>unfold maxLen;omega
   case c4=>omega
   case c5=>simp;omega
   intro v' w3 hown' hgrow _
   have hacc3:=ACC2.out.snoc HX2.out hown' hgrow
   obtain⟨g',cap',rfl⟩:=ownsRow_succ hown'
   go_wp2_with fail
   go_roundw
   case rel=>exact⟨k+1,_,hlt,by go_num,by rw[SN.out,if_pos hk3];exact hacc3⟩
   case measure=>simp[intOf];omega
  have hk2:((it.kind:Int)==3)=false:=beq_eq_false_iff_ne.2 (by omega)
  have ACC:=jnc (hacc.kept ((jne wr.heap.size wr).alloc (jnd _) (.cells #[.int .i64 it.kind,.string (B it.raw),.slice fa it.fields.length fc] 236)))
  clear hacc hit hfl HC hnl NI HF
  go_wp2_with fail
  go_roundw
  case rel=>exact⟨k+1,vs,hlt,by go_num,by rw[SN.out,if_neg hk3,jnR];exact ACC.out⟩
  case measure=>simp[intOf];omega
 obtain rfl:k=its.length:=by omega
 rw[jnP]at hacc
 clear HC NI HF
 go_wp2_with fail
 go_ret
 exact⟨_,vs,rfl,hacc⟩
end
section
open Go.Maps Go.ChangeShapes Go.Joins Go.WideShapes
theorem jjk{cs:List Value}(h:cs.length=3):∃c0 c1 c2,cs=[c0,c1,c2]:=by
 match cs,h with
 | [c0,c1,c2],_=>exact⟨_,_,_,rfl⟩
end
end Go.Proofs.YtpibhbjmcmfnmaaGreatDoor
