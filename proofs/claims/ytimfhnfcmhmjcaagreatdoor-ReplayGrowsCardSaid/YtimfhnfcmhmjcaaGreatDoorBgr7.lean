/- Texts put together:PI,PJ,PK,FK,BU,FN,GB,PN,PW. -/
import Derived.Lib.FrozenHead
import Derived.Laws.AppendOwnNone
import Derived.Test.YtimfhnfcmhmjcaaGreatDoorBgr6
set_option linter.unusedVariables false
set_option maxRecDepth 100000
set_option maxHeartbeats 16000000
namespace Go.Proofs.YtimfhnfcmhmjcaaGreatDoor
abbrev jiC:=@List.setIfInBounds_toArray
abbrev jjj:=@List.set_cons_zero
abbrev jjk:=@List.set_cons_succ
abbrev jjO:=@Go.Lib.cell_of_heap
abbrev jkB:=@Int.natCast_add
end Go.Proofs.YtimfhnfcmhmjcaaGreatDoor
namespace Go.Proofs.YtimfhnfcmhmjcaaGreatDoor
open Go.RowKit Go.Shelf
attribute [local go_sem] zV Xs
theorem Xd(l:List UInt8):jz l=1\/jz l=2\/jz l=3\/jz l=4\/jz l=5:=by
 unfold jz
 split;· simp
 split;· simp
 split;· simp
 split;· simp
 split<;>simp
theorem take_any{w:World}{T:Nat->Nat}{R b:Nat}{text:ByteArray}{p:PS}(h:jf w T R b text p)(hR:R<=w.heap.size)(x:Ln)(hi:Inv p x.at_)(hx:x.at_+x.bytes.length<=text.size)(ht:text.size<=60000)(hno:x.no<=x.at_):
  Calls Tryz.prog 102 #[.pointer (some ⟨b,0,none⟩),.agg #[.int .i64 x.no,.int .i64 x.at_,.string (B x.text),.bool x.ended]] w fun e w'=>zQ w T R b text p x e w':=by
 cases hg:qE p x with
 | true =>
  have hbl:x.text.length<=x.bytes.length:=by unfold Ln.bytes;simp
  exact je8 h hR x hi (by omega) hno hg
 | false =>
 rcases Xd x.text with hk|hk|hk|hk|hk
 ·exact jaY h hR x hi hx (by omega) hno hg hk
 ·exact jaX h hR x hi hx (by omega) hno hg hk
 ·exact jaW h hR x hi hx (by omega) hno hg hk
 ·exact jaV h hR x hi hx (by omega) hno hg hk
 exact jaU h hR x hi hx (by omega) hno hg hk
def Out(w W:World)(v e:Value):Prop :=
 ja W w.heap.size 96 #[v]/\ja W (w.heap.size+1) 32 #[e]/\Below w.heap.size w W
def jeH(w:World)(text:ByteArray)(pre:List Ln)(W:World):Prop :=
 Out w W (.slice none 0 0) .nilIface/\∃T p,qG text.data.toList PS.new pre=.ok p/\Inv p (pre.flatMap Ln.bytes).length/\jf W T (w.heap.size+2) (w.heap.size+2) text p/\∀k,w.heap.size+3<=k->k<w.heap.size+9->T k=0
def jhw(w:World)(text:ByteArray)(c:Code)(pre:List Ln)(W:World):Prop :=
 c=.ret/\∃a n v,qG text.data.toList PS.new pre=.error (a,n)/\Out w W (.slice none 0 0) v/\jl (w.heap.size+9) W v a n
theorem Out.turned{w W W':World}{v e:Value}{B k:Nat}(h:Out w W v e)(ht:jS B k W W')(hB:w.heap.size+2<=B):Out w W' v e :=
 ⟨(ht.same _ h.1.lt (.inl (by omega))).trans h.1,(ht.same _ h.2.1.lt (.inl (by omega))).trans h.2.1,h.2.2.trans (ht.below (by omega) h.2.2.size)⟩
theorem Out.alloc{w W:World}{v e:Value}(h:Out w W v e)(o:Obj):Out w (W.alloc o) v e:=⟨h.1.alloc o,h.2.1.alloc o,h.2.2.alloc h.2.2.size o⟩
theorem Out.only{w W W':World}{v e:Value}{S:Nat->Prop}(h:Out w W v e)(g:jB S W W')(hS:∀r,S r->w.heap.size+2<=r):Out w W' v e :=
 ⟨h.1.only g (fun s=>by have:=hS _ s;omega),h.2.1.only g (fun s=>by have:=hS _ s;omega),h.2.2.trans (g.to_below h.2.2.size (fun r hr s=>by have:=hS _ s;omega))⟩
theorem Out.set{w W:World}{v e:Value}(h:Out w W v e)(v' e':Value):Out w ((W.setCell ⟨w.heap.size,0,none⟩ v').setCell ⟨w.heap.size+1,0,none⟩ e') v' e':=by
 obtain⟨h1,h2,h3⟩:=h
 exact⟨ja.other (h1.set 0 v') (by simp) _,ja.set (ja.other h2 (by simp) v') 0 e',(h3.setCell (p:=⟨w.heap.size,0,none⟩) (jij _) _).setCell (p:=⟨w.heap.size+1,0,none⟩) (by show _<=w.heap.size+1;omega) _⟩
theorem jf.turned{w w':World}{T:Nat->Nat}{R b B k:Nat}{text:ByteArray}{p:PS}(h:jf w T R b text p)(ht:jS B k w w')(hz:∀r,B<=r->r<B+k->T r=0):jf w' T R b text p:=by
 obtain⟨V,h⟩:=h
 refine⟨V,h.same (fun r hr=>ht.same r (h.low r hr).2 ?_) ht.size⟩
 rcases jiK r B with q|q
 ·exact .inl q
 rcases jiK r (B+k) with q'|q'
 ·exact absurd (hz r q q') hr
 exact .inr q'
theorem jeH.turned{w W W':World}{text:ByteArray}{pre:List Ln}{B k:Nat}(h:jeH w text pre W)(ht:jS B k W W')(hB:w.heap.size+3<=B)(hk:B+k<=w.heap.size+9):jeH w text pre W':=by
 obtain⟨h1,T,p,h2,h3,h4,h5⟩:=h
 exact⟨h1.turned ht (by omega),T,p,h2,h3,h4.turned ht (fun r a b=>h5 r (by omega) (by omega)),h5⟩
theorem jeH.alloc{w W:World}{text:ByteArray}{pre:List Ln}(h:jeH w text pre W)(o:Obj):jeH w text pre (W.alloc o):=by
 obtain⟨h1,T,p,h2,h3,h4,h5⟩:=h
 exact⟨h1.alloc o,T,p,h2,h3,h4.below ((jil _ _).alloc (jij _) o),h5⟩
theorem jhw.turned{w W W':World}{text:ByteArray}{c:Code}{pre:List Ln}{B k:Nat}(h:jhw w text c pre W)(ht:jS B k W W')(hB:w.heap.size+3<=B)(hk:B+k<=w.heap.size+9):jhw w text c pre W':=by
 obtain⟨h0,a,n,v,h1,h2,q,h3,h4,h5⟩:=h
 exact⟨h0,a,n,v,h1,h2.turned ht (by omega),q,h3,h4,(ht.same q h5.lt (.inr (by omega))).trans h5⟩
theorem jba{text:List UInt8}{pre:List Ln}{p q:PS}{x:Ln}(h:qG text PS.new pre=.ok p)(ht:jW text p x=.ok q):qG text PS.new (pre++[x])=.ok q:=by
 rw[qr,h];show(match jW text p x with | .error e=>_ | .ok q=>qG text q [])=_;rw[ht];rfl
theorem YM{text:List UInt8}{pre:List Ln}{p:PS}{e:Nat×Nat}{x:Ln}(h:qG text PS.new pre=.ok p)(ht:jW text p x=.error e):qG text PS.new (pre++[x])=.error e:=by
 rw[qr,h];show(match jW text p x with | .error e=>_ | .ok q=>qG text q [])=_;rw[ht]
theorem ja9{text:List UInt8}{pre xs:List Ln}{e:Nat×Nat}(h:qG text PS.new pre=.error e)(hp:pre <+: xs):qG text PS.new xs=.error e:=by
 obtain⟨post,rfl⟩:=hp
 rw[qr,h]
end Go.Proofs.YtimfhnfcmhmjcaaGreatDoor
namespace Go.Proofs.YtimfhnfcmhmjcaaGreatDoor
open Go.RowKit Go.Shelf
attribute [local go_sem] jit zV
def Its(w:World)(v:Value)(its:List It):Prop :=
 ∃A cap,v=.slice A its.length cap/\its.length<=cap/\∀(i:Nat) (it:It),its[i]?=some it->∃b off fv,A=some ⟨b,off,none⟩/\b<w.heap.size /\
  w.cell? ⟨b,off+i*3,none⟩=some (.int .i64 it.kind)/\w.cell? ⟨b,off+i*3+1,none⟩=some (.string (B it.raw))/\w.cell? ⟨b,off+i*3+1+1,none⟩=some fv/\yH w fv it.fields
theorem Its.below{w w':World}{v:Value}{its:List It}{n:Nat}(h:Its w v its)(hb:Below n w w')(hn:w.heap.size<=n):Its w' v its:=by
 obtain⟨A,cap,hv,hle,hc⟩:=h
 refine⟨A,cap,hv,hle,fun i it hi => ?_⟩
 obtain⟨b,off,fv,hA,hlt,c0,c1,c2,hf⟩:=hc i it hi
 have hlt':=jiF hlt hn
 exact⟨b,off,fv,hA,jiF hlt hb.size,(hb.cell (p:=⟨b,off+i*3,none⟩) hlt').trans c0,(hb.cell (p:=⟨b,off+i*3+1,none⟩) hlt').trans c1,(hb.cell (p:=⟨b,off+i*3+1+1,none⟩) hlt').trans c2,hf.below hb hn⟩
theorem jx.its {w : World} {T : Nat -> Nat} {R b : Nat} {text : ByteArray} {p : PS} {V : PV} (h : jx w T R b text p V) : Its w V.v3 p.items := by
  rcases jjd h.r3 with ⟨e, hn⟩ | ⟨g, cap, e⟩
  . have : p.items = [] := List.length_eq_zero_iff.1 hn
    rw [e, this]
    exact ⟨none, 0, rfl, jij _, fun i it hi => by simp at hi⟩
  refine ⟨some ⟨g, 0, none⟩, cap, e, (by rcases h.r3.2 with ⟨q, _⟩ | ⟨g', cap', cur, q, _, _, q2, _⟩; · rw [e] at q; cases q
                                         rw [e] at q; cases q; exact q2), fun i it hi => ?_⟩
  have hlt : i < p.items.length := by
    rcases jiK i p.items.length with q | q
    . exact q
    rw [jiW q] at hi; cases hi
  obtain ⟨fv, hfv⟩ : ∃ fv, V.fvs[i]? = some fv := ⟨_, jim (by rw [h.nf]; exact hlt)⟩
  obtain ⟨a0, a1, a2⟩ := qh _ _ i it fv hi hfv
  have hr := h.r3
  rw [e] at hr
  refine ⟨g, 0, fv, rfl, (jjr hr g rfl).2, ?_, ?_, ?_, vR (h.rf i it fv hi hfv).1⟩
  . rw [jiP, jiG hr (i * 3) (by omega)]; exact a0
  . rw [jiP, jiG hr (i * 3 + 1) (by omega)]; exact a1
  rw [jiP, jiG hr (i * 3 + 1 + 1) (by omega)]; exact a2
def je0(w:World)(v:Value)(its:List It):Prop:=∀(i:Nat) (b off:Nat) (n cap m c:Nat),v=.slice (some ⟨b,off,none⟩) n cap->i<its.length->w.cell? ⟨b,off+i*3+1+1,none⟩=some (.slice none m c)->c=0
theorem jx.nil{w:World}{T:Nat->Nat}{R b:Nat}{text:ByteArray}{p:PS}{V:PV}(h:jx w T R b text p V):je0 w V.v3 p.items:=by
 intro i b off n cap m c e hlt hcell
 obtain⟨it,hi⟩:∃it,p.items[i]?=some it:=⟨_,jim hlt⟩
 obtain⟨fv,hfv⟩:∃fv,V.fvs[i]?=some fv:=⟨_,jim (by rw[h.nf];exact hlt)⟩
 obtain⟨_,_,a2⟩:=qh _ _ i it fv hi hfv
 have hr:=h.r3
 rcases jjd hr with ⟨e',hn⟩|⟨g,cap',e'⟩
 ·omega
 rw[e']at e hr
 cases e
 rw[jiP,jiG hr (i*3+1+1) (by omega),a2]at hcell
 cases hcell
 rcases(h.rf i it _ hi hfv).1.2 with ⟨q,_⟩|⟨g',cap',cur,q,_⟩
 ·cases q;rfl
 cases q
def xO(w:World)(text:List UInt8)(e:Ending)(w':World):Prop :=
 Below w.heap.size w w'/\match jA text with
  | .error (a,n)=>∃v,e=.returned (.tuple #[.slice none 0 0,v])/\jl w.heap.size w' v a n
  | .ok its=>∃v,e=.returned (.tuple #[v,.nilIface])/\Its w' v its/\je0 w' v its
theorem xO.no{w w':World}{text:List UInt8}{v:Value}{a n:Nat}(h:jA text=.error (a,n))(hb:Below w.heap.size w w')(hf:jl w.heap.size w' v a n):xO w text (.returned (.tuple #[.slice none 0 0,v])) w' :=
 ⟨hb,by rw[h];exact⟨v,rfl,hf⟩⟩
theorem xO.yes{w w':World}{text:List UInt8}{v:Value}{its:List It}(h:jA text=.ok its)(hb:Below w.heap.size w w')(hf:Its w' v its/\je0 w' v its):xO w text (.returned (.tuple #[v,.nilIface])) w' :=
 ⟨hb,by rw[h];exact⟨v,rfl,hf⟩⟩
theorem VP{Q:Ending->World->Prop}(w W:World)(v e:Value)(tmps:Array Value)(hO:Out w W v e)(hv1:v.oneCell'=true)(he1:e.oneCell'=true)(hK:W.heap[w.heap.size+4]?=some (.deferred (some [])))(t2:tmps[2]?=some (.pointer (some ⟨w.heap.size,0,none⟩)))(t3:tmps[3]?=some (.pointer (some ⟨w.heap.size+1,0,none⟩)))
  (hQ:Below w.heap.size w (W.putObj (w.heap.size+4) (.deferred none))->Q (.returned (.tuple #[v,e])) (W.putObj (w.heap.size+4) (.deferred none))) :
  bodyPostM Fence.wide 9 Tryz.prog Tryz.f58 Q .ret {tmps:=tmps,defers:=[{target:=.collected (w.heap.size+4),args:=#[]}]} W:=by
 obtain⟨h4,h5,hB⟩:=hO
 have p1:=grownBy_putObj' W (w.heap.size+4) (.deferred none)
 have r4:ja (W.putObj (w.heap.size+4) (.deferred none)) w.heap.size 96 #[v]:=(p1.block _ h4.lt (fun e=>by have:=jip e;omega)).trans h4
 have r5:ja (W.putObj (w.heap.size+4) (.deferred none)) (w.heap.size+1) 32 #[e]:=(p1.block _ h5.lt (fun e=>by have:=jip e;omega)).trans h5
 have c4:(W.putObj (w.heap.size+4) (.deferred none)).cell? ⟨w.heap.size,0,none⟩=some v:=r4.cell 0
 have c5:(W.putObj (w.heap.size+4) (.deferred none)).cell? ⟨w.heap.size+1,0,none⟩=some e:=r5.cell 0
 refine⟨by simp,.inl ⟨_,_,rfl,run_takeDeferred hK,?_⟩⟩
 exact⟨.tuple #[v,e],by simp[results,Tryz.f58,go_sem,t2,t3,c4,c5],hQ (hB.trans (belowK_b (w:=w) (jij _) W _ _ _ (by omega) hK rfl rfl))⟩
theorem Zy:∀(n no at_:Nat) (l:List UInt8),l.length<=n->∀x∈jF no at_ l,1<=x.bytes.length
 | 0,_,_,l,h,x,hx=>by
  have:l=[]:=List.length_eq_zero_iff.1 (by omega)
  subst this
  rw[jn]at hx;cases hx
 | n+1,no,at_,l,h,x,hx=>by
  by_cases hl:l=[]
  ·subst hl;rw[jn]at hx;cases hx
  have hp:=qd l hl
  rw[jq _ _ _ hl]at hx
  rcases List.mem_cons.1 hx with rfl|hx
  ·have:(Ln.bytes ⟨no,at_,head l,nl l⟩).length=zY l:=by
    unfold Ln.bytes zY;simp only[jik];split<;>rfl
   omega
  exact Zy n _ _ _ (by simp only[jiw];omega) x hx
theorem Uq:∀(pre:List Ln),(∀x∈pre,1<=x.bytes.length)->pre.length<=(pre.flatMap Ln.bytes).length
 | [],_=>jij _
 | x::pre,h=>by
  have ih:=Uq pre (fun y hy=>h y (jir _ hy))
  have:=h x jis
  rw[jiy,jik,jin];omega
theorem Zr(s:ByteArray)(hs:s.size<=60000)(w:World):
  Calls Tryz.prog 58 #[.string s] w fun e w'=>xO w s.data.toList e w':=by
 obtain⟨xs,hxs⟩:∃xs,jg s.data.toList=xs:=⟨_,rfl⟩
 have HXS:=jii hxs
 have hat:=fun pre x post (e:xs=pre++x::post)=>qT s.data.toList pre x post (hxs.trans e)
 have HAT:=jii hat
 have hj:(xs.flatMap Ln.bytes)=s.data.toList:=by rw[<- hxs];exact jT _
 have hjl:(xs.flatMap Ln.bytes).length=s.size:=by rw[hj,<- jiV]
 have HJL:=jii hjl
 have hpos:∀x∈xs,1<=x.bytes.length:=by rw[<- hxs];exact Zy _ 0 0 _ (jij _)
 have HPOS:=jii hpos
 clear hxs hat hjl hj hpos
 refine callsIn_wide (n:=9).1 ?_
 refine callsIn_of_wp_marks Tryz.func58 rfl trivial ?_ rfl
 simp only[Tryz.ntmps58,ji5,jin,jiJ,Nat.reduceAdd,Nat.reduceSub,ji3,ji4,jje,ji6,jiZ,jiz]
 gi_wp2_with fail
 refine⟨trivial,(callsIn_wide.2 (vx s _)).mono ?_⟩
 rintro e w3 ⟨rfl,rfl⟩
 gi_wp2_with fail
 have k7:=jcE w (.cells #[.slice none 0 0] 96) (.cells #[.nilIface] 32) (.cells #[.int .i64 0,.slice none 0 0,.string s,.slice none 0 0,.int .i64 0,.int .i64 0,.slice none 0 0] 187) 9 (.string s)
 have HH:=qq s (w.heap.size+3) _ k7 (by omega)
 rw[HXS.out]at HH
 have n0:=jx.new ((w.alloc (.cells #[.slice none 0 0] 96)).alloc (.cells #[.nilIface] 32)) s (w.heap.size+2) (by simp)
 rw[jiB,jiB]at n0
 change jx _ (fun k=>if k=w.heap.size+2 then 1 else 0) _ (w.heap.size+2) _ _ _ at n0
 have o0:Out w ((((w.alloc (.cells #[.slice none 0 0] 96)).alloc (.cells #[.nilIface] 32)).alloc (.cells #[.int .i64 0,.slice none 0 0,.string s,.slice none 0 0,.int .i64 0,.int .i64 0,.slice none 0 0] 187)).alloc (.cells #[.string s] 9)) (.slice none 0 0) .nilIface:=by
  have h1:=ja.new (w.alloc (.cells #[.slice none 0 0] 96)) 32 #[.nilIface]
  rw[jiB]at h1
  exact⟨(((ja.new w _ _).alloc _).alloc _).alloc _,(h1.alloc _).alloc _,((((jil _ w).alloc (jij _) _).alloc (by simp) _).alloc (by simp;omega) _).alloc (by simp;omega) _⟩
 have init:jeH w s [] ((((w.alloc (.cells #[.slice none 0 0] 96)).alloc (.cells #[.nilIface] 32)).alloc (.cells #[.int .i64 0,.slice none 0 0,.string s,.slice none 0 0,.int .i64 0,.int .i64 0,.slice none 0 0] 187)).alloc (.cells #[.string s] 9)) :=
  ⟨o0,_,PS.new,rfl,Inv.new,jf.below ⟨_,n0⟩ ((jil _ _).alloc (jij _) _),fun k h1 h2=>if_neg (by omega)⟩
 have hz:((((w.alloc (.cells #[.slice none 0 0] 96)).alloc (.cells #[.nilIface] 32)).alloc (.cells #[.int .i64 0,.slice none 0 0,.string s,.slice none 0 0,.int .i64 0,.int .i64 0,.slice none 0 0] 187)).alloc (.cells #[.string s] 9)).heap.size=w.heap.size+4:=by simp
 refine qS (gf:=159) (lb:=#[.pointer (some ⟨w.heap.size+3,0,none⟩)]) rfl (enters_of Tryz.func159 (by kernel_rfl) rfl) HH (fun _=>rfl)
  (jeH w s) (jhw w s) (by rw[hz];exact fun pre W W' h ht=>h.turned ht (by omega) (by omega)) (fun c pre W W' h ht=>h.turned ht (by rw[hz];omega) (by rw[hz];omega)) init
  (fun a pre x a' W=>∃Bx,w.heap.size+9<=Bx/\a'={tmps:=(a.tmps.setIfInBounds 16 (.agg (qu x))).setIfInBounds 5 (.pointer (some ⟨Bx,0,none⟩)),defers:=[]}/\ja W Bx 182 (qu x)/\jeH w s pre W)
  ?hM ?assign ?body ?done ?stop
 case hM =>
  rw[hz]
  rintro a pre x a' _ W W' ⟨Bx,h1,h2,h3,h4⟩ ht
  exact⟨Bx,h1,h2,(ht.same Bx h3.lt (.inr (by omega))).trans h3,h4.turned ht (by omega) (by omega)⟩
 case assign =>
  rw[hz]
  intro l pre x post W hx hsz hi
  clear hx
  dsimp only[qu]
  gi_wp2
  exact⟨(qC.refl _ _ W).alloc hsz _,W.heap.size,by omega,rfl,ja.new _ _ _,hi.alloc _⟩
 case body =>
  rw[hz]
  rintro l pre x post a' W hx hsz ⟨Bx,hB,rfl,hc,hO,T,p,hr,hi,hp,hT⟩
  obtain⟨hno,hat⟩:=HAT.out pre x post hx
  rw[<- hat]at hi
  have hsum:=HJL.out
  rw[hx,jiN,jiy,jik,jik,<- hat]at hsum
  have hge:=Uq pre (fun y hy=>HPOS.out y (by rw[hx];exact List.mem_append_left _ hy))
  rw[<- hno,<- hat]at hge
  have hR:w.heap.size+2<=W.heap.size:=by omega
  have TK:=take_any hp hR x hi (by omega) hs hge
  have HR:=jii hr
  have HI:=jii hi
  have HX:=jii (show x.at_=(pre.flatMap Ln.bytes).length from hat)
  clear hx hr hi hat hsum hno
  simp only[jiC,jjj,jjk,qu]at hc ⊢
  have q0:W.cell? ⟨Bx,0,none⟩=some (.int .i64 x.no):=hc.cell 0
  have q1:W.cell? ⟨Bx,1,none⟩=some (.int .i64 x.at_):=hc.cell 1
  have q2:W.cell? ⟨Bx,2,none⟩=some (.string ⟨x.text.toArray⟩):=hc.cell 2
  have q3:W.cell? ⟨Bx,3,none⟩=some (.bool x.ended):=hc.cell 3
  have stay:∀W1,jB (fun r=>T r≠0) W W1->qC (w.heap.size+4) 5 W W1:=fun W1 ho=>⟨ho.size,fun r h1 h2=>ho.same r (by omega) (fun hn=>hn (hT r (by omega) (by omega)))⟩
  have hTR:∀r,T r≠0->w.heap.size+2<=r:=fun r hr=>by obtain⟨V,hv⟩:=hp;exact(hv.low r hr).1
  gi_wp2_with fail
  refine⟨trivial,((callsIn_wide.2 TK).inRound l).mono ?_⟩
  rintro e W1 ht
  unfold zQ at ht
  cases htk:jW s.data.toList p x with
  | error an =>
   obtain⟨a,n⟩:=an
   rw[htk]at ht
   obtain⟨v,rfl,hf,ho⟩:=ht
   have hrn:=YM HR.out htk
   obtain⟨q,hq,rfl,hqc⟩:=hf
   have hO1:=hO.only ho hTR
   have c2:W1.cell? ⟨w.heap.size,0,none⟩=some (.slice none 0 0):=hO1.1.cell 0
   have f2:=hO1.1.frozen 0
   have c3:W1.cell? ⟨w.heap.size+1,0,none⟩=some .nilIface:=hO1.2.1.cell 0
   have f3:=hO1.2.1.frozen 0
   have hst:=stay W1 ho
   clear TK hO hc
   gi_wp2
   refine⟨(hst.setCell (.inl (by show w.heap.size<_;omega)) _).setCell (.inl (by show w.heap.size+1<_;omega)) _,rfl,a,n,_,hrn,hO1.set _ _,q,by omega,rfl,?_⟩
   exact ja.other (ja.other hqc (by show q≠w.heap.size;omega) _) (by show q≠w.heap.size+1;omega) _
  | ok p' =>
  rw[htk]at ht
  obtain⟨rfl,T',hp',hst⟩:=ht
  have hrn:=jba HR.out htk
  obtain⟨hi',_⟩:=Inv.take HI.out hge htk
  clear TK hc
  gi_wp2
  refine⟨stay W1 hst.only,hO.only hst.only hTR,T',p',hrn,?_,hp',fun r h1 h2=>(hst.old r (by omega)).2 (hT r h1 h2)⟩
  rw[jiN,jik,<- HX.out]
  simpa using hi'
 case done =>
  rw[hz]
  rintro W ⟨hO,T,p,hr,hi,hp,hT⟩ hmark
  have zW:w.heap.size+4<W.heap.size:=(Array.getElem?_eq_some_iff.1 hmark).1
  rw[HJL.out]at hi
  have hTR:∀r,T r≠0->w.heap.size+2<=r:=fun r hr=>by obtain⟨V,hv⟩:=hp;exact(hv.low r hr).1
  have EF:=JG hp (by omega) (by have:=hi.said;omega) (by have:=hi.fields;omega)
  have PL:Hid (jA s.data.toList=Xc s.data.toList p):=by
   show _=_
   unfold jA;rw[HXS.out,hr]
  have HI:=jii hi.endField
  have h4:T (w.heap.size+4)=0:=hT _ (by omega) (by omega)
  have l0:=hp.lt
  clear hr hi hp
  gi_wp2_with fail
  refine⟨trivial,(callsIn_wide.2 EF).mono ?_⟩
  rintro e W1 hE
  unfold zM at hE
  by_cases h0:jh p=0
  ·rw[if_pos h0]at hE
   obtain⟨rfl,T1,g1,s1⟩:=hE
   have hO1:=hO.only s1.only hTR
   have hm1:=(s1.only.same _ zW (fun e=>e h4)).trans hmark
   have h41:=(s1.old _ zW).2 h4
   have hTR1:∀r,T1 r≠0->w.heap.size+2<=r:=fun r hr=>by obtain⟨V,hv⟩:=g1;exact(hv.low r hr).1
   have zW1:=s1.only.size
   have e0:=ZP p
   have hat:=HI.out.at_
   have EB:=JH g1 (by omega) s.size hat (jij _) (by omega) (by have:=HI.out.items;omega) (by have:=HI.out.stanzas;omega)
   have l1:=g1.lt
   have PY:Hid (jA s.data.toList=.ok (jr s.data.toList (jd p) s.size).items):=by
    show _=_
    rw[PL.out];unfold Xc;rw[if_neg (by simpa using h0),<- jiV]
   clear EF hO hmark HI PL g1
   gi_wp2_with fail
   refine⟨trivial,(callsIn_wide.2 EB).mono ?_⟩
   rintro e W2 ⟨rfl,T2,⟨V2,g2⟩,s2⟩
   have hO2:=hO1.only s2.only hTR1
   have hm2:=(s2.only.same _ (by omega) (fun e=>e h41)).trans hm1
   obtain⟨a3,c3,e3,_⟩:=je g2.r3
   have hits:=g2.its
   have q3:W2.cell? ⟨w.heap.size+1+1,3,none⟩=some (.slice a3 (jr s.data.toList (jd p) s.size).items.length c3):=by rw[<- e3];exact g2.cells.cell 3
   have l2:=g2.lt
   have c2:W2.cell? ⟨w.heap.size,0,none⟩=some (.slice none 0 0):=hO2.1.cell 0
   have f2:=hO2.1.frozen 0
   have c3':W2.cell? ⟨w.heap.size+1,0,none⟩=some .nilIface:=hO2.2.1.cell 0
   have f3:=hO2.2.1.frozen 0
   rw[e3]at hits
   have HITS:=jii hits
   have hT2:T2 (w.heap.size+4)=0:=(s2.old _ (by omega)).2 h41
   have HG:=jii (fun W' (hs:∀k,T2 k≠0->W'.heap[k]?=W2.heap[k]?) hz=>And.intro (g2.same (w':=W') hs hz).its (g2.same (w':=W') hs hz).nil)
   have hlow2:∀r,T2 r≠0->w.heap.size+2<=r:=fun r hr=>(g2.low r hr).1
   rw[e3]at HG
   clear EB hits g2
   gi_wp2
   refine VP w _ (.slice a3 (jr s.data.toList (jd p) s.size).items.length c3) .nilIface _ (hO2.set _ _) rfl rfl ?_ rfl rfl fun hb=>.yes PY.out hb (HG.out _ ?_ ?_)
   ·exact(jiS _ _ _ _ (by show w.heap.size+4≠w.heap.size+1;omega)).trans ((jiS _ _ _ _ (by show w.heap.size+4≠w.heap.size;omega)).trans hm2)
   ·intro k hk
    have h1:=hlow2 k hk
    rw[jiR (by rintro rfl;exact hk hT2)]
    exact(jiS _ _ _ _ (by show k≠w.heap.size+1;omega)).trans (jiS _ _ _ _ (by show k≠w.heap.size;omega))
   simp[World.setCell]
  rw[if_neg h0]at hE
  obtain⟨v,rfl,⟨q,hq,rfl,hqc⟩,hb1⟩:=hE
  have hO1:Out w W1 (.slice none 0 0) .nilIface:=⟨hO.1.below hb1 hO.1.lt,hO.2.1.below hb1 hO.2.1.lt,hO.2.2.trans (hb1.mono hO.2.2.size)⟩
  have hm1:=(hb1.block _ zW).trans hmark
  have c2:W1.cell? ⟨w.heap.size,0,none⟩=some (.slice none 0 0):=hO1.1.cell 0
  have f2:=hO1.1.frozen 0
  have c3':W1.cell? ⟨w.heap.size+1,0,none⟩=some .nilIface:=hO1.2.1.cell 0
  have f3:=hO1.2.1.frozen 0
  have PN:Hid (jA s.data.toList=.error (p.begin_,jh p)):=by
   show _=_
   rw[PL.out];unfold Xc;rw[if_pos h0]
  clear EF hO hmark HI PL
  gi_wp2
  refine VP w _ (.slice none 0 0) (.iface 91 (.pointer (some ⟨q,0,none⟩))) _ (hO1.set _ _) rfl rfl ?_ rfl rfl fun hb=>.no PN.out hb ⟨q,by omega,rfl,?_⟩
  ·exact(jiS _ _ _ _ (by show w.heap.size+4≠w.heap.size+1;omega)).trans ((jiS _ _ _ _ (by show w.heap.size+4≠w.heap.size;omega)).trans hm1)
  exact(jiR (by omega)).trans (ja.other (ja.other hqc (by show q≠w.heap.size;omega) _) (by show q≠w.heap.size+1;omega) _)
 case stop =>
 rw[hz]
 rintro c pre W hpre ⟨rfl,a,n,v,hr,hO,⟨q,hq,rfl,hqc⟩⟩ hmark
 have PN:Hid (jA s.data.toList=.error (a,n)):=by
  show _=_
  unfold jA;rw[HXS.out,ja9 hr hpre]
 gi_wp2
 refine VP w _ (.slice none 0 0) (.iface 91 (.pointer (some ⟨q,0,none⟩))) _ hO rfl rfl hmark rfl rfl fun hb=>.no PN.out hb ⟨q,by omega,rfl,?_⟩
 exact(jiR (by omega)).trans hqc
end Go.Proofs.YtimfhnfcmhmjcaaGreatDoor
namespace Go.Proofs.YtimfhnfcmhmjcaaGreatDoor
open Go.RowKit Go.Shelf
theorem jaC(q:Option Addr)(w:World):(Instr.typeAssert (.iface 91 (.pointer q)) 32 54 true).run Tryz.prog w=.ok (.tuple #[.int .i64 0,.bool false]) w:=by kernel_rfl
theorem XJ(q:Option Addr)(w:World):(Instr.typeAssert (.iface 91 (.pointer q)) 32 91 true).run Tryz.prog w=.ok (.tuple #[.pointer q,.bool true]) w:=by kernel_rfl
theorem XK(n:Int)(w:World):(Instr.typeAssert (.iface 54 (.int .i64 n)) 32 91 true).run Tryz.prog w=.ok (.tuple #[.pointer none,.bool false]) w:=by kernel_rfl
theorem XL(w:World):(Instr.typeAssert .nilIface 32 91 true).run Tryz.prog w=.ok (.tuple #[.pointer none,.bool false]) w:=by kernel_rfl
theorem jaB(n:Int)(w:World):(Instr.typeAssert (.iface 54 (.int .i64 n)) 32 54 true).run Tryz.prog w=.ok (.tuple #[.int .i64 n,.bool true]) w:=by kernel_rfl
attribute [local go_sem] zV jaC XJ XK XL jaB
theorem Its.at_{w:World}{v:Value}{its:List It}(h:Its w v its){i:Nat}{it:It}(hi:its[i]?=some it):∃b off cap fa fc,v=.slice (some ⟨b,off,none⟩) its.length cap/\its.length<=cap/\b<w.heap.size/\w.cell? ⟨b,off+i*3,none⟩=some (.int .i64 it.kind)/\w.cell? ⟨b,off+i*3+1,none⟩=some (.string (B it.raw))/\w.cell? ⟨b,off+i*3+1+1,none⟩=some (.slice fa it.fields.length fc)/\it.fields.length<=fc:=by
 obtain⟨A,cap,rfl,hle,hc⟩:=h
 obtain⟨b,off,fv,rfl,hlt,c0,c1,c2,fa,fc,rfl,hfl,_⟩:=hc i it hi
 exact⟨b,off,cap,fa,fc,rfl,hle,hlt,c0,c1,c2,hfl⟩
end Go.Proofs.YtimfhnfcmhmjcaaGreatDoor
namespace Go.Proofs.YtimfhnfcmhmjcaaGreatDoor
open Go.RowKit Go.Shelf
theorem XW{ls:List (List UInt8)}(h:jU ls=0):za (zA ls) (zy ls)=0/\(zA ls).length<=32/\(zy ls).length<=1000:=by
 cases hF:Gj ls with
 | false=>rw[(YB hF).1]at h;cases h
 | true =>
 by_cases hl:(vh ls).length<=1000
 ·obtain⟨a,r,rfl,hka,_⟩:=Qx hF
  obtain⟨_,e2,e3⟩:=Qt hF hl
  have hg:jR (before a)=true:=(jgY hka).2.2
  rw[e2,e3]
  exact⟨by unfold za;rw[hg,if_pos rfl,if_pos hl],(qU hg).2.1,hl⟩
 rw[(Zg hF hl).1]at h;cases h
attribute [local go_sem] zV
end Go.Proofs.YtimfhnfcmhmjcaaGreatDoor
namespace Go.Proofs.YtimfhnfcmhmjcaaGreatDoor
open Go.RowKit Go.Shelf
theorem jbM:Lays.n240 Tryz.prog Tryz.lays156_ren:={Tryz.lays156 with}
def Bld(b R:Nat)(l:List UInt8)(W:World):Prop :=
 ∃p v,W.heap[b]?=some (.cells #[p,v] 167 (0,0))/\(p=.pointer none\/p=.pointer (some ⟨b,0,none⟩))/\W.ownsRow R 5 1 v l.length (Lib.byteCells l)
structure qb(b R:Nat)(W W':World):Prop where
 os:W'.os=W.os
 tape:W'.tape=W.tape
 output:W'.output=W.output
 size:W.heap.size<=W'.heap.size
 same:∀r,r<R->r<W.heap.size->r≠b->W'.heap[r]?=W.heap[r]?
 others:Lib.OthersKept 5 (some b) W W'
theorem qb.refl(b R:Nat)(W:World):qb b R W W:=⟨rfl,rfl,rfl,jij _,fun _ _ _ _=>rfl,Lib.OthersKept.refl _ _ _⟩
theorem qb.trans{b R:Nat}{X Y Z:World}(h:qb b R X Y)(g:qb b R Y Z):qb b R X Z :=
 ⟨g.os.trans h.os,g.tape.trans h.tape,g.output.trans h.output,jiI h.size g.size,fun r a c e=>(g.same r a (jiF c h.size) e).trans (h.same r a c e),h.others.trans g.others⟩
theorem qb.grown{b R:Nat}{X Y Z:World}(h:qb b R X Y){row:Option Nat}(hg:Y.grownBy Z row)(hr:∀r,row=some r->R<=r/\∃c fz,Y.heap[r]?=some (.cells c 5 fz)):qb b R X Z :=
 h.trans ⟨hg.os,hg.tape,hg.output,hg.size,fun r a c e=>hg.block r c (fun e2=>by have:=(hr r e2.symm).1;omega),(Lib.OthersKept.refl _ _ _).grown hg (fun g e=>(hr g e).2)⟩
theorem qb.put{b R:Nat}{X Y:World}(h:qb b R X Y)(j:Nat)(u:Value):qb b R X (Y.setCell ⟨b,j,none⟩ u) :=
 h.trans ⟨rfl,rfl,rfl,by simp[World.setCell],fun r _ _ e=>jiS _ _ _ _ e,Lib.OthersKept.setCell (b:=b) (Lib.OthersKept.refl _ _ Y) ⟨b,j,none⟩ rfl u⟩
theorem qb.other{b R c:Nat}{X Y:World}{cs:Array Value}{t:TypeId}(h:qb b R X Y)(hc:X.heap[c]?=some (.cells cs t (0,0)))(hne:c≠b)(ht:t≠5):Y.heap[c]?=some (.cells cs t (0,0)) :=
 h.others c _ hc (fun e=>hne (jip e)) (fun c' fz e=>ht (by injection e))
theorem qb.alloc{b R:Nat}{X Y:World}(h:qb b R X Y)(o:Obj):qb b R X (Y.alloc o) :=
 h.grown (World.grownBy_alloc Y o none) (fun r e=>by cases e)
theorem qb.below{b R n:Nat}{X Y:World}(h:qb b R X Y)(hb:n<=b)(hR:n<=R)(hs:n<=X.heap.size):Below n X Y :=
 ⟨h.os,h.tape,h.output,h.size,fun r a=>h.same r (by omega) (by omega) (by omega)⟩
theorem qb.stay{b R B k:Nat}{X Y:World}(h:qb b R X Y)(hb:b<B)(hR:B+k<=R)(hs:B+k<=X.heap.size):qC B k X Y :=
 ⟨h.size,fun r a c=>h.same r (by omega) (by omega) (by omega)⟩
theorem qb.box{b R c:Nat}{X Y:World}{t:TypeId}{v:Value}(h:qb b R X Y)(hv:Boxed X c t v)(hc:c<R)(hne:c≠b):Boxed Y c t v :=
 (h.same c hc hv.lt hne).trans hv
theorem Bld.lt{b R:Nat}{l:List UInt8}{W:World}(h:Bld b R l W):b<W.heap.size:=by
 obtain⟨p,v,hb,_⟩:=h
 exact(Array.getElem?_eq_some_iff.1 hb).1
theorem Bld.alloc{b R:Nat}{l:List UInt8}{W:World}(h:Bld b R l W)(o:Obj):Bld b R l (W.alloc o):=by
 have hlt:=h.lt
 obtain⟨p,v,hb,hp,hv⟩:=h
 exact⟨p,v,(jjv _ _ _ hlt).trans hb,hp,hv.alloc _⟩
theorem Bld.new(w:World)(R:Nat):Bld w.heap.size R [] (w.alloc (.cells #[.pointer none,.slice none 0 0] 167)) :=
 ⟨_,_,jjI w _,.inl rfl,by simp[Lib.byteCells],.inl ⟨rfl,rfl⟩⟩
theorem Bld.turned{b R B k:Nat}{l:List UInt8}{W W':World}(h:Bld b R l W)(ht:jS B k W W')(hb:b<B)(hR:B+k<=R):Bld b R l W':=by
 have hlt:=h.lt
 obtain⟨p,v,hb',hp,hv⟩:=h
 refine⟨p,v,(ht.same b hlt (.inl hb)).trans hb',hp,?_⟩
 exact ht.row hv (fun g e=>.inr (by have:=(hv.lt g e).1;omega))
theorem Bld.library{b R B:Nat}{l:List UInt8}{W:World}(h:Bld b R l W)(hB:B<=b)(hR:B<=R):Lib.IsBuilderF 167 5 B b (Lib.byteCells l) W:=by
 obtain⟨p,v,hb,hp,hv⟩:=h
 have hv2:W.ownsRow B 5 1 v (Lib.byteCells l).length (Lib.byteCells l):=by
  rw[Lib.byteCells_length]
  refine⟨hv.1,?_⟩
  rcases hv.2 with hn|⟨g,cap,cur,e1,e2,rest⟩
  ·exact .inl hn
  exact .inr ⟨g,cap,cur,e1,jiI hR e2,rest⟩
 have hne:v.ownBlock≠some b:=Lib.ownBlock_ne hv hb (by decide)
 refine Lib.IsBuilderF.of ?_
 rcases hp with rfl|rfl
 ·exact .inl ⟨hB,v,hb,hv2,hne⟩
 exact .inr ⟨hB,v,hb,hv2,hne⟩
theorem xn(b R:Nat)(l:List UInt8)(s:ByteArray)(w:World)(h:Bld b R l w)(hbR:b<R)(hR:R<=w.heap.size)(hlen:l.length+s.size<=140737488355328):
  Calls Tryz.prog 88 #[.pointer (some ⟨b,0,none⟩),.string s] w fun e w'=>e=.returned (.tuple #[.int .i64 s.size,.nilIface])/\Bld b R (l++s.data.toList) w'/\qb b R w w':=by
 obtain⟨i0,hi,hz0,hz1,hz2⟩:=info_parts Tryz.Builder_Extra_156.infoByte
 have hcopy:Calls Tryz.prog 148 #[.pointer (some ⟨b,0,none⟩)] w fun e w'=>e=.returned (.tuple #[])/\(∃v,w'.heap[b]?=some (.cells #[.pointer (some ⟨b,0,none⟩),v] 167 (0,0))/\w'.ownsRow R 5 1 v l.length (Lib.byteCells l))/\qb b R w w':=by
  obtain⟨p,v,hb,hp,hv⟩:=h
  have hlt:b<w.heap.size:=(Array.getElem?_eq_some_iff.1 hb).1
  rcases hp with rfl|rfl
  ·refine(Any.Builder_copyCheck_fresh jbM Tryz.Builder_Extra_156.toX72 b w ?_ ?_ ?_).mono ?_
   ·rw[jjO hb];rfl
   ·simp[World.shape?,hb];rfl
   ·exact Lib.frozen_of_heap hb 0
   rintro e w' ⟨rfl,rfl⟩
   refine⟨rfl,⟨v,?_,?_⟩,?_⟩
   ·simp[World.setCell,Array.getElem?_modify,hb]
   ·exact hv.kept (grownBy_setCell' w b _) (by
     cases hvb:v.ownBlock with
     | none=>exact .inl rfl
     | some g=>exact .inr (fun e=>by have:=(hv.lt g hvb).1;have:=jip e;omega))
   exact(qb.refl b R w).put 0 _
  refine(Any.Builder_copyCheck_used jbM Tryz.Builder_Extra_156.toX72 b w ?_).mono ?_
  ·rw[jjO hb];rfl
  rintro e w' ⟨rfl,rfl⟩
  exact⟨rfl,⟨v,hb,hv⟩,qb.refl b R _⟩
 go_enter Tryz.func88,Tryz.ntmps88
 go_wp2_with (go_at_call 148;refine hcopy.mono ?_)
 rintro e w1 ⟨rfl,⟨v,hbk,hown⟩,hw1⟩
 have c0:w1.cell? ⟨b,0,none⟩=some (.pointer (some ⟨b,0,none⟩)):=by rw[jjO hbk];rfl
 have c1:w1.cell? ⟨b,1,none⟩=some v:=by rw[jjO hbk];rfl
 go_wp2_with (at_builtin;refine Lib.wpList_append_own_string _ rfl _ _ 165 9 rfl R 5 i0 Tryz.underlying165 Tryz.underlying9 hi hz0 hz1 hz2 _ _ _ rfl hown s rfl ?c3 ?c4 ?c5 ?_)
 case c3=>unfold maxLen;omega
 case c4=>omega
 case c5=>have:=hw1.size;omega
 intro v' w2 hown' hgrow _
 have hlt:b<w1.heap.size:=(Array.getElem?_eq_some_iff.1 hbk).1
 have hrow:∀r,v.ownBlock=some r->R<=r:=fun r e=>(hown.lt r e).1
 have hb2:w2.heap[b]?=some (.cells #[.pointer (some ⟨b,0,none⟩),v] 167 (0,0)):=by
  rw[hgrow.block b hlt (fun e=>by have:=hrow b e.symm;omega)]
  exact hbk
 have d0:w2.cell? ⟨b,0,none⟩=some (.pointer (some ⟨b,0,none⟩)):=by rw[jjO hb2];rfl
 have d1:w2.cell? ⟨b,1,none⟩=some v:=by rw[jjO hb2];rfl
 have f1:w2.frozen? ⟨b,1,none⟩=false:=Lib.frozen_of_heap hb2 1
 obtain⟨ao,n',cap,rfl⟩:∃ao n' cap,v'=.slice ao n' cap:=by
  rcases hown'.2 with ⟨hv,_⟩|⟨g,cap,cur,hv,_⟩
  ·exact⟨_,_,_,hv⟩
  exact⟨_,_,_,hv⟩
 go_wp2
 go_ret2
 have hset:w2.grownBy (w2.setCell ⟨b,1,none⟩ (.slice ao n' cap)) (some b) :=
  ⟨rfl,rfl,rfl,by simp[World.setCell],fun k _ hk=>jiS _ _ _ k (fun e=>hk (by rw[e]))⟩
 refine⟨rfl,⟨.pointer (some ⟨b,0,none⟩),.slice ao n' cap,?_,.inr rfl,?_⟩,?_⟩
 ·simp[World.setCell,Array.getElem?_modify,hb2]
 ·rw[jik,<- jiV,Lib.byteCells_append,<- Lib.strCells_eq]
  refine hown'.kept hset ?_
  cases hvb:(Value.slice ao n' cap).ownBlock with
  | none=>exact .inl rfl
  | some g=>exact .inr (fun e=>by have:=(hown'.lt g hvb).1;have:=jip e;omega)
 refine(hw1.grown hgrow (fun r e=>⟨hrow r e,?_⟩)).put 1 _
 rcases hown.2 with ⟨hn,_⟩|⟨g,cap,cur,hv,_,hg,_⟩
 ·rw[hn]at e;cases e
 rw[hv]at e
 cases e
 exact⟨_,_,hg⟩
def foldN:List (List UInt8×List UInt8)->Nat
 | []=>0
 | f::r=>if za f.1 f.2=0 then foldN r else za f.1 f.2
def jO(fs:List (List UInt8×List UInt8)):List UInt8:=fs.flatMap fun f=>jk (jX f.1 f.2)
def foldT(fs:List (List UInt8×List UInt8)):List UInt8:=if foldN fs=0 then jO fs else []
theorem Ua:∀fs,foldN fs<=6
 | []=>by decide
 | f::r=>by
  unfold foldN
  split
  ·exact Ua r
  unfold za;split
  ·split<;>decide
  decide
theorem ZU{k v:List UInt8}(h:za k v=0):jR k=true/\v.length<=1000:=by
 unfold za at h
 split at h
 ·rename_i hg
  split at h
  ·rename_i hl;exact⟨hg,hl⟩
  cases h
 cases h
theorem jaS{k v:List UInt8}(h:za k v=0):(jk (jX k v)).length<=4000:=by
 obtain⟨a,b⟩:=ZU h
 have c:=(qU a).2.1
 rw[xp]
 have:=YY k v
 omega
theorem jag(fs:List (List UInt8×List UInt8))(f:List UInt8×List UInt8):jO (fs++[f])=jO fs++jk (jX f.1 f.2):=by unfold jO;simp
theorem UZ(ls:List (List UInt8))(x:List UInt8):jk (ls++[x])=(jk ls++x)++[10]:=by unfold jk;simp
theorem UY(ls:List (List UInt8))(j:Nat):(jk (ls.take j)).length<=(jk ls).length:=by
 conv=>rhs;rw[<- jiT j ls,vj,jik]
 omega
theorem JQ.wrote{w w':World}{base b R:Nat}{v:Value}{ss:List ByteArray}(h:JQ w base v ss)(hw:qb b R w w'){cs:Array Value}(hb:w.heap[b]?=some (.cells cs 167 (0,0))):JQ w' base v ss:=by
 refine⟨h.1,?_⟩
 rcases h.2 with hn|⟨g,cap,cur,hv,hg,hc,rest⟩
 ·exact .inl hn
 refine .inr ⟨g,cap,cur,hv,hg,hw.other hc ?_ (by decide),rest⟩
 rintro rfl
 rw[hb]at hc
 cases hc
theorem Bld.kept{b R N:Nat}{l:List UInt8}{W W':World}(h:Bld b R l W)(hb:Below N W W')(hN:W.heap.size<=N):Bld b R l W':=by
 have hlt:=h.lt
 obtain⟨p,v,hb',hp,hv⟩:=h
 exact⟨p,v,(hb.block b (by omega)).trans hb',hp,zl hv hb hN⟩
theorem Bld.cells{b R:Nat}{l:List UInt8}{W:World}(h:Bld b R l W):∃cs,W.heap[b]?=some (.cells cs 167 (0,0)):=by
 obtain⟨p,v,hb',_⟩:=h
 exact⟨_,hb'⟩
def VT(fs:List (List UInt8×List UInt8)):Nat:=(fs.map fun f=>min f.1.length 10000+min f.2.length 10000).sum
theorem jbD(fs:List (List UInt8×List UInt8))(f:List UInt8×List UInt8):VT (fs++[f])=VT fs+(min f.1.length 10000+min f.2.length 10000):=by unfold VT;simp
theorem QR:∀(fs:List (List UInt8×List UInt8)),VT fs<=6000->∀f∈fs,f.1.length<=6000/\f.2.length<=6000
 | [],_,f,hf=>by simp at hf
 | a::r,h,f,hf=>by
  have e:VT (a::r)=(min a.1.length 10000+min a.2.length 10000)+VT r:=rfl
  rw[e]at h
  rcases List.mem_cons.1 hf with rfl|hf
  ·omega
  exact QR r (by omega) f hf
structure JL(w:World)(v:Value)(fs:List (List UInt8×List UInt8)):Prop where
 flds:yH w v fs
 nil:∀n c,v=.slice none n c->c=0
 len:fs.length<=maxLen
 each:∀f∈fs,f.1.length<=maxLen/\f.2.length<=maxLen
def jhT(fs:List (List UInt8×List UInt8))(e:Ending):Prop:=∃b:Bool,e=.returned (.bool b)/\(b=false->fs.length<=61/\(∀f∈fs,f.1.length<=6000/\f.2.length<=6000)/\VT fs<=6000)
theorem jdF(fs:List (List UInt8×List UInt8))(v:Value)(w:World)(hs:yH w v fs)(hm:fs.length<=maxLen)(he:∀f∈fs,f.1.length<=maxLen/\f.2.length<=maxLen):
  Calls Tryz.prog 50 #[v] w fun e w'=>jhT fs e/\Below w.heap.size w w':=by
 obtain⟨A,cap,rfl,hle,hc⟩:=hs
 have PC:=jii hc
 have EA:=jii he
 clear hc he
 unfold maxLen at hm
 go_enter Tryz.func50,Tryz.ntmps50
 go_wp2_with fail
 go_loopw [3,8] (fun s i wr=>∃k:Nat,k<=fs.length/\k<=61/\i=.int .i64 k/\s=.int .i64 (VT (fs.take k):Nat)/\VT (fs.take k)<=6000/\Below w.heap.size w wr) (fun _ i _=>fs.length-(intOf i).toNat)
 case atStart=>exact⟨0,jiD _,by decide,rfl,rfl,by simp[VT],jil _ _⟩
 case round =>
 obtain⟨k,hk,hk61,rfl,rfl,hms,hb⟩:=hrel
 by_cases hlt:k<fs.length
 ·obtain⟨f,hf⟩:∃f,fs[k]?=some f:=⟨_,jim hlt⟩
  obtain⟨b,off,rfl,hbb,c0,c1⟩:=PC.out k f hf
  replace c0:=(hb.cell (p:=⟨b,off+k*2,none⟩) hbb).trans c0
  replace c1:=(hb.cell (p:=⟨b,off+k*2+1,none⟩) hbb).trans c1
  have T1:Hid (VT (fs.take (k+1))=VT (fs.take k)+(min f.1.length 10000+min f.2.length 10000)):=by
   show _=_
   rw[jiU,hf];exact jbD _ _
  obtain⟨l1,l2⟩:=EA.out f (jiA hf)
  unfold maxLen at l1 l2
  have y1:=jm f.1
  have y2:=jm f.2
  have m1:((min f.1.length 10000:Nat):Int)=min (f.1.length:Int) 10000:=by omega
  have m2:((min f.2.length 10000:Nat):Int)=min (f.2.length:Int) 10000:=by omega
  have hba:=hb.alloc hb.size (.cells #[.string (B f.1),.string (B f.2)] 155)
  clear hf
  generalize VT (fs.take k)=m at *
  by_cases h60:60<k
  ·go_wp2_with fail
   go_ret
   exact⟨⟨true,rfl,fun h=>by cases h⟩,hba⟩
  by_cases hm4:6000<m+(min f.1.length 10000+min f.2.length 10000)
  ·go_wp2_with fail
   go_ret
   exact⟨⟨true,rfl,fun h=>by cases h⟩,hba⟩
  go_wp2_with fail
  go_roundw
  case rel=>exact⟨k+1,hlt,by omega,by go_num,by rw[T1.out,jkB,jkB,m1,m2],by rw[T1.out];omega,hba⟩
  case measure=>simp[intOf];omega
 obtain rfl:k=fs.length:=by omega
 rw[jiL]at hms
 have SM:=jii (QR fs hms)
 clear PC EA
 go_wp2_with fail
 go_ret
 exact⟨⟨false,rfl,fun _=>⟨hk61,SM.out,hms⟩⟩,hb⟩
theorem Xp(fs:List (List UInt8×List UInt8))(v v':Value)(w:World)(h:yH w v fs)(h':yH w v' fs)(hn:fs.length<=1000000):
  Calls Tryz.prog 45 #[v,v'] w fun e w'=>e=.returned (.bool true)/\∃m,w'=w.drewN m:=by
 obtain⟨A,cap,rfl,hle,hc⟩:=h
 obtain⟨A',cap',rfl,hle',hc'⟩:=h'
 have PC:=jii hc
 have PC':=jii hc'
 clear hc hc'
 go_enter Tryz.func45,Tryz.ntmps45
 go_wp2_with fail
 go_loopw [13] (fun i wr=>∃k:Nat,k<=fs.length/\i=.int .i64 k/\∃m,wr=w.drewN m) (fun i _=>fs.length-(intOf i).toNat)
 case atStart=>exact⟨0,jiD _,rfl,0,rfl⟩
 case round =>
 obtain⟨k,hk,rfl,nd,hwr⟩:=hrel
 by_cases hlt:k<fs.length
 ·obtain⟨f,hf⟩:∃f,fs[k]?=some f:=⟨_,jim hlt⟩
  obtain⟨b,off,rfl,hbb,c0,c1⟩:=PC.out k f hf
  obtain⟨b',off',rfl,hbb',c0',c1'⟩:=PC'.out k f hf
  replace c0:wr.cell? ⟨b,off+k*2,none⟩=some (.string (B f.1)):=by rw[hwr];exact c0
  replace c1:wr.cell? ⟨b,off+k*2+1,none⟩=some (.string (B f.2)):=by rw[hwr];exact c1
  replace c0':wr.cell? ⟨b',off'+k*2,none⟩=some (.string (B f.1)):=by rw[hwr];exact c0'
  replace c1':wr.cell? ⟨b',off'+k*2+1,none⟩=some (.string (B f.2)):=by rw[hwr];exact c1'
  have HW:=jii hwr
  clear hf PC PC' hwr
  generalize B f.1=X at *
  generalize B f.2=Y at *
  go_wp2_with (go_quiet (fail))
  go_roundw
  case rel=>exact⟨k+1,hlt,by go_num,nd+_,by rw[HW.out];exact World.drewN_drewN _ _ _⟩
  case measure=>simp[intOf];omega
 obtain rfl:k=fs.length:=by omega
 clear PC PC'
 go_wp2_with fail
 go_ret
 exact⟨rfl,nd,by first | rfl | exact hwr⟩
theorem yH.drewN{w:World}{v:Value}{fs:List Fld}(h:yH w v fs)(n:Nat):yH (w.drewN n) v fs:=h
theorem jdp(its:List It)(h:∀it∈its,it.raw.length<=100000):∀k,((its.take k).flatMap It.raw).length<=100000*k:=by
 intro k
 induction k with
 | zero=>simp
 | succ k ih =>
 rw[jiU,jiN,jik]
 cases hk:its[k]? with
 | none=>simp only[Option.toList_none,jj5,jiJ];omega
 | some it =>
 have:=h it (jiA hk)
 simp only[Option.toList_some,jiy,jj5,jiO];omega
theorem jbj(its:List It)(k:Nat)(it:It)(h:its[k]?=some it):(its.take (k+1)).flatMap It.raw=(its.take k).flatMap It.raw++it.raw:=by
 rw[jiU,h];simp
theorem jdN(its:List It)(v:Value)(w:World)(h:Its w v its)(hn:its.length<=100000)(hr:∀it∈its,it.raw.length<=100000):
  Calls Tryz.prog 76 #[v] w fun e w'=>e=.returned (.string (B (its.flatMap It.raw)))/\Below w.heap.size w w':=by
 have B0:=Bld.new w (w.heap.size+1)
 have IT:=jii h
 obtain⟨A,cap,rfl,hle,_⟩:=h
 have HL:=jii (jdp its hr)
 have HR:=jii hr
 clear hr
 go_enter Tryz.func76,Tryz.ntmps76
 go_wp2_with fail
 go_loopw [8] (fun i wr=>∃k:Nat,k<=its.length/\i=.int .i64 k/\Bld w.heap.size (w.heap.size+1) ((its.take k).flatMap It.raw) wr/\Below w.heap.size w wr) (fun i _=>its.length-(intOf i).toNat)
 case atStart=>exact⟨0,jiD _,rfl,B0,(jil _ _).alloc (jij _) _⟩
 case round =>
 obtain⟨k,hk,rfl,hbl,hb⟩:=hrel
 have hz:=hb.size
 have hbs:=hbl.lt
 by_cases hlt:k<its.length
 ·obtain⟨it,hit⟩:∃it,its[k]?=some it:=⟨_,jim hlt⟩
  obtain⟨b,off,cap',fa,fc,e,_,hbb,c0,c1,c2,hfl⟩:=(IT.out.below hb (jij _)).at_ hit
  cases e
  have hl1:=HL.out k
  have hl2:=HR.out it (jiA hit)
  have SN:=jii (jbj its k it hit)
  have hba:=hb.alloc hz (.cells #[.int .i64 it.kind,.string (B it.raw),.slice fa it.fields.length fc] 111)
  have hbla:=hbl.alloc (.cells #[.int .i64 it.kind,.string (B it.raw),.slice fa it.fields.length fc] 111)
  have zr:=jm it.raw
  clear hit IT HL HR hbl
  generalize (its.take k).flatMap It.raw=pre at *
  go_wp2_with fail
  refine(xn w.heap.size (w.heap.size+1) _ (B it.raw) _ hbla (by omega) (by simp;omega) (by omega)).mono ?_
  rintro e w5 ⟨rfl,hbl5,hw5⟩
  rw[jo]at hbl5
  have hb5:=hba.trans (hw5.below (jij _) (by omega) (by simp;omega))
  clear hbla hw5
  go_wp2_with fail
  go_roundw
  case rel=>exact⟨k+1,hlt,by go_num,by rw[SN.out];exact hbl5,hb5⟩
  case measure=>simp[intOf];omega
 obtain rfl:k=its.length:=by omega
 rw[jiL]at hbl
 clear IT HL HR
 go_wp2_with fail
 refine(Tryz.Builder_String_any_k w.heap.size w.heap.size _ wr (hbl.library (jij _) (by omega)) (by omega)).mono ?_
 rintro e w5 ⟨rfl,_,b5,_⟩
 go_wp2_with fail
 go_ret
 exact⟨rfl,hb.trans b5⟩
end Go.Proofs.YtimfhnfcmhmjcaaGreatDoor
