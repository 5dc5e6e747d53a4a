/- Texts put together:UD,UE,TG,TJ,UF,RQ,RK,QI,QJ,UG,UH,UI. -/
import Derived.Sort.BigQuietIn
import Derived.Shelf.Spec.SlicesInsertGrow
import Derived.ArgAppend
import Derived.Test.YtpibhbjmcmfnmaaGreatDoorBag13
set_option linter.unusedVariables false
set_option maxRecDepth 100000
set_option maxHeartbeats 16000000
namespace Go.Proofs.YtpibhbjmcmfnmaaGreatDoor
open Go.RowKit Go.Shelf Tryz
abbrev jnS:=@List.getElem?_take
abbrev joG:=@List.ext_getElem?
abbrev joQ:=@Array.getElem?_toList
abbrev jpu:=@List.find?_append
abbrev jpB:=@Go.Addr.add_lit
section
attribute [local go_sem] jnn
structure LR(w:World)(lb:Nat)(ev:Value)(ps:List Pr)(nx:Int):Prop where
 head:ja w lb 234 #[ev,.int .i64 (nx-1)]
 ents:Qt w ev ps
theorem LR.below{w w':World}{lb:Nat}{ev:Value}{ps:List Pr}{nx:Int}{n:Nat}(h:LR w lb ev ps nx)(hb:Below n w w')(hn:w.heap.size<=n):LR w' lb ev ps nx :=
 ⟨h.head.below hb (jnw h.head.lt hn),h.ents.below hb hn⟩
abbrev ptr(b:Nat):Value:=.pointer (some ⟨b,0,none⟩)
theorem jk5(lb:Nat)(ev:Value)(ps:List Pr)(nx:Int)(w:World)(h:LR w lb ev ps nx):
  Calls prog 253 #[ptr lb] w fun e w'=>e=.returned ev/\w=w':=by
 obtain⟨A,cap,rfl,hle⟩:=h.ents.empty
 have c0:w.cell? ⟨lb,0,none⟩=some (.slice A ps.length cap):=h.head.cell 0
 clear h
 unfold ptr
 go_enter func253,ntmps253
 go_wp2_with fail
 go_ret
 exact⟨rfl,rfl⟩
def xr(ps:List Pr)(id:Int):Option Nat:=((ZN 0 ps).find? fun x=>x.2.1.2==id).map Prod.fst
def QR(o:Option Nat):Value:=match o with | none=>.tuple #[.int .i64 0,.bool false] | some k=>.tuple #[.int .i64 (k:Nat),.bool true]
def jll(w:World)(l v:Value)(ps:List Pr):Prop:=Qt w v ps/\Calls prog 253 #[l] w fun e w'=>e=.returned v/\w=w'
theorem jll.of{w:World}{lb:Nat}{ev:Value}{ps:List Pr}{nx:Int}(h:LR w lb ev ps nx):jll w (ptr lb) ev ps:=⟨h.ents,jk5 lb ev ps nx w h⟩
theorem jfY{ps:List Pr}{id:Int}(h:∀y∈ZN 0 ps,y.2.1.2≠id):xr ps id=none:=by
 unfold xr
 rw[List.find?_eq_none.2 (fun x hx=>by simpa using h x hx)];rfl
theorem jfW{ps:List Pr}{id:Int}{pre post:List (Nat×Pr)}{x:Nat×Pr}(h:ZN 0 ps=pre++x::post)(h1:∀y∈pre,y.2.1.2≠id)(h2:x.2.1.2=id):xr ps id=some x.1:=by
 unfold xr
 rw[h,jpu,List.find?_eq_none.2 (fun y hy=>by simpa using h1 y hy),List.find?_cons_of_pos (by simpa using h2)];rfl
theorem jlV{W:World}{Bx:Nat}{p:Pr}(h:ja W Bx 238 #[.int .i64 p.1.1.kind,.string (B p.1.1.raw),p.2,.int .i64 p.1.2]):W.cell? ⟨Bx,0,none⟩=some (.int .i64 p.1.1.kind)/\W.cell? ⟨Bx,1,none⟩=some (.string (B p.1.1.raw))/\W.cell? ⟨Bx,2,none⟩=some p.2/\W.cell? ⟨Bx,3,none⟩=some (.int .i64 p.1.2) :=
 ⟨h.cell 0,h.cell 1,h.cell 2,h.cell 3⟩
theorem jf1{Q:Ending->World->Prop}(w W:World)(v e:Value)(tmps:Array Value)(hv1:v.oneCell'=true)(he1:e.oneCell'=true)(h4:Boxed W (w.heap.size+1) 3 v)(h5:Boxed W (w.heap.size+1+1) 4 e)(hB:Below w.heap.size w W)
  (hK:W.heap[w.heap.size+4]?=some (.deferred (some []))) (t4:tmps[4]?=some (.pointer (some ⟨w.heap.size+1,0,none⟩))) (t5:tmps[5]?=some (.pointer (some ⟨w.heap.size+1+1,0,none⟩)))
  (hQ:∀W',Below w.heap.size w W'->Q (.returned (.tuple #[v,e])) W') :
  bodyPostM Fence.wide 9 prog Tryz.f205 Q .ret {tmps:=tmps,defers:=[{target:=.collected (w.heap.size+4),args:=#[]}]} W:=by
 have p1:=grownBy_putObj' W (w.heap.size+4) (.deferred none)
 have r4:Boxed (W.putObj (w.heap.size+4) (.deferred none)) (w.heap.size+1) 3 v:=(p1.block _ h4.lt (fun e=>by have:=jng e;omega)).trans h4
 have r5:Boxed (W.putObj (w.heap.size+4) (.deferred none)) (w.heap.size+1+1) 4 e:=(p1.block _ h5.lt (fun e=>by have:=jng e;omega)).trans h5
 have c4:=r4.cell
 have c5:=r5.cell
 refine⟨by simp,.inl ⟨_,_,rfl,run_takeDeferred hK,?_⟩⟩
 exact⟨.tuple #[v,e],by simp[results,Tryz.f205,go_sem,t4,t5,c4,c5],hQ _ (hB.trans (belowK_b (w:=w) (jnd _) W _ _ _ (by omega) hK rfl rfl))⟩
theorem jij(ps:List Pr)(v:Value)(q:Option Addr)(id:Int)(w:World)(hl:∀W,Below w.heap.size w W->jll W (.pointer q) v ps)(hps:ps.length<=1000000):
  Calls prog 205 #[.pointer q,.int .i64 id] w fun e w'=>e=.returned (QR (xr ps id))/\Below w.heap.size w w':=by
 obtain⟨A,cap,hv,hle⟩:=(hl w (jne _ _)).1.empty
 have ALL:=jnc (fun W hB=>callsIn_wide (n:=8).2 (hl W hB).2)
 have HE:=jnc (fun W hB=>(hl W hB).1)
 have ST:=jnc (fun W=>callsIn_wide (n:=8).2 (jbM v W A ps.length cap hv))
 clear hl hv
 refine callsIn_wide (n:=9).1 ?_
 refine callsIn_of_wp_marks func205 rfl trivial ?_ rfl
 simp only[ntmps205,jnV,jni,jnG,Nat.reduceAdd,Nat.reduceSub,jn3,jn4,joa,jn5,jnU,jny]
 gi_wp2_with fail
 have hb0:Below w.heap.size w (((w.alloc (.cells #[.int .i64 id] 3)).alloc (.cells #[.int .i64 0] 3)).alloc (.cells #[.bool false] 4)):=(((jne _ w).alloc (jnd _) _).alloc (by simp) _).alloc (by simp;omega) _
 refine⟨trivial,(ALL.out _ hb0).mono ?_⟩
 rintro e w1 ⟨rfl,rfl⟩
 gi_wp2_with fail
 refine⟨trivial,(ST.out _).mono ?_⟩
 rintro e w1 ⟨rfl,rfl⟩
 gi_wp2_with fail
 obtain⟨w1,hw1⟩:∃w1,w1=((((w.alloc (.cells #[.int .i64 id] 3)).alloc (.cells #[.int .i64 0] 3)).alloc (.cells #[.bool false] 4)).alloc (.cells #[v] 232)):=⟨_,rfl⟩
 have hz:w1.heap.size=w.heap.size+4:=by rw[hw1];simp
 have B0:Boxed w1 w.heap.size 3 (.int .i64 id):=by rw[hw1];exact(((joy w _ _).alloc _).alloc _).alloc _
 have B1:Boxed w1 (w.heap.size+1) 3 (.int .i64 0):=by rw[hw1];exact((xZ w _ _ _).alloc _).alloc _
 have B2:Boxed w1 (w.heap.size+1+1) 4 (.bool false):=by rw[hw1];exact(Qk w _ _ _ _).alloc _
 have B3:Boxed w1 (w.heap.size+1+1+1) 232 v:=by rw[hw1];exact jgt w _ _ _ _ _
 have hb1:Below w.heap.size w w1:=by rw[hw1];exact hb0.alloc (by simp;omega) _
 rw[<- hw1]
 clear hw1 hb0
 have HH:=Uu ps v _ w1 B3 hps (HE.out _ hb1)
 refine Vu (gf:=274) (lb:=#[.pointer (some ⟨w.heap.size+1+1+1,0,none⟩)]) rfl (enters_of func274 (by kernel_rfl) rfl) HH (fun _=>rfl)
  (fun pre W=>(∀y∈pre,y.2.1.2≠id)/\Boxed W w.heap.size 3 (.int .i64 id)/\Boxed W (w.heap.size+1) 3 (.int .i64 0)/\Boxed W (w.heap.size+1+1) 4 (.bool false)/\Boxed W (w.heap.size+1+1+1) 232 v/\Below w.heap.size w W)
  (fun c pre W=>c=.ret/\(∃k,xr ps id=some k/\Boxed W (w.heap.size+1) 3 (.int .i64 (k:Nat))/\Boxed W (w.heap.size+1+1) 4 (.bool true)/\Below w.heap.size w W))
  (by
   rw[hz]
   exact(zN.pure _ _ _).and ((zN.box (.inl (by omega)) _).and ((zN.box (.inl (by omega)) _).and ((zN.box (.inl (by omega)) _).and ((zN.box (.inl (by omega)) _).and (zN.below (jnd _) (by omega)))))))
  (by
   rw[hz]
   rintro c s W W' ⟨h0,k,h1,h2,h3,h4⟩ ht
   exact⟨h0,k,h1,ht.box h2 (.inl (by omega)),ht.box h3 (.inl (by omega)),h4.trans (ht.below (by omega) (by have:=h4.size;omega))⟩)
  ⟨(fun y h=>by cases h),B0,B1,B2,B3,hb1⟩
  (fun pre W h=>⟨HE.out _ h.2.2.2.2.2,h.2.2.2.2.1⟩)
  (fun a pre x a' W=>∃Bx,w.heap.size+8<=Bx/\a'={tmps:=(((a.tmps.setIfInBounds 11 (.int .i64 (x.1:Nat))).setIfInBounds 12 (jgX x.2)).setIfInBounds 6 (.int .i64 (x.1:Nat))).setIfInBounds 7 (ptr Bx),defers:=[]}/\ja W Bx 238 #[.int .i64 x.2.1.1.kind,.string (B x.2.1.1.raw),x.2.2,.int .i64 x.2.1.2] /\
   (∀y∈pre,y.2.1.2≠id)/\Boxed W w.heap.size 3 (.int .i64 id)/\Boxed W (w.heap.size+1) 3 (.int .i64 0)/\Boxed W (w.heap.size+1+1) 4 (.bool false)/\Boxed W (w.heap.size+1+1+1) 232 v/\Below w.heap.size w W)
  ?hM ?assign ?body ?done ?stop
 case hM =>
  rw[hz]
  rintro a pre x a' _ W W' ⟨Bx,h1,h2,h3,h4,h5,h6,h7,h8,h9⟩ ht
  exact⟨Bx,h1,h2,(ht.same Bx h3.lt (.inr (by omega))).trans h3,h4,ht.box h5 (.inl (by omega)),ht.box h6 (.inl (by omega)),ht.box h7 (.inl (by omega)),ht.box h8 (.inl (by omega)),h9.trans (ht.below (by omega) (by have:=h9.size;omega))⟩
 case assign =>
  rw[hz]
  intro l pre x post W hx hsz hi
  have hfr:∃fa fc,x.2.2=.slice fa x.2.1.1.fields.length fc:=by
   have hm:=Ze 0 ps x (by rw[show QY (fun p:Pr=>p.1.1.kind) 0 ps=_ from hx];simp)
   exact((HE.out _ hi.2.2.2.2.2).each x.2 (jnC hm.2.1)).form
  obtain⟨k,⟨⟨⟨kd,raw,fs⟩,num⟩,fv⟩⟩:=x
  obtain⟨fa,fc,e⟩:=hfr
  dsimp only at e
  subst e
  clear hx
  dsimp only[jgX]
  gi_wp2
  exact⟨(vT.refl _ _ W).alloc hsz _,W.heap.size,by omega,rfl,ja.new _ _ _,hi.1,hi.2.1.alloc _,hi.2.2.1.alloc _,hi.2.2.2.1.alloc _,hi.2.2.2.2.1.alloc _,hi.2.2.2.2.2.alloc hi.2.2.2.2.2.size _⟩
 case body =>
  rw[hz]
  rintro l pre x post a' W hx hsz ⟨Bx,hB,rfl,hc,hpre,b0,b1,b2,b3,hb⟩
  simp only[jnq,jnM,jnN,jgX]
  have q3:=(jlV hc).2.2.2
  have c0:=b0.cell
  have c1:=b1.cell
  have c2:=b2.cell
  have f1:=b1.frozen
  have f2:=b2.frozen
  have FS:=jnc (fun h=>jfW hx hpre h)
  have HPRE:=jnc hpre
  clear hpre hx
  by_cases hq:x.2.1.2=id
  ·rw[hq]at q3
   gi_wp2_with fail
   have hst:vT (w.heap.size+4) 4 W ((W.setCell ⟨w.heap.size+1,0,none⟩ (.int .i64 (x.1:Nat))).setCell ⟨w.heap.size+1+1,0,none⟩ (.bool true)):=((vT.refl _ _ W).setCell (.inl (by show w.heap.size+1<_;omega)) _).setCell (.inl (by show w.heap.size+1+1<_;omega)) _
   refine⟨hst,rfl,x.1,FS.out hq,(joi _ b1).other (by show w.heap.size+1≠w.heap.size+1+1;omega) _,joi _ (b2.other (by show w.heap.size+1+1≠w.heap.size+1;omega) _),?_⟩
   exact(hb.setCell (p:=⟨w.heap.size+1,0,none⟩) (by show w.heap.size<=w.heap.size+1;omega) _).setCell (p:=⟨w.heap.size+1+1,0,none⟩) (by show w.heap.size<=w.heap.size+1+1;omega) _
  have hq':((x.2.1.2:Int)==id)=false:=beq_eq_false_iff_ne.2 hq
  gi_wp2_with fail
  refine⟨vT.refl _ _ _,?_,b0,b1,b2,b3,hb⟩
  intro y hy
  rcases List.mem_append.1 hy with h|h
  ·exact HPRE.out y h
  rw[List.mem_singleton.1 h];exact hq
 case done =>
  rw[hz]
  rintro W ⟨hpre,b0,b1,b2,b3,hb⟩ hK
  have c1:=b1.cell
  have c2:=b2.cell
  have f1:=b1.frozen
  have f2:=b2.frozen
  have FN:=jnc (jfY hpre)
  clear hpre
  gi_wp2_with fail
  refine jf1 w _ (.int .i64 0) (.bool false) _ rfl rfl ((joi _ b1).other (by show w.heap.size+1≠w.heap.size+1+1;omega) _) (joi _ (b2.other (by show w.heap.size+1+1≠w.heap.size+1;omega) _))
   ((hb.setCell (p:=⟨w.heap.size+1,0,none⟩) (by show w.heap.size<=w.heap.size+1;omega) _).setCell (p:=⟨w.heap.size+1+1,0,none⟩) (by show w.heap.size<=w.heap.size+1+1;omega) _)
   (((jnE _ _ _ _ (by show w.heap.size+4≠w.heap.size+1+1;omega)).trans (jnE _ _ _ _ (by show w.heap.size+4≠w.heap.size+1;omega))).trans hK) rfl rfl (fun W' h=>⟨?_,h⟩)
  rw[FN.out];rfl
 case stop =>
 rw[hz]
 rintro c pre W _ ⟨rfl,k,hk,b1,b2,hb⟩ hK
 gi_wp2_with fail
 refine jf1 w _ (.int .i64 (k:Nat)) (.bool true) _ rfl rfl b1 b2 hb hK rfl rfl (fun W' h=>⟨?_,h⟩)
 rw[hk];rfl
theorem jkf(ps:List Pr)(v:Value)(q:Option Addr)(w:World)(hl:∀W,Below w.heap.size w W->jll W (.pointer q) v ps)(hps:ps.length<=1000000):
  Calls prog 209 #[.pointer q] w fun e w'=>e=.returned (.int .i64 ((ZN 0 ps).length:Nat))/\Below w.heap.size w w':=by
 obtain⟨A,cap,hv,hle⟩:=(hl w (jne _ _)).1.empty
 have ALL:=jnc (fun W hB=>callsIn_wide (n:=8).2 (hl W hB).2)
 have HE:=jnc (fun W hB=>(hl W hB).1)
 have ST:=jnc (fun W=>callsIn_wide (n:=8).2 (jbM v W A ps.length cap hv))
 have HSL:=jnc (jns (KS (κ:=fun p:Pr=>p.1.1.kind) 0 ps) hps)
 clear hl hv
 refine callsIn_wide (n:=9).1 ?_
 refine callsIn_of_wp_marks func209 rfl trivial ?_ rfl
 simp only[ntmps209,jnV,jni,jnG,Nat.reduceAdd,Nat.reduceSub,jn3,jn4,joa,jn5,jnU,jny]
 gi_wp2_with fail
 have hb0:Below w.heap.size w (w.alloc (.cells #[.int .i64 0] 3)):=(jne _ w).alloc (jnd _) _
 refine⟨trivial,(ALL.out _ hb0).mono ?_⟩
 rintro e w1 ⟨rfl,rfl⟩
 gi_wp2_with fail
 refine⟨trivial,(ST.out _).mono ?_⟩
 rintro e w1 ⟨rfl,rfl⟩
 gi_wp2_with fail
 obtain⟨w1,hw1⟩:∃w1,w1=((w.alloc (.cells #[.int .i64 0] 3)).alloc (.cells #[v] 232)):=⟨_,rfl⟩
 have hz:w1.heap.size=w.heap.size+2:=by rw[hw1];simp
 have B0:Boxed w1 w.heap.size 3 (.int .i64 0):=by rw[hw1];exact(joy w _ _).alloc _
 have B1:Boxed w1 (w.heap.size+1) 232 v:=by rw[hw1];exact xZ w _ _ _
 have hb1:Below w.heap.size w w1:=by rw[hw1];exact hb0.alloc (by simp) _
 rw[<- hw1]
 clear hw1 hb0
 have HH:=Uu ps v _ w1 B1 hps (HE.out _ hb1)
 refine Vu (gf:=274) (lb:=#[.pointer (some ⟨w.heap.size+1,0,none⟩)]) rfl (enters_of func274 (by kernel_rfl) rfl) HH (fun _=>rfl)
  (fun pre W=>Boxed W w.heap.size 3 (.int .i64 (pre.length:Nat))/\Boxed W (w.heap.size+1) 232 v/\Below w.heap.size w W)
  (fun _ _ _=>False)
  (by
   rw[hz]
   exact(zN.box (.inl (by omega)) (fun pre:List (Nat×Pr)=>.int .i64 (pre.length:Nat))).and ((zN.box (.inl (by omega)) _).and (zN.below (jnd _) (by omega))))
  (fun _ _ _ _ hs _=>hs)
  ⟨B0,B1,hb1⟩
  (fun pre W h=>⟨HE.out _ h.2.2,h.2.1⟩)
  (fun a pre x a' W=>a'={tmps:=(a.tmps.setIfInBounds 7 (.int .i64 (x.1:Nat))).setIfInBounds 8 (jgX x.2),defers:=[]} /\
   Boxed W w.heap.size 3 (.int .i64 (pre.length:Nat))/\Boxed W (w.heap.size+1) 232 v/\Below w.heap.size w W)
  ?hM ?assign ?body ?done ?stop
 case hM =>
  rw[hz]
  rintro a pre x a' _ W W' ⟨h1,h2,h3,h4⟩ ht
  exact⟨h1,ht.box h2 (.inl (by omega)),ht.box h3 (.inl (by omega)),h4.trans (ht.below (by omega) (by have:=h4.size;omega))⟩
 case assign =>
  rw[hz]
  intro l pre x post W hx hsz hi
  clear hx
  gi_wp2
  exact⟨vT.refl _ _ _,rfl,hi⟩
 case body =>
  rw[hz]
  rintro l pre x post a' W hx hsz ⟨rfl,b0,b1,hb⟩
  have hn:pre.length<=1000000:=by have:=congrArg List.length hx;have h2:=HSL.out;rw[this]at h2;simp at h2;omega
  simp only[jnq,jnM,jnN,jgX]
  have c0:=b0.cell
  have f0:=b0.frozen
  clear hx
  gi_wp2_with fail
  have hwr:(((pre++[x]).length:Nat):Int)=(pre.length:Int)+1:=by simp
  refine⟨(vT.refl _ _ W).setCell (.inl (by show w.heap.size<_;omega)) _,?_,b1.other (by show w.heap.size+1≠w.heap.size;omega) _,hb.setCell (p:=⟨w.heap.size,0,none⟩) (jnd _) _⟩
  rw[hwr];exact joi _ b0
 case done =>
  rw[hz]
  rintro W ⟨b0,b1,hb⟩ hK
  have c:=b0.cell
  gi_wp2
  refine⟨by simp,.inl ⟨_,_,rfl,run_takeDeferred hK,?_⟩⟩
  exact⟨_,results_tmp rfl _ _ _,rfl,hb.trans (belowK_b (w:=w) (jnd _) W _ _ _ (by omega) hK rfl rfl)⟩
 case stop =>
 intro c pre W _ h _
 exact h.elim
theorem jhK(lb:Nat)(ev:Value)(ps:List Pr)(nx:Int)(w:World)(h:LR w lb ev ps nx)(hn : -1000000<=nx/\nx<=1000000):
  Calls prog 201 #[ptr lb] w fun e w'=>e=.returned (.int .i64 nx)/\w=w':=by
 have c1:w.cell? ⟨lb,1,none⟩=some (.int .i64 (nx-1)):=h.head.cell 1
 clear h
 have hw:IntKind.i64.wrap (nx-1+1)=nx:=by rw[show nx-1+1=nx by omega];exact jn1 _ (by omega)
 unfold ptr
 go_enter func201,ntmps201
 go_wp2_with fail
 go_ret
 exact⟨by rw[<- hw];rfl,rfl⟩
end
theorem jly{fn:Func}{p:Tmp}(h:fn.results=#[.cell p 236])(tmps:Array Value)(w:World)(b:Nat)(cur:Array Value)(hp:tmps.getD p undef=.pointer (some ⟨b,0,none⟩))
  (hc:ja w b 236 cur) (hz:cur.size=3):(results fn tmps).run prog w=.ok (.agg cur) w:=by
 have L:=run_loadVar_row (P:=prog) w b 236 236 cur (0,0) _ hc underlying236 rfl (by rw[hz];kernel_rfl)
 rw[yT h,hp]
 show(loadVar _ _).run _ _=_
 exact L
section
attribute [local go_sem] jnn
structure jjo(ps:List Pr):Prop where
 len:ps.length<=10000
 raw:∀p∈ps,p.1.1.raw.length<=100000
 fields:∀p∈ps,p.1.1.fields.length<=1000000
 num:∀p∈ps,-1000000<=p.1.2/\p.1.2<=1000000
theorem jhl{fn:Func}{p:Tmp}(h:fn.results=#[.cell p 236])(tmps:Array Value)(w:World)(b:Nat)(cur:Array Value)(hp:tmps.getD p undef=.pointer (some ⟨b,0,none⟩))
  (hc:ja w b 236 cur) (hz:cur.size=3):(results fn tmps).run prog w=.ok (.agg cur) w:=jly h tmps w b cur hp hc hz
theorem jfy(p:Pr)(w:World)(h:ZK w p.2 p.1.1.fields)(hn:p.1.1.fields.length<=1000000):
  Calls prog 156 #[jgX p] w fun e w'=>∃x,e=.returned (.agg #[.int .i64 p.1.1.kind,.string (B p.1.1.raw),x])/\w'.ownsRow w.heap.size 155 2 x p.1.1.fields.length (jM p.1.1.fields)/\Below w.heap.size w w':=by
 obtain⟨⟨⟨kd,raw,fs⟩,num⟩,fv⟩:=p
 dsimp only at h hn ⊢
 obtain⟨fa,fc,rfl⟩:=h.form
 unfold jgX
 dsimp only
 generalize B raw=rw_ at *
 have hb3:Below w.heap.size w (((w.alloc (.cells #[.int .i64 kd,.string rw_,.slice fa fs.length fc,.int .i64 num] 238)).alloc (.cells #[.int .i64 0,.string ⟨#[]⟩,.slice none 0 0] 236)).alloc (.cells #[.int .i64 kd,.string rw_,.slice fa fs.length fc] 236)):=(((jne _ w).alloc (jnd _) _).alloc (by simp) _).alloc (by simp;omega) _
 have CL:=jnc (xV fs (.slice fa fs.length fc) _ (h.1.below hb3 (jnd _)) h.2 hn)
 have BX:=jnc (ja.new ((w.alloc (.cells #[.int .i64 kd,.string rw_,.slice fa fs.length fc,.int .i64 num] 238)).alloc (.cells #[.int .i64 0,.string ⟨#[]⟩,.slice none 0 0] 236)) 236 #[.int .i64 kd,.string rw_,.slice fa fs.length fc])
 have BR:=jnc ((ja.new (w.alloc (.cells #[.int .i64 kd,.string rw_,.slice fa fs.length fc,.int .i64 num] 238)) 236 #[.int .i64 0,.string ⟨#[]⟩,.slice none 0 0]).alloc (.cells #[.int .i64 kd,.string rw_,.slice fa fs.length fc] 236))
 have HB3:=jnc hb3
 clear h hb3
 go_enter func156,ntmps156
 go_wp2_with fail
 refine CL.out.mono ?_
 rintro e w1 ⟨x,rfl,hx,b1⟩
 obtain⟨xa,xc,rfl,_⟩:=jg hx
 have R1:=je BX.out b1 (by simp)
 have R2:=je BR.out b1 (by simp)
 rw[jnB,jnB]at R1
 rw[jnB]at R2
 have hz:=b1.size
 simp only[jnB]at hz
 have c0:=R1.cell 0
 have c1:=R1.cell 1
 have c2:=R1.cell 2
 have f2:=R1.frozen 2
 have d0:=R2.cell 0
 have d1:=R2.cell 1
 have d2:=R2.cell 2
 have g0:=R2.frozen 0
 have g1:=R2.frozen 1
 have g2:=R2.frozen 2
 have HX:=jnc hx
 have hb1:=jnc (HB3.out.trans (b1.mono HB3.out.size))
 have S2:=jnc R2
 simp only[jnl,jnp,jnj]at c0 c1 c2 d0 d1 d2
 clear CL BX BR hx R1 R2 b1
 go_wp2_with fail
 have hne:∀k,k<w.heap.size+3->∀y:Value,(Value.slice xa fs.length xc).ownBlock≠some k:=fun k hk y e=>by
  have:=(HX.out.lt k e).1
  simp at this
  omega
 have RE:=(((S2.out.other (p:=⟨w.heap.size+1+1,2,none⟩) (by show w.heap.size+1≠w.heap.size+1+1;omega) (.slice xa fs.length xc)).set 0 (.int .i64 kd)).set 1 (.string rw_)).set 2 (.slice xa fs.length xc)
 rw[jmp]at RE
 refine bodyPost_ret (jhl rfl _ _ (w.heap.size+1) _ rfl RE rfl) rfl ?_
 refine⟨_,rfl,zk (jK (jK (jK (jK HX.out ?_ _) ?_ _) ?_ _) ?_ _) (by simp;omega),?_⟩
 ·exact hne _ (by show w.heap.size+1+1<_;omega) undef
 ·exact hne _ (by show w.heap.size+1<_;omega) undef
 ·exact hne _ (by show w.heap.size+1<_;omega) undef
 ·exact hne _ (by show w.heap.size+1<_;omega) undef
 exact(((hb1.out.setCell (p:=⟨w.heap.size+1+1,2,none⟩) (by show w.heap.size<=w.heap.size+1+1;omega) _).setCell (p:=⟨w.heap.size+1,0,none⟩) (by show w.heap.size<=w.heap.size+1;omega) _).setCell (p:=⟨w.heap.size+1,1,none⟩) (by show w.heap.size<=w.heap.size+1;omega) _).setCell (p:=⟨w.heap.size+1,2,none⟩) (by show w.heap.size<=w.heap.size+1;omega) _
theorem Zv(lb:Nat)(ev:Value)(ps:List Pr)(nx id:Int)(w:World)(h:LR w lb ev ps nx)(hps:ps.length<=1000000):
  Calls prog 205 #[ptr lb,.int .i64 id] w fun e w'=>e=.returned (QR (xr ps id))/\Below w.heap.size w w' :=
 jij ps ev (some ⟨lb,0,none⟩) id w (fun _ hB=>jll.of (h.below hB (jnd _))) hps
theorem Vp{ps:List Pr}{id:Int}{k:Nat}(h:xr ps id=some k):∃p,ps[k]?=some p/\p.1.1.kind=3/\p.1.2=id:=by
 unfold xr at h
 obtain⟨x,hx,rfl⟩:=Option.map_eq_some_iff.1 h
 have hm:=jpi hx
 have hq:=List.find?_some hx
 obtain⟨_,a,b⟩:=Ze 0 ps x hm
 exact⟨x.2,a,b,by simpa using hq⟩
def jgW(ps:List Pr)(behind:Int):Option Nat:=if behind=0 then some 0 else (xr ps behind).map (· + 1)
theorem jkx(lb:Nat)(ev:Value)(ps:List Pr)(nx id:Int)(w:World)(h:LR w lb ev ps nx)(hps:ps.length<=1000000):
  Calls prog 208 #[ptr lb,.int .i64 id] w fun e w'=>(∃k:Nat,e=.returned (.tuple #[.int .i64 k,.bool (jgW ps id).isSome])/\∀j,jgW ps id=some j->k=j)/\Below w.heap.size w w':=by
 have FD:=jnc (Zv lb ev ps nx id w h hps)
 clear h
 unfold ptr at *
 by_cases h0:id=0
 ·subst h0
  go_enter func208,ntmps208
  go_wp2_with fail
  go_ret2
  exact⟨⟨0,rfl,fun j h=>by cases h;rfl⟩,jne _ _⟩
 have h1:((id:Int)==0)=false:=beq_eq_false_iff_ne.2 h0
 unfold jgW
 rw[if_neg h0]
 cases hf:xr ps id with
 | none =>
  rw[hf]at FD
  unfold QR at FD
  dsimp only at FD
  go_enter func208,ntmps208
  go_wp2_with fail
  refine FD.out.mono ?_
  rintro e w1 ⟨rfl,b1⟩
  go_wp2_with fail
  go_ret2
  exact⟨⟨1,rfl,fun j h=>by cases h⟩,b1⟩
 | some k =>
 obtain⟨p,hp,_,_⟩:=Vp hf
 have hk:=(List.getElem?_eq_some_iff.1 hp).1
 rw[hf]at FD
 unfold QR at FD
 dsimp only at FD
 clear hf hp
 go_enter func208,ntmps208
 go_wp2_with fail
 refine FD.out.mono ?_
 rintro e w1 ⟨rfl,b1⟩
 go_wp2_with fail
 go_ret2
 exact⟨⟨k+1,rfl,fun j h=>by cases h;rfl⟩,b1⟩
end
def jmh(ops:Array Oper):Bool:=ops.all fun o=>match o.op with | .defer _=>false | _=>true
theorem jgr{ops:Array Oper}(h:jmh ops=true){i:Nat}{o:Oper}(ho:ops[i]?=some o):∀c,o.op ≠ .defer c:=by
 intro c e
 have hm:=Array.mem_of_getElem? ho
 have:=(Array.all_eq_true_iff_forall_mem.1 h) o hm
 simp[e]at this
theorem jdj{n l:Nat}{P:Program}{o:Oper}{a:Act}{w:World}{next:Act->World->Prop}{Q:Exit->Act->World->Prop}(h:∀c,o.op ≠ .defer c)
  (g:o.wpIn Fence.wide n P a w next Q):o.wpIn (Fence.wide.inRound l) n P a w next Q:=by
 refine⟨g.1,?_⟩
 have g2:=g.2
 rw[Oper.semAt_eq _ _ _ h]at g2 ⊢
 generalize (execOp a.eval o).run P w=r at g2 ⊢
 cases r with
 | ok x w'=>cases x<;>exact g2
 | halt x w'=>cases x<;>exact g2
theorem yV{n l:Nat}{P:Program}{md:Region.Mode}{ops:Array Oper}{Q:Exit->Act->World->Prop}(h:jmh ops=true):∀(fuel:Nat) (listed:Array Bool) (a:Act) (w:World),
  wpAnyIn Fence.wide n P md ops Q fuel listed a w->wpAnyIn (Fence.wide.inRound l) n P md ops Q fuel listed a w
 | 0,_,_,_,g=>g
 | fuel+1,listed,a,w,g=>by
  refine⟨g.1,fun i hi => ?_⟩
  have g2:=g.2 i hi
  unfold wpOpIn at g2 ⊢
  cases ho:ops[i]? with
  | none=>rw[ho]at g2;exact yV h fuel _ _ _ g2
  | some o =>
  rw[ho]at g2
  simp only at g2 ⊢
  split at g2
  ·rename_i hw
   rw[if_pos hw]
   exact jdj (jgr h ho) (opIn_mono (fun a w=>yV h fuel _ a w) g2)
  rename_i hw
  rw[if_neg hw]
  exact⟨g2.1,yV h fuel _ _ _ g2.2⟩
where
 opIn_mono {n:Nat} {P:Program} {o:Oper} {a:Act} {w:World} {K K':Act->World->Prop} {Q:Exit->Act->World->Prop} (h:∀a w,K a w->K' a w) (g:o.wpIn Fence.wide n P a w K Q):o.wpIn Fence.wide n P a w K' Q:=by
  refine⟨g.1,?_⟩
  have g2:=g.2
  generalize (Oper.semAt Fence.wide.round a.eval o).run P w=r at g2 ⊢
  cases r with
  | ok x w' =>
   cases x with
   | enter f args=>exact⟨g2.1,g2.2.mono fun e w hh=>by cases e<;>first | exact h _ _ hh | exact hh⟩
   | row f args=>exact⟨g2.1,fun c cs hr=>by obtain⟨v,w',hv,hs⟩:=g2.2 c cs hr;exact⟨v,w',h _ _ hv,hs⟩⟩
   | round l f t x y=>exact⟨g2.1,g2.2.mono fun e w hh=>by cases e<;>first | exact h _ _ hh | exact hh⟩
   | value v=>exact h _ _ g2
   | skip=>exact h _ _ g2
   | defer d=>exact h _ _ g2
   | _=>exact g2
  | halt x w'=>cases x<;>exact g2
theorem jeP{n:Nat}{P:Program}{row:String}{args:Array Value}{w:World}{R:Value->World->Prop}(h:Rows P row args w R):RowsIn Fence.wide n P row args w R:=by
 intro c cs _
 obtain⟨v,w',r,s⟩:=h c cs
 exact⟨v,w',r,stepsIn_wide.2 s⟩
theorem je8{n:Nat}{P:Program}{o:Oper}{a:Act}{w:World}{K:Act->World->Prop}{Q:Exit->Act->World->Prop}(h:∀c,o.op ≠ .defer c)(g:o.wp P a w K Q):o.wpIn Fence.wide n P a w K Q:=by
 refine⟨fun _ _=>trivial,?_⟩
 unfold Oper.wp at g
 rw[Oper.semAt_eq _ _ _ h]
 generalize (execOp a.eval o).run P w=r at g ⊢
 cases r with
 | ok x w' =>
  cases x with
  | enter f args=>exact⟨fun q=>by simp[Fence.wide]at q,callsIn_wide.2 g⟩
  | row f args=>exact⟨fun q=>by simp[Fence.wide]at q,jeP g⟩
  | round l f t x y=>exact g.elim
  | value v=>exact g
  | skip=>exact g
  | defer d=>exact g
  | _=>exact g
 | halt x w'=>cases x<;>exact g
theorem Vi{n:Nat}{P:Program}{md:Region.Mode}{ops:Array Oper}{Q:Exit->Act->World->Prop}(h:jmh ops=true)(hno:¬LetsOut Q):∀(fuel:Nat) (listed:Array Bool) (a:Act) (w:World),
  wpAny P md ops Q fuel listed a w->wpAnyIn Fence.wide n P md ops Q fuel listed a w
 | 0,_,_,_,g=>g
 | fuel+1,listed,a,w,g=>by
  refine⟨g.1,fun i hi => ?_⟩
  have g2:=g.2 i hi
  unfold wpOpIn
  unfold wpOp at g2
  cases ho:ops[i]? with
  | none=>rw[ho]at g2;exact Vi h hno fuel _ _ _ g2
  | some o =>
  rw[ho]at g2
  simp only at g2 ⊢
  split at g2
  ·rename_i hw
   rw[if_pos hw]
   exact je8 (jgr h ho) (Oper.wp_mono (fun a w=>Vi h hno fuel _ a w) (g2.resolve_right fun q=>hno q.2))
  rename_i hw
  rw[if_neg hw]
  exact⟨fun _ _=>trivial,Vi h hno fuel _ _ _ g2⟩
theorem Vt{n r:Nat}{P:Program}{id:Nat}{ops:Array Oper}{Q:Exit->Act->World->Prop}{a:Act}{w:World}(hd:jmh ops=true)(hno:¬LetsOut Q)(hm:P.follows .mixedOrders=true)(h:wpAny P .any ops Q ops.size (Array.replicate ops.size false) a w.drew):
  (Code.region id ops true).wpIn (Fence.wide.inRound r) n P Q a w :=
 wpIn_region_any hm (yV hd _ _ _ _ (Vi hd hno _ _ _ _ h))
def fl(l:Array Bool)(j:Nat):Bool:=l.getD j false
abbrev sl(g n c:Nat):Value:=.slice (some ⟨g,0,none⟩) n c
section
attribute [local go_sem] jnn
end
def Kh(cur:Array Value):Nat->List Value->Array Value
 | _,[]=>cur
 | o,v::r=>Kh (cur.setIfInBounds o v) (o+1) r
theorem qz:∀(vs:List Value) (cur:Array Value) (o:Nat),(Kh cur o vs).size=cur.size
 | [],_,_=>rfl
 | v::r,cur,o=>by
  show(Kh (cur.setIfInBounds o v) (o+1) r).size=_
  rw[qz r];simp
theorem xG:∀(vs:List Value) (cur:Array Value) (o j:Nat),o+vs.length<=cur.size->(Kh cur o vs)[j]?=if o<=j/\j<o+vs.length then vs[j-o]? else cur[j]?
 | [],cur,o,j,_=>by
  show cur[j]?=_
  rw[if_neg (by simp only[jnG];omega)]
 | v::r,cur,o,j,h=>by
  show(Kh (cur.setIfInBounds o v) (o+1) r)[j]?=_
  rw[xG r _ _ _ (by simp at h ⊢;omega)]
  simp only[jni]at h ⊢
  by_cases h1:o+1<=j/\j<o+1+r.length
  ·rw[if_pos h1,if_pos (by omega),show j-o=(j-(o+1))+1 by omega,jnj]
  rw[if_neg h1]
  by_cases h2:o=j
  ·subst h2
   rw[if_pos (by omega),Nat.sub_self,jnp,jn9]
   simp
   omega
  rw[if_neg (by omega),jn9,if_neg h2]
theorem ja.lay{W:World}{b:Nat}{t:TypeId}:∀(vs:List Value) {cur:Array Value} (o:Nat),ja W b t cur->ja (W.setCells b o vs) b t (Kh cur o vs)
 | [],_,_,h=>h
 | v::r,cur,o,h=>by
  have:=ja.lay (W:=W.setCell ⟨b,o,none⟩ v) r (o+1) (h.set o v)
  exact this
theorem yW{S:Nat->Prop}{X Y:World}{b:Nat}(hb:S b\/X.heap.size<=b):∀(vs:List Value) (o:Nat),jv S X Y->jv S X (Y.setCells b o vs)
 | [],_,h=>h
 | v::r,o,h=>by
  have:=yW (Y:=Y.setCell ⟨b,o,none⟩ v) hb r (o+1) (h.setCell (p:=⟨b,o,none⟩) hb v)
  exact this
theorem xJ:(prog.info? 238).map (fun i=>(i.zero,i.size,i.bytes))=some (some (.agg #[.int .i64 0,.string ⟨#[]⟩,.slice none 0 0,.int .i64 0]),4,56):=by kernel_rfl
theorem jc4(w:World)(b o c:Nat)(ty:TypeId)(hc:∀j,j<4->(w.cell? ⟨b,o+j,none⟩).isSome=true)(hf:∀j,j<4->w.frozen? ⟨b,o+j,none⟩=false):
  (Builtin.clear_ #[232] ty #[.slice (some ⟨b,o,none⟩) 1 c]).run prog w=.ok (.tuple #[]) (w.setCells b o [.int .i64 0,.string ⟨#[]⟩,.slice none 0 0,.int .i64 0]):=by
 obtain⟨i0,hi,hz0,hz1,hz2⟩:=info_parts xJ
 have hst:=run_storeCells_cells (P:=prog) b o [.int .i64 0,.string ⟨#[]⟩,.slice none 0 0,.int .i64 0] 0 w (by simpa using hc) (by simpa using hf) (by intro v hv;simp at hv;rcases hv with rfl | rfl | rfl | rfl<;>rfl)
 simp only[jo4]at hst
 have hu:prog.underlying 232=some (.slice 238):=underlying232
 have hzv:(zeroValue 238).run prog w=.ok (.agg #[.int .i64 0,.string ⟨#[]⟩,.slice none 0 0,.int .i64 0]) w:=by simp[zeroValue,typeInfo,hi,hz0]
 have hzc:(Builtin.zeroCells (Value.agg #[.int .i64 0,.string ⟨#[]⟩,.slice none 0 0,.int .i64 0]).cells 1).toList=[.int .i64 0,.string ⟨#[]⟩,.slice none 0 0,.int .i64 0]:=by kernel_rfl
 simp only[Builtin.clear_]
 simp[run_underlying hu,hzv,hzc,hst]
theorem QZ{P:Program}{ops:Array Oper}{o:Oper}{a:Act}{w:World}{K:Act->World->Prop}{Q:Exit->Act->World->Prop}{E:Prop}
  (hg:o.guard=none) (d x:Operand) (dT sT:TypeId) (hop:o.op=Op.call {callee:=Callee.builtin Builtin.append,args:=#[d,x],argTypes:=#[dT,sT]})
  (v u:Value) (hd:a.eval d=v) (hx:a.eval x=u) {v':Value} {w':World} (hr:(Builtin.append_ #[dT,sT] o.type #[v,u]).run P w=.ok v' w') (hK:K (a.put o.dst v') w') :
  if Region.wanted o (yielded ops a.tmps)=true then Oper.wp P o a w K Q else E:=by
 have hw:Region.wanted o (yielded ops a.tmps)=true:=by simp[Region.wanted,hg]
 rw[if_pos hw]
 unfold Oper.wp
 simp[execOp,hop,resolve,invoke,builtin,hd,hx,hr,Result.andThen]
 exact hK
theorem jbm(lo g n cap i:Nat)(xs:List Value)(w:World)(hrow:w.ownsRow lo 238 4 (sl g n cap) n xs)(hone:∀u∈xs,u.oneCell'=true)(hi:i<n)(hn:n<=1000000):
  Calls prog 207 #[sl g n cap,.int .i64 (i:Nat),.int .i64 (i+1:Nat)] w fun e w'=>e=.returned (sl g (n-1) cap)/\w'.ownsRow lo 238 4 (sl g (n-1) cap) (n-1) (xs.take (i*4)++xs.drop ((i+1)*4))/\jv (· = g) w w':=by
 obtain⟨i0,hi0,hz0,hz1,hz2⟩:=info_parts xJ
 have hlen:=hrow.1
 obtain⟨cur,hlo,hg,hle,hcm,hcs,htk⟩:∃cur,lo<=g/\ja w g 238 cur/\n<=cap/\cap<=maxLen/\cur.size=cap*4/\cur.toList.take (n*4)=xs:=by
  rcases hrow.2 with ⟨q,_⟩|⟨g',cap',cur,q,a,b,c,d,e,f⟩
  ·cases q
  cases q;exact⟨cur,a,b,c,d,e,f⟩
 have hat:∀j,j<n*4->xs[j]?=cur[j]?:=fun j hj=>by rw[<- htk,jnS,if_pos hj];simp
 obtain⟨news,hnews⟩:∃news,news=xs.drop ((i+1)*4):=⟨_,rfl⟩
 have hnl:news.length=(n-(i+1))*i0.size:=by rw[hz1,hnews,jnr,hlen];omega
 have hnl4:news.length=(n-(i+1))*4:=by rw[hnl,hz1]
 have hn1:∀u∈news,u.oneCell'=true:=fun u hu=>hone u (by rw[hnews]at hu;exact job hu)
 have hnat:∀j u,news[j]?=some u->cur[(i+1)*4+j]?=some u:=fun j u hj=>by
  have hjl:=(List.getElem?_eq_some_iff.1 hj).1
  rw[hnews,joc]at hj
  rw[<- hat _ (by omega)];exact hj
 obtain⟨A,hA,hsrc⟩:∃A:Addr,(if cap=i+1 then some (⟨g,0,none⟩:Addr) else some ⟨g,(i+1)*4,none⟩)=some A/\Hid (∀j u,news[j]?=some u->w.drew.cell? (A.add j)=some u):=by
  by_cases h:cap=i+1
  ·refine⟨⟨g,0,none⟩,by simp[h],fun j u hu => ?_⟩
   have h0:news.length=0:=by rw[hnl4];omega
   rw[List.length_eq_zero_iff.1 h0]at hu
   simp at hu
  refine⟨⟨g,(i+1)*4,none⟩,by simp[h],fun j u hu => ?_⟩
  rw[jpB]
  exact(hg.cell _).trans (hnat j u hu)
 have hc:Hid (∀j,j<news.length->(w.drew.cell? ⟨g,0+i*i0.size+j,none⟩).isSome=true):=fun j hj=>by
  show(w.cell? _).isSome=true
  rw[hg.cell,hz1,jnT (by omega)];rfl
 have hf:Hid (∀j,j<news.length->w.drew.frozen? ⟨g,0+i*i0.size+j,none⟩=false):=fun j hj=>hg.frozen _
 have hu:prog.underlying 232=some (.slice 238):=underlying232
 obtain⟨W1,hW1⟩:∃W1,W1=w.drew.setCells g (i*4) news:=⟨_,rfl⟩
 have C1:ja W1 g 238 (Kh cur (i*4) news):=by rw[hW1];exact ja.lay news _ (show ja w.drew g _ cur from hg)
 have hsz1:(Kh cur (i*4) news).size=cap*4:=by rw[qz,hcs]
 have CLR:=jnc (fun(c:Nat) (ty:TypeId)=>jc4 W1 g ((n-1)*4) c ty (fun j hj=>by rw[C1.cell,jnT (by omega)];rfl) (fun j hj=>C1.frozen _))
 have hap:Hid (∀ty,(Builtin.append_ #[232,232] ty #[.slice (some ⟨g,0,none⟩) i cap,.slice (some A) (n-(i+1)) (cap-(i+1))]).run prog w.drew=.ok (.slice (some ⟨g,0,none⟩) (n-1) cap) W1):=fun ty=>by
  have:=run_append_room_cells (w:=w.drew) 232 ty 238 i0 hu hi0 g 0 i cap A (n-(i+1)) (cap-(i+1)) news hnl hsrc.out hn1 (by omega) hc.out hf.out
  rw[this,hW1,show i+(n-(i+1))=n-1 by omega,hz1,jnX]
 have HW:=jnc hW1
 have HC1:=jnc C1
 have HL:=jnc hlen
 have HNW:=jnc hnews
 have HAT:=jnc hat
 have HNL:=jnc hnl4
 clear hc hf hsrc hnat hn1 hnl hnews hat htk hg C1 hrow hone hW1 hlen hnl4
 unfold sl
 unfold maxLen at hcm
 have hb1:(i:Int)<=(i:Int)+1:=by omega
 have hb2:((i:Int)+1)<=(n:Int):=by omega
 have hb3:¬(n=i):=by omega
 have hic:i<=cap:=by omega
 have hb0:(0:Int)<=(i:Int)+1:=by omega
 have hlast:¬(cap=n-1):=by omega
 have hn1c:n-1<=cap:=by omega
 have hnn:n-(n-1)=1:=by omega
 have hn1n:(((n-1:Nat):Int))<=(n:Int):=by omega
 have hb4:((i:Int)==(i:Int)+1)=false:=beq_eq_false_iff_ne.2 (by omega)
 go_enter func207,ntmps207
 go_wp2_with fail
 go_region_law (refine QZ rfl (.tmp 22) (.tmp 25) 232 232 rfl (.slice (some ⟨g,0,none⟩) i cap) (.slice (some A) (n-(i+1)) (cap-(i+1))) (by simp[Act.eval,Act.put]) (by simp[Act.eval,Act.put]) (hap.out _) ?_)
 have hcl:=fun(ty:TypeId)=>CLR.out (cap-(n-1)) ty
 go_wp2_with fail
 go_ret
 obtain⟨W2,hW2⟩:∃W2,W2=W1.setCells g ((n-1)*4) [.int .i64 0,.string ⟨#[]⟩,.slice none 0 0,.int .i64 0]:=⟨_,rfl⟩
 have C2:ja W2 g 238 (Kh (Kh cur (i*4) news) ((n-1)*4) [.int .i64 0,.string ⟨#[]⟩,.slice none 0 0,.int .i64 0]):=by rw[hW2];exact ja.lay _ _ HC1.out
 refine⟨rfl,?_,?_⟩
 ·rw[<- hW2]
  refine⟨by rw[jnf,jnk,jnr,HL.out];omega,.inr ⟨g,cap,_,rfl,hlo,C2,hn1c,by unfold maxLen;omega,by rw[qz,qz,hcs],?_⟩⟩
  apply joG
  intro j
  rw[jnS]
  split
  ·rename_i hj
   rw[joQ,xG _ _ _ _ (by rw[qz,hcs];simp only[jni,jnG];omega),if_neg (by omega),xG _ _ _ _ (by rw[HNL.out,hcs];omega)]
   split
   ·rename_i h2
    rw[jnz (by rw[jnk,HL.out];omega),jnk,HL.out,HNW.out,joc,joc]
    congr 1;omega
   rename_i h2
   rw[HNL.out]at h2
   rw[jnJ (by rw[jnk,HL.out];omega),jnS,if_pos (by omega),HAT.out j (by omega)]
  rename_i hj
  rw[jnY]
  rw[jnf,jnk,jnr,HL.out];omega
 rw[HW.out]
 exact yW (S:=(· = g)) (b:=g) (.inl rfl) _ _ (yW (S:=(· = g)) (b:=g) (.inl rfl) _ _ (jv.refl _ w).drew)
end Go.Proofs.YtpibhbjmcmfnmaaGreatDoor
