/- Texts put together:UD,UE,TG,TJ,UF,RI. -/
import Derived.Orders
import Derived.Test.YtbapfpekklcicaaGreatDoorBtx9
set_option linter.unusedVariables false
set_option maxRecDepth 100000
set_option maxHeartbeats 16000000
namespace Go.Proofs.YtbapfpekklcicaaGreatDoor
open Go.RowKit Go.Shelf Tryz
abbrev jrf:=@List.find?_append
section
attribute [local go_sem] joY
structure LR(w:World)(lb:Nat)(ev:Value)(ps:List Pr)(nx:Int):Prop where
 head:ja w lb 98 #[ev,.int .i64 (nx-1)]
 ents:Vn w ev ps
theorem LR.below{w w':World}{lb:Nat}{a:Value}{e:List Pr}{d:Int}{n:Nat}(h:LR w lb a e d)(b:Below n w w')(c:w.heap.size<=n):LR w' lb a e d :=
 ⟨h.head.below b (jo4 h.head.lt c),h.ents.below b c⟩
abbrev ptr(b:Nat):Value:=.pointer (some ⟨b,0,none⟩)
theorem jmr(lb:Nat)(b:Value)(c:List Pr)(f:Int)(w:World)(h:LR w lb b c f):
  Calls prog 44 #[ptr lb] w fun e g=>e=.returned b/\w=g:=by
 obtain⟨A,a,rfl,d⟩:=h.ents.empty;have i:w.cell? ⟨lb,0,none⟩=some (.slice A c.length a):=h.head.cell 0
 clear h;unfold ptr;go_enter func44,ntmps44;go_wp2_with fail;go_ret;exact⟨rfl,rfl⟩
def xV(ps:List Pr)(id:Int):Option Nat:=((JW 0 ps).find? fun x=>x.2.1.2==id).map Prod.fst
def VN(o:Option Nat):Value:=match o with | none=>.tuple #[.int .i64 0,.bool false] | some k=>.tuple #[.int .i64 (k:Nat),.bool true]
def jio(w:World)(l v:Value)(ps:List Pr):Prop:=Vn w v ps/\Calls prog 44 #[l] w fun e w'=>e=.returned v/\w=w'
theorem jio.of{w:World}{lb:Nat}{a:Value}{b:List Pr}{c:Int}(h:LR w lb a b c):jio w (ptr lb) a b:=⟨h.ents,jmr lb a b c w h⟩
theorem jho{a:List Pr}{id:Int}(h:∀y∈JW 0 a,y.2.1.2≠id):xV a id=none:=by unfold xV;rw[List.find?_eq_none.2 (fun x hx=>by simpa using h x hx)];rfl
theorem jhm{c:List Pr}{id:Int}{b a:List (Nat×Pr)}{x:Nat×Pr}(h:JW 0 c=b++x::a)(d:∀y∈b,y.2.1.2≠id)(e:x.2.1.2=id):xV c id=some x.1:=by unfold xV;rw[h,jrf,List.find?_eq_none.2 (fun y f=>by simpa using d y f),List.find?_cons_of_pos (by simpa using e)];rfl
theorem jkJ{W:World}{a:Nat}{p:Pr}(h:ja W a 109 #[.int .i64 p.1.1.kind,.string (B p.1.1.raw),p.2,.int .i64 p.1.2]):W.cell? ⟨a,0,none⟩=some (.int .i64 p.1.1.kind)/\W.cell? ⟨a,1,none⟩=some (.string (B p.1.1.raw))/\W.cell? ⟨a,2,none⟩=some p.2/\W.cell? ⟨a,3,none⟩=some (.int .i64 p.1.2) :=
 ⟨h.cell 0,h.cell 1,h.cell 2,h.cell 3⟩
theorem jhr{Q:Ending->World->Prop}(w W:World)(v e:Value)(tmps:Array Value)(j:v.oneCell'=true)(i:e.oneCell'=true)(b:Boxed W (w.heap.size+1) 3 v)(c:Boxed W (w.heap.size+1+1) 4 e)(g:Below w.heap.size w W)
  (d:W.heap[w.heap.size+4]?=some (.deferred (some []))) (t4:tmps[4]?=some (.pointer (some ⟨w.heap.size+1,0,none⟩))) (t5:tmps[5]?=some (.pointer (some ⟨w.heap.size+1+1,0,none⟩)))
  (h:∀a,Below w.heap.size w a->Q (.returned (.tuple #[v,e])) a) :
  bodyPostM Fence.wide 9 prog Tryz.f62 Q .ret {tmps:=tmps,defers:=[{target:=.collected (w.heap.size+4),args:=#[]}]} W:=by
 have f:=grownBy_putObj' W (w.heap.size+4) (.deferred none);have k:Boxed (W.putObj (w.heap.size+4) (.deferred none)) (w.heap.size+1) 3 v:=(f.block _ b.lt (fun e=>by have:=joN e;omega)).trans b
 have l:Boxed (W.putObj (w.heap.size+4) (.deferred none)) (w.heap.size+1+1) 4 e:=(f.block _ c.lt (fun e=>by have:=joN e;omega)).trans c;have c4:=k.cell
 have c5:=l.cell;refine⟨by simp,.inl ⟨_,_,rfl,run_takeDeferred d,?_⟩⟩;exact⟨.tuple #[v,e],by simp[results,Tryz.f62,go_sem,t4,t5,c4,c5],h _ (g.trans (belowK_b (w:=w) (joJ _) W _ _ _ (by omega) d rfl rfl))⟩
theorem jjG(r:List Pr)(v:Value)(q:Option Addr)(id:Int)(w:World)(hl:∀W,Below w.heap.size w W->jio W (.pointer q) v r)(a7:r.length<=1000000):
  Calls prog 62 #[.pointer q,.int .i64 id] w fun e w'=>e=.returned (VN (xV r id))/\Below w.heap.size w w':=by
 obtain⟨A,U,hv,aa⟩:=(hl w (joL _ _)).1.empty;have N:=joI (fun W K=>callsIn_wide (n:=8).2 (hl W K).2)
 have O:=joI (fun W K=>(hl W K).1);have ST:=joI (fun W=>callsIn_wide (n:=8).2 (Ud v W A r.length U hv))
 clear hl hv;refine callsIn_wide (n:=9).1 ?_;refine callsIn_of_wp_marks func62 rfl trivial ?_ rfl;simp only[ntmps62,jpN,joR,jpm,Nat.reduceAdd,Nat.reduceSub,jpK,jpL,jpU,jpQ,jpC,jo6];gi_wp2_with fail;have u:Below w.heap.size w (((w.alloc (.cells #[.int .i64 id] 3)).alloc (.cells #[.int .i64 0] 3)).alloc (.cells #[.bool false] 4)):=(((joL _ w).alloc (joJ _) _).alloc (by simp) _).alloc (by simp;omega) _
 refine⟨trivial,(N.out _ u).mono ?_⟩;rintro e g ⟨rfl,rfl⟩;gi_wp2_with fail;refine⟨trivial,(ST.out _).mono ?_⟩;rintro e g ⟨rfl,rfl⟩;gi_wp2_with fail;obtain⟨g,f⟩:∃g,g=((((w.alloc (.cells #[.int .i64 id] 3)).alloc (.cells #[.int .i64 0] 3)).alloc (.cells #[.bool false] 4)).alloc (.cells #[v] 96)):=⟨_,rfl⟩
 have z:g.heap.size=w.heap.size+4:=by rw[f];simp
 have B0:Boxed g w.heap.size 3 (.int .i64 id):=by rw[f];exact(((jqe w _ _).alloc _).alloc _).alloc _
 have B1:Boxed g (w.heap.size+1) 3 (.int .i64 0):=by rw[f];exact((xI w _ _ _).alloc _).alloc _
 have B2:Boxed g (w.heap.size+1+1) 4 (.bool false):=by rw[f];exact(Vg w _ _ _ _).alloc _
 have B3:Boxed g (w.heap.size+1+1+1) 96 v:=by rw[f];exact jhX w _ _ _ _ _
 have E:Below w.heap.size w g:=by rw[f];exact u.alloc (by simp;omega) _
 rw[<- f];clear f u;have HH:=YH r v _ g B3 a7 (O.out _ E)
 refine Zf (gf:=76) (lb:=#[.pointer (some ⟨w.heap.size+1+1+1,0,none⟩)]) rfl (enters_of func76 (by kernel_rfl) rfl) HH (fun _=>rfl)
  (fun d W=>(∀y∈d,y.2.1.2≠id)/\Boxed W w.heap.size 3 (.int .i64 id)/\Boxed W (w.heap.size+1) 3 (.int .i64 0)/\Boxed W (w.heap.size+1+1) 4 (.bool false)/\Boxed W (w.heap.size+1+1+1) 96 v/\Below w.heap.size w W)
  (fun c d W=>c=.ret/\(∃k,xV r id=some k/\Boxed W (w.heap.size+1) 3 (.int .i64 (k:Nat))/\Boxed W (w.heap.size+1+1) 4 (.bool true)/\Below w.heap.size w W))
  (by
   rw[z];exact(zU.pure _ _ _).and ((zU.box (.inl (by omega)) _).and ((zU.box (.inl (by omega)) _).and ((zU.box (.inl (by omega)) _).and ((zU.box (.inl (by omega)) _).and (zU.below (joJ _) (by omega)))))))
  (by
   rw[z];rintro c s W P ⟨h0,k,V,X,I,J⟩ m;exact⟨h0,k,V,m.box X (.inl (by omega)),m.box I (.inl (by omega)),J.trans (m.below (by omega) (by have:=J.size;omega))⟩)
  ⟨(fun y h=>by cases h),B0,B1,B2,B3,E⟩
  (fun d W h=>⟨O.out _ h.2.2.2.2.2,h.2.2.2.2.1⟩)
  (fun a d x Q W=>∃t,w.heap.size+8<=t/\Q={tmps:=(((a.tmps.setIfInBounds 11 (.int .i64 (x.1:Nat))).setIfInBounds 12 (jbk x.2)).setIfInBounds 6 (.int .i64 (x.1:Nat))).setIfInBounds 7 (ptr t),defers:=[]}/\ja W t 109 #[.int .i64 x.2.1.1.kind,.string (B x.2.1.1.raw),x.2.2,.int .i64 x.2.1.2] /\
   (∀y∈d,y.2.1.2≠id)/\Boxed W w.heap.size 3 (.int .i64 id)/\Boxed W (w.heap.size+1) 3 (.int .i64 0)/\Boxed W (w.heap.size+1+1) 4 (.bool false)/\Boxed W (w.heap.size+1+1+1) 96 v/\Below w.heap.size w W)
  ?hM ?assign ?body ?done ?stop
 case hM =>
  rw[z];rintro a d x Q _ W P ⟨t,V,X,I,J,h5,h6,h7,h8,h9⟩ m;exact⟨t,V,X,(m.same t I.lt (.inr (by omega))).trans I,J,m.box h5 (.inl (by omega)),m.box h6 (.inl (by omega)),m.box h7 (.inl (by omega)),m.box h8 (.inl (by omega)),h9.trans (m.below (by omega) (by have:=h9.size;omega))⟩
 case assign =>
  rw[z];intro l d x H W hx G o;have Z:∃fa fc,x.2.2=.slice fa x.2.1.1.fields.length fc:=by have hm:=xj 0 r x (by rw[show Qr (fun p:Pr=>p.1.1.kind) 0 r=_ from hx];simp);exact((O.out _ o.2.2.2.2.2).each x.2 (joW hm.2.1)).form
  obtain⟨k,⟨⟨⟨kd,af,fs⟩,num⟩,fv⟩⟩:=x;obtain⟨fa,fc,e⟩:=Z;dsimp only at e;subst e;clear hx;dsimp only[jbk];gi_wp2;exact⟨(vO.refl _ _ W).alloc G _,W.heap.size,by omega,rfl,ja.new _ _ _,o.1,o.2.1.alloc _,o.2.2.1.alloc _,o.2.2.2.1.alloc _,o.2.2.2.2.1.alloc _,o.2.2.2.2.2.alloc o.2.2.2.2.2.size _⟩
 case body =>
  rw[z];rintro l d x H Q W hx G ⟨t,K,rfl,hc,b,R,i,j,b3,C⟩;simp only[jo3,jpF,jpG,jbk];have q3:=(jkJ hc).2.2.2
  have c0:=R.cell;have c1:=i.cell
  have c2:=j.cell;have f1:=i.frozen
  have f2:=j.frozen;have FS:=joI (fun h=>jhm hx b h)
  have D:=joI b;clear b hx;by_cases L:x.2.1.2=id
  ·rw[L]at q3;gi_wp2_with fail;have a8:vO (w.heap.size+4) 4 W ((W.setCell ⟨w.heap.size+1,0,none⟩ (.int .i64 (x.1:Nat))).setCell ⟨w.heap.size+1+1,0,none⟩ (.bool true)):=((vO.refl _ _ W).setCell (.inl (by show w.heap.size+1<_;omega)) _).setCell (.inl (by show w.heap.size+1+1<_;omega)) _
   refine⟨a8,rfl,x.1,FS.out L,(jpV _ i).other (by show w.heap.size+1≠w.heap.size+1+1;omega) _,jpV _ (j.other (by show w.heap.size+1+1≠w.heap.size+1;omega) _),?_⟩;exact(C.setCell (p:=⟨w.heap.size+1,0,none⟩) (by show w.heap.size<=w.heap.size+1;omega) _).setCell (p:=⟨w.heap.size+1+1,0,none⟩) (by show w.heap.size<=w.heap.size+1+1;omega) _
  have ae:((x.2.1.2:Int)==id)=false:=beq_eq_false_iff_ne.2 L;gi_wp2_with fail;refine⟨vO.refl _ _ _,?_,R,i,j,b3,C⟩;intro y hy;rcases List.mem_append.1 hy with h|h
  ·exact D.out y h
  rw[List.mem_singleton.1 h];exact L
 case done =>
  rw[z];rintro W ⟨b,R,i,j,b3,C⟩ Y;have c1:=i.cell
  have c2:=j.cell;have f1:=i.frozen
  have f2:=j.frozen;have FN:=joI (jho b)
  clear b;gi_wp2_with fail;refine jhr w _ (.int .i64 0) (.bool false) _ rfl rfl ((jpV _ i).other (by show w.heap.size+1≠w.heap.size+1+1;omega) _) (jpV _ (j.other (by show w.heap.size+1+1≠w.heap.size+1;omega) _))
   ((C.setCell (p:=⟨w.heap.size+1,0,none⟩) (by show w.heap.size<=w.heap.size+1;omega) _).setCell (p:=⟨w.heap.size+1+1,0,none⟩) (by show w.heap.size<=w.heap.size+1+1;omega) _)
   (((jpw _ _ _ _ (by show w.heap.size+4≠w.heap.size+1+1;omega)).trans (jpw _ _ _ _ (by show w.heap.size+4≠w.heap.size+1;omega))).trans Y) rfl rfl (fun P h=>⟨?_,h⟩)
  rw[FN.out];rfl
 case stop =>
 rw[z];rintro c d W _ ⟨rfl,k,hk,i,j,C⟩ Y;gi_wp2_with fail;refine jhr w _ (.int .i64 (k:Nat)) (.bool true) _ rfl rfl i j C Y rfl rfl (fun P h=>⟨?_,h⟩);rw[hk];rfl
theorem jlF(i:List Pr)(v:Value)(q:Option Addr)(w:World)(hl:∀W,Below w.heap.size w W->jio W (.pointer q) v i)(m:i.length<=1000000):
  Calls prog 32 #[.pointer q] w fun e w'=>e=.returned (.int .i64 ((JW 0 i).length:Nat))/\Below w.heap.size w w':=by
 obtain⟨A,z,O,Y⟩:=(hl w (joL _ _)).1.empty;have t:=joI (fun W C=>callsIn_wide (n:=8).2 (hl W C).2)
 have J:=joI (fun W C=>(hl W C).1);have R:=joI (fun W=>callsIn_wide (n:=8).2 (Ud v W A i.length z O))
 have u:=joI (jpg (Yj (κ:=fun p:Pr=>p.1.1.kind) 0 i) m);clear hl O;refine callsIn_wide (n:=9).1 ?_;refine callsIn_of_wp_marks func32 rfl trivial ?_ rfl;simp only[ntmps32,jpN,joR,jpm,Nat.reduceAdd,Nat.reduceSub,jpK,jpL,jpU,jpQ,jpC,jo6];gi_wp2_with fail;have g:Below w.heap.size w (w.alloc (.cells #[.int .i64 0] 3)):=(joL _ w).alloc (joJ _) _
 refine⟨trivial,(t.out _ g).mono ?_⟩;rintro e f ⟨rfl,rfl⟩;gi_wp2_with fail;refine⟨trivial,(R.out _).mono ?_⟩;rintro e f ⟨rfl,rfl⟩;gi_wp2_with fail;obtain⟨f,d⟩:∃f,f=((w.alloc (.cells #[.int .i64 0] 3)).alloc (.cells #[v] 96)):=⟨_,rfl⟩
 have o:f.heap.size=w.heap.size+2:=by rw[d];simp
 have P:Boxed f w.heap.size 3 (.int .i64 0):=by rw[d];exact(jqe w _ _).alloc _
 have I:Boxed f (w.heap.size+1) 96 v:=by rw[d];exact xI w _ _ _
 have k:Below w.heap.size w f:=by rw[d];exact g.alloc (by simp) _
 rw[<- d];clear d g;have Q:=YH i v _ f I m (J.out _ k)
 refine Zf (gf:=76) (lb:=#[.pointer (some ⟨w.heap.size+1,0,none⟩)]) rfl (enters_of func76 (by kernel_rfl) rfl) Q (fun _=>rfl)
  (fun b W=>Boxed W w.heap.size 3 (.int .i64 (b.length:Nat))/\Boxed W (w.heap.size+1) 96 v/\Below w.heap.size w W)
  (fun _ _ _=>False)
  (by
   rw[o];exact(zU.box (.inl (by omega)) (fun b:List (Nat×Pr)=>.int .i64 (b.length:Nat))).and ((zU.box (.inl (by omega)) _).and (zU.below (joJ _) (by omega))))
  (fun _ _ _ _ Z _=>Z)
  ⟨P,I,k⟩
  (fun b W h=>⟨J.out _ h.2.2,h.2.1⟩)
  (fun a b x y W=>y={tmps:=(a.tmps.setIfInBounds 7 (.int .i64 (x.1:Nat))).setIfInBounds 8 (jbk x.2),defers:=[]} /\
   Boxed W w.heap.size 3 (.int .i64 (b.length:Nat))/\Boxed W (w.heap.size+1) 96 v/\Below w.heap.size w W)
  ?hM ?assign ?body ?done ?stop
 case hM =>
  rw[o];rintro a b x y _ W W' ⟨U,s,V,L⟩ G;exact⟨U,G.box s (.inl (by omega)),G.box V (.inl (by omega)),L.trans (G.below (by omega) (by have:=L.size;omega))⟩
 case assign =>
  rw[o];intro l b x r W hx E X;clear hx;gi_wp2;exact⟨vO.refl _ _ _,rfl,X⟩
 case body =>
  rw[o];rintro l b x r y W hx E ⟨rfl,j,K,D⟩;have hn:b.length<=1000000:=by have:=congrArg List.length hx;have s:=u.out;rw[this]at s;simp at s;omega
  simp only[jo3,jpF,jpG,jbk];have c0:=j.cell
  have f0:=j.frozen;clear hx;gi_wp2_with fail;have H:(((b++[x]).length:Nat):Int)=(b.length:Int)+1:=by simp
  refine⟨(vO.refl _ _ W).setCell (.inl (by show w.heap.size<_;omega)) _,?_,K.other (by show w.heap.size+1≠w.heap.size;omega) _,D.setCell (p:=⟨w.heap.size,0,none⟩) (joJ _) _⟩;rw[H];exact jpV _ j
 case done =>
  rw[o];rintro W ⟨j,K,D⟩ N;have c:=j.cell
  gi_wp2;refine⟨by simp,.inl ⟨_,_,rfl,run_takeDeferred N,?_⟩⟩;exact⟨_,results_tmp rfl _ _ _,rfl,D.trans (belowK_b (w:=w) (joJ _) W _ _ _ (by omega) N rfl rfl)⟩
 case stop =>
 intro c b W _ h _;exact h.elim
theorem Ga(lb:Nat)(b:Value)(d:List Pr)(a:Int)(w:World)(h:LR w lb b d a)(i : -1000000<=a/\a<=1000000):
  Calls prog 16 #[ptr lb] w fun e f=>e=.returned (.int .i64 a)/\w=f:=by
 have g:w.cell? ⟨lb,1,none⟩=some (.int .i64 (a-1)):=h.head.cell 1;clear h;have c:IntKind.i64.wrap (a-1+1)=a:=by rw[show a-1+1=a by omega];exact jph _ (by omega)
 unfold ptr;go_enter func16,ntmps16;go_wp2_with fail;go_ret;exact⟨by rw[<- c];rfl,rfl⟩
end
theorem jmT{W:World}{base n b:Nat}{v:Value}{xs:List Value}{c:Array Value}(h:W.ownsRow base 107 3 v n xs)(j:ja W b 107 c)(q:c.size=3)(p:2<=n):v.ownBlock≠some b:=by
 intro e;rcases h.2 with ⟨rfl,k⟩|⟨g,f,i,rfl,_,a,l,m,o,_⟩
 ·cases e
 cases e;have d:=j
 unfold ja at d;rw[d]at a;injection a with a;injection a with a;subst a;omega
theorem YB.set{w W:World}{v:Value}{fvs:List Value}{its:List It}{b:Nat}{m:Array Value}(h:YB w W v fvs its)(i:Nat)(r:ja W b 107 m)(c:v.ownBlock≠some b)(q:w.heap.size<=b)(x:Value):YB w (W.setCell ⟨b,i,none⟩ x) v fvs its:=by
 refine⟨js (p:=⟨b,i,none⟩) h.row c x,h.len,fun j y s k f=>js (p:=⟨b,i,none⟩) (h.each j y s k f) (fun e => ?_) x,h.below.setCell (p:=⟨b,i,none⟩) q x⟩;rcases(h.each j y s k f).2 with ⟨rfl,_⟩|⟨g,l,n,rfl,_,a,_⟩
 ·cases e
 cases e;have d:=r
 unfold ja at d;rw[d]at a;injection a with a;injection a with _ o _;exact absurd o (by decide)
theorem Wv{w w':World}{o:Obj}(h:Below w.heap.size w w'):Below w.heap.size w (w'.alloc o):=h.alloc h.size o
theorem jba{w w' a:World}(h:Below w.heap.size w w')(b:Below w'.heap.size w' a):Below w.heap.size w a:=h.trans (b.mono h.size)
theorem jcn{W f:World}{o:Option Nat}{b:Nat}{t:TypeId}{c:Array Value}(d:ja W b t c)(g:W.grownBy f o)(a:o≠some b):ja f b t c :=
 (g.block b d.lt (fun e=>a (by first | exact e | exact e.symm))).trans d
theorem row_ne{W:World}{base n:Nat}{e:TypeId}{a:Nat}{v:Value}{xs:List Value}(h:W.ownsRow base e a v n xs):v.ownBlock≠some W.heap.size:=fun q=>by have:=(h.lt _ q).2;omega
theorem jic(its:List It)(v:Value)(w:World)(h:Its w v its)(ah:jkR w v its)(hn:its.length<=100000)(hf:∀it∈its,it.fields.length<=1000000):
  Calls prog 72 #[v] w fun e w'=>∃u R,e=.returned u/\YB w w' u R (ze its):=by
 obtain⟨i0,hi,aw,ax,ay⟩:=info_parts xz;have HN:=joI ah
 obtain⟨A,aK,rfl,bo,hc⟩:=h;have HC:=joI hc
 have aj:=joI hf;clear hc hf ah;go_enter func72,ntmps72;go_wp2_with fail;go_loopw [3,8] (fun u i wr=>∃(k:Nat) (R:List Value),k<=its.length/\i=.int .i64 k/\YB w wr u R (ze (its.take k))) (fun _ i _=>its.length-(intOf i).toNat)
 case atStart=>exact⟨0,[],joT _,rfl,YB.start w⟩
 case round =>
 obtain⟨k,R,hk,rfl,r⟩:=hrel;by_cases ae:k<its.length
 ·obtain⟨it,aa⟩:∃it,its[k]?=some it:=⟨_,joM ae⟩
  obtain⟨b,d,fv,rfl,aq,c0,c1,c2,au⟩:=HC.out k it aa;have NI:Hid (∀n c,fv=.slice none n c->c=0):=fun n c e=>HN.out k b d _ aK n c rfl ae (by rw[c2,e])
  obtain⟨L,N,rfl,_,_⟩:=id au;have nf:=aj.out it (joW aa)
  have hb:=r.below;have aA:=hb.size
  have al:=Qm (its.take k);rw[joS]at al;have SN:=Vl its k it aa
  have aD:=joI au;replace c0:=(hb.cell (p:=⟨b,d+k*3,none⟩) aq).trans c0;replace c1:=(hb.cell (p:=⟨b,d+k*3+1,none⟩) aq).trans c1;replace c2:=(hb.cell (p:=⟨b,d+k*3+1+1,none⟩) aq).trans c2;obtain⟨E,J⟩:∃E:Bool,(Xp false (its.take k)&&it.kind != 1)=E:=⟨_,rfl⟩
  have a7:Hid (ze (its.take (k+1))=(ze (its.take k)++if E=true then [⟨1,[10],[]⟩] else [])++[it]):=by show _=_;rw[SN,<- J];simp
  have PV:Hid (0<k->∃(y:It) (ga:Option Addr) (gc:Nat),(∀W,Below w.heap.size w W->W.cell? ⟨b,d+(k-1)*3,none⟩=some (.int .i64 y.kind)/\W.cell? ⟨b,d+(k-1)*3+1,none⟩=some (.string (B y.raw))/\W.cell? ⟨b,d+(k-1)*3+1+1,none⟩=some (.slice ga y.fields.length gc))/\E=(y.kind != 1&&it.kind != 1)):=by
   intro hj;obtain⟨y,aI⟩:∃y,its[k-1]?=some y:=⟨_,joM (by omega)⟩
   obtain⟨b',aZ,be,e,U,d0,d1,d2,aP⟩:=HC.out (k-1) y aI;cases e;obtain⟨ga,gc,rfl,_,_⟩:=id aP;refine⟨y,ga,gc,fun W hW=>⟨(hW.cell (p:=⟨b,d+(k-1)*3,none⟩) U).trans d0,(hW.cell (p:=⟨b,d+(k-1)*3+1,none⟩) U).trans d1,(hW.cell (p:=⟨b,d+(k-1)*3+1+1,none⟩) U).trans d2⟩,?_⟩;have:=jdA its (k-1) y aI
   rw[show k-1+1=k by omega]at this;rw[<- J,this]
  have P0:Hid (k=0->E=false):=by intro h;rw[<- J,h];rfl
  have PG:Hid (E=true->1<=(ze (its.take k)).length):=by
   intro h;have:k≠0:=fun e=>by rw[P0.out e]at h;cases h
   have h2:=Vl its (k-1) (its[k-1]'(by omega)) (joM (by omega));rw[show k-1+1=k by omega]at h2;rw[h2,joK];simp
  have af:=joI r;obtain⟨ua,uc,aS,_⟩:=je r.row;subst aS;have BX:=joI (ja.new wr 107 #[.int .i64 it.kind,.string (B it.raw),.slice L it.fields.length N])
  have am:Below wr.heap.size wr (wr.alloc (.cells #[.int .i64 it.kind,.string (B it.raw),.slice L it.fields.length N] 107)):=(joL _ _).alloc (joJ _) _;have aG:=joI (row_ne r.row)
  clear r aa au SN J;generalize aN:ze (its.take k)=ap at *
  clear aN;go_upto_region 5 with fail;have aY:(wr.alloc (.cells #[.int .i64 it.kind,.string (B it.raw),.slice L it.fields.length N] 107)).heap.size=wr.heap.size+1:=by simp
  generalize wr.alloc (.cells #[.int .i64 it.kind,.string (B it.raw),.slice L it.fields.length N] 107)=wb at *
  go_cut [23] (fun c wx=>c=.bool E/\Below wb.heap.size wb wx)
  case first =>
   rcases jp3 k with h0|h0
   ·have hg:=P0.out h0;have bj:¬(0<k):=by omega
    clear h0;go_wp2_with (go_quiet (fail));go_meet;exact⟨by rw[hg],by first | exact joL _ _ | exact yp (joL _ _) _⟩
   obtain⟨y,ga,gc,dd,hg⟩:=PV.out h0;have ar:Below w.heap.size w wb:=hb.trans (am.mono aA)
   have HS:=joI (show ∀W,Below wb.heap.size wb W->(Below wb.heap.size wb W/\W.cell? ⟨b,d+(k-1)*3,none⟩=some (.int .i64 y.kind)/\W.cell? ⟨b,d+(k-1)*3+1,none⟩=some (.string (B y.raw))/\W.cell? ⟨b,d+(k-1)*3+1+1,none⟩=some (.slice ga y.fields.length gc)/\W.cell? ⟨wr.heap.size,0,none⟩=some (.int .i64 it.kind)/\W.cell? ⟨wr.heap.size,1,none⟩=some (.string (B it.raw))/\W.cell? ⟨wr.heap.size,2,none⟩=some (.slice L it.fields.length N)) from fun W hB =>
    have hW:=dd W (ar.trans (hB.mono ar.size));have hX:=jb BX.out hB (by omega)
    ⟨hB,hW.1,hW.2.1,hW.2.2,hX.cell 0,hX.cell 1,hX.cell 2⟩)
   have TO:=joI (fun W=>jfT y.kind it.kind (.string (B y.raw)) (.string (B it.raw)) (.slice ga y.fields.length gc) (.slice L it.fields.length N) rfl W _ _ _ _ _ _ _ _ rfl rfl rfl rfl);have HG:=joI hg
   obtain⟨m,rfl⟩:∃m,k=m+1:=⟨k-1,by omega⟩
   rw[show m+1-1=m by omega]at HS;have bm:(0:Int)<=(m:Int):=by omega
   have aV:(m:Int)<(its.length:Int):=by omega
   have aW:IntKind.i64.wrap (((m+1:Nat):Int)-1)=(m:Int):=by rw[show((m+1:Nat):Int)-1=(m:Int) by omega];exact jph _ (by omega)
   have aJ:IntKind.i64.wrap (m:Int)=(m:Int):=jph _ (by omega);have aX:IntKind.i64.wrap ((m:Int)+1-1)=(m:Int):=by rw[show(m:Int)+1-1=(m:Int) by omega];exact aJ
   clear hg dd c0 c1 c2 ar;go_region_held3 (fun W=>Below wb.heap.size wb W/\W.cell? ⟨b,d+m*3,none⟩=some (.int .i64 y.kind)/\W.cell? ⟨b,d+m*3+1,none⟩=some (.string (B y.raw))/\W.cell? ⟨b,d+m*3+1+1,none⟩=some (.slice ga y.fields.length gc)/\W.cell? ⟨wr.heap.size,0,none⟩=some (.int .i64 it.kind)/\W.cell? ⟨wr.heap.size,1,none⟩=some (.string (B it.raw))/\W.cell? ⟨wr.heap.size,2,none⟩=some (.slice L it.fields.length N)) ((refine HS.out _ ?_;repeat (first | exact joL _ _ | assumption | (refine Below.drew ?_) | (refine Wv ?_) | (refine jba ?_ (by assumption))))) ((go_at_call 134;refine(TO.out _).mono ?_;rintro e w5 ⟨rfl,bg⟩))
   all_goals go_wp2_with fail
   all_goals go_meet
   all_goals exact⟨by rw[HG.out],by repeat (first | exact joL _ _ | assumption | (refine Below.drew ?_) | (refine Wv ?_) | (refine jba ?_ (by assumption)))⟩
  case rest =>
  obtain⟨rfl,a8⟩:=hcut;have bi:=a8.size
  have aR:Below wr.heap.size wr wc:=am.trans (a8.mono (by omega));have o:Hid (ja wc wr.heap.size 107 #[.int .i64 it.kind,.string (B it.raw),.slice L it.fields.length N]):=jb BX.out a8 (by omega)
  have l:=joI (af.out.kept aR);have Q:=aG
  clear PV P0 HC BX af a8 am c0 c1 c2 aG hb HN aj;obtain⟨j,aQ⟩:∃j,j=k:=⟨k,rfl⟩
  subst aQ;cases E with
  | false =>
   have ak:Hid (ze (its.take (j+1))=ap++[it]):=by show _=_;rw[a7.out,if_neg (by decide),jo9]
   clear a7 PG;have H:=l.out.below
   have aB:=H.size;have O:=aD.out.below H (joJ _)
   have CO:=joI (xh it.fields _ wc O NI.out nf);have aC:=o.out.lt
   have d2:wc.cell? ⟨wr.heap.size,2,none⟩=some (.slice L it.fields.length N):=o.out.cell 2;clear O;go_wp2_with fail;refine CO.out.mono ?_;rintro e t ⟨x,rfl,hx,b3⟩;obtain⟨f,g,av,_⟩:=je hx;subst av;have q:=jb o.out b3 aC
   have aO:=H.trans (b3.mono aB);have aL:t.cell? ⟨wr.heap.size,2,none⟩=some (.slice L it.fields.length N):=q.cell 2
   have aM:=q.frozen 2;have a:=(l.out.kept b3).set 2 q Q.out aA (.slice f it.fields.length g)
   have Y:(t.setCell ⟨wr.heap.size,2,none⟩ (.slice f it.fields.length g)).ownsRow w.heap.size 148 2 (.slice f it.fields.length g) it.fields.length (ju it.fields) :=
    js (p:=⟨wr.heap.size,2,none⟩) (jA hx (by omega)) (fun e=>by have h9:wc.heap.size<=wr.heap.size:=(hx.lt _ e).1;omega) _
   have z:ja (t.setCell ⟨wr.heap.size,2,none⟩ (.slice f it.fields.length g)) wr.heap.size 107 #[.int .i64 it.kind,.string (B it.raw),.slice f it.fields.length g]:=by simpa using q.set 2 (.slice f it.fields.length g)
   have e0:(t.setCell ⟨wr.heap.size,2,none⟩ (.slice f it.fields.length g)).cell? ⟨wr.heap.size,0,none⟩=some (.int .i64 it.kind):=z.cell 0;have e1:(t.setCell ⟨wr.heap.size,2,none⟩ (.slice f it.fields.length g)).cell? ⟨wr.heap.size,1,none⟩=some (.string (B it.raw)):=z.cell 1
   have e2:(t.setCell ⟨wr.heap.size,2,none⟩ (.slice f it.fields.length g)).cell? ⟨wr.heap.size,2,none⟩=some (.slice f it.fields.length g):=z.cell 2;have K:=a.row
   have Z:=a.below.size;have P:=joI a
   have HX:=joI Y;have hv:=jp (t.setCell ⟨wr.heap.size,2,none⟩ (.slice f it.fields.length g)) 107 [.int .i64 it.kind,.string (B it.raw),.slice f it.fields.length g]
   rw[show(t.setCell ⟨wr.heap.size,2,none⟩ (.slice f it.fields.length g)).heap.size=t.heap.size by simp[World.setCell]]at hv Z;have HV:=joI hv
   clear hv;clear a Y hx q z CO b3 o l;go_wp2_with (at_builtin;refine wpList_append_own _ rfl _ _ 92 rfl w.heap.size 107 i0 _ 3 48 underlying92 hi aw ax ay rfl (by decide) _ _ _ rfl (K.alloc _) ⟨t.heap.size,0,none⟩ 1 1 _ rfl rfl HV.out (by intro u hu;simp at hu;rcases hu with rfl | rfl | rfl<;>rfl) (by unfold maxLen;omega) (by omega) (by first | omega | (simp only[joZ];omega) | (simp[World.setCell];omega)) ?_);intro v' w5 s I _;have G:=P.out.snoc HX.out s _ I
   obtain⟨g',aH,rfl⟩:=ownsRow_succ s;go_wp2_with fail;go_roundw
   case rel=>exact⟨j+1,_,ae,by go_num,by rw[ak.out];exact G⟩
   case measure=>simp[intOf];omega
  | true =>
  have ak:Hid (ze (its.take (j+1))=(ap++[⟨1,[10],[]⟩])++[it]):=by show _=_;rw[a7.out,if_pos rfl]
  have aU:=PG.out rfl;clear a7 PG;have aF:=joI (jp wc 107 [.int .i64 1,.string ⟨#[10]⟩,.slice none 0 0])
  have X:=l.out.row;have bu:=l.out.below.size
  go_wp2_with (at_builtin;refine wpList_append_own _ rfl _ _ 92 rfl w.heap.size 107 i0 _ 3 48 underlying92 hi aw ax ay rfl (by decide) _ _ _ rfl (X.alloc _) ⟨wc.heap.size,0,none⟩ 1 1 _ rfl rfl aF.out (by intro u hu;simp at hu;rcases hu with rfl | rfl | rfl<;>rfl) (by unfold maxLen;omega) (by omega) (by first | omega | (simp only[joZ];omega) | (simp[World.setCell];omega)) ?_);intro v4 w4 D C _;have a:=l.out.snoc (it:=⟨1,[10],[]⟩) (x:=.slice none 0 0) ⟨rfl,.inl ⟨rfl,rfl⟩⟩ D _ C
  have ai:=jcn (o.out.alloc _) C Q.out;have aE:=jmT D ai rfl (by omega)
  obtain⟨g4,aT,rfl⟩:=ownsRow_succ D;have V:(ap++[(⟨1,[10],[]⟩:It)]).length=ap.length+1:=by simp
  have ag:=joI V;clear l C D X aF o Q V;have l:=joI a
  have o:=joI ai;have Q:=joI aE
  clear a ai aE;have H:=l.out.below
  have aB:=H.size;have O:=aD.out.below H (joJ _)
  have CO:=joI (xh it.fields _ w4 O NI.out nf);have aC:=o.out.lt
  have d2:w4.cell? ⟨wr.heap.size,2,none⟩=some (.slice L it.fields.length N):=o.out.cell 2;clear O;go_wp2_with fail;refine CO.out.mono ?_;rintro e t ⟨x,rfl,hx,b3⟩;obtain⟨f,g,av,_⟩:=je hx;subst av;have q:=jb o.out b3 aC
  have aO:=H.trans (b3.mono aB);have aL:t.cell? ⟨wr.heap.size,2,none⟩=some (.slice L it.fields.length N):=q.cell 2
  have aM:=q.frozen 2;have a:=(l.out.kept b3).set 2 q Q.out aA (.slice f it.fields.length g)
  have Y:(t.setCell ⟨wr.heap.size,2,none⟩ (.slice f it.fields.length g)).ownsRow w.heap.size 148 2 (.slice f it.fields.length g) it.fields.length (ju it.fields) :=
   js (p:=⟨wr.heap.size,2,none⟩) (jA hx (by omega)) (fun e=>by have h9:w4.heap.size<=wr.heap.size:=(hx.lt _ e).1;omega) _
  have z:ja (t.setCell ⟨wr.heap.size,2,none⟩ (.slice f it.fields.length g)) wr.heap.size 107 #[.int .i64 it.kind,.string (B it.raw),.slice f it.fields.length g]:=by simpa using q.set 2 (.slice f it.fields.length g)
  have e0:(t.setCell ⟨wr.heap.size,2,none⟩ (.slice f it.fields.length g)).cell? ⟨wr.heap.size,0,none⟩=some (.int .i64 it.kind):=z.cell 0;have e1:(t.setCell ⟨wr.heap.size,2,none⟩ (.slice f it.fields.length g)).cell? ⟨wr.heap.size,1,none⟩=some (.string (B it.raw)):=z.cell 1
  have e2:(t.setCell ⟨wr.heap.size,2,none⟩ (.slice f it.fields.length g)).cell? ⟨wr.heap.size,2,none⟩=some (.slice f it.fields.length g):=z.cell 2;have K:=a.row
  rw[ag.out]at K;have Z:=a.below.size
  have P:=joI a;have HX:=joI Y
  have hv:=jp (t.setCell ⟨wr.heap.size,2,none⟩ (.slice f it.fields.length g)) 107 [.int .i64 it.kind,.string (B it.raw),.slice f it.fields.length g];rw[show(t.setCell ⟨wr.heap.size,2,none⟩ (.slice f it.fields.length g)).heap.size=t.heap.size by simp[World.setCell]]at hv Z;have HV:=joI hv
  clear hv;clear a Y hx q z CO b3 o l;go_wp2_with (at_builtin;refine wpList_append_own _ rfl _ _ 92 rfl w.heap.size 107 i0 _ 3 48 underlying92 hi aw ax ay rfl (by decide) _ _ _ rfl (K.alloc _) ⟨t.heap.size,0,none⟩ 1 1 _ rfl rfl HV.out (by intro u hu;simp at hu;rcases hu with rfl | rfl | rfl<;>rfl) (by unfold maxLen;omega) (by omega) (by first | omega | (simp only[joZ];omega) | (simp[World.setCell];omega)) ?_);intro v' w5 s I _;have G:=P.out.snoc HX.out (by rw[ag.out];exact s) _ I
  obtain⟨g',aH,rfl⟩:=ownsRow_succ s;go_wp2_with fail;go_roundw
  case rel=>exact⟨j+1,_,ae,by go_num,by rw[ak.out];exact G⟩
  case measure=>simp[intOf];omega
 obtain rfl:k=its.length:=by omega
 rw[jpa]at r;clear HC HN aj;go_wp2_with fail;go_ret;exact⟨_,R,rfl,r⟩
theorem jbI{its:List It}{n:Nat}(h:∀a∈its,a.raw.length<=n)(d:1<=n):∀a∈ze its,a.raw.length<=n:=by
 intro a c;rcases jib c with b|rfl
 ·exact h a b
 exact d
theorem jer(its:List It)(v:Value)(w:World)(h:Its w v its)(b:jkR w v its)(x:its.length<=10000)(k:∀g∈its,g.fields.length<=1000000)(l:∀g∈its,g.raw.length<=100000):
  Calls prog 38 #[v] w fun e r=>e=.returned (.string (B ((ze its).flatMap It.raw)))/\Below w.heap.size w r:=by
 have i:=joI (jic its v w h b (by omega) k);have m:=joI (jbI l (by decide))
 have t:=Qm its;obtain⟨A,o,rfl,q,_⟩:=id h;clear h b k l;go_enter func38,ntmps38;go_wp2_with fail;refine i.out.mono ?_;rintro e s ⟨u,p,rfl,a⟩;obtain⟨y,z,d,_⟩:=je a.row;subst d;have j:=a.below
 have f:=j.size;have J:=joI (jjh (ze its) _ s a.its (by omega) m.out)
 clear i a;go_wp2_with fail;refine J.out.mono ?_;rintro e C ⟨rfl,n⟩;have c:=j.trans (n.mono f)
 go_wp2_with fail;go_ret;exact⟨rfl,c⟩
theorem Up(its:List It)(v:Value)(w:World)(h:Its w v its)(s:its.length<=10000)(i:∀o∈its,o.raw.length<=100000):
  Calls prog 40 #[v] w fun e p=>e=.returned (.string (B ((ze its).flatMap It.raw)))/\Below w.heap.size w p:=by
 have f:=joI (jaJ its v w h (by omega));have j:=joI (jbI i (by decide))
 have r:=Qm its;obtain⟨A,l,rfl,n,_⟩:=id h;clear h i;go_enter func40,ntmps40;go_wp2_with fail;refine f.out.mono ?_;rintro e q ⟨u,m,rfl,a⟩;obtain⟨t,x,c,_⟩:=je a.row;subst c;have g:=a.below
 have d:=g.size;have J:=joI (jb5 (ze its) _ q a.its (by omega) j.out)
 clear f a;go_wp2_with fail;refine J.out.mono ?_;rintro e y ⟨rfl,k⟩;have b:=g.trans (k.mono d)
 go_wp2_with fail;go_ret;exact⟨rfl,b⟩
theorem jky{c:Func}{p:Tmp}(h:c.results=#[.cell p 107])(tmps:Array Value)(w:World)(b:Nat)(a:Array Value)(e:tmps.getD p undef=.pointer (some ⟨b,0,none⟩))
  (d:ja w b 107 a) (f:a.size=3):(results c tmps).run prog w=.ok (.agg a) w:=by
 have L:=run_loadVar_row (P:=prog) w b 107 107 a (0,0) _ d underlying107 rfl (by rw[f];kernel_rfl);rw[vS h,e];show(loadVar _ _).run _ _=_
 exact L
theorem YQ(fs:List Fld)(A:Option Addr)(n cap:Nat)(w:World)(k:vP w (.slice A n cap) fs)(s:fs.length<=1000)(hl:∀f∈fs,f.1.length<=100000/\f.2.length<=100000):
  Calls prog 175 #[.slice A n cap] w fun e u=>e=.returned (.agg #[.int .i64 3,.string (B (jO fs)),.slice A n cap])/\Below w.heap.size w u:=by
 have c:Below w.heap.size w (w.alloc (.cells #[.int .i64 0,.string ⟨#[]⟩,.slice none 0 0] 107)):=(joL _ _).alloc (joJ _) _;have t:(w.alloc (.cells #[.int .i64 0,.string ⟨#[]⟩,.slice none 0 0] 107)).heap.size=w.heap.size+1:=by simp
 have j:=joI (YR fs _ _ (k.below c (joJ _)) s hl);have m:=joI (ja.new w 107 #[.int .i64 0,.string ⟨#[]⟩,.slice none 0 0])
 clear k hl;generalize jO fs=T at *
 go_enter func175,ntmps175;go_wp2_with fail;refine j.out.mono ?_;rintro e l ⟨rfl,g⟩;have a:=jb m.out g (by omega)
 have b:Below w.heap.size w l:=c.trans (g.mono (by omega));have o:=a.cell 0
 have q:=a.cell 1;have r:=a.cell 2
 have v:=a.frozen 0;have x:=a.frozen 1
 have y:=a.frozen 2;simp only[joQ,joP,joO]at o q r;have i:=((a.set 0 (.int .i64 3)).set 1 (.string (B T))).set 2 (.slice A n cap)
 rw[jnI]at i;have h:Below w.heap.size w (((l.setCell ⟨w.heap.size,0,none⟩ (.int .i64 3)).setCell ⟨w.heap.size,1,none⟩ (.string (B T))).setCell ⟨w.heap.size,2,none⟩ (.slice A n cap)) :=
  ((b.setCell (p:=⟨w.heap.size,0,none⟩) (joJ _) _).setCell (p:=⟨w.heap.size,1,none⟩) (joJ _) _).setCell (p:=⟨w.heap.size,2,none⟩) (joJ _) _
 have d:=joI h;clear b g j h;go_wp2_with fail;refine bodyPost_ret (jky rfl _ _ w.heap.size _ rfl i rfl) rfl ?_;exact⟨rfl,d.out⟩
section
attribute [local go_sem] joY
structure Ke(ps:List Pr):Prop where
 len:ps.length<=10000
 raw:∀p∈ps,p.1.1.raw.length<=100000
 fields:∀p∈ps,p.1.1.fields.length<=1000000
 num:∀p∈ps,-1000000<=p.1.2/\p.1.2<=1000000
theorem jiI{c:Func}{p:Tmp}(h:c.results=#[.cell p 107])(tmps:Array Value)(w:World)(b:Nat)(a:Array Value)(e:tmps.getD p undef=.pointer (some ⟨b,0,none⟩))
  (d:ja w b 107 a) (f:a.size=3):(results c tmps).run prog w=.ok (.agg a) w:=jky h tmps w b a e d f
theorem ja3(p:Pr)(w:World)(h:ZC w p.2 p.1.1.fields)(C:p.1.1.fields.length<=1000000):
  Calls prog 73 #[jbk p] w fun e D=>∃x,e=.returned (.agg #[.int .i64 p.1.1.kind,.string (B p.1.1.raw),x])/\D.ownsRow w.heap.size 148 2 x p.1.1.fields.length (ju p.1.1.fields)/\Below w.heap.size w D:=by
 obtain⟨⟨⟨j,q,b⟩,num⟩,P⟩:=p;dsimp only at h C ⊢;obtain⟨f,g,rfl⟩:=h.form;unfold jbk;dsimp only;generalize B q=a at *
 have i:Below w.heap.size w (((w.alloc (.cells #[.int .i64 j,.string a,.slice f b.length g,.int .i64 num] 109)).alloc (.cells #[.int .i64 0,.string ⟨#[]⟩,.slice none 0 0] 107)).alloc (.cells #[.int .i64 j,.string a,.slice f b.length g] 107)):=(((joL _ w).alloc (joJ _) _).alloc (by simp) _).alloc (by simp;omega) _;have v:=joI (xh b (.slice f b.length g) _ (h.1.below i (joJ _)) h.2 C)
 have u:=joI (ja.new ((w.alloc (.cells #[.int .i64 j,.string a,.slice f b.length g,.int .i64 num] 109)).alloc (.cells #[.int .i64 0,.string ⟨#[]⟩,.slice none 0 0] 107)) 107 #[.int .i64 j,.string a,.slice f b.length g]);have t:=joI ((ja.new (w.alloc (.cells #[.int .i64 j,.string a,.slice f b.length g,.int .i64 num] 109)) 107 #[.int .i64 0,.string ⟨#[]⟩,.slice none 0 0]).alloc (.cells #[.int .i64 j,.string a,.slice f b.length g] 107))
 have m:=joI i;clear h i;go_enter func73,ntmps73;go_wp2_with fail;refine v.out.mono ?_;rintro e W ⟨x,rfl,hx,n⟩;obtain⟨r,s,rfl,_⟩:=je hx;have l:=jb u.out n (by simp)
 have c:=jb t.out n (by simp);rw[joZ,joZ]at l;rw[joZ]at c;have N:=n.size
 simp only[joZ]at N;have G:=l.cell 0
 have H:=l.cell 1;have I:=l.cell 2
 have O:=l.frozen 2;have J:=c.cell 0
 have K:=c.cell 1;have L:=c.cell 2
 have Q:=c.frozen 0;have R:=c.frozen 1
 have U:=c.frozen 2;have z:=joI hx
 have o:=joI (m.out.trans (n.mono m.out.size));have E:=joI c
 simp only[joQ,joP,joO]at G H I J K L;clear v u t hx l c n;go_wp2_with fail;have d:∀k,k<w.heap.size+3->∀y:Value,(Value.slice r b.length s).ownBlock≠some k:=fun k V y e=>by have:=(z.out.lt k e).1;simp at this;omega
 have A:=(((E.out.other (p:=⟨w.heap.size+1+1,2,none⟩) (by show w.heap.size+1≠w.heap.size+1+1;omega) (.slice r b.length s)).set 0 (.int .i64 j)).set 1 (.string a)).set 2 (.slice r b.length s);rw[jnI]at A;refine bodyPost_ret (jiI rfl _ _ (w.heap.size+1) _ rfl A rfl) rfl ?_;refine⟨_,rfl,jA (js (js (js (js z.out ?_ _) ?_ _) ?_ _) ?_ _) (by simp;omega),?_⟩
 ·exact d _ (by show w.heap.size+1+1<_;omega) undef
 ·exact d _ (by show w.heap.size+1<_;omega) undef
 ·exact d _ (by show w.heap.size+1<_;omega) undef
 ·exact d _ (by show w.heap.size+1<_;omega) undef
 exact(((o.out.setCell (p:=⟨w.heap.size+1+1,2,none⟩) (by show w.heap.size<=w.heap.size+1+1;omega) _).setCell (p:=⟨w.heap.size+1,0,none⟩) (by show w.heap.size<=w.heap.size+1;omega) _).setCell (p:=⟨w.heap.size+1,1,none⟩) (by show w.heap.size<=w.heap.size+1;omega) _).setCell (p:=⟨w.heap.size+1,2,none⟩) (by show w.heap.size<=w.heap.size+1;omega) _
def VJ(ps:List Pr):List It:=ps.map fun p=>p.1.1
theorem jdB(a:List Pr):(VJ a).length=a.length:=by unfold VJ;simp
theorem jgY(b:List Pr)(v:Value)(q:Option Addr)(w:World)(hl:jio w (.pointer q) v b)(ok:Ke b):
  Calls prog 39 #[.pointer q] w fun e w'=>∃u d,e=.returned u/\YB w w' u d (VJ b):=by
 obtain⟨i0,hi,K,L,N⟩:=info_parts xz;have s:=joI hl.2
 have O:=joI hl.1;have P:=joI ok.fields
 have V:=ok.len;obtain⟨A,Z,rfl,a7⟩:=hl.1.empty;clear hl ok;go_enter func39,ntmps39;go_wp2_with fail;refine s.out.mono ?_;rintro e w1 ⟨rfl,rfl⟩;go_wp2_with fail;go_loopw [3,9] (fun u i wr=>∃(k:Nat) (d:List Value),k<=b.length/\i=.int .i64 k/\YB w wr u d (VJ (b.take k))) (fun _ i _=>b.length-(intOf i).toNat)
 case atStart=>exact⟨0,[],joT _,rfl,YB.start w⟩
 case round =>
 obtain⟨k,d,hk,rfl,a⟩:=hrel;by_cases C:k<b.length
 ·obtain⟨p,D⟩:∃p,b[k]?=some p:=⟨_,joM C⟩
  have U:=a.below;have I:=O.out.below U (joJ _)
  obtain⟨g,t,pa,pc,e1,_,hg,R,d0,d1,d2,d3⟩:=I.here D;cases e1;have y:=I.each p (joW D)
  have J:=P.out p (joW D);rw[R]at d2;have m:=(joL wr.heap.size wr).alloc (joJ _) (.cells #[.int .i64 p.1.1.kind,.string (B p.1.1.raw),p.2,.int .i64 p.1.2] 109)
  have o:=ja3 p _ (y.below m (joJ _)) J;unfold jbk at o;rw[R]at o m;have o:=joI o
  have r:=joI (a.kept m);have H:=joI (show VJ (b.take (k+1))=VJ (b.take k)++[p.1.1] by unfold VJ;rw[jpd,D];simp)
  have z:(VJ (b.take k)).length=k:=by unfold VJ;rw[jo8,joS];omega
  clear a I y D;go_wp2_with fail;refine o.out.mono ?_;rintro e X ⟨x,rfl,hx,Q⟩;obtain⟨xa,xc,rfl,_⟩:=je hx;have c:=r.out.kept Q
  have E:=jA hx (show w.heap.size<=_ by have:=U.size;simp;omega);have j:=c.row
  rw[z]at j;have h:=joI c
  have G:=joI E;have Y:=joI (jp X 107 [.int .i64 p.1.1.kind,.string (B p.1.1.raw),.slice xa p.1.1.fields.length xc])
  clear o r hx E c Q;go_wp2_with (at_builtin;refine wpList_append_own _ rfl _ _ 92 rfl w.heap.size 107 i0 _ 3 48 underlying92 hi K L N rfl (by decide) _ _ _ rfl (j.alloc _) ⟨X.heap.size,0,none⟩ 1 1 _ rfl rfl Y.out ?c2 ?c3 ?c4 ?c5 ?_)
  case c2=>intro u W;simp at W;rcases W with rfl | rfl | rfl<;>rfl
  case c3=>unfold maxLen;omega
  case c4=>omega
  case c5=>simp;have:=h.out.below.size;omega
  intro v' w3 f n _;have l:=h.out.snoc G.out (by rw[z];exact f) _ n
  obtain⟨g',t,rfl⟩:=ownsRow_succ f;go_wp2_with fail;go_roundw
  case rel=>exact⟨k+1,_,C,by go_num,by rw[H.out];exact l⟩
  case measure=>simp[intOf];omega
 obtain rfl:k=b.length:=by omega
 rw[jpa]at a;clear O P s;go_wp2_with fail;go_ret;exact⟨_,d,rfl,a⟩
theorem jji{b:List Pr}(ok:Ke b):∀a∈VJ b,a.raw.length<=100000:=by intro a h;obtain⟨p,c,rfl⟩:=List.mem_map.1 h;exact ok.raw p c
theorem jch{b:List Pr}(ok:Ke b):∀a∈VJ b,a.fields.length<=1000000:=by intro a h;obtain⟨p,c,rfl⟩:=List.mem_map.1 h;exact ok.fields p c
theorem jix(b:List Pr)(v:Value)(q:Option Addr)(w:World)(hl:jio w (.pointer q) v b)(ok:Ke b):
  Calls prog 14 #[.pointer q] w fun e k=>e=.returned (.string (B ((ze (VJ b)).flatMap It.raw)))/\Below w.heap.size w k:=by
 have f:=joI (jgY b v q w hl ok);have c:=joI ok
 clear hl ok;go_enter func14,ntmps14;go_wp2_with fail;refine f.out.mono ?_;rintro e l ⟨u,j,rfl,a⟩;obtain⟨m,n,rfl,_⟩:=je a.row;have g:=a.below
 have h:=joI (jer (VJ b) _ l a.its a.nil (by have:=c.out.len;rw[jdB];omega) (jch c.out) (jji c.out));clear f a;go_wp2_with fail;refine h.out.mono ?_;rintro e o ⟨rfl,i⟩;have d:=g.trans (i.mono g.size)
 go_wp2_with fail;go_ret;exact⟨rfl,d⟩
theorem Gv(lb:Nat)(c:Value)(a:List Pr)(f id:Int)(w:World)(h:LR w lb c a f)(b:a.length<=1000000):
  Calls prog 62 #[ptr lb,.int .i64 id] w fun e g=>e=.returned (VN (xV a id))/\Below w.heap.size w g :=
 jjG a c (some ⟨lb,0,none⟩) id w (fun _ d=>jio.of (h.below d (joJ _))) b
theorem Yv{c:List Pr}{id:Int}{k:Nat}(h:xV c id=some k):∃p,c[k]?=some p/\p.1.1.kind=3/\p.1.2=id:=by
 unfold xV at h;obtain⟨x,hx,rfl⟩:=Option.map_eq_some_iff.1 h;have d:=List.mem_of_find?_eq_some hx
 have e:=List.find?_some hx;obtain⟨_,a,b⟩:=xj 0 c x d;exact⟨x.2,a,b,by simpa using e⟩
def jip(ps:List Pr)(behind:Int):Option Nat:=if behind=0 then some 0 else (xV ps behind).map (· + 1)
theorem jlZ(lb:Nat)(i:Value)(b:List Pr)(m id:Int)(w:World)(h:LR w lb i b m)(g:b.length<=1000000):
  Calls prog 267 #[ptr lb,.int .i64 id] w fun e n=>(∃k:Nat,e=.returned (.tuple #[.int .i64 k,.bool (jip b id).isSome])/\∀j,jip b id=some j->k=j)/\Below w.heap.size w n:=by
 have a:=joI (Gv lb i b m id w h g);clear h;unfold ptr at *
 by_cases f:id=0
 ·subst f;go_enter func267,ntmps267;go_wp2_with fail;go_ret2;exact⟨⟨0,rfl,fun j h=>by cases h;rfl⟩,joL _ _⟩
 have q:((id:Int)==0)=false:=beq_eq_false_iff_ne.2 f;unfold jip;rw[if_neg f];cases c:xV b id with
 | none =>
  rw[c]at a;unfold VN at a;dsimp only at a;go_enter func267,ntmps267;go_wp2_with fail;refine a.out.mono ?_;rintro e o ⟨rfl,d⟩;go_wp2_with fail;go_ret2;exact⟨⟨1,rfl,fun j h=>by cases h⟩,d⟩
 | some k =>
 obtain⟨p,l,_,_⟩:=Yv c;have r:=(List.getElem?_eq_some_iff.1 l).1
 rw[c]at a;unfold VN at a;dsimp only at a;clear c l;go_enter func267,ntmps267;go_wp2_with fail;refine a.out.mono ?_;rintro e o ⟨rfl,d⟩;go_wp2_with fail;go_ret2;exact⟨⟨k+1,rfl,fun j h=>by cases h;rfl⟩,d⟩
end
def jfC(l:Array Bool):Nat:=(l.toList.filter (fun b => !b)).length
theorem QO{ops:Array Oper}{l:Array Bool}{i:Nat}(h:i∈Region.ready .any ops l):
  ∃o,ops[i]?=some o/\l.getD i true=false/\∀e∈o.after,Region.binds .any e=true->l.getD e.on false=true:=by
 unfold Region.ready at h;rw[List.mem_filter]at h;obtain⟨a,h⟩:=h;rw[List.mem_range]at a;have b:ops[i]?=some ops[i]:=jpu a
 rw[b]at h;simp only[jq7,Option.getD_some,jpk,jre]at h;refine⟨_,b,h.1,fun e d c => ?_⟩;have:=(Array.all_eq_true_iff_forall_mem.1 h.2) e d
 simpa [c]using this
theorem YC{P:Program}{ops:Array Oper}{Q:Exit->Act->World->Prop}(I:Array Bool->Act->World->Prop)
  (step:∀l i o a w,I l a w->l.size=ops.size->ops[i]?=some o->l.getD i true=false->(∀e∈o.after,Region.binds .any e=true->l.getD e.on false=true) ->
   wpOp P ops Q i (fun u z=>I (l.setIfInBounds i true) u z) a w)
  (done:∀l a w,I l a w->l.size=ops.size->Region.ready .any ops l=[]->Q .normal a w) :
  ∀(n:Nat) (l:Array Bool) (a:Act) (w:World),I l a w->l.size=ops.size->jfC l<=n->wpAny P .any ops Q n l a w:=by
 intro n
 induction n with
 | zero =>
  intro l a w g f v;have m:Region.ready .any ops l=[]:=by
   cases D:Region.ready .any ops l with
   | nil=>rfl
   | cons i H =>
   obtain⟨o,y,hl,_⟩:=QO (show i∈Region.ready .any ops l by rw[D];simp);exfalso;have q:i<l.size:=by
    rcases jpc i l.size with h|h
    ·exact h
    simp[Array.getD,Nat.not_lt.2 h]at hl
   have C:l[i]∈l.toList.filter (fun b => !b):=by rw[List.mem_filter];refine⟨by simp,?_⟩;simp[Array.getD,q]at hl;simp[hl]
   have:0<jfC l:=List.length_pos_of_mem C;omega
  exact⟨m,done l a w g f m⟩
 | succ n E =>
 intro l a w g f v;refine⟨fun m=>done l a w g f m,fun i q => ?_⟩;obtain⟨o,y,hl,A⟩:=QO q;refine wpOp_mono (fun u z p=>E _ _ _ p (by simpa using f) ?_) (step l i o a w g f y hl A);have d:i<l.size:=by
  rcases jpc i l.size with h|h
  ·exact h
  simp[Array.getD,Nat.not_lt.2 h]at hl
 have r:l[i]=false:=by simpa [Array.getD,d]using hl
 have t:∀(c:List Bool) (j:Nat) (k:j<c.length),c[j]=false->((c.set j true).filter (fun b => !b)).length+1=(c.filter (fun b => !b)).length:=by
  intro c
  induction c with
  | nil=>intro j k;simp at k
  | cons x c s =>
  intro j k hx;cases j with
  | zero=>simp at hx;subst hx;simp
  | succ j =>
  have:=s j (by simpa using k) (by simpa using hx);cases x<;>simp at this ⊢ <;> omega
 have G:=t l.toList i (by simpa using d) (by simpa using r);unfold jfC at v ⊢;have e:(l.setIfInBounds i true).toList=l.toList.set i true:=by simp
 rw[e];omega
theorem ZE{P:Program}{id:Nat}{ops:Array Oper}{Q:Exit->Act->World->Prop}{a:Act}{w:World}(c:P.follows .mixedOrders=true)(I:Array Bool->Act->World->Prop)
  (start:I (Array.replicate ops.size false) a w.drew)
  (step:∀l i o a w,I l a w->l.size=ops.size->ops[i]?=some o->l.getD i true=false->(∀e∈o.after,Region.binds .any e=true->l.getD e.on false=true) ->
   wpOp P ops Q i (fun b d=>I (l.setIfInBounds i true) b d) a w)
  (done:∀l a w,I l a w->l.size=ops.size->Region.ready .any ops l=[]->Q .normal a w) :
  (Code.region id ops true).wp P Q a w :=
 wp_region_any c (YC I step done ops.size _ a _ start (by simp) (by
  unfold jfC;simp))
end Go.Proofs.YtbapfpekklcicaaGreatDoor
