/- Texts put together:AJ,AK,AL,SC. -/
import Derived.Test.YtbapfpekklcicaaGreatDoorBtx27
import Derived.Test.YtbapfpekklcicaaGreatDoorBtx29
set_option linter.unusedVariables false
set_option maxRecDepth 100000
set_option maxHeartbeats 16000000
namespace Go.Proofs.YtbapfpekklcicaaGreatDoor
open Go.RowKit Go.Shelf Tryz
section
attribute [local go_sem] joY
theorem Jv{N:Nat}{w w':World}(h:Below N w w'){p:Addr}(c:N<=p.block)(k:Nat):Below N w (w'.freeze p k):=by
 unfold World.freeze;by_cases a:k=0
 ·rw[if_pos a];exact h
 rw[if_neg a];refine⟨h.os,h.tape,h.output,?_,fun j b => ?_⟩
 ·simp;exact h.size
 simp only[jqE];rw[if_neg (by omega)];exact h.block j b
theorem ZB(w:World)(e:TypeId)(s:ByteArray):Below w.heap.size w (Lib.bytesWorld w e s):=by unfold Lib.bytesWorld;exact Jv ((joL _ w).drew.alloc (joJ _) _) (joJ _) _
theorem atoi_any(l:List UInt8)(hl:l.length<=1000000)(w:World)(f:Tabs w):
  Calls prog 137 #[.string (B l)] w fun e a=>(∃T q,e=.returned (.tuple #[.int .i64 (qt l),.nilIface])\/e=.returned (.tuple #[.int .i64 (qt l),.iface T q]))/\Below w.heap.size w a:=by
 cases h:Lib.atoiAll l with
 | ok v =>
  refine(Tryz.strconv_Atoi_ok (B l) (by rw[jg];omega) v (by rw[jj];exact h) w).mono ?_;rintro e a ⟨rfl,g⟩;refine⟨⟨0,undef,.inl (by unfold qt;rw[h])⟩,?_⟩;rcases g with rfl|⟨t,rfl⟩
  ·exact joL _ _
  exact ZB _ _ _
 | range =>
  obtain⟨d,p,c⟩:=f.ran;refine(Tryz.strconv_Atoi_range_var (B l) (by rw[jg];omega) (by rw[jj];exact h) d p w c).mono ?_;rintro e a ⟨N,rfl,_,_,b⟩;exact⟨⟨_,_,.inr (by unfold qt;rw[h,jj])⟩,b⟩
 | _ =>
 obtain⟨d,p,c⟩:=f.syn;refine(Tryz.strconv_Atoi_syntax_var (B l) (by rw[jg];omega) (by rw[jj];exact h) d p w c).mono ?_;rintro e a ⟨N,rfl,_,_,b⟩;exact⟨⟨_,_,.inr (by unfold qt;rw[h])⟩,b⟩
theorem Ul{c:Func}{p:Tmp}{d:TypeId}(h:c.results=#[.cell p d])(tmps:Array Value)(P:Program)(w:World):
  (results c tmps).run P w=((asAddr (tmps.getD p undef)).run P w).andThen fun a b=>(loadVar d a).run P b:=by
 simp only[results,h];simp[Sem.run_bind,Result.andThen]
theorem jiJ{c:Func}{p:Tmp}(h:c.results=#[.cell p 75])(tmps:Array Value)(w:World)(b:Nat)(a:Array Value)(e:tmps.getD p undef=.pointer (some ⟨b,0,none⟩))
  (d:ja w b 75 a) (f:a.size=3):(results c tmps).run prog w=.ok (.agg a) w:=by
 have L:=run_loadVar_row (P:=prog) w b 75 75 a (0,0) _ d underlying75 rfl (by rw[f];kernel_rfl);rw[Ul h,e];show(loadVar _ _).run _ _=_
 exact L
theorem jkV(l p:List UInt8):(Lib.trimPrefix l p).length<=l.length:=by
 unfold Lib.trimPrefix;split
 ·rw[joX];omega
 exact joJ _
theorem jc5(l:List UInt8)(p:UInt8->Bool):(l.takeWhile p).length<=l.length:=(jp1 p).length_le
def jkk(lo:Nat)(t:List UInt8)(v:Value)(w:World):Prop:=∃u,v=.agg #[.int .i64 (vr t).kind,.int .i64 (vr t).id,u]/\w.ownsRow lo 148 2 u (vr t).fields.length (ju (vr t).fields)
theorem jbG(t:List UInt8)(ht:t.length<=60000)(w:World)(hT:Tabs w):
  Calls prog 153 #[.string (B t)] w fun e H=>∃v,e=.returned v/\jkk w.heap.size t v H/\Below w.heap.size w H:=by
 obtain⟨f,a⟩:∃f,f=w.alloc (.cells #[.int .i64 0,.int .i64 0,.slice none 0 0] 75):=⟨_,rfl⟩
 have s:Below w.heap.size w f:=by rw[a];exact(joL _ w).alloc (joJ _) _
 have x:f.heap.size=w.heap.size+1:=by rw[a];simp
 have R:=joI (show ja f w.heap.size 75 #[.int .i64 0,.int .i64 0,.slice none 0 0] by rw[a];exact ja.new _ _ _);have m:=joI s
 have l1:(xU t).length<=60000:=by have:=jc5 t (· != 10);unfold xU;omega
 have l2:=jkV (xU t) [32];have l3:(Xg t).length<=60000:=by have:=jc5 (Lib.trimPrefix (xU t) [32]) (· != 32);unfold Xg;omega
 have l4:(jjM t).length<=60000:=by unfold jjM;rw[joX];omega
 have l5:(Um t).length<=60000:=by unfold Um;rw[joX];omega
 have I:=joI (jdT t 10 (by omega) f);rw[show t.takeWhile (· != 10)=xU t from rfl,show t.drop ((xU t).length+1)=Um t from rfl]at I;have z:=joI (fun W=>Tryz.strings_TrimPrefix (B (xU t)) ⟨#[32]⟩ W)
 rw[jj,show(⟨#[32]⟩:ByteArray).data.toList=[32] from rfl]at z;rw[show(⟨(Lib.trimPrefix (xU t) [32]).toArray⟩:ByteArray)=B (Lib.trimPrefix (xU t) [32]) from rfl]at z;have J:=joI (fun W=>jdT (Lib.trimPrefix (xU t) [32]) 32 (by omega) W)
 rw[show(Lib.trimPrefix (xU t) [32]).takeWhile (· != 32)=Xg t from rfl,show(Lib.trimPrefix (xU t) [32]).drop ((Xg t).length+1)=jjM t from rfl]at J;have Q:=joI (fun W (hW:Below w.heap.size w W)=>atoi_any (jjM t) (by omega) W (hT.below hW (joJ _)))
 have Z:=joI (fun W=>jif (Xg t) W);have UF:=joI (fun W=>jcM (Um t) l5 W)
 have SD:Hid (vr t=⟨Zb (Xg t),qt (jjM t),qS (Um t)⟩):=rfl;generalize xU t=la at *
 generalize B (Lib.trimPrefix la [32])=tl at *
 generalize Um t=re at *
 generalize Xg t=na at *
 generalize jjM t=fi at *
 clear s hT l1 l2 l3 l4 l5;subst a;go_enter func153,ntmps153;go_wp2_with fail;refine I.out.mono ?_;rintro e w1 ⟨⟨b1,rfl⟩,A⟩;have i:=joI (m.out.trans (A.mono m.out.size))
 have U:=joI (jb R.out A (by rw[x];omega));have z1:=A.size
 rw[x]at z1;have o:=joI (z.out w1)
 clear I A z R;go_wp2_with fail;refine o.out.mono ?_;rintro e w2 ⟨rfl,rfl⟩;have h:=joI (J.out w2)
 clear o J;go_wp2_with fail;refine h.out.mono ?_;rintro e w3 ⟨⟨b3,rfl⟩,C⟩;have d:=joI (i.out.trans (C.mono i.out.size))
 have V:=joI (jb U.out C (by omega));have z3:=C.size
 have g:=joI (Q.out w3 d.out);clear h C U Q;go_wp2_with fail;refine g.out.mono ?_;rintro e w4 ⟨⟨T,q,hq⟩,D⟩;have j:=joI (d.out.trans (D.mono d.out.size))
 have X:=joI (jb V.out D (by omega));have z4:=D.size
 have n:=joI (Z.out w4);clear g D V Z;rcases hq with rfl|rfl
 all_goals
  go_wp2_with fail;refine n.out.mono ?_;rintro e w5 ⟨rfl,E⟩;have l:=joI (j.out.trans (E.mono j.out.size))
  have Y:=joI (jb X.out E (by omega));have z5:=E.size
  have r:=joI (UF.out w5);clear n E X UF;go_wp2_with fail;refine r.out.mono ?_;rintro e w6 ⟨u,rfl,G,L⟩;have K:=joI (l.out.trans (L.mono l.out.size))
  have b:=jb Y.out L (by omega);obtain⟨O,P,rfl,_⟩:=je G;have c:∀k,(Value.slice O (qS re).length P).ownBlock=some k->w.heap.size<k:=fun k N=>by have:=(G.lt k N).1;omega
  have k0:=b.cell 0;have k1:=b.cell 1
  have k2:=b.cell 2;have f0:=b.frozen 0
  have f1:=b.frozen 1;have f2:=b.frozen 2
  have R7:=joI (((b.set 0 (.int .i64 (Zb na))).set 1 (.int .i64 (qt fi))).set 2 (.slice O (qS re).length P));have HU:=joI (jA (base':=w.heap.size) G (by omega))
  have y:=joI c;clear r L Y G b c;go_wp2_with fail;refine bodyPost_ret (jiJ rfl _ _ w.heap.size _ rfl R7.out rfl) rfl ?_;refine⟨_,rfl,?_,((K.out.setCell (p:=⟨w.heap.size,0,none⟩) (joJ _) _).setCell (p:=⟨w.heap.size,1,none⟩) (joJ _) _).setCell (p:=⟨w.heap.size,2,none⟩) (joJ _) _⟩;rw[show jkk w.heap.size t=fun v H=>∃u,v=.agg #[.int .i64 (vr t).kind,.int .i64 (vr t).id,u]/\H.ownsRow w.heap.size 148 2 u (vr t).fields.length (ju (vr t).fields) from rfl,SD.out];have hn:∀p:Addr,p.block=w.heap.size->∀k,(Value.slice O (qS re).length P).ownBlock=some k->k≠p.block:=fun p hp k N=>by have:=y.out k N;omega
  exact⟨_,rfl,js (p:=⟨w.heap.size,2,none⟩) (js (p:=⟨w.heap.size,1,none⟩) (js (p:=⟨w.heap.size,0,none⟩) HU.out (fun e=>by have:=y.out _ e;simp at this) _) (fun e=>by have:=y.out _ e;simp at this) _) (fun e=>by have:=y.out _ e;simp at this) _⟩
def Uf(t:List UInt8)(st:List Ed×Nat)(x:Ln):List Ed×Nat:=if st.2<x.at_/\Lib.hasPrefix x.text [32,32]=false then (st.1++[vr ((t.drop st.2).take (x.at_-st.2))],x.at_) else st
def yk(t:List UInt8)(xs:List Ln):List Ed×Nat:=xs.foldl (Uf t) ([],0)
theorem KU(t:List UInt8)(xs:List Ln)(x:Ln):yk t (xs++[x])=Uf t (yk t xs) x:=by unfold yk;rw[jrh];rfl
theorem Zs(t:List UInt8):∀(c:List Ln) (a:List Ed) (b:Nat),(c.foldl (Uf t) (a,b)).1++[vr (t.drop (c.foldl (Uf t) (a,b)).2)]=a++(qd t b c).map vr
 | [],a,b=>rfl
 | x::r,a,b=>by
  rw[List.foldl_cons,qd];by_cases h:b<x.at_/\Lib.hasPrefix x.text [32,32]=false
  ·rw[show Uf t (a,b) x=(a++[vr ((t.drop b).take (x.at_-b))],x.at_) from if_pos h,Zs t r,if_pos h,jpr];simp
  rw[show Uf t (a,b) x=(a,b) from if_neg h,Zs t r,if_neg h]
theorem jdk(t:List UInt8):xo t=(yk t (jf t)).1++[vr (t.drop (yk t (jf t)).2)]:=by unfold xo yk;rw[Zs];rfl
theorem KT(t:List UInt8)(k:Nat):((yk t ((jf t).take k)).2<=(((jf t).take k).flatMap Ln.bytes).length)/\(yk t ((jf t).take k)).1.length<=k:=by
 induction k with
 | zero=>exact⟨joJ _,joJ _⟩
 | succ k d =>
 rw[jpd];cases h:(jf t)[k]? with
 | none=>simp only[Option.toList,jo9];omega
 | some x =>
 obtain⟨c,e⟩:=List.getElem?_eq_some_iff.1 h;have a:=(qX t ((jf t).take k) x ((jf t).drop (k+1)) (by conv=>lhs;rw[<- jpb k (jf t),jpp c,e])).2
 show(yk t (_++[x])).2<=_/\(yk t (_++[x])).1.length<=_;rw[KU];have b:((((jf t).take k++[x])).flatMap Ln.bytes).length=(((jf t).take k).flatMap Ln.bytes).length+x.bytes.length:=by rw[jpo,joK];simp
 show(Uf t _ x).2<=(((jf t).take k++[x]).flatMap Ln.bytes).length/\_;rw[b];unfold Uf;split
 ·refine⟨by show x.at_<=_;omega,?_⟩;show(_++[_]).length<=_
  rw[joK];simp only[joR,jpm];omega
 exact⟨by omega,by omega⟩
theorem jiO{t:List UInt8}{a b:List Ln}{x:Ln}(h:jf t=a++x::b):(yk t a).2<=x.at_/\x.at_<=t.length/\(yk t a).1.length<=t.length:=by
 have e:a=(jf t).take a.length:=by rw[h];simp
 have c:=KT t a.length;rw[<- e]at c;have g:=(qX t a x b h).2
 have d:=congrArg List.length (jL t);rw[h,jpo,joK]at d;have f:=zO t
 rw[h,joK,joR]at f;exact⟨by omega,by omega,by omega⟩
theorem jaL(t:List UInt8):(yk t (jf t)).2<=t.length/\(yk t (jf t)).1.length<=t.length:=by
 have a:=KT t (jf t).length;rw[jpa,jL]at a;have:=zO t
 exact⟨a.1,by omega⟩
theorem jnk(t:List UInt8)(i j:Nat):(B t).extract i j=B ((t.drop i).take (j-i)):=by apply jp5;simp[B,ByteArray.data_extract,List.extract_eq_take_drop]
theorem yr.turned{lo B k:Nat}{W a:World}{v:Value}{eds:List Ed}{fvs:List Value}(h:yr lo W v eds fvs)(j:zn B k W a)(l:B+k<=lo):yr lo a v eds fvs :=
 ⟨j.row h.row (fun b e=>.inr (by have:=(h.row.lt b e).1;omega)),h.len,fun i c d f g=>j.row (h.each i c d f g) (fun b e=>.inr (by have:=((h.each i c d f g).lt b e).1;omega))⟩
theorem yr.set{lo:Nat}{W:World}{v:Value}{eds:List Ed}{fvs:List Value}(h:yr lo W v eds fvs){p:Addr}(f:p.block<lo)(u:Value):yr lo (W.setCell p u) v eds fvs :=
 ⟨js h.row (fun e=>by have:=(h.row.lt _ e).1;omega) _,h.len,fun i a b c d=>js (h.each i a b c d) (fun e=>by have:=((h.each i a b c d).lt _ e).1;omega) _⟩
theorem yr.snoc{lo:Nat}{w2 k:World}{v o x:Value}{eds:List Ed}{fvs:List Value}{ed:Ed}(h:yr lo w2 v eds fvs)(hx:w2.ownsRow lo 148 2 x ed.fields.length (ju ed.fields))
  (g:k.ownsRow lo 75 3 o (eds.length+1) (xg eds fvs++[.int .i64 ed.kind,.int .i64 ed.id,x])) (b:w2.grownBy k v.ownBlock):yr lo k o (eds++[ed]) (fvs++[x]):=by
 have f:∀(d:Value) (n:Nat) (l:List Value),w2.ownsRow lo 148 2 d n l->k.ownsRow lo 148 2 d n l:=fun d n l hx =>
  jU hx (fun r e=>b.block r (hx.lt r e).2 (fun q=>jZ h.row hx (by decide) r q.symm e))
 refine⟨by rw[Vd _ _ _ _ h.len,joK];exact g,by rw[joK,joK,h.len];rfl,fun i y d a c => ?_⟩;rcases jpc i eds.length with q|q
 ·rw[jpf q]at a;rw[jpf (by rw[h.len];exact q)]at c;exact f _ _ _ (h.each i y d a c)
 rw[jo7 q]at a;rw[jo7 (by rw[h.len];exact q),h.len]at c;rcases m:i-eds.length with _|j
 ·rw[m]at a c;simp at a c;subst a c;exact f _ _ _ hx
 rw[m]at a;simp at a
theorem jlg{W:World}{lo l n b:Nat}{T U:TypeId}{v:Value}{xs:List Value}{c:Array Value}(h:W.ownsRow lo T l v n xs)(i:ja W b U c)(k:T≠U):v.ownBlock≠some b:=by
 intro e;rcases h.2 with ⟨rfl,_⟩|⟨g,f,d,rfl,_,j,_⟩
 ·cases e
 have:g=b:=joN e;subst this;have a:=j.symm.trans i
 injection a with a;injection a with _ a _;exact k a
def jfz(w:World)(t:List UInt8)(st:List Ed×Nat)(W:World):Prop :=
 ∃u fvs,Boxed W w.heap.size 9 (.string (B t))/\Boxed W (w.heap.size+1) 55 u/\Boxed W (w.heap.size+2) 3 (.int .i64 (st.2:Nat))/\yr (w.heap.size+9) W u st.1 fvs/\Below w.heap.size w W
theorem jfz.turned{w:World}{t:List UInt8}{st:List Ed×Nat}{W c:World}{k:Nat}(h:jfz w t st W)(a:zn (w.heap.size+4) k W c)(j:k<=5):jfz w t st c:=by obtain⟨u,b,e,f,g,i,d⟩:=h;exact⟨u,b,a.box e (.inl (by omega)),a.box f (.inl (by omega)),a.box g (.inl (by omega)),i.turned a (by omega),d.trans (a.below (by omega) d.size)⟩
theorem jfz.alloc{w:World}{t:List UInt8}{st:List Ed×Nat}{W:World}(h:jfz w t st W)(o:Obj):jfz w t st (W.alloc o):=by obtain⟨u,a,c,d,e,f,b⟩:=h;exact⟨u,a,c.alloc _,d.alloc _,e.alloc _,f.below ((joL _ W).alloc (joJ _) _) (joJ _),b.alloc b.size _⟩
theorem read_any(t:List UInt8)(ht:t.length<=50000)(w:World)(hT:Tabs w):
  Calls prog 94 #[.string (B t)] w fun e s=>∃u U,e=.returned u/\yr w.heap.size s u (xo t) U/\Below w.heap.size w s:=by
 obtain⟨xs,aN⟩:∃xs,jf t=xs:=⟨_,rfl⟩
 have aS:=joI aN;have HT:=joI hT
 have RA:Hid (∀j x I,xs=j++x::I->(yk t j).2<=x.at_/\x.at_<=t.length/\(yk t j).1.length<=t.length):=fun j x I h=>jiO (aN.trans h);clear aN hT;refine callsIn_wide (n:=9).1 ?_;refine callsIn_of_wp_marks func94 rfl trivial ?_ rfl;simp only[ntmps94,jpN,joR,jpm,Nat.reduceAdd,Nat.reduceSub,jpK,jpL,jpU,jpQ,jpC,jo6];gi_wp2_with fail;refine⟨trivial,(callsIn_wide.2 (yL (B t) _)).mono ?_⟩;rintro e Y ⟨rfl,rfl⟩;gi_wp2_with fail;obtain⟨w1,ai⟩:∃w1,w1=((((w.alloc (.cells #[.string (B t)] 9)).alloc (.cells #[.slice none 0 0] 55)).alloc (.cells #[.int .i64 0] 3)).alloc (.cells #[.string (B t)] 9)):=⟨_,rfl⟩
 have hz:w1.heap.size=w.heap.size+4:=by rw[ai];simp
 have k3:Boxed w1 (w.heap.size+3) 9 (.string (B t)):=by
  rw[ai];have:=jqe (((w.alloc (.cells #[.string (B t)] 9)).alloc (.cells #[.slice none 0 0] 55)).alloc (.cells #[.int .i64 0] 3)) 9 (.string (B t))
  simpa using this
 have aW:jfz w t ([],0) w1:=by rw[ai];refine jfz.alloc ⟨.slice none 0 0,[],((jqe w _ _).alloc _).alloc _,(xI w _ _ _).alloc _,Vg w _ _ _ _,⟨⟨rfl,.inl ⟨rfl,rfl⟩⟩,rfl,fun i ed fv R _=>by simp at R⟩,(((joL _ w).alloc (joJ _) _).alloc (by simp) _).alloc (by simp;omega) _⟩ _
 rw[<- ai];clear ai;have HH:=vv (B t) (w.heap.size+3) w1 k3 (by rw[jg];omega)
 rw[jj,aS.out]at HH;refine yd (gf:=139) (lb:=#[.pointer (some ⟨w.heap.size+3,0,none⟩)]) rfl (enters_of func139 (by kernel_rfl) rfl) HH (fun _=>rfl)
  (fun j W=>jfz w t (yk t j) W) (fun _ _ _=>False) (by rw[hz];intro j W W' h ht;exact h.turned ht (by omega)) (fun _ _ _ _ hs _=>hs) aW
  (fun a j x a' W=>∃E,w.heap.size+9<=E/\a'={tmps:=(a.tmps.setIfInBounds 8 (.agg (qi x))).setIfInBounds 5 (.pointer (some ⟨E,0,none⟩)),defers:=[]}/\ja W E 157 (qi x)/\jfz w t (yk t j) W)
  ?hM ?assign ?body ?done ?stop
 case hM =>
  rw[hz];rintro a j x a' _ W W' ⟨E,R,h2,H,L⟩ ht;exact⟨E,R,h2,(ht.same E H.lt (.inr (by omega))).trans H,L.turned (ht.sub (joJ _) (by omega)) (joJ 5)⟩
 case assign =>
  rw[hz];intro l j x I W hx aE hi;clear hx;dsimp only[qi];gi_wp2;exact⟨(vO.refl _ _ W).alloc aE _,W.heap.size,by omega,rfl,ja.new _ _ _,hi.alloc _⟩
 case body =>
  rw[hz];rintro l j x I a' W hx aE ⟨E,hB,rfl,hc,u,U,R,h2,H,L,X⟩;obtain⟨r1,r2,r3⟩:=RA.out j x I hx;have SN:=joI (KU t j x)
  clear hx RA;obtain⟨⟨f,g⟩,aD⟩:∃st,yk t j=st:=⟨_,rfl⟩
  rw[aD]at r1 r3 H L SN;dsimp only at r1 r3 H L;simp only[jo3,jpF,jpG,qi]at hc ⊢;have p1:W.cell? ⟨E,1,none⟩=some (.int .i64 x.at_):=hc.cell 1
  have p2:W.cell? ⟨E,2,none⟩=some (.string ⟨x.text.toArray⟩):=hc.cell 2;have p3:=H.cell
  have HI:Hid (jfz w t (f,g) W):=⟨u,U,R,h2,H,L,X⟩
  refine wpIn_block (wpIn_seq ?_);by_cases aI:g<x.at_/\Lib.hasPrefix x.text [32,32]=false
  ·obtain⟨aL,hp⟩:=aI;have q:¬(x.at_:Int)<=(g:Int):=by omega
   refine wpIn_mono (Q:=fun e a' s=>e=.normal/\s=W/\∃y9 ar au av aw ax ay aA aB,a'={tmps:=#[.string (B t),.pointer (some ⟨w.heap.size,0,none⟩),.slice none 0 0,.pointer (some ⟨w.heap.size+1,0,none⟩),.pointer (some ⟨w.heap.size+1+1,0,none⟩),.pointer (some ⟨E,0,none⟩),.string (B t),.func (.func 139) #[] #[.pointer (some ⟨w.heap.size+1+1+1,0,none⟩)],.agg #[.int .i64 x.no,.int .i64 x.at_,.string ⟨x.text.toArray⟩,.bool x.ended],y9,ar,au,av,aw,ax,ay,aA,aB,.bool true,undef,undef,undef,undef,undef,undef,undef,undef,undef,undef,undef,undef,undef,undef,undef,undef,undef,undef],defers:=[]}) ?first ?rest
   case first =>
    clear HI SN R h2 H L X;gi_wp2_with fail;refine⟨trivial,((callsIn_wide.2 (Tryz.strings_HasPrefix ⟨x.text.toArray⟩ ⟨#[32,32]⟩ W)).inRound l).mono ?_⟩;rintro e V ⟨rfl,rfl⟩;rw[show Lib.hasPrefix (⟨x.text.toArray⟩:ByteArray).data.toList (⟨#[32,32]⟩:ByteArray).data.toList=Lib.hasPrefix x.text [32,32] from rfl,hp];gi_wp2_with fail
    all_goals exact⟨rfl,rfl,_,_,_,_,_,_,_,_,_,rfl⟩
   case rest =>
   rintro e a' s ⟨rfl,aM,y9,ar,au,av,aw,ax,ay,aA,aB,rfl⟩;subst aM;change Code.wpIn _ _ _ _ _ _ _;refine wpIn_cond_true rfl (wpIn_seq (xW (by decide +kernel) (by rintro⟨a,w,h⟩;exact h) (by kernel_rfl) ?_));have aF:=hc.lt
   obtain⟨ua,uc,rfl,_⟩:=je L.row;have hS:∀V,Below s.drew.heap.size s.drew V->V.cell? ⟨w.heap.size+1,0,none⟩=some (.slice ua f.length uc)/\V.cell? ⟨w.heap.size,0,none⟩=some (.string (B t))/\V.cell? ⟨w.heap.size+1+1,0,none⟩=some (.int .i64 (g:Nat))/\V.cell? ⟨E,1,none⟩=some (.int .i64 (x.at_:Nat)):=fun V hV=>by have m:Below s.heap.size s V:=(joL s.heap.size s).drew.trans hV;exact⟨(m.cell (p:=⟨w.heap.size+1,0,none⟩) (by show w.heap.size+1<_;omega)).trans h2.cell,(m.cell (p:=⟨w.heap.size,0,none⟩) (by show w.heap.size<_;omega)).trans R.cell,(m.cell (p:=⟨w.heap.size+1+1,0,none⟩) (by show w.heap.size+1+1<_;omega)).trans H.cell,(m.cell (p:=⟨E,1,none⟩) aF).trans p1⟩
   obtain⟨C,G⟩:∃C,C=(t.drop g).take (x.at_-g):=⟨_,rfl⟩
   have ah:C.length<=60000:=by rw[G,joS,joX];omega
   have aZ:Hid (yk t (j++[x])=(f++[vr C],x.at_)):=by show _=_;rw[SN.out,G];exact if_pos ⟨aL,hp⟩
   obtain⟨i0,hi,aP,aQ,aR⟩:=info_parts jcl;refine jev _ s.drew (w.heap.size+1) w.heap.size (w.heap.size+1+1) E (w.heap.size+9) (.slice ua f.length uc) (B t) g x.at_ (jkk (w.heap.size+9) C) _ rfl rfl rfl rfl rfl hS aE ⟨r1,by rw[jg];exact r2⟩ ?pm ?pf ?pC ?pQ
   case pm =>
    rintro v x y hb ⟨u,e,h⟩;exact⟨u,e,jN h hb (joJ _)⟩
   case pf =>
    rintro v w ⟨u,rfl,h⟩;obtain⟨A,c,rfl,_⟩:=je h;exact⟨_,_,_,_,_,rfl⟩
   case pC =>
    intro V hV;have m:Below s.heap.size s V:=(joL s.heap.size s).drew.trans hV
    rw[jnk,<- G];refine(jbG C ah V (HT.out.below (X.trans (m.mono X.size)) (joJ _))).mono ?_;rintro e w2 ⟨v,rfl,⟨u,e,h⟩,hb⟩;exact⟨v,rfl,⟨u,e,jA h (jpg aE m.size)⟩,hb⟩
   case pQ =>
   intro y0 y1 y2 y3 y4 y5 y6 y7 w2 af aO bo;subst aO;obtain⟨b9,u9,be,rfl,⟨ux,rfl,P⟩,aU,O,ag⟩:=bo;injection O with O;subst O;have k:Below s.heap.size s w2:=(joL s.heap.size s).drew.trans af
   have N:=L.below k (joJ _);obtain⟨xa,xc,rfl,_⟩:=je P;have HV:Hid (∀(i:Nat) (u:Value),[Value.int .i64 (vr C).kind,.int .i64 (vr C).id,.slice xa (vr C).fields.length xc][i]?=some u->w2.cell? ((⟨b9,0,none⟩:Addr).add i)=some u):=fun i u h=>by
    have ea:(⟨b9,0,none⟩:Addr).add i=⟨b9,i,none⟩:=by unfold Addr.add;split<;>simp_all
    rw[ea,ag.cell i];simpa using h
   have k1:Boxed w2 w.heap.size 9 (.string (B t)):=(k.block _ R.lt).trans R;have k2:Boxed w2 (w.heap.size+1) 55 (.slice ua f.length uc):=(k.block _ h2.lt).trans h2
   have aj:Boxed w2 (w.heap.size+1+1) 3 (.int .i64 (g:Nat)):=(k.block _ H.lt).trans H;have kc:=jb hc k aF
   have aV:=k.size;have HR:=joI N.row
   have a8:=joI N;have ae:=joI P
   have a7:=joI k;have K:=joI (And.intro k1 (And.intro k2 (And.intro aj kc)))
   have H5:=joI X;have bi:f.length<=50000:=by omega
   clear ag af k N P k1 k2 aj kc R h2 H L X hS HI p1 p2 p3 hc SN G ah;generalize aK:(vr C).fields.length=fl at *
   simp only[List.foldl,jo3,jpF,jpG];go_wp2_with (at_builtin;refine jz rfl _ _ 55 rfl (w.heap.size+9) 75 i0 _ 3 40 underlying55 hi aP aQ aR rfl (by decide) _ _ _ rfl HR.out ⟨b9,0,none⟩ 1 1 _ rfl rfl HV.out (by intro u hu;simp at hu;rcases hu with rfl | rfl | rfl<;>rfl) (by unfold maxLen;omega) (by omega) (by omega) ?_);intro aX Y z d aG;have o:∀r,(Value.slice ua f.length uc).ownBlock=some r->w.heap.size+9<=r:=fun r e=>(HR.out.lt r e).1
   obtain⟨k1,k2,aj,kc⟩:=K.out;have j1:=k1.kept d (fun e=>by have:=o _ e.symm;omega)
   have j2:=k2.kept d (fun e=>by have:=o _ e.symm;omega);have j3:=aj.kept d (fun e=>by have:=o _ e.symm;omega)
   have jc:ja Y E 157 _:=(d.block E kc.lt (fun e=>jlg HR.out kc (by decide) e.symm)).trans kc;have f2:=j2.cell
   have bu:=j2.frozen;have Z:=joI (a8.out.snoc (ed:=vr C) (by rw[aK];exact ae.out) z d)
   have HG:=joI d;have aa:=joI o
   have J:=joI (And.intro j1 (And.intro j2 (And.intro j3 jc)));obtain⟨ak,am,rfl,_⟩:=je z;clear z d aG o k1 k2 aj kc j1 j2 j3 jc a8 ae HV;go_wp2_with fail;change Code.wpIn _ _ _ _ _ _ _;obtain⟨j1,j2,j3,jc⟩:=J.out;obtain⟨w4,D⟩:∃w4,w4=Y.setCell ⟨w.heap.size+1,0,none⟩ (.slice ak (f.length+1) am):=⟨_,rfl⟩
   have q1:Boxed w4 w.heap.size 9 (.string (B t)):=by rw[D];exact j1.other (by omega) _
   have q2:Boxed w4 (w.heap.size+1) 55 (.slice ak (f.length+1) am):=by rw[D];exact jpV _ j2
   have q3:Boxed w4 (w.heap.size+1+1) 3 (.int .i64 (g:Nat)):=by rw[D];exact j3.other (by omega) _
   have qc:ja w4 E 157 #[.int .i64 x.no,.int .i64 x.at_,.string ⟨x.text.toArray⟩,.bool x.ended]:=by rw[D];exact jc.other (p:=⟨w.heap.size+1,0,none⟩) (by show E≠w.heap.size+1;omega) _
   have bz:w4.heap.size=Y.heap.size:=by rw[D];simp
   have aY:vO (w.heap.size+4) 5 s w4:=by rw[D];exact(((vO.refl _ _ _).below a7.out (by omega)).grown HG.out (by omega) (fun r e=>.inr (by have:=aa.out r e;omega))).setCell (.inl (by show w.heap.size+1<_;omega)) _
   have aq:=(Z.out).set (p:=⟨w.heap.size+1,0,none⟩) (by show w.heap.size+1<_;omega) (.slice ak (f.length+1) am);rw[<- D]at aq;have B4:Below w.heap.size w w4:=by rw[D];exact((H5.out.trans (a7.out.mono H5.out.size)).grown HG.out (by omega) (fun r e=>by have:=aa.out r e;omega)).setCell (p:=⟨w.heap.size+1,0,none⟩) (by show w.heap.size<=w.heap.size+1;omega) _
   rw[<- D];have g1:w4.cell? ⟨E,1,none⟩=some (.int .i64 x.at_):=qc.cell 1
   have g2:=q3.cell;have bw:=q3.frozen
   have aC:Hid (vO (w.heap.size+4) 5 s (w4.setCell ⟨w.heap.size+1+1,0,none⟩ (.int .i64 x.at_))/\jfz w t (yk t (j++[x])) (w4.setCell ⟨w.heap.size+1+1,0,none⟩ (.int .i64 x.at_))) :=
    ⟨aY.setCell (.inl (by show w.heap.size+1+1<_;omega)) _,by
     rw[aZ.out];exact⟨_,_,q1.other (by omega) _,q2.other (by omega) _,jpV _ q3,aq.set (p:=⟨w.heap.size+1+1,0,none⟩) (by show w.heap.size+1+1<_;omega) _,B4.setCell (p:=⟨w.heap.size+1+1,0,none⟩) (by show w.heap.size<=w.heap.size+1+1;omega) _⟩⟩
   clear aq B4 aY q1 q2 q3 qc j1 j2 j3 jc J Z HG aa D;gi_wp2_with fail;exact aC.out
  refine wpIn_mono (Q:=fun e a' s=>e=.normal/\s=W/\∃y9 ar au av aw ax ay aA aB,a'={tmps:=#[.string (B t),.pointer (some ⟨w.heap.size,0,none⟩),.slice none 0 0,.pointer (some ⟨w.heap.size+1,0,none⟩),.pointer (some ⟨w.heap.size+1+1,0,none⟩),.pointer (some ⟨E,0,none⟩),.string (B t),.func (.func 139) #[] #[.pointer (some ⟨w.heap.size+1+1+1,0,none⟩)],.agg #[.int .i64 x.no,.int .i64 x.at_,.string ⟨x.text.toArray⟩,.bool x.ended],y9,ar,au,av,aw,ax,ay,aA,aB,.bool false,undef,undef,undef,undef,undef,undef,undef,undef,undef,undef,undef,undef,undef,undef,undef,undef,undef,undef],defers:=[]}) ?first ?rest
  case first =>
   clear HI SN R h2 H L X;by_cases aL:g<x.at_
   ·have hp:Lib.hasPrefix x.text [32,32]=true:=by
     cases h:Lib.hasPrefix x.text [32,32]with
     | true=>rfl
     | false=>exact absurd ⟨aL,h⟩ aI
    have q:¬(x.at_:Int)<=(g:Int):=by omega
    gi_wp2_with fail;refine⟨trivial,((callsIn_wide.2 (Tryz.strings_HasPrefix ⟨x.text.toArray⟩ ⟨#[32,32]⟩ W)).inRound l).mono ?_⟩;rintro e V ⟨rfl,rfl⟩;rw[show Lib.hasPrefix (⟨x.text.toArray⟩:ByteArray).data.toList (⟨#[32,32]⟩:ByteArray).data.toList=Lib.hasPrefix x.text [32,32] from rfl,hp];gi_wp2_with fail
    all_goals exact⟨rfl,rfl,_,_,_,_,_,_,_,_,_,rfl⟩
   gi_wp2_with fail;refine⟨trivial,?_⟩;gi_wp2_with fail
   all_goals exact⟨rfl,rfl,_,_,_,_,_,_,_,_,_,rfl⟩
  case rest =>
  rintro e a' s ⟨rfl,aM,y9,ar,au,av,aw,ax,ay,aA,aB,rfl⟩;subst aM;change Code.wpIn _ _ _ _ _ _ _;refine wpIn_cond_false rfl ?_;gi_wp2;refine⟨vO.refl _ _ _,?_⟩;show jfz w t (yk t (j++[x])) s
  rw[SN.out,show Uf t (f,g) x=(f,g) from if_neg aI];exact HI.out
 case done =>
  rw[hz];rintro W ⟨u,U,R,h2,H,L,X⟩ hK;rename_i Q' K aJ;refine aJ _ _ ?_;refine wpIn_seq ?_;refine wpIn_wide.2 ?_;refine wp_region_any (by kernel_rfl) ?_;obtain⟨st,aD⟩:∃st,yk t xs=st:=⟨_,rfl⟩
  have e1:=jdk t;have e2:=jaL t
  rw[aS.out,aD]at e1 e2;rw[aD]at H L;obtain⟨f,g⟩:=st;dsimp only at H L e1 e2;obtain⟨ua,uc,rfl,_⟩:=je L.row;have bj:w.heap.size+4<W.heap.size:=(Array.getElem?_eq_some_iff.1 hK).1
  have hS:∀V,Below W.drew.heap.size W.drew V->V.cell? ⟨w.heap.size+1,0,none⟩=some (.slice ua f.length uc)/\V.cell? ⟨w.heap.size,0,none⟩=some (.string (B t))/\V.cell? ⟨w.heap.size+1+1,0,none⟩=some (.int .i64 (g:Nat))/\True:=fun V hV=>by have m:Below W.heap.size W V:=(joL W.heap.size W).drew.trans hV;exact⟨(m.cell (p:=⟨w.heap.size+1,0,none⟩) (by show w.heap.size+1<_;omega)).trans h2.cell,(m.cell (p:=⟨w.heap.size,0,none⟩) (by show w.heap.size<_;omega)).trans R.cell,(m.cell (p:=⟨w.heap.size+1+1,0,none⟩) (by show w.heap.size+1+1<_;omega)).trans H.cell,trivial⟩
  obtain⟨C,G⟩:∃C,C=t.drop g:=⟨_,rfl⟩
  have ah:C.length<=60000:=by rw[G,joX];omega
  rw[<- G]at e1;obtain⟨i0,hi,aP,aQ,aR⟩:=info_parts jcl;refine jeu _ W.drew (w.heap.size+1) w.heap.size (w.heap.size+1+1) (w.heap.size+5) (.slice ua f.length uc) (B t) g (jkk (w.heap.size+5) C) _ rfl rfl rfl rfl hS (by show w.heap.size+5<=W.heap.size;omega) (by rw[jg];exact e2.1) ?pm ?pf ?pC ?pQ
  case pm =>
   rintro v x y hb ⟨u,e,h⟩;exact⟨u,e,jN h hb (joJ _)⟩
  case pf =>
   rintro v w ⟨u,rfl,h⟩;obtain⟨A,c,rfl,_⟩:=je h;exact⟨_,_,_,_,_,rfl⟩
  case pC =>
   intro V hV;have m:Below W.heap.size W V:=(joL W.heap.size W).drew.trans hV
   rw[jnk,show(t.drop g).take ((B t).size-g)=C by rw[G,jg,jpi (by rw[joX];omega)]];refine(jbG C ah V (HT.out.below (X.trans (m.mono X.size)) (joJ _))).mono ?_;rintro e w2 ⟨v,rfl,⟨u,e,h⟩,hb⟩;exact⟨v,rfl,⟨u,e,jA h (by have:=m.size;omega)⟩,hb⟩
  case pQ =>
  intro y0 y1 y2 y3 y4 y5 w2 af aO bm;subst aO;obtain⟨b9,u9,be,rfl,⟨ux,rfl,P⟩,aU,O,ag⟩:=bm;injection O with O;subst O;have k:Below W.heap.size W w2:=(joL W.heap.size W).drew.trans af
  have N:yr (w.heap.size+5) w2 (.slice ua f.length uc) f U:=by have h:=L.below k (joJ _);exact⟨jA h.row (by omega),h.len,fun i ed fv q1 q2=>jA (h.each i ed fv q1 q2) (by omega)⟩
  obtain⟨xa,xc,rfl,_⟩:=je P;have HV:Hid (∀(i:Nat) (u:Value),[Value.int .i64 (vr C).kind,.int .i64 (vr C).id,.slice xa (vr C).fields.length xc][i]?=some u->w2.cell? ((⟨b9,0,none⟩:Addr).add i)=some u):=fun i u h=>by
   have ea:(⟨b9,0,none⟩:Addr).add i=⟨b9,i,none⟩:=by unfold Addr.add;split<;>simp_all
   rw[ea,ag.cell i];simpa using h
  have aT:w2.heap[w.heap.size+4]?=some (Obj.deferred (some [])):=(k.block _ bj).trans hK;have aV:=k.size
  have HR:=joI N.row;have a8:=joI N
  have ae:=joI P;have a7:=joI (X.trans (k.mono X.size))
  have bi:f.length<=50000:=by omega
  clear ag af k N P R h2 H L X hS G ah;generalize aK:(vr C).fields.length=fl at *
  simp only[List.foldl,jo3,jpF,jpG];go_wp2_with (at_builtin;refine jz rfl _ _ 55 rfl (w.heap.size+5) 75 i0 _ 3 40 underlying55 hi aP aQ aR rfl (by decide) _ _ _ rfl HR.out ⟨b9,0,none⟩ 1 1 _ rfl rfl HV.out (by intro u hu;simp at hu;rcases hu with rfl | rfl | rfl<;>rfl) (by unfold maxLen;omega) (by omega) (by omega) ?_);intro aX Y z d aG;have o:∀r,(Value.slice ua f.length uc).ownBlock=some r->w.heap.size+5<=r:=fun r e=>(HR.out.lt r e).1
  have aH:Y.heap[w.heap.size+4]?=some (Obj.deferred (some [])):=(d.block _ (by omega) (fun e=>by have:=o _ e.symm;omega)).trans aT;have Z:=a8.out.snoc (ed:=vr C) (by rw[aK];exact ae.out) z d
  rw[<- e1]at Z;have B3:Below w.heap.size w Y:=a7.out.grown d a7.out.size (fun r e=>by have:=o r e;omega)
  have pb:=grownBy_putObj' Y (w.heap.size+4) (.deferred none);have kb:Below w.heap.size Y (Y.putObj (w.heap.size+4) (.deferred none)):=belowK_b (w:=w) (joJ _) Y _ _ _ (by omega) aH rfl rfl
  have aC:Hid (yr w.heap.size (Y.putObj (w.heap.size+4) (.deferred none)) aX (xo t) (U++[.slice xa fl xc])/\Below w.heap.size w (Y.putObj (w.heap.size+4) (.deferred none))) :=
   ⟨⟨jA (jU Z.row fun b e=>pb.block b (Z.row.lt b e).2 (fun q=>by have:=(Z.row.lt b e).1;have:=joN q;omega)) (by omega),Z.len,fun i ed fv q1 q2=>jA (jU (Z.each i ed fv q1 q2) fun b e=>pb.block b ((Z.each i ed fv q1 q2).lt b e).2 (fun q=>by have:=((Z.each i ed fv q1 q2).lt b e).1;have:=joN q;omega)) (by omega)⟩,B3.trans kb⟩
  have bg:=joI aH;obtain⟨ak,am,rfl,_⟩:=je z;clear z d aG o a8 ae HV Z B3 pb kb aH aT hK;go_wp2_with fail;change Code.wpIn _ _ _ _ _ _ _;gi_wp2;refine⟨by simp,.inl ⟨_,_,rfl,run_takeDeferred bg.out,?_⟩⟩;exact⟨_,results_tmp rfl _ _ _,.slice ak (f.length+1) am,_,rfl,aC.out.1,aC.out.2⟩
 case stop =>
 intro c j W _ h _;exact h.elim
theorem jbT(t:List UInt8):jkm (qS t)/\∀f∈qS t,f.1.length<=32/\f.2.length<=1000:=by
 unfold qS;cases h:jD (dd [32,32] ((jf t).map Ui)).1 with
 | error e=>exact⟨⟨by simp,fun f b=>by cases b⟩,fun f b=>by cases b⟩
 | ok c =>
 obtain⟨_,s,k⟩:=ye h;have d:=YZ h
 rw[<- jdi]at d;have u:=jgP (Yl c) 40 (fun r g=>by
  unfold Yl at g;obtain⟨l,i,rfl⟩:=List.mem_map.1 g;exact(k l (List.mem_filter.1 i).1).1)
 have a:∀f∈(Yl c).flatten,f.1.length<=32/\f.2.length<=1000:=fun f b=>by obtain⟨r,g,j⟩:=List.mem_flatten.1 b;unfold Yl at g;obtain⟨l,i,rfl⟩:=List.mem_map.1 g;obtain⟨m,n⟩:=List.mem_filter.1 i;obtain⟨_,_,o⟩:=JA (jiX h l m (by simpa using n));obtain⟨p,q⟩:=QY _ o f j;exact⟨Zq p,q⟩
 refine⟨⟨?_,fun f b => ?_⟩,a⟩
 ·show((Yl c).flatten).length<=_;rw[XG];omega
 have:=a f b;omega
theorem jeB(t:List UInt8):VY (xo t):=by intro b a;obtain⟨p,_,rfl⟩:=List.mem_map.1 a;exact(jbT _).1
theorem jiN(t:List UInt8):(xo t).length<=t.length+1:=by
 rw[jdk,joK];have:=(jaL t).2
 simp only[joR,jpm];omega
def jnS(w w':World)(t:List UInt8)(e:Ending):Prop :=
 Below w.heap.size w w'/\((Qf t=none/\e=.returned (.tuple #[.slice none 0 0,.iface 54 (.int .i64 2)]))\/∃eds u fvs,Qf t=some eds/\e=.returned (.tuple #[u,.nilIface])/\yr w.heap.size w' u eds fvs)
theorem WK(t:List UInt8)(N:t.length<=maxLen)(w:World)(x:Tabs w):
  Calls prog 52 #[.string (B t)] w fun e P=>jnS w P t e:=by
 have J:=jg t;by_cases hl:¬t.length<=50000
 ·have d:Hid (jnS w w t (.returned (.tuple #[.slice none 0 0,.iface 54 (.int .i64 2)]))):=⟨joL _ _,.inl ⟨by unfold Qf;rw[if_neg (fun h=>hl h.1)],rfl⟩⟩
  have q:¬((B t).size:Int)<=50000:=by omega
  generalize B t=s at *
  go_enter func52,ntmps52;go_wp2_with fail;go_ret2;exact d.out
 replace hl:=Classical.not_not.1 hl;have D:=joI (read_any t hl w x)
 have q:((B t).size:Int)<=50000:=by omega
 have L:=jiN t;have G:=joI (jeB t)
 have H:=joI (jdj t);have E:=joI x
 have b:Hid (∀W u c,yr w.heap.size W u (xo t) c->Below w.heap.size w W->(qw (xo t)).2=0->jo (xo t)=t->jnS w W t (.returned (.tuple #[u,.nilIface]))):=fun W u c j y K v =>
  ⟨y,.inr ⟨xo t,u,c,by unfold Qf;rw[if_pos ⟨hl,K,v⟩],rfl,j⟩⟩
 have d:Hid (∀W,Below w.heap.size w W->¬((qw (xo t)).2=0/\jo (xo t)=t)->jnS w W t (.returned (.tuple #[.slice none 0 0,.iface 54 (.int .i64 2)]))):=fun W y h =>
  ⟨y,.inl ⟨by unfold Qf;rw[if_neg (fun v=>h v.2)],rfl⟩⟩
 clear x N J;generalize xo t=a at *
 go_enter func52,ntmps52;go_wp2_with fail;refine D.out.mono ?_;rintro e Q ⟨u,c,rfl,j,r⟩;have l:=joI (WI a u Q j.edv (by omega) G.out H.out (E.out.below r (joJ _)))
 have m:=joI j;have n:=joI r
 obtain⟨X,Z,rfl,_⟩:=je j.row;clear D j r;go_wp2_with fail;refine l.out.mono ?_;rintro e A ⟨i,⟨f,rfl⟩|⟨f,V,rfl,O⟩⟩
 ·have o:=joI (n.out.trans (i.mono n.out.size));have I:=joI f
  have p:=jkO (jo a) t;by_cases k:jo a=t
  ·have C:((B (jo a)).toList==(B t).toList)=true:=by rw[p];exact decide_eq_true k
   have Y:=joI (b.out A _ c (m.out.below i (joJ _)) o.out I.out k);clear l b d i f m p k;generalize B (jo a)=z at *
   go_wp2_with fail;go_ret2;exact Y.out
  have C:((B (jo a)).toList==(B t).toList)=false:=by rw[p];exact decide_eq_false k
  have R:¬(B (jo a)).toList=(B t).toList:=by simpa using C
  have Y:=joI (d.out A o.out (fun h=>k h.2));clear l b d i f m p k;generalize B (jo a)=z at *
  go_wp2_with fail;go_ret2;exact Y.out
 have o:=joI (n.out.trans (i.mono n.out.size));have Y:=joI (d.out A o.out (fun h=>f h.1))
 obtain⟨_,⟨rfl,hx⟩|⟨U,⟨q,_,rfl,_⟩,_,_⟩⟩:=O
 ·have g:0<(qw a).2:=jqp f;rw[zf _ g];clear l b d i f m hx g;generalize ((qw a).2:Int)=zz at *
  go_wp2_with fail;go_ret2;exact Y.out
 clear l b d i f m;go_wp2_with fail;go_ret2;exact Y.out
end
namespace Bk
attribute [local go_sem] joY
structure WY(w:World):Prop where
 tabs:Tabs w
 max:Hd.MaxL w
theorem WY.below{w w':World}{N:Nat}(h:WY w)(b:Below N w w')(a:w.heap.size<=N):WY w':=⟨h.tabs.below b a,h.max.below b a⟩
theorem WY.nums{w:World}(h:WY w):Fr.TabsN w:=⟨h.tabs.pow,h.tabs.syn,h.tabs.ran⟩
theorem WY.tab{w:World}(h:WY w):Hd.Tab w:=⟨h.nums,h.max⟩
def Dc(b:List UInt8):Bool:=(Qf b).isSome
def yZ(b:List UInt8):List Ed:=(Qf b).getD []
def jjR(n:Nat):Value:=.int .i64 (n:Int)
def Qi(n:Nat)(base:List UInt8)(bv ev:Value)(tail:List UInt8):Value:=.agg #[.int .i64 (n:Int),.string (B base),bv,ev,.string (B tail)]
theorem Zm{lo a n k:Nat}{w w':World}{v u:Value}{eds:List Ed}{fvs xs:List Value}{t:TypeId}(h:yr lo w v eds fvs)(j:w.ownsRow a t k u n xs)(l:t≠75)(m:t≠148)(o:jH (fun r=>u.ownBlock=some r) w w'):yr lo w' v eds fvs :=
 ⟨jG h.row o (fun b e q=>jZ j h.row l b q e),h.len,fun i c d f g=>jG (h.each i c d f g) o (fun b e q=>jZ j (h.each i c d f g) m b q e)⟩
theorem ji0{lo:Nat}{w w':World}{v:Value}{eds:List Ed}{fvs:List Value}{t:TypeId}{b:Nat}{a:Array Value}(h:yr lo w v eds fvs)(j:ja w b t a)(k:75≠t)(l:148≠t)(o:jH (· = b) w w'):yr lo w' v eds fvs :=
 ⟨jG h.row o (fun r e q=>jh h.row j k (by rw[e,q])),h.len,fun i c d f g=>jG (h.each i c d f g) o (fun r e q=>jh (h.each i c d f g) j l (by rw[e,q]))⟩
structure Kg(lo:Nat)(w:World)(bv:Value)(bds:List (List UInt8))(us:List Value):Prop where
 row:w.ownsRow lo 55 1 bv bds.length us
 each:∀(i:Nat) b u,bds[i]?=some b->us[i]?=some u->∃fvs,yr lo w u (yZ b) fvs
theorem Kg.len{lo:Nat}{w:World}{c:Value}{a:List (List UInt8)}{b:List Value}(h:Kg lo w c a b):b.length=a.length:=by have:=h.row.1;omega
theorem Kg.below{lo:Nat}{w w':World}{d:Value}{a:List (List UInt8)}{f:List Value}(h:Kg lo w d a f)(e:Below w.heap.size w w'):Kg lo w' d a f :=
 ⟨jN h.row e (joJ _),fun i b u g j=>by
  obtain⟨c,k⟩:=h.each i b u g j;exact⟨c,k.below e (joJ _)⟩⟩
theorem Kg.nil(lo:Nat)(w:World):Kg lo w (.slice none 0 0) [] []:=⟨⟨rfl,.inl ⟨rfl,rfl⟩⟩,fun i b u a c=>by simp at a⟩
theorem Kg.box{lo:Nat}{w w':World}{f:Value}{a:List (List UInt8)}{j:List Value}{t:TypeId}{b:Nat}{c:Array Value}(h:Kg lo w f a j)(g:ja w b t c)(n:55≠t)(p:75≠t)(s:148≠t)(o:jH (· = b) w w'):Kg lo w' f a j :=
 ⟨jG h.row o (fun r e q=>jh h.row g n (by rw[e,q])),fun i x u k l=>by
  obtain⟨d,m⟩:=h.each i x u k l;exact⟨d,ji0 m g p s o⟩⟩
theorem Kg.beside{lo d n p:Nat}{w w':World}{f u:Value}{a:List (List UInt8)}{j xs:List Value}{t:TypeId}(h:Kg lo w f a j)(g:w.ownsRow d t p u n xs)(s:t≠55)(y:t≠75)(z:t≠148)(o:jH (fun r=>u.ownBlock=some r) w w'):Kg lo w' f a j :=
 ⟨jG h.row o (fun b e q=>jZ g h.row s b q e),fun i x v k l=>by
  obtain⟨c,m⟩:=h.each i x v k l;exact⟨c,Zm m g y z o⟩⟩
theorem Kg.snoc{lo:Nat}{w w':World}{l e u:Value}{c:List (List UInt8)}{k:List Value}{b:List UInt8}{fvs:List Value}(h:Kg lo w l c k)(m:yr lo w u (yZ b) fvs)(j:w'.ownsRow lo 55 1 e (c.length+1) (k++[u]))(o:jH (fun r=>l.ownBlock=some r) w w'):Kg lo w' e (c++[b]) (k++[u]):=by
 refine⟨by rw[joK];exact j,fun i x v d a => ?_⟩;rw[List.getElem?_append]at d a;rw[h.len]at a;split at d
 ·rename_i g;rw[if_pos g]at a;obtain⟨f,n⟩:=h.each i x v d a;exact⟨f,Zm n h.row (by decide) (by decide) o⟩
 rename_i g;rw[if_neg g]at a;rw[List.getElem?_singleton]at d a;split at d
 ·rename_i p;rw[if_pos p]at a;obtain rfl:=joN d;obtain rfl:=joN a;exact⟨fvs,Zm m h.row (by decide) (by decide) o⟩
 cases d
structure BookR(lo:Nat)(w:World)(v:Value)(n:Nat)(base:List UInt8)(bds:List (List UInt8))(tail:List UInt8):Prop where
 is:∃bv ev us,v=Qi n base bv ev tail/\Kg lo w bv bds us/\w.ownsRow lo 3 1 ev bds.length ((ql (hl n+base.length) bds).map jjR)
theorem BookR.below{lo:Nat}{w w':World}{v:Value}{n:Nat}{base a:List UInt8}{b:List (List UInt8)}(h:BookR lo w v n base b a)(c:Below w.heap.size w w'):BookR lo w' v n base b a:=by obtain⟨d,e,j,f,g,i⟩:=h.is;exact⟨d,e,j,f,g.below c,jN i c (joJ _)⟩
theorem jg5(n:Nat):Hd.lenP n=hl n:=rfl
theorem jai{lo:Nat}{w:World}{v:Value}{n:Nat}{base i:List UInt8}{a:List (List UInt8)}(h:BookR lo w v n base a i)(hs:zg n base a<=1000000)(Q:WY w):
  Calls prog 50 #[v] w fun e R=>e=.returned (.int .i64 (zg n base a:Nat))/\Below w.heap.size w R:=by
 obtain⟨bv,ev,us,rfl,L,x⟩:=h.is;obtain⟨V,X,rfl,_⟩:=je L.row;have y:=x
 obtain⟨J,Y,rfl,Z⟩:=je x;obtain⟨o,b⟩:∃z,w.alloc (.cells #[.int .i64 (n:Int),.string (B base),.slice V a.length X,.slice J a.length Y,.string (B i)] 28)=z:=⟨_,rfl⟩
 have c:Below w.heap.size w o:=by rw[<- b];exact(joL _ w).alloc (joJ _) _
 have p:ja o w.heap.size 28 #[.int .i64 (n:Int),.string (B base),.slice V a.length X,.slice J a.length Y,.string (B i)]:=by rw[<- b];exact ja.new _ _ _
 have k:=jN x c (joJ _);have P:(B base).size=base.length:=jg base
 have C:zg n base a=hl n+base.length+(a.flatMap Fr.fullR).length:=rfl;have q:=joI c
 have u:=joI b;unfold Qi;by_cases K:a.length=0
 ·have N:a=[]:=List.length_eq_zero_iff.1 K;subst N;have hq:hl n+base.length<=1000000:=by simpa [zg]using hs
  have D:zg n base []=hl n+base.length:=by simp[zg]
  rw[D];have t:Hid (Value.int .i64 (IntKind.i64.wrap (((hl n:Nat):Int)+((B base).size:Int)))=.int .i64 ((hl n+base.length:Nat):Int)):=by show _=_;rw[P];congr 1;rw[jph _ (by omega)];omega
  have I:Hid (∀W,Below o.heap.size o W->Calls prog 80 #[.int .i64 (n:Int)] W fun e R=>e=.returned (.int .i64 (hl n:Nat))/\Below W.heap.size W R):=fun W hW=>Hd.lenP_call n W ((Q.below c (joJ _)).below hW (joJ _)).tab;have G:Hid (Below o.heap.size o o.drew):=(joL _ _).drew
  have U:=joI p;have k0:=p.cell 0
  have k1:=p.cell 1;have E:=p.cell 3
  simp only[joQ,joP,joO]at k0 k1 E;have e0:([]:List (List UInt8)).length=0:=rfl
  simp only[e0]at *
  rw[<- b]at E;clear h L x y k Q c p b C D K;go_enter func50,ntmps50;go_wp2_with fail;rw[u.out];go_region_law (go_simp;go_at_call 80;refine(I.out _ G.out).mono ?_;rintro e w5 ⟨rfl,r⟩;have kk:=jb U.out (G.out.trans r) U.out.lt;have t1:=kk.cell 1;simp only[joQ,joP,joO]at t1;have H:=joI (G.out.trans r);clear r kk)
  all_goals go_wp2_with fail
  all_goals
   go_ret;exact⟨congrArg Ending.returned t.out,q.out.trans (H.out.mono q.out.size)⟩
 have O:a≠[]:=fun e=>K (by rw[e];rfl);obtain⟨g,a8,A⟩:=jpO k (by omega);have f:=Gy (hl n+base.length) a O
 have s:∃g,J=some ⟨g,0,none⟩/\o.cell? ⟨g,a.length-1,none⟩=some (.int .i64 (zg n base a:Nat)):=by have l:=k;rw[A]at l;cases A;refine⟨g,rfl,?_⟩;rw[jo1 l (a.length-1) (by omega),jpx,f];rfl
 obtain⟨g',rfl,hc⟩:=s;have a7:(0:Int)<(a.length:Int):=by omega
 have aa:a.length<=1000000:=by have:=XT a;omega
 have d:((a.length:Int)-1)=((a.length-1:Nat):Int):=by omega
 have af:IntKind.i64.wrap ((a.length:Int)-1)=((a.length-1:Nat):Int):=by rw[d];exact jph _ (by omega)
 have ae:((a.length-1:Nat):Int)<(a.length:Int):=by omega
 have E:=p.cell 3;simp only[joQ,joP,joO]at E;rw[<- b]at E hc;generalize zg n base a=W at *
 generalize a.length-1=j at *
 generalize a.length=m at *
 clear h L x y k Q c p b C f d;go_enter func50,ntmps50;go_wp2_with fail;go_ret;exact⟨rfl,by rw[u.out];exact q.out⟩
end Bk
end Go.Proofs.YtbapfpekklcicaaGreatDoor
