/- Texts put together:DG,DH,DI,DJ. -/
import Derived.Test.YtbapfpekklcicaaGreatDoorBbx21
set_option linter.unusedVariables false
set_option maxRecDepth 100000
set_option maxHeartbeats 16000000
namespace Go.Proofs.YtbapfpekklcicaaGreatDoor
open Go.RowKit Go.Shelf Tryz
namespace Fr
open Go.Lib
def ZS(x:Ln):Bool:=x.ended&&hasPrefix x.text [32]
theorem jcN:∀(h:List UInt8),(10:UInt8)∉h->sp false h=true/\fresh false h=false
 | [],_=>⟨rfl,rfl⟩
 | c::h,b=>by
  have a:c≠10:=fun e=>b (e▸jn5);have f:=jcN h (fun q=>b (jn4 _ q))
  have e:(c==10)=false:=by simpa using a
  refine⟨by simp[sp,e,f.1],?_⟩;have:=f.2
  unfold fresh at *
  rw[List.getLast?_cons];cases hl:h.getLast? with
  | none=>simpa using a
  | some d=>rw[hl]at this;simpa using this
theorem jfD(h:List UInt8)(f:(10:UInt8)∉h):sp true (h++[10])=hasPrefix h [32]:=by
 cases h with
 | nil=>rfl
 | cons c h =>
 have b:c≠10:=fun e=>f (e▸jn5);have d:=jcN h (fun q=>f (jn4 _ q))
 have e:(c==10)=false:=by simpa using b
 rw[jog];unfold sp;rw[e,qo,d.1,d.2];by_cases a:c=32
 ·subst a;rfl
 have g:(c==32)=false:=by simpa using a
 have i:hasPrefix (c::h) [32]=((32==c)&&true):=by simp[hasPrefix,List.isPrefixOf]
 have j:((32:UInt8)==c)=false:=by simpa using fun e=>a e.symm
 rw[g,i,j];rfl
theorem xU:∀{l:List UInt8},(10:UInt8)∈head l->False
 | [],h=>by simp[head]at h
 | c::l,h=>by
  unfold head at h;rw[joG]at h;by_cases a:c=10
  ·subst a;simp at h
  have e:(c != 10)=true:=by simpa using a
  rw[if_pos e]at h;rcases List.mem_cons.1 h with h|h
  ·exact a h.symm
  exact xU h
theorem Wj:∀(n f a:Nat) (l:List UInt8),l.length<=n->((jP f a l).all ZS=true↔(sp true l=true/\(l=[]\/vD l=true)))
 | n,f,a,l,i=>by
  by_cases d:l=[]
  ·subst d;simp[jq,sp]
  rw[jx f a l d,jpQ];have m:=zp l
  have w:=qJ l d;have k:=Wy l
  have q:(10:UInt8)∉head l:=by intro t;exact xU t
  cases b:nl l with
  | false =>
   have g:(10:UInt8)∉l:=by unfold nl at b;simpa using b
   have:vD l=false:=by
    unfold vD;cases s:l.getLast? with
    | none=>rfl
    | some c =>
    have:=List.mem_of_getLast? s;have:c≠10:=fun e=>g (e▸this)
    simpa using this
   simp[ZS,this,d]
  | true =>
  match n,i with
  | 0,i=>exact absurd (joX (by omega)) d
  | n+1,i =>
  have u:=Wj n (f+1) (a+qF l) (l.drop (qF l)) (by rw[jn6];omega);rw[b,if_pos rfl]at m;rw[joC,u];generalize l.drop (qF l)=r at *
  generalize v:head l=h at *
  subst m;rw[qo,jfD h q,VI h [10] true (by simp)];have o:fresh true ([10]:List UInt8)=true:=rfl
  rw[o];have p:vD (h++[10]++r)=true↔(r=[]\/vD r=true):=by
   unfold vD;rw[List.getLast?_append];cases j:r.getLast? with
   | none=>rw[List.getLast?_eq_none_iff.1 j];simp
   | some c =>
   have:r≠[]:=fun e=>by rw[e]at j;cases j
   simp[this]
  rw[p];simp[ZS,and_assoc]
theorem jlg(l:List UInt8):goodR l=(decide (2<=(l.length:Int)/\(l.length:Int)<=50000)&&(jf l).all ZS):=by
 rw[joS,good_iff,joC];unfold jf;rw[Wj l.length 0 0 l (jnT _)];constructor
 ·rintro⟨a,b,c,d⟩;exact⟨by simp;omega,d,.inr c⟩
 rintro⟨a,d,c⟩;simp at a;have:l≠[]:=by rintro rfl;simp at a
 exact⟨by omega,by omega,c.resolve_left this,d⟩
attribute [local go_sem] jn9
def jnv(w:World)(pre:List Ln)(W:World):Prop:=Boxed W w.heap.size 4 (.bool false)/\Below w.heap.size w W/\pre.all ZS=true
def jnO(w:World)(c:Code)(pre:List Ln)(W:World):Prop:=Boxed W w.heap.size 4 (.bool false)/\Below w.heap.size w W/\c=.ret/\pre.all ZS=false
theorem jgA(w W:World)(b:Bool)(tmps:Array Value)(h:Boxed W w.heap.size 4 (.bool b))(a:W.heap[w.heap.size+2]?=some (.deferred (some [])))(d:Below w.heap.size w W)(g:tmps[2]?=some (.pointer (some ⟨w.heap.size,0,none⟩))):
  bodyPostM Fence.wide 9 prog Tryz.f92 (fun e i=>e=.returned (.bool b)/\Below w.heap.size w i) .ret {tmps:=tmps,defers:=[{target:=.collected (w.heap.size+2),args:=#[]}]} W:=by
 have f:=grownBy_putObj' W (w.heap.size+2) (.deferred none);have j:w.heap.size+2<W.heap.size:=(Array.getElem?_eq_some_iff.1 a).1
 have r:Boxed (W.putObj (w.heap.size+2) (.deferred none)) w.heap.size 4 (.bool b):=(f.block _ (by omega) (fun e=>by have:=jnY e;omega)).trans h;have c:=r.cell
 refine⟨by simp,.inl ⟨_,_,rfl,run_takeDeferred a,?_⟩⟩;exact⟨.bool b,by simp[results,Tryz.f92,go_sem,g,c],rfl,d.trans (belowK_b (w:=w) (jnT _) W _ _ _ (by omega) a rfl rfl)⟩
theorem jiZ(s:ByteArray)(v:s.size<=1000000)(w:World):
  Calls prog 92 #[.string s] w fun e w'=>e=.returned (.bool (goodR s.data.toList))/\Below w.heap.size w w':=by
 have i:=jlg s.data.toList;rw[<- joa]at i;have y:=jnS (fits_any (s.size:Int))
 generalize goodR s.data.toList=g at *
 obtain⟨Y,q⟩:∃Y,jf s.data.toList=Y:=⟨_,rfl⟩
 rw[q]at i;have Z:=jnS q
 have I:=fun w b=>vp s b w;rw[q]at I;clear q;refine callsIn_wide (n:=9).1 ?_;refine callsIn_of_wp_marks func92 rfl trivial ?_ rfl;simp only[ntmps92,joY,jn1,joz,Nat.reduceAdd,Nat.reduceSub,joZ,jo0,jo6,jo1,joL,jog];have P:=jps w 4 (.bool false)
 have H:Below w.heap.size w (w.alloc (.cells #[.bool false] 4)):=(jnV _ w).alloc (jnT _) _;cases E:decide (2<=(s.size:Int)/\(s.size:Int)<=50000) with
 | false =>
  rw[E]at i y;simp only[Bool.false_and]at i;subst i;clear E I;gi_wp2_with fail;refine⟨trivial,(callsIn_wide.2 (y.out _)).mono ?_⟩;rintro e X ⟨rfl,rfl⟩;gi_wp2;have c:=P.cell
  exact⟨.bool false,by simp[results,Tryz.f92,go_sem,c],rfl,H⟩
 | true =>
 rw[E]at i y;simp only[jpD]at i;clear E;gi_wp2_with fail;refine⟨trivial,(callsIn_wide.2 (y.out _)).mono ?_⟩;rintro e X ⟨rfl,rfl⟩;gi_wp2_with fail;refine⟨trivial,(callsIn_wide.2 (yF s _)).mono ?_⟩;rintro e X ⟨rfl,rfl⟩;gi_wp2_with fail;have k2:=Jr w (.cells #[.bool false] 4) 9 (.string s)
 have R:=H.alloc (o:=.cells #[.string s] 9) H.size;have Q:=P.alloc (.cells #[.string s] 9)
 have u:((w.alloc (.cells #[.bool false] 4)).alloc (.cells #[.string s] 9)).heap.size=w.heap.size+2:=by simp
 generalize (w.alloc (.cells #[.bool false] 4)).alloc (.cells #[.string s] 9)=w1 at *
 clear P H y;have U:∀k,k<=5->zT (w.heap.size+2) k (jnv w):=fun k hk d W J h t =>
  ⟨t.box h.1 (.inl (by omega)),h.2.1.trans (t.below (by omega) h.2.1.size),h.2.2⟩
 refine ya (gf:=139) (lb:=#[.pointer (some ⟨w.heap.size+1,0,none⟩)]) rfl (enters_of func139 (by kernel_rfl) rfl) (I w1 _ k2 (by omega)) (fun _=>rfl)
  (jnv w) (jnO w) (by rw[u];exact U _ (by omega)) (fun c d W J h t=>⟨t.box h.1 (.inl (by rw[u];omega)),h.2.1.trans (t.below (by rw[u];omega) h.2.1.size),h.2.2⟩) ⟨Q,R,rfl⟩
  (fun a d x K W=>∃j,w.heap.size+2+5<=j/\K={tmps:=(a.tmps.setIfInBounds 10 (.agg (qg x))).setIfInBounds 3 (.pointer (some ⟨j,0,none⟩)),defers:=[]}/\jd W j 157 (qg x)/\jnv w d W)
  ?hM ?assign ?body ?done ?stop
 case hM =>
  rw[u];rintro a d x K _ W J ⟨j,f,m,r,h4⟩ t;exact⟨j,f,m,(t.same j r.lt (.inr (by omega))).trans r,U 2 (by omega) d W J h4 t⟩
 case assign =>
  rw[u];intro l d x C W hx v G;clear hx;dsimp only[qg];gi_wp2;exact⟨(vX.refl _ _ W).alloc v _,W.heap.size,by omega,rfl,jd.new _ _ _,G.1.alloc _,G.2.1.alloc G.2.1.size _,G.2.2⟩
 case body =>
  rw[u];rintro l d x C K W hx v ⟨j,hB,rfl,N,f,m,r⟩;clear hx;simp only[jof,joT,joU,qg]at N ⊢;have D:ZS x=(x.ended&&Lib.hasPrefix x.text [32]):=rfl
  have L:(d++[x]).all ZS=ZS x:=by rw[jpt,r];simp
  have c3:=f.cell;have f3:=f.frozen
  have p2:W.cell? ⟨j,2,none⟩=some (.string ⟨x.text.toArray⟩):=N.cell 2;have p3:W.cell? ⟨j,3,none⟩=some (.bool x.ended):=N.cell 3
  generalize x.ended=en at *
  cases en with
  | false =>
   gi_wp2_with fail;refine⟨trivial,?_⟩;gi_wp2;exact⟨(vX.refl _ _ _).setCell (.inl (by show w.heap.size<_;omega)) _,jo5 _ f,m.setCell (p:=⟨w.heap.size,0,none⟩) (jnT _) _,rfl,by rw[L,D];rfl⟩
  | true =>
  gi_wp2_with fail;refine⟨trivial,((callsIn_wide.2 (Tryz.strings_HasPrefix ⟨x.text.toArray⟩ ⟨#[32]⟩ W)).inRound l).mono ?_⟩;rintro e V ⟨rfl,rfl⟩;have eh:Lib.hasPrefix (⟨x.text.toArray⟩:ByteArray).data.toList (⟨#[32]⟩:ByteArray).data.toList=Lib.hasPrefix x.text [32]:=rfl
  rw[eh];rw[jpD]at D;generalize Lib.hasPrefix x.text [32]=hp at *
  cases hp with
  | false =>
   gi_wp2;exact⟨(vX.refl _ _ _).setCell (.inl (by show w.heap.size<_;omega)) _,jo5 _ f,m.setCell (p:=⟨w.heap.size,0,none⟩) (jnT _) _,rfl,by rw[L,D]⟩
  | true =>
  gi_wp2;exact⟨vX.refl _ _ _,f,m,by rw[L,D]⟩
 case done =>
  rw[u];rintro W ⟨f,m,r⟩ hmark;have zW:w.heap.size+2<W.heap.size:=(Array.getElem?_eq_some_iff.1 hmark).1
  have c3:=f.cell;have f3:=f.frozen
  rw[r]at i;subst i;gi_wp2;exact jgA w _ true _ (jo5 _ f) ((joF _ _ _ _ (by show w.heap.size+2≠w.heap.size;omega)).trans hmark) (m.setCell (p:=⟨w.heap.size,0,none⟩) (jnT _) _) rfl
 case stop =>
 rw[u];rintro c d W A ⟨f,m,rfl,r⟩ hmark;have O:g=false:=by rw[i];obtain⟨z,rfl⟩:=A;rw[jpt,r];rfl
 subst O;gi_wp2;exact jgA w W false _ f hmark m rfl
theorem Yh(l:List UInt8)(hl:l.length<=1000000)(w:World):
  Calls prog 92 #[.string (B l)] w fun e a=>e=.returned (.bool (goodR l))/\Below w.heap.size w a:=by
 have:=jiZ (B l) (by rw[jg];exact hl) w;rwa [jj]at this
end Fr
namespace Fr
attribute [local go_sem] jn9
theorem jkb(X:List UInt8)(i j:Nat):(B X).extract i j=B ((X.drop i).take (j-i)):=by apply jpf;apply Array.toList_inj.1;rw[jo3,jj,jj]
theorem ext_drop(X:List UInt8)(i:Nat):(B X).extract i (B X).size=B (X.drop i):=by rw[jkb,jg,jol (by simp)]
theorem ext_take(X:List UInt8)(j:Nat):(B X).extract 0 j=B (X.take j):=by rw[jkb];simp
theorem jfZ{l:List UInt8}{c:UInt8}(h:c∉l):∀x∈l,(x != c)=true:=fun x hx=>by have:x≠c:=fun e=>h (by rw[<- e];exact hx);simpa using this
theorem jdz(l:List UInt8)(c:UInt8)(hl:l.length<=1000000)(w:World):
  Calls prog 86 #[.string (B l),.string ⟨#[c]⟩] w fun e b =>
   e=.returned (.tuple #[.string (B (l.takeWhile (· != c))),.string (B (l.drop ((l.takeWhile (· != c)).length+1))),.bool (l.contains c)])/\Below w.heap.size w b:=by
 by_cases h:c∈l
 ·refine(Gl (B l) c w (by rw[jg];unfold maxLen;omega) (by rw[jj];exact h)).mono ?_;rintro e b ⟨rfl,n,rfl⟩;refine⟨?_,⟨rfl,rfl,rfl,jnT _,fun _ _=>rfl⟩⟩;have a:l.take (l.takeWhile (· != c)).length=l.takeWhile (· != c):=(List.prefix_iff_eq_take.1 (jpj _)).symm
  rw[jj,ext_drop,ext_take,a];simp[h]
 refine(jdw (B l) c w (by rw[jj];exact h)).mono ?_;rintro e b ⟨rfl,n,rfl⟩;refine⟨?_,⟨rfl,rfl,rfl,jnT _,fun _ _=>rfl⟩⟩;have a:l.takeWhile (· != c)=l:=vM (jfZ h)
 rw[a,joO (by omega)];simp[h];rfl
def jiu(l:List UInt8):List UInt8:=(Lib.trimPrefix l AMD).takeWhile (· != 32)
def jeK(l:List UInt8):List UInt8:=(Lib.trimPrefix l AMD).drop ((jiu l).length+1)
def jdH(l:List UInt8):Int:=qt (jiu l)
def jfb(l:List UInt8):Bool:=(Sm.takes (jeK l)).isSome&&decide (2<=jdH l/\jdH l<=50000)&&decide (jN (jdH l).toNat (jeK l)=l)
theorem jhB{l:List UInt8}{n:Nat}{f:List UInt8}(h:jbw l n f):jfb l=true/\jdH l=n:=by
 have a:Lib.trimPrefix l AMD=Lib.decDigits n++32::f:=by
  rw[h.eq];unfold jN Lib.trimPrefix;have:Lib.hasPrefix (AMD++(Lib.decDigits n++32::f)) AMD=true:=by unfold Lib.hasPrefix;rw[jo7];exact List.prefix_append _ _
  rw[if_pos this,jph]
 have b:jiu l=Lib.decDigits n:=by unfold jiu;rw[a,jpH (jfZ (Gk n))];simp
 have d:jeK l=f:=by unfold jeK;rw[b,a,<- jpg,jph];rfl
 have e:I64 (n:Int):=by have:=h.hi;unfold I64;omega
 have c:jdH l=n:=by unfold jdH;rw[b,<- jpb,vy e]
 have g:=h.lo;have i:=h.hi
 obtain⟨x,hx⟩:=h.fig;refine⟨?_,c⟩;unfold jfb;rw[c,d,hx,h.eq];simp;omega
theorem XK{l:List UInt8}(h:jfb l=true):∃n f,jbw l n f:=by unfold jfb at h;simp only[joC,decide_eq_true_eq]at h;obtain⟨⟨a,c,d⟩,b⟩:=h;obtain⟨x,hx⟩:=Option.isSome_iff_exists.1 a;exact⟨(jdH l).toNat,jeK l,by omega,by omega,⟨x,hx⟩,b.symm⟩
theorem jdI{l:List UInt8}:jfb l=true↔∃n f,jbw l n f:=⟨XK,fun⟨_,_,h⟩=>(jhB h).1⟩
theorem jh2(s:List UInt8):Sm.takeV s=.tuple #[.int .u32 ((Sm.takes s).getD 0:Nat),.bool (Sm.takes s).isSome]:=by
 cases h:Sm.takes s with
 | none=>rw[Sm.takeV_not h];rfl
 | some n=>rw[Sm.takeV_of h];rfl
theorem Qj(l:List UInt8)(hl:l.length<=900000)(w:World)(d:TabsN w):
  Calls prog 89 #[.string (B l)] w fun e K=>e=.returned (.tuple #[.int .i64 (jdH l),.bool (jfb l)])/\Below w.heap.size w K:=by
 have j:=jnS (Tryz.strings_TrimPrefix (B l) (B AMD) w);have A:(Lib.trimPrefix l AMD).length<=900000:=jop (Lib.trimPrefix_le l AMD) hl
 have s:=jnS (fun w=>jdz (Lib.trimPrefix l AMD) 32 (by omega) w);have u:(Lib.trimPrefix l AMD).takeWhile (· != 32)=jiu l:=rfl
 have k:(Lib.trimPrefix l AMD).drop ((jiu l).length+1)=jeK l:=rfl;have J:(jiu l).length<=900000:=jop (jpd _).length_le A
 have i:(jeK l).length<=900000:=by rw[<- k,jn6];omega
 have t:=jnS (fun w=>Sm.take_any (B (jeK l)) w (by rw[jg];unfold maxLen;omega));have r:=jnS (fun w d=>atoi_any (jiu l) (by omega) w d)
 have g:=jnS (fits_any (jdH l));have z:qt (jiu l)=jdH l:=rfl
 rw[z]at r;rw[u,k]at s;simp only[jh2,jj]at t;simp only[jj]at j;have y:(⟨(Lib.trimPrefix l AMD).toArray⟩:ByteArray)=B (Lib.trimPrefix l AMD):=rfl
 rw[y]at j;have c:jfb l=((Sm.takes (jeK l)).isSome&&decide (2<=jdH l/\jdH l<=50000)&&decide (jN (jdH l).toNat (jeK l)=l)):=rfl
 have E:=jnS (fun(n:Nat) (h:n<=50000) w d=>Ux n (by omega) (jeK l) (by omega) w d);have G:(⟨#[37,97,109,101,110,100,32]⟩:ByteArray)=B AMD:=rfl
 have C:∀x:List UInt8,((B x).toList==(B l).toList)=decide (x=l):=fun x=>by rw[jot,jot,jj,jj,joS];simp
 generalize (Sm.takes (jeK l)).getD 0=N at *
 generalize (Sm.takes (jeK l)).isSome=tb at *
 generalize jdH l=m at *
 generalize jfb l=q at *
 clear u k z J A y;go_enter func89,ntmps89;rw[G];go_wp2_with fail;refine j.out.mono ?_;rintro e L ⟨rfl,rfl⟩;go_wp2_with fail;refine(s.out _).mono ?_;rintro e L ⟨rfl,b⟩;go_wp2_with fail;refine(t.out _).mono ?_;rintro e O ⟨rfl,rfl⟩;go_wp2_with fail;refine(r.out _ (d.below b (jnT _))).mono ?_;rintro e P ⟨⟨T,v,H⟩,f⟩;have p:=(d.below b (jnT _)).below f (jnT _)
 have a:=b.trans (f.mono b.size);rcases H with rfl|rfl
 all_goals
  cases tb with
  | false =>
   simp only[Bool.false_and]at c;subst c;go_wp2_with fail;go_ret2;exact⟨rfl,a⟩
  | true =>
  cases i:decide (2<=m/\m<=50000) with
  | false =>
   rw[i]at c g;simp only[jpD,Bool.false_and]at c;subst c;go_wp2_with fail;refine(g.out _).mono ?_;rintro e D ⟨rfl,rfl⟩;go_wp2_with fail;go_ret2;exact⟨rfl,a⟩
  | true =>
  rw[i]at c g;have I:=of_decide_eq_true i
  obtain⟨n,rfl⟩:∃n:Nat,m=n:=⟨m.toNat,by omega⟩
  simp only[jpD,jpA]at c;go_wp2_with fail;refine(g.out _).mono ?_;rintro e D ⟨rfl,rfl⟩;go_wp2_with fail;refine(E.out n (by omega) _ p).mono ?_;rintro e D ⟨rfl,o⟩;go_wp2_with fail;go_ret2;exact⟨by rw[c];rfl,a.trans (o.mono a.size)⟩
theorem jnh:B qr=B (jN 50000 qD):=by rw[KV]
theorem Kf(l:List UInt8)(hl:l.length<=800000)(w:World)(o:TabsN w):
  Calls prog 88 #[.string (B l)] w fun e I=>∃q:Bool,(q=true↔vY l)/\e=.returned (.bool q)/\Below w.heap.size w I:=by
 have p:=jnS (Ux 50000 (by omega) qD (by decide) w o);rw[<- jnh]at p;have x:(⟨#[48,48,48,48,48,48,48,48]⟩:ByteArray)=B qD:=rfl
 have G:(B qr).size=21:=rfl;have r:=jg l
 by_cases C:21<l.length
 ·have t:¬vY l:=fun h=>by have:=jim h;omega
  have H:(21:Int)<((B l).size:Int):=by rw[r];omega
  go_enter func88,ntmps88;rw[x];go_wp2_with fail;refine p.out.mono ?_;rintro e J ⟨rfl,a⟩;go_wp2_with fail;go_ret;exact⟨false,by simp[t],rfl,a⟩
 have H:¬(21:Int)<((B l).size:Int):=by rw[r];omega
 have K:(B l).size<=21:=by rw[r];omega
 have v:=jey (l:=l);have y:=jnS (fun k w o=>Qj (l++qr.drop k) (by rw[jnU,jn6];have:qr.length=21:=rfl;omega) w o)
 have z:Hid (∀k,B l++(B qr).extract k 21=B (l++qr.drop k)):=fun k=>by have:=ext_drop qr k;rw[G]at this;rw[this,jn]
 generalize N:B qr=L at *
 go_enter func88,ntmps88;rw[x];go_wp2_with fail;refine p.out.mono ?_;rintro e J ⟨rfl,a⟩;go_wp2_with fail;go_loopw [16] (fun i wr=>∃k:Nat,k<=22/\i=.int .i64 k/\Below w.heap.size w wr/\∀j,j<k->jfb (l++qr.drop j)=false) (fun i _=>22-(intOf i).toNat)
 case atStart=>exact⟨0,by omega,rfl,a,fun j c=>by omega⟩
 case round =>
 obtain⟨k,O,rfl,g,c⟩:=hrel;have u:=jnS c
 clear c;by_cases E:k<22
 ·have D:(k:Int)<=21:=by omega
  go_wp2_with fail;rw[z.out k];refine(y.out k _ (o.below g (jnT _))).mono ?_;rintro e P ⟨rfl,s⟩;have b:=g.trans (s.mono g.size)
  cases m:jfb (l++qr.drop k) with
  | true =>
   have d:vY l:=v.2 ⟨k,by omega,XK m⟩;clear m;go_wp2_with fail;go_ret;exact⟨true,by simp[d],rfl,b⟩
  | false =>
  have A:Hid (∀j,j<k+1->jfb (l++qr.drop j)=false):=by
   intro j c;by_cases e:j=k
   ·rw[e];exact m
   exact u.out j (by omega)
  clear m;go_wp2_with fail;go_roundw
  case rel=>exact⟨k+1,by omega,by go_num,b,A.out⟩
  case measure=>simp[intOf];omega
 obtain rfl:k=22:=by omega
 go_wp2_with fail;go_ret;refine⟨false,?_,rfl,g⟩;rw[v];constructor
 ·intro h;cases h
 rintro⟨j,c,n,f,h⟩;have:=jdI.2 ⟨n,f,h⟩
 rw[u.out j (by omega)]at this;cases this
theorem WX(k:Nat):Lib.repeatL [32] k=List.replicate k 32:=by
 induction k with
 | zero=>rfl
 | succ k a=>rw[List.replicate_succ,<- a];rfl
theorem Kh(t:List UInt8)(n:Nat)(k:2<=n)(l:n<=50000)(hl:t.length<n)(w:World):
  Calls prog 90 #[.string (B t),.int .i64 (n:Int)] w fun e o=>e=.returned (.bool (vW t n))/\Below w.heap.size w o:=by
 have h:=jg t;have c:(B [32]).size=1:=rfl
 have f:(B [32]).size*(n-t.length-1)<=140737488355328:=by simp only[c];omega
 have b:=jnS (Tryz.strings_Repeat (B [32]) (n-t.length-1) w (by omega) f);have g:=jnS (fun w=>Yh (t++(List.replicate (n-t.length-1) 32++[10])) (by simp;omega) w)
 have i:((n-t.length-1:Nat):Int)=(n:Int)-(t.length:Int)-1:=by omega
 rw[i,jj,WX,show(⟨(List.replicate (n-t.length-1) (32:UInt8)).toArray⟩:ByteArray)=B (List.replicate (n-t.length-1) 32) from rfl]at b;have j:Hid (B t++B (List.replicate (n-t.length-1) 32) ++ ⟨#[10]⟩=B (t++(List.replicate (n-t.length-1) 32++[10]))):=by show _=_;rw[show(⟨#[10]⟩:ByteArray)=B [10] from rfl,jn,jn,jn8]
 have v:(B (List.replicate (n-t.length-1) 32)).size<=50000:=by rw[jg];simp;omega
 have x:(B t++B (List.replicate (n-t.length-1) 32)).size<=100000:=by rw[joK];omega
 have u:(B t).size<=50000:=by omega
 simp only[jho k l hl]at g;have s:(⟨#[32]⟩:ByteArray)=B [32]:=rfl
 have p:IntKind.i64.wrap ((n:Int)-(t.length:Int))=(n:Int)-(t.length:Int):=jos _ (by omega);have r:IntKind.i64.wrap ((n:Int)-(t.length:Int)-1)=(n:Int)-(t.length:Int)-1:=jos _ (by omega)
 generalize B (List.replicate (n-t.length-1) 32)=R at *
 generalize vW t n=q at *
 clear i;rw[<- h]at p r b;generalize m:B t=X at *
 clear h m;go_enter func90,ntmps90;rw[s];go_wp2_with fail;refine b.out.mono ?_;rintro e y ⟨rfl,a⟩;go_wp2_with fail;rw[j.out];refine(g.out _).mono ?_;rintro e z ⟨rfl,d⟩;go_wp2_with fail;go_ret;exact⟨rfl,a.trans (d.mono a.size)⟩
def UY(t:List UInt8)(n:Nat):Bool := !(decide (t=zi n))&&Lib.hasPrefix (zi n) t
theorem jgG{t:List UInt8}{n:Nat}:UY t n=true↔∃z,t++z=zi n/\z≠[]:=by
 unfold UY Lib.hasPrefix;simp only[joC,jp2,decide_eq_false_iff_not,jo7];constructor
 ·rintro⟨b,z,a⟩;exact⟨z,a,fun e=>b (by rw[<- a,e];simp)⟩
 rintro⟨z,a,c⟩;refine⟨fun e => ?_,z,a⟩;rw[e]at a;exact c (by simpa using a)
theorem Kg(t:List UInt8)(n:Nat)(l:n<=50000)(w:World)(i:TabsN w):
  Calls prog 93 #[.string (B t),.int .i64 (n:Int)] w fun e j=>e=.returned (.bool (UY t n))/\Below w.heap.size w j:=by
 have b:=jnS (jdp n (by omega) w i);have c:=jnS (fun w=>Tryz.strings_HasPrefix (B (zi n)) (B t) w)
 simp only[jj]at c;have h:((B t).toList==(B (zi n)).toList)=decide (t=zi n):=by rw[jot,jot,jj,jj,joS];simp
 have g:UY t n=(!(decide (t=zi n))&&Lib.hasPrefix (zi n) t):=rfl;generalize UY t n=q at *
 generalize Lib.hasPrefix (zi n) t=p at *
 generalize decide (t=zi n)=d at *
 generalize B (zi n)=f at *
 generalize B t=X at *
 cases d with
 | true =>
  go_enter func93,ntmps93;go_wp2_with fail;refine b.out.mono ?_;rintro e k ⟨rfl,a⟩;go_wp2_with fail;go_ret;exact⟨by rw[g];rfl,a⟩
 | false =>
 go_enter func93,ntmps93;go_wp2_with fail;refine b.out.mono ?_;rintro e k ⟨rfl,a⟩;go_wp2_with fail;refine(c.out _).mono ?_;rintro e m ⟨rfl,rfl⟩;go_wp2_with fail;go_ret;exact⟨by rw[g];rfl,a⟩
theorem jnd(a:ByteArray)(w:World):Sm.Strs (w.alloc (.cells #[.string a] 9)) (.slice (some ⟨w.heap.size,0,none⟩) 1 1) [a]:=by
 refine⟨_,1,rfl,?_⟩;intro i s h;refine⟨w.heap.size,0,rfl,by simp,?_⟩;rw[jpq _ _ _ _ rfl]
 match i,h with
 | 0,h=>simp at h;subst h;rfl
 | n+1,h=>simp at h
theorem jh3(a:ByteArray)(c:a.size<=maxLen)(w:World):
  Calls prog 126 #[.slice (some ⟨w.heap.size,0,none⟩) 1 1] (w.alloc (.cells #[.string a] 9)) fun e b=>e=.returned (.int .u32 (Sm.M.crc a.data.toList:Nat))/\Below w.heap.size w b :=
 (Sm.sum_any _ [a] _ (jnd a w) (by simp[maxLen]) (fun i s h=>by
  match i,h with
  | 0,h=>simp at h;subst h;exact c
  | n+1,h=>simp at h)).mono fun e b ⟨f,d⟩=>⟨by rw[f];simp[Sm.cat,Sm.M.crc],((jnV _ _).alloc (jnT _) _).trans (d.mono (by simp))⟩
theorem jgD{b:List UInt8}(a:goodR b=true):(fullR b).length=b.length+27+2*(Lib.decDigits b.length).length-4:=by have:=xy (qL b);unfold fullR recR jN zi AMD END;simp;omega
theorem full_le{b:List UInt8}(a:goodR b=true):(fullR b).length<=50100:=by
 obtain⟨c,d,_,_⟩:=good_iff.1 a;have:=xD (show b.length<=99999 by omega)
 have:=jgD a;omega
theorem record_yes(l:List UInt8)(n:goodR l=true)(w:World)(d:TabsN w):
  Calls prog 64 #[.string (B l)] w fun e y=>e=.returned (.tuple #[.string (B (fullR l)),.nilIface])/\Below w.heap.size w y:=by
 obtain⟨z,A,_,_⟩:=good_iff.1 n;have h:=jg l
 have p:=jnS (Yh l (by omega) w);rw[n]at p;have r:=jnS (fun w=>jh3 (B l) (by rw[h];unfold maxLen;omega) w)
 simp only[jj]at r;have o:=jnS (fun w=>Sm.figures_any (Sm.M.crc l) (Sm.M.crc_lt l) w)
 have v:Sm.figs (Sm.M.crc l)=B (vn l):=(je8 _).symm;simp only[v]at o;have q:=jnS (fun w d=>Ux l.length (by omega) (vn l) (by rw[xy (qL l)];omega) w d)
 have s:=jnS (fun w d=>jdp l.length (by omega) w d);have t:(jN l.length (vn l)).length<=30:=by
  have:=xy (qL l);have:=xD (show l.length<=99999 by omega)
  unfold jN AMD;simp;omega
 have u:Hid (B (jN l.length (vn l)) ++ ⟨#[10]⟩++B l++B (zi l.length)=B (fullR l)):=by show _=_;rw[show(⟨#[10]⟩:ByteArray)=B [10] from rfl,jn,jn,jn];congr 1;unfold fullR;rw[qP];simp
 have D:(B (jN l.length (vn l))).size<=30:=by rw[jg];exact t
 have E:(B (jN l.length (vn l)) ++ ⟨#[10]⟩).size<=31:=by rw[joK];show _+1<=_;omega
 have G:(B (jN l.length (vn l)) ++ ⟨#[10]⟩++B l).size<=60000:=by rw[joK];omega
 have H:(B (zi l.length)).size<=30:=by have:=xD (show l.length<=99999 by omega);rw[jg];unfold zi END;simp;omega
 have C:(B l).size<=50000:=by omega
 generalize B (jN l.length (vn l))=X at *
 generalize B (zi l.length)=Y at *
 generalize B (vn l)=Z at *
 rw[<- h]at q s;generalize x:B l=L at *
 clear x h n t;go_enter func64,ntmps64;go_wp2_with fail;refine p.out.mono ?_;rintro e I ⟨rfl,f⟩;go_wp2_with fail;refine(r.out _).mono ?_;rintro e J ⟨rfl,i⟩;have c:=f.trans (i.mono f.size)
 go_wp2_with fail;refine(o.out _).mono ?_;rintro e K ⟨rfl,j⟩;have a:=c.trans (j.mono c.size)
 go_wp2_with fail;refine(q.out _ (d.below a (jnT _))).mono ?_;rintro e N ⟨rfl,k⟩;have b:=a.trans (k.mono a.size)
 go_wp2_with fail;refine(s.out _ (d.below b (jnT _))).mono ?_;rintro e O ⟨rfl,m⟩;have g:=b.trans (m.mono b.size)
 go_wp2_with fail;go_ret2;exact⟨by rw[<- u.out];rfl,g⟩
theorem jfP(l:List UInt8)(hl:l.length<=1000000)(c:goodR l=false)(w:World):
  Calls prog 64 #[.string (B l)] w fun e d=>e=.returned (.tuple #[.string (B []),Zv 2])/\Below w.heap.size w d:=by
 have b:=jnS (Yh l hl w);rw[c]at b;go_enter func64,ntmps64;go_wp2_with fail;refine b.out.mono ?_;rintro e f ⟨rfl,a⟩;go_wp2_with fail;go_ret2;exact⟨rfl,a⟩
def xp(n:Int):Int:=if 2<=n/\n<=50000 then ((jN n.toNat qD).length:Int)+1+n+((zi n.toNat).length:Int) else 0
theorem yI{t:List UInt8}(h:xK t):jS t 2 [] 0:=.inr (.inl ⟨h,rfl,rfl,rfl⟩)
theorem vA{t:List UInt8}(h:¬xK t)(a:¬∃b,vG t b):jS t 3 [] 0:=.inr (.inr ⟨h,a,rfl,rfl,rfl⟩)
theorem jek{l:List UInt8}(h:(10:UInt8)∈l):l=head l++10::l.drop ((head l).length+1):=by
 have:=zp l;have a:nl l=true:=by unfold nl;simpa using h
 unfold qF at this;rw[a,if_pos rfl,if_pos rfl]at this;simpa using this
def readV(k:Nat)(b:List UInt8)(n:Nat):Ending:=.returned (.tuple #[.int .i64 (k:Int),.string (B b),.int .i64 (n:Int)])
theorem read_any(l:List UInt8)(hl:l.length<=700000)(w:World)(o:TabsN w):
  Calls prog 51 #[.string (B l)] w fun e w'=>∃k b n,jS l k b n/\e=readV k b n/\Below w.heap.size w w':=by
 have L:=jnS (jdz l 10 (by omega) w);by_cases x:(10:UInt8)∈l
 ·have hc:l.contains 10=true:=by simpa using x
  have C:(10:UInt8)∉head l:=xU;have X:=jek x
  have eh:l.takeWhile (· != 10)=head l:=rfl;rw[hc,eh]at L;have hh:(head l).length<=700000:=by have:=jlf l;omega
  have N:=jnS (fun w o=>Qj (head l) (by omega) w o);generalize head l=Y at *
  generalize l.drop (Y.length+1)=r at *
  clear hc eh;have hr:r.length<=700000:=by have:=congrArg List.length X;simp at this;omega
  cases U:jfb Y with
  | false =>
   have p:Hid (jS l 3 [] 0):=by have h:=jit (r:=r) C (fun h=>by have:=jdI.2 h;rw[U]at this;cases this);rw[<- X]at h;exact vA h.1 h.2
   rw[U]at N;clear U X C hr;go_enter func51,ntmps51;go_wp2_with fail;refine L.out.mono ?_;rintro e w1 ⟨rfl,c⟩;go_wp2_with fail;refine(N.out _ (o.below c (jnT _))).mono ?_;rintro e A ⟨rfl,g⟩;go_wp2_with fail;go_ret3;exact⟨3,[],0,p.out,rfl,c.trans (g.mono c.size)⟩
  | true =>
  obtain⟨n,f,P⟩:=XK U;obtain⟨_,hM⟩:=jhB P;rw[U,hM]at N;have h2:=P.lo
  have h5:=P.hi;have m:=P.fig
  have K:=P.eq;clear U hM;by_cases Q:r.length<n
  ·have aj:((B r).size:Int)<n:=by rw[jg];omega
   have HS:=jnS (Kt (f:=f) h2 h5 m Q);rw[<- K,<- X]at HS;have BB:=jnS (fun w=>Kh r n h2 h5 Q w)
   generalize vW r n=q at *
   clear X K P C m Q hr;generalize B r=R at *
   cases q with
   | true =>
    have p:Hid (jS l 2 [] 0):=yI (HS.out.1.2 rfl);go_enter func51,ntmps51;go_wp2_with fail;refine L.out.mono ?_;rintro e w1 ⟨rfl,c⟩;go_wp2_with fail;refine(N.out _ (o.below c (jnT _))).mono ?_;rintro e A ⟨rfl,g⟩;have a:=c.trans (g.mono c.size)
    go_wp2_with fail;refine(BB.out _).mono ?_;rintro e w3 ⟨rfl,a8⟩;have H:=a.trans (a8.mono a.size)
    go_wp2_with fail;refine(QL _).mono ?_;rintro e w4 ⟨rfl,rfl⟩;go_wp2_with fail;go_ret3;exact⟨2,[],0,p.out,rfl,H⟩
   | false =>
   have p:Hid (jS l 3 [] 0):=vA (fun h=>by cases HS.out.1.1 h) HS.out.2;go_enter func51,ntmps51;go_wp2_with fail;refine L.out.mono ?_;rintro e w1 ⟨rfl,c⟩;go_wp2_with fail;refine(N.out _ (o.below c (jnT _))).mono ?_;rintro e A ⟨rfl,g⟩;have a:=c.trans (g.mono c.size)
   go_wp2_with fail;refine(BB.out _).mono ?_;rintro e w3 ⟨rfl,a8⟩;have H:=a.trans (a8.mono a.size)
   go_wp2_with fail;refine(ZH _).mono ?_;rintro e w4 ⟨rfl,rfl⟩;go_wp2_with fail;go_ret3;exact⟨3,[],0,p.out,rfl,H⟩
  have br:=jg r;have aj:¬((B r).size:Int)<n:=by rw[br];omega
  have av:(n:Int)<=(B r).size:=by rw[br];omega
  have x1:(B r).extract 0 n=B (r.take n):=ext_take r n;have x2:(B r).extract n (B r).size=B (r.drop n):=ext_drop r n
  have ap:(r.take n).length=n:=by simp;omega
  have ah:r.take n++r.drop n=r:=joj n r;have V:=jnS (yL (f:=f) (b:=r.take n) (r:=r.drop n) h2 h5 m ap)
  rw[ah,<- K,<- X]at V;generalize aq:r.take n=s at *
  generalize ar:r.drop n=Z at *
  have HF:=jnS (fun w o=>Kg Z n h5 w o);have O:=jnS (jgG (t:=Z) (n:=n))
  have P1:=jnS (fun w=>Tryz.strings_HasPrefix (B l) (B (fullR s)) w);have RN:=jnS (jfP s (by omega))
  have RY:=jnS (record_yes s);have GD:=jnS (fun w=>Yh s (by omega) w)
  have ae:l=jN n f++10::(s++Z):=by rw[ah,<- K];exact X
  clear aq ar ah X Q hr K;have au:(B s).size<=50000:=by rw[jg];omega
  have HX:=jnS x1;have HY:=jnS x2
  clear x1 x2 br;generalize B r=R at *
  generalize am:B s=BD at *
  generalize B Z=RS at *
  have af:l.length<=700000:=hl;cases E:goodR s with
  | false =>
   have ak:=jnS (RN.out E);have u:=GD.out
   rw[E]at u;have G:=jnS u
   have p:Hid (jS l 3 [] 0):=vA (fun h=>by have:=(V.out.1.1 h).1;rw[E]at this;cases this) (fun⟨b',h⟩=>by have:=((V.out.2 b').1 h).2.1;rw[E]at this;cases this);clear u GD RY RN E P C m ae hl af P1 V HF O;go_enter func51,ntmps51;go_wp2_with fail;refine L.out.mono ?_;rintro e w1 ⟨rfl,c⟩;go_wp2_with fail;refine(N.out _ (o.below c (jnT _))).mono ?_;rintro e A ⟨rfl,g⟩;have a:=c.trans (g.mono c.size)
   go_wp2_with fail;go_quiet (fail);go_wp2_with fail;rw[HX.out,HY.out];have i:Below w.heap.size w (A.drewN nq):=⟨a.os,a.tape,a.output,a.size,a.block⟩
   have D:=o.below i (jnT _);generalize A.drewN nq=w3 at *
   refine(ak.out _).mono ?_;rintro e w4 ⟨rfl,y⟩;have d:=i.trans (y.mono i.size)
   rw[ja6];go_wp2_with fail;refine(G.out _).mono ?_;rintro e w5 ⟨rfl,J⟩;have j:=d.trans (J.mono d.size)
   go_wp2_with fail;refine(ZH _).mono ?_;rintro e w7 ⟨rfl,rfl⟩;go_wp2_with fail;go_ret3;exact⟨3,[],0,p.out,rfl,j⟩
  | true =>
  have a7:=jnS (RY.out E);have u:=GD.out
  rw[E]at u;have G:=jnS u
  clear u GD RY RN;have fl:=full_le E
  have e1:Lib.hasPrefix (B l).data.toList (B (fullR s)).data.toList=Lib.hasPrefix l (fullR s):=by rw[jj,jj]
  have fs:=jg (fullR s);generalize ai:B (fullR s)=FB at *
  cases hp:Lib.hasPrefix l (fullR s) with
  | true =>
   have p:Hid (jS l 1 s (fullR s).length):=by refine .inl ⟨⟨E,?_⟩,rfl,rfl⟩;unfold Lib.hasPrefix at hp;obtain⟨z,hz⟩:=List.isPrefixOf_iff_prefix.1 hp;exact⟨z,hz.symm⟩
   have P2:=P1.out;rw[e1,hp]at P2;have P3:=jnS P2
   clear hp E e1 P C m ae hl af P1 P2 V HF O G;rw[<- fs]at p;clear fs ai;go_enter func51,ntmps51;go_wp2_with fail;refine L.out.mono ?_;rintro e w1 ⟨rfl,c⟩;go_wp2_with fail;refine(N.out _ (o.below c (jnT _))).mono ?_;rintro e A ⟨rfl,g⟩;have a:=c.trans (g.mono c.size)
   go_wp2_with fail;go_quiet (fail);go_wp2_with fail;rw[HX.out,HY.out];have i:Below w.heap.size w (A.drewN nq):=⟨a.os,a.tape,a.output,a.size,a.block⟩
   have D:=o.below i (jnT _);generalize A.drewN nq=w3 at *
   refine(a7.out _ D).mono ?_;rintro e w4 ⟨rfl,y⟩;have d:=i.trans (y.mono i.size)
   go_wp2_with fail;refine(P3.out _).mono ?_;rintro e w5 ⟨rfl,rfl⟩;go_wp2_with fail;go_ret3;exact⟨1,s,FB.size,p.out,by rw[<- am];rfl,d⟩
  | false =>
  have P2:=P1.out;rw[e1,hp]at P2;have P3:=jnS P2
  have hw:¬∃b,vG l b:=by
   rintro⟨b',W⟩;obtain⟨rfl,_,_,_⟩:=(V.out.2 b').1 W;obtain⟨_,zI,e⟩:=W;have:Lib.hasPrefix l (fullR b')=true:=by unfold Lib.hasPrefix;rw[jo7];exact⟨zI,e.symm⟩
   rw[hp]at this;cases this
  have ag:xK l↔UY Z n=true:=by rw[V.out.1,O.out];exact⟨fun h=>h.2,fun h=>⟨E,h⟩⟩
  have p:=jnS (show(UY Z n=true->jS l 2 [] 0)/\(UY Z n=false->jS l 3 [] 0) from
   ⟨fun h=>yI (ag.2 h),fun h=>vA (fun W=>by rw[ag.1 W]at h;cases h) hw⟩)
  generalize UY Z n=q at *
  clear hp E e1 P C m ae hl af P1 P2 V O hw ag fs ai;cases q with
  | true =>
   have v:=jnS (p.out.1 rfl);go_enter func51,ntmps51;go_wp2_with fail;refine L.out.mono ?_;rintro e w1 ⟨rfl,c⟩;go_wp2_with fail;refine(N.out _ (o.below c (jnT _))).mono ?_;rintro e A ⟨rfl,g⟩;have a:=c.trans (g.mono c.size)
   go_wp2_with fail;go_quiet (fail);go_wp2_with fail;rw[HX.out,HY.out];have i:Below w.heap.size w (A.drewN nq):=⟨a.os,a.tape,a.output,a.size,a.block⟩
   have D:=o.below i (jnT _);generalize A.drewN nq=w3 at *
   refine(a7.out _ D).mono ?_;rintro e w4 ⟨rfl,y⟩;have d:=i.trans (y.mono i.size)
   go_wp2_with fail;refine(P3.out _).mono ?_;rintro e w5 ⟨rfl,rfl⟩;go_wp2_with fail;refine(G.out _).mono ?_;rintro e w5 ⟨rfl,J⟩;have j:=d.trans (J.mono d.size)
   go_wp2_with fail;refine(HF.out _ (o.below j (jnT _))).mono ?_;rintro e w6 ⟨rfl,aa⟩;have I:=j.trans (aa.mono j.size)
   go_wp2_with fail;refine(QL _).mono ?_;rintro e w7 ⟨rfl,rfl⟩;go_wp2_with fail;go_ret3;exact⟨2,[],0,v.out,rfl,I⟩
  | false =>
  have v:=jnS (p.out.2 rfl);go_enter func51,ntmps51;go_wp2_with fail;refine L.out.mono ?_;rintro e w1 ⟨rfl,c⟩;go_wp2_with fail;refine(N.out _ (o.below c (jnT _))).mono ?_;rintro e A ⟨rfl,g⟩;have a:=c.trans (g.mono c.size)
  go_wp2_with fail;go_quiet (fail);go_wp2_with fail;rw[HX.out,HY.out];have i:Below w.heap.size w (A.drewN nq):=⟨a.os,a.tape,a.output,a.size,a.block⟩
  have D:=o.below i (jnT _);generalize A.drewN nq=w3 at *
  refine(a7.out _ D).mono ?_;rintro e w4 ⟨rfl,y⟩;have d:=i.trans (y.mono i.size)
  go_wp2_with fail;refine(P3.out _).mono ?_;rintro e w5 ⟨rfl,rfl⟩;go_wp2_with fail;refine(G.out _).mono ?_;rintro e w5 ⟨rfl,J⟩;have j:=d.trans (J.mono d.size)
  go_wp2_with fail;refine(HF.out _ (o.below j (jnT _))).mono ?_;rintro e w6 ⟨rfl,aa⟩;have I:=j.trans (aa.mono j.size)
  go_wp2_with fail;refine(ZH _).mono ?_;rintro e w7 ⟨rfl,rfl⟩;go_wp2_with fail;go_ret3;exact⟨3,[],0,v.out,rfl,I⟩
 have hc:l.contains 10=false:=by simpa using x
 have eh:l.takeWhile (· != 10)=l:=vM (jfZ x);rw[hc,eh]at L;have BH:=jnS (fun w o=>Kf l (by omega) w o)
 have p:=jnS (show(vY l->jS l 2 [] 0)/\(¬vY l->jS l 3 [] 0) from
  ⟨Uj,fun h=>vA (fun W=>h ((jaD x).1 W)) (fun⟨b,W⟩=>Un x W)⟩)
 clear hc eh x;generalize B (l.drop (l.length+1))=R at *
 go_enter func51,ntmps51;go_wp2_with fail;refine L.out.mono ?_;rintro e w1 ⟨rfl,c⟩;go_wp2_with fail;refine(BH.out _ (o.below c (jnT _))).mono ?_;rintro e A ⟨q,U,rfl,g⟩;have a:=c.trans (g.mono c.size)
 have HQ:=jnS U;clear U;go_wp2_with fail;cases q with
 | true =>
  have v:=jnS (p.out.1 (HQ.out.1 rfl));refine(QL _).mono ?_;rintro e w7 ⟨rfl,rfl⟩;go_wp2_with fail;go_ret3;exact⟨2,[],0,v.out,rfl,a⟩
 | false =>
 have v:=jnS (p.out.2 (fun h=>by cases HQ.out.2 h));refine(ZH _).mono ?_;rintro e w7 ⟨rfl,rfl⟩;go_wp2_with fail;go_ret3;exact⟨3,[],0,v.out,rfl,a⟩
end Fr
end Go.Proofs.YtbapfpekklcicaaGreatDoor
