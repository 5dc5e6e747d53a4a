/- Texts put together:AH,AJ,EN,EV,AK,AL. -/
import Derived.Test.YtbapfpekklcicaaGreatDoorBbx25
set_option linter.unusedVariables false
set_option maxRecDepth 100000
set_option maxHeartbeats 16000000
namespace Go.Proofs.YtbapfpekklcicaaGreatDoor
open Go.RowKit Go.Shelf Tryz
section
attribute [local go_sem] jn9
theorem jhD(l:List UInt8)(w:World):Calls prog 195 #[.string (B l)] w fun e A=>e=.returned (.int .i64 (JU l))/\Below w.heap.size w A:=by
 obtain⟨j,d⟩:∃j,j=w.alloc (.cells #[.int .i64 1,.int .i64 2,.int .i64 3] 3):=⟨_,rfl⟩
 have p:Hid (Below w.heap.size w j):=by show Below _ _ _;rw[d];exact(jnV _ w).alloc (jnT _) _
 have C:j.cell? ⟨w.heap.size,0,none⟩=some (.int .i64 1):=by rw[d];simp
 have D:j.cell? ⟨w.heap.size,1,none⟩=some (.int .i64 2):=by rw[d];simp
 have E:j.cell? ⟨w.heap.size,2,none⟩=some (.int .i64 3):=by rw[d];simp
 have t:=jnS (VY 1 j);have u:=jnS (VY 2 j)
 have v:=jnS (VY 3 j);have q:=jnS (show JU l=if l=qw 1 then 1 else if l=qw 2 then 2 else if l=qw 3 then 3 else 0 from rfl)
 have r:∀k,((B (qw k)).toList==(B l).toList)=decide (l=qw k):=fun k=>by rw[jkh,joS,decide_eq_true_eq,decide_eq_true_eq];exact⟨fun h=>h.symm,fun h=>h.symm⟩
 have x:=r 1;have y:=r 2
 have z:=r 3;clear r;subst d;go_enter func195,ntmps195;go_wp2_with fail;go_loopw [7] (fun i wr=>∃k:Nat,k<=3/\i=.int .i64 k/\wr=w.alloc (.cells #[.int .i64 1,.int .i64 2,.int .i64 3] 3)/\(1<=k->l≠qw 1)/\(2<=k->l≠qw 2)/\(3<=k->l≠qw 3)) (fun i _=>3-(intOf i).toNat)
 case atStart=>exact⟨0,jn3 _,rfl,rfl,(by omega),(by omega),(by omega)⟩
 case round =>
 obtain⟨k,G,rfl,s,f,g,m⟩:=hrel;subst s;obtain rfl|rfl|rfl|rfl:k=0\/k=1\/k=2\/k=3:=by omega
 ·by_cases a:l=qw 1
  ·rw[decide_eq_true a]at x;have b:Hid (JU l=1):=by show _=_;rw[q.out,if_pos a]
   clear f g m a;go_wp2_with fail;refine t.out.mono ?_;rintro e o ⟨rfl,rfl⟩;go_wp2_with fail;go_ret;exact⟨by rw[b.out];rfl,p.out⟩
  rw[decide_eq_false a]at x;clear f g m;go_wp2_with fail;refine t.out.mono ?_;rintro e o ⟨rfl,rfl⟩;go_wp2_with fail;go_roundw
  case rel=>exact⟨1,by omega,by go_num,by first | trivial | rfl,(fun _=>a),(by omega),(by omega)⟩
  case measure=>simp[intOf]
 ·have c:=f (by omega);by_cases a:l=qw 2
  ·rw[decide_eq_true a]at y;have b:Hid (JU l=2):=by show _=_;rw[q.out,if_neg c,if_pos a]
   clear f g m a c;go_wp2_with fail;refine u.out.mono ?_;rintro e o ⟨rfl,rfl⟩;go_wp2_with fail;go_ret;exact⟨by rw[b.out];rfl,p.out⟩
  rw[decide_eq_false a]at y;clear f g m;go_wp2_with fail;refine u.out.mono ?_;rintro e o ⟨rfl,rfl⟩;go_wp2_with fail;go_roundw
  case rel=>exact⟨2,by omega,by go_num,by first | trivial | rfl,(fun _=>c),(fun _=>a),(by omega)⟩
  case measure=>simp[intOf]
 ·have c:=f (by omega);have n:=g (by omega)
  by_cases a:l=qw 3
  ·rw[decide_eq_true a]at z;have b:Hid (JU l=3):=by show _=_;rw[q.out,if_neg c,if_neg n,if_pos a]
   clear f g m a c n;go_wp2_with fail;refine v.out.mono ?_;rintro e o ⟨rfl,rfl⟩;go_wp2_with fail;go_ret;exact⟨by rw[b.out];rfl,p.out⟩
  rw[decide_eq_false a]at z;clear f g m;go_wp2_with fail;refine v.out.mono ?_;rintro e o ⟨rfl,rfl⟩;go_wp2_with fail;go_roundw
  case rel=>exact⟨3,by omega,by go_num,by first | trivial | rfl,(fun _=>c),(fun _=>n),(fun _=>a)⟩
  case measure=>simp[intOf]
 have b:Hid (JU l=0):=by show _=_;rw[q.out,if_neg (f (by omega)),if_neg (g (by omega)),if_neg (m (by omega))]
 clear f g m;go_wp2_with fail;go_ret;exact⟨by rw[b.out];rfl,p.out⟩
theorem jnn(p:List UInt8)(xs:List Ln):(dd p (xs.map WS)).1.length<=(xs.flatMap Ln.bytes).length:=by
 by_cases h:∀x∈xs,Lib.hasPrefix x.text p=true
 ·rw[jkg p xs h];exact Gm p xs
 simp only[Classical.not_forall]at h;obtain⟨x,hx,a⟩:=h;rw[jhf p xs x hx (by simpa using a)];exact jn3 _
theorem jcV(its:List It):(Yb its).length=jeV its:=by unfold Yb jeV;rw[joi];congr 2
theorem jgg(a:List (List Fld))(n:Nat)(h:∀r∈a,r.length<=n):GC a<=a.length*n:=by
 unfold GC
 induction a with
 | nil=>simp
 | cons r a b =>
 have:=b (fun x hx=>h x (jn4 _ hx));have:=h r jn5
 rw[joy,jo2,jn1,Nat.add_mul];omega
def XN(w w':World)(u:Value)(fs:List Fld):Prop:=w'.ownsRow w.heap.size 148 2 u fs.length (jA fs)/\Below w.heap.size w w'
theorem jcq(t:List UInt8)(ht:t.length<=60000)(w:World):Calls prog 196 #[.string (B t)] w fun e w'=>∃u,e=.returned u/\XN w w' u (qM t):=by
 have s:=jnS (jeT (B t) ⟨#[32,32]⟩ (by rw[jg];omega) w);rw[jj]at s;rw[show(⟨#[32,32]⟩:ByteArray).data.toList=[32,32] from rfl]at s;obtain⟨d,I⟩:∃d,(dd [32,32] ((jf t).map WS)).1=d:=⟨_,rfl⟩
 have N:d.length<=60000:=by have:=jnn [32,32] (jf t);rw[jJ,I]at this;omega
 rw[I]at s;have H:Hid (qM t=match jv d with | .error _=>[] | .ok j=>(Yb j).flatten):=by show _=_;unfold qM;rw[I];rfl
 have L:=jnS (fun W=>YP (B d) (by rw[jg];exact N) W);rw[jj]at L;rw[show(⟨d.toArray⟩:ByteArray)=B d from rfl]at s;generalize (dd [32,32] ((jf t).map WS)).2=aa at *
 clear I;go_enter func196,ntmps196;go_wp2_with fail;refine s.out.mono ?_;rintro e w1 ⟨rfl,V⟩;have G:=jnS V
 have l:=jnS (L.out w1);clear s V L;go_wp2_with fail;refine l.out.mono ?_;rintro e P J;cases g:jv d with
 | error an =>
  obtain⟨a,n⟩:=an;obtain⟨C,v,rfl,q,_,rfl,_⟩:=jfU J g;rw[g]at H;have A:=jnS (Yy [] (.slice none 0 0) P (Its.empty P none 0) (fun i b a8 n a7 m c e=>by cases e) (by simp) (fun K p=>by cases p))
  have y:=jnS (G.out.trans (C.mono G.out.size));clear C J l;go_wp2_with fail;refine A.out.mono ?_;rintro e w3 ⟨u,vs,rfl,f⟩;have z:=jnS (Wt f (by simp[GC,Yb]) (by simp[Yb]))
  have k:=jnS (y.out.trans (f.below.mono y.out.size));clear f A;go_wp2_with fail;refine z.out.mono ?_;rintro e Q ⟨x,rfl,hx,D⟩;have R:Hid (XN w Q x (qM t)):=by show XN _ _ _ _;rw[H.out];exact⟨jE hx k.out.size,k.out.trans (D.mono k.out.size)⟩
  clear hx D z;go_wp2_with fail;go_ret;exact⟨_,rfl,R.out⟩
 | ok j =>
 obtain⟨C,v,rfl,X,Y⟩:=jc3 J g;rw[g]at H;obtain⟨_,O,o⟩:=vt g;have h:=YO g
 rw[<- jcV]at h;have A:=jnS (Yy j v P X Y (by omega) (fun K p=>by have:=(o K p).1;omega))
 have E:GC (Yb j)<=1000000:=by
  have:=jgg (Yb j) 40 (fun r Z=>by
   unfold Yb at Z;obtain⟨K,h1,rfl⟩:=List.mem_map.1 Z;exact(o K (List.mem_filter.1 h1).1).1)
  omega
 have y:=jnS (G.out.trans (C.mono G.out.size));have U:=jnS (And.intro E h)
 obtain⟨ia,ic,rfl,_,_⟩:=X;clear C J l Y o O E h;go_wp2_with fail;refine A.out.mono ?_;rintro e w3 ⟨u,vs,rfl,f⟩;have z:=jnS (Wt f U.out.1 (by have:=U.out.2;omega))
 have k:=jnS (y.out.trans (f.below.mono y.out.size));clear f A;go_wp2_with fail;refine z.out.mono ?_;rintro e Q ⟨x,rfl,hx,D⟩;have R:Hid (XN w Q x (qM t)):=by show XN _ _ _ _;rw[H.out];exact⟨jE hx k.out.size,k.out.trans (D.mono k.out.size)⟩
 clear hx D z;go_wp2_with fail;go_ret;exact⟨_,rfl,R.out⟩
theorem jad(c:UInt8):∀t:List UInt8,c∉t->t.takeWhile (· != c)=t
 | [],_=>rfl
 | x::r,h=>by
  have hx:(x != c)=true:=by have:c≠x:=fun e=>h (e▸jn5);simp;exact fun e=>this e.symm
  rw[joG,if_pos hx,jad c r (fun a=>h (jn4 _ a))]
theorem jdx(t:List UInt8)(c:UInt8)(i:t.length<=1000000)(w:World):
  Calls prog 86 #[.string (B t),.string ⟨#[c]⟩] w fun e d=>(∃b,e=.returned (.tuple #[.string (B (t.takeWhile (· != c))),.string (B (t.drop ((t.takeWhile (· != c)).length+1))),.bool b]))/\Below w.heap.size w d:=by
 by_cases h:c∈t
 ·refine(Gl (B t) c w (by rw[jg];unfold maxLen;omega) (by rw[jj];exact h)).mono ?_;rintro e d ⟨rfl,n,rfl⟩;refine⟨⟨true,?_⟩,xB (jnV _ _) n⟩;rw[jj];have a:(B t).extract 0 (t.takeWhile (· != c)).length=B (t.takeWhile (· != c)):=by
   have:∃r,t=t.takeWhile (· != c)++r:=⟨t.dropWhile (· != c),List.takeWhile_append_dropWhile.symm⟩
   obtain⟨r,g⟩:=this;generalize t.takeWhile (· != c)=k at *
   subst g;apply jpf;simp[B,ByteArray.data_extract]
  have f:(B t).extract ((t.takeWhile (· != c)).length+1) (B t).size=B (t.drop ((t.takeWhile (· != c)).length+1)):=by generalize (t.takeWhile (· != c)).length+1=k;apply jpf;rw[jg];simp[B,ByteArray.data_extract];exact jol (by rw[jn6];omega)
  rw[a,f]
 refine(jdw (B t) c w (by rw[jj];exact h)).mono ?_;rintro e d ⟨rfl,n,rfl⟩;refine⟨⟨false,?_⟩,xB (jnV _ _) n⟩;have a:t.takeWhile (· != c)=t:=jad c t h
 rw[a,joO (by omega)];rfl
theorem Jm{N:Nat}{w w':World}(h:Below N w w'){p:Addr}(c:N<=p.block)(k:Nat):Below N w (w'.freeze p k):=by
 unfold World.freeze;by_cases a:k=0
 ·rw[if_pos a];exact h
 rw[if_neg a];refine⟨h.os,h.tape,h.output,?_,fun j b => ?_⟩
 ·simp;exact h.size
 simp only[jpP];rw[if_neg (by omega)];exact h.block j b
theorem Zu(w:World)(e:TypeId)(s:ByteArray):Below w.heap.size w (Lib.bytesWorld w e s):=by unfold Lib.bytesWorld;exact Jm ((jnV _ w).drew.alloc (jnT _) _) (jnT _) _
theorem atoi_any(l:List UInt8)(hl:l.length<=1000000)(w:World)(f:Tabs w):
  Calls prog 137 #[.string (B l)] w fun e a=>(∃T q,e=.returned (.tuple #[.int .i64 (qt l),.nilIface])\/e=.returned (.tuple #[.int .i64 (qt l),.iface T q]))/\Below w.heap.size w a:=by
 cases h:Lib.atoiAll l with
 | ok v =>
  refine(Tryz.strconv_Atoi_ok (B l) (by rw[jg];omega) v (by rw[jj];exact h) w).mono ?_;rintro e a ⟨rfl,g⟩;refine⟨⟨0,undef,.inl (by unfold qt;rw[h])⟩,?_⟩;rcases g with rfl|⟨t,rfl⟩
  ·exact jnV _ _
  exact Zu _ _ _
 | range =>
  obtain⟨d,p,c⟩:=f.ran;refine(Tryz.strconv_Atoi_range_var (B l) (by rw[jg];omega) (by rw[jj];exact h) d p w c).mono ?_;rintro e a ⟨N,rfl,_,_,b⟩;exact⟨⟨_,_,.inr (by unfold qt;rw[h,jj])⟩,b⟩
 | _ =>
 obtain⟨d,p,c⟩:=f.syn;refine(Tryz.strconv_Atoi_syntax_var (B l) (by rw[jg];omega) (by rw[jj];exact h) d p w c).mono ?_;rintro e a ⟨N,rfl,_,_,b⟩;exact⟨⟨_,_,.inr (by unfold qt;rw[h])⟩,b⟩
theorem WV{c:Func}{p:Tmp}{d:TypeId}(h:c.results=#[.cell p d])(tmps:Array Value)(P:Program)(w:World):
  (results c tmps).run P w=((asAddr (tmps.getD p undef)).run P w).andThen fun a b=>(loadVar d a).run P b:=by
 simp only[results,h];simp[Sem.run_bind,Result.andThen]
theorem jib{c:Func}{p:Tmp}(h:c.results=#[.cell p 75])(tmps:Array Value)(w:World)(b:Nat)(a:Array Value)(e:tmps.getD p undef=.pointer (some ⟨b,0,none⟩))
  (d:jd w b 75 a) (f:a.size=3):(results c tmps).run prog w=.ok (.agg a) w:=by
 have L:=run_loadVar_row (P:=prog) w b 75 75 a (0,0) _ d underlying75 rfl (by rw[f];kernel_rfl);rw[WV h,e];show(loadVar _ _).run _ _=_
 exact L
theorem jko(l p:List UInt8):(Lib.trimPrefix l p).length<=l.length:=by
 unfold Lib.trimPrefix;split
 ·rw[jn6];omega
 exact jnT _
theorem jcG(l:List UInt8)(p:UInt8->Bool):(l.takeWhile p).length<=l.length:=(jpd p).length_le
def jjO(lo:Nat)(t:List UInt8)(v:Value)(w:World):Prop:=∃u,v=.agg #[.int .i64 (vm t).kind,.int .i64 (vm t).id,u]/\w.ownsRow lo 148 2 u (vm t).fields.length (jA (vm t).fields)
theorem jbs(t:List UInt8)(ht:t.length<=60000)(w:World)(hT:Tabs w):
  Calls prog 153 #[.string (B t)] w fun e H=>∃v,e=.returned v/\jjO w.heap.size t v H/\Below w.heap.size w H:=by
 obtain⟨f,a⟩:∃f,f=w.alloc (.cells #[.int .i64 0,.int .i64 0,.slice none 0 0] 75):=⟨_,rfl⟩
 have s:Below w.heap.size w f:=by rw[a];exact(jnV _ w).alloc (jnT _) _
 have x:f.heap.size=w.heap.size+1:=by rw[a];simp
 have R:=jnS (show jd f w.heap.size 75 #[.int .i64 0,.int .i64 0,.slice none 0 0] by rw[a];exact jd.new _ _ _);have m:=jnS s
 have l1:(xO t).length<=60000:=by have:=jcG t (· != 10);unfold xO;omega
 have l2:=jko (xO t) [32];have l3:(YU t).length<=60000:=by have:=jcG (Lib.trimPrefix (xO t) [32]) (· != 32);unfold YU;omega
 have l4:(jjg t).length<=60000:=by unfold jjg;rw[jn6];omega
 have l5:(WW t).length<=60000:=by unfold WW;rw[jn6];omega
 have I:=jnS (jdx t 10 (by omega) f);rw[show t.takeWhile (· != 10)=xO t from rfl,show t.drop ((xO t).length+1)=WW t from rfl]at I;have z:=jnS (fun W=>Tryz.strings_TrimPrefix (B (xO t)) ⟨#[32]⟩ W)
 rw[jj,show(⟨#[32]⟩:ByteArray).data.toList=[32] from rfl]at z;rw[show(⟨(Lib.trimPrefix (xO t) [32]).toArray⟩:ByteArray)=B (Lib.trimPrefix (xO t) [32]) from rfl]at z;have J:=jnS (fun W=>jdx (Lib.trimPrefix (xO t) [32]) 32 (by omega) W)
 rw[show(Lib.trimPrefix (xO t) [32]).takeWhile (· != 32)=YU t from rfl,show(Lib.trimPrefix (xO t) [32]).drop ((YU t).length+1)=jjg t from rfl]at J;have Q:=jnS (fun W (hW:Below w.heap.size w W)=>atoi_any (jjg t) (by omega) W (hT.below hW (jnT _)))
 have Z:=jnS (fun W=>jhD (YU t) W);have UF:=jnS (fun W=>jcq (WW t) l5 W)
 have SD:Hid (vm t=⟨JU (YU t),qt (jjg t),qM (WW t)⟩):=rfl;generalize xO t=la at *
 generalize B (Lib.trimPrefix la [32])=tl at *
 generalize WW t=re at *
 generalize YU t=na at *
 generalize jjg t=fi at *
 clear s hT l1 l2 l3 l4 l5;subst a;go_enter func153,ntmps153;go_wp2_with fail;refine I.out.mono ?_;rintro e w1 ⟨⟨b1,rfl⟩,A⟩;have i:=jnS (m.out.trans (A.mono m.out.size))
 have U:=jnS (jb R.out A (by rw[x];omega));have z1:=A.size
 rw[x]at z1;have o:=jnS (z.out w1)
 clear I A z R;go_wp2_with fail;refine o.out.mono ?_;rintro e w2 ⟨rfl,rfl⟩;have h:=jnS (J.out w2)
 clear o J;go_wp2_with fail;refine h.out.mono ?_;rintro e w3 ⟨⟨b3,rfl⟩,C⟩;have d:=jnS (i.out.trans (C.mono i.out.size))
 have V:=jnS (jb U.out C (by omega));have z3:=C.size
 have g:=jnS (Q.out w3 d.out);clear h C U Q;go_wp2_with fail;refine g.out.mono ?_;rintro e w4 ⟨⟨T,q,hq⟩,D⟩;have j:=jnS (d.out.trans (D.mono d.out.size))
 have X:=jnS (jb V.out D (by omega));have z4:=D.size
 have n:=jnS (Z.out w4);clear g D V Z;rcases hq with rfl|rfl
 all_goals
  go_wp2_with fail;refine n.out.mono ?_;rintro e w5 ⟨rfl,E⟩;have l:=jnS (j.out.trans (E.mono j.out.size))
  have Y:=jnS (jb X.out E (by omega));have z5:=E.size
  have r:=jnS (UF.out w5);clear n E X UF;go_wp2_with fail;refine r.out.mono ?_;rintro e w6 ⟨u,rfl,G,L⟩;have K:=jnS (l.out.trans (L.mono l.out.size))
  have b:=jb Y.out L (by omega);obtain⟨O,P,rfl,_⟩:=je G;have c:∀k,(Value.slice O (qM re).length P).ownBlock=some k->w.heap.size<k:=fun k N=>by have:=(G.lt k N).1;omega
  have k0:=b.cell 0;have k1:=b.cell 1
  have k2:=b.cell 2;have f0:=b.frozen 0
  have f1:=b.frozen 1;have f2:=b.frozen 2
  have R7:=jnS (((b.set 0 (.int .i64 (JU na))).set 1 (.int .i64 (qt fi))).set 2 (.slice O (qM re).length P));have HU:=jnS (jE (base':=w.heap.size) G (by omega))
  have y:=jnS c;clear r L Y G b c;go_wp2_with fail;refine bodyPost_ret (jib rfl _ _ w.heap.size _ rfl R7.out rfl) rfl ?_;refine⟨_,rfl,?_,((K.out.setCell (p:=⟨w.heap.size,0,none⟩) (jnT _) _).setCell (p:=⟨w.heap.size,1,none⟩) (jnT _) _).setCell (p:=⟨w.heap.size,2,none⟩) (jnT _) _⟩;rw[show jjO w.heap.size t=fun v H=>∃u,v=.agg #[.int .i64 (vm t).kind,.int .i64 (vm t).id,u]/\H.ownsRow w.heap.size 148 2 u (vm t).fields.length (jA (vm t).fields) from rfl,SD.out];have hn:∀p:Addr,p.block=w.heap.size->∀k,(Value.slice O (qM re).length P).ownBlock=some k->k≠p.block:=fun p hp k N=>by have:=y.out k N;omega
  exact⟨_,rfl,jy (p:=⟨w.heap.size,2,none⟩) (jy (p:=⟨w.heap.size,1,none⟩) (jy (p:=⟨w.heap.size,0,none⟩) HU.out (fun e=>by have:=y.out _ e;simp at this) _) (fun e=>by have:=y.out _ e;simp at this) _) (fun e=>by have:=y.out _ e;simp at this) _⟩
end
section
attribute [local go_sem] jn9
def yT:List Ed->List Value->List Value
 | ed::r,fv::q=>.int .i64 ed.kind :: .int .i64 ed.id::fv::yT r q
 | _,_=>[]
theorem QX:∀(l:List Ed) (d:List Value) (c:Ed) (v:Value),d.length=l.length->yT (l++[c]) (d++[v])=yT l d++[.int .i64 c.kind,.int .i64 c.id,v]
 | [],[],c,v,_=>rfl
 | a::l,b::d,c,v,h=>by show _::_::_::yT (l++[c]) (d++[v])=_;rw[QX l d c v (by simpa using h)];rfl
 | [],_::_,_,_,h=>by simp at h
 | _::_,[],_,_,h=>by simp at h
theorem Yl:∀(l:List Ed) (c:List Value) (i:Nat) (d:Ed) (v:Value),l[i]?=some d->c[i]?=some v->(yT l c)[i*3]?=some (.int .i64 d.kind)/\(yT l c)[i*3+1]?=some (.int .i64 d.id)/\(yT l c)[i*3+1+1]?=some v
 | [],_,i,_,_,h,_=>by simp at h
 | _::_,[],i,_,_,_,h=>by simp at h
 | a::l,b::c,0,d,v,e,f=>by simp at e f;subst e f;exact⟨rfl,rfl,rfl⟩
 | a::l,b::c,i+1,d,v,e,f=>by obtain⟨x,y,z⟩:=Yl l c i d v (by simpa using e) (by simpa using f);rw[show(i+1)*3=i*3+3 by omega];exact⟨x,y,z⟩
structure yn(lo:Nat)(w:World)(v:Value)(eds:List Ed)(fvs:List Value):Prop where
 row:w.ownsRow lo 75 3 v eds.length (yT eds fvs)
 len:fvs.length=eds.length
 each:∀(i:Nat) ed fv,eds[i]?=some ed->fvs[i]?=some fv->w.ownsRow lo 148 2 fv ed.fields.length (jA ed.fields)
theorem yn.below{lo:Nat}{w w':World}{v:Value}{eds:List Ed}{fvs:List Value}{N:Nat}(h:yn lo w v eds fvs)(b:Below N w w')(a:w.heap.size<=N):yn lo w' v eds fvs :=
 ⟨jO h.row b a,h.len,fun i c d e f=>jO (h.each i c d e f) b a⟩
theorem yn.edv{lo:Nat}{w:World}{v:Value}{eds:List Ed}{fvs:List Value}(h:yn lo w v eds fvs):EdV w v eds:=by
 by_cases o:eds=[]
 ·subst o;obtain⟨A,c,rfl,b⟩:=je h.row;exact⟨A,c,rfl,b,fun i m l=>by simp at l⟩
 have q:eds.length≠0:=fun e=>o (List.length_eq_zero_iff.1 e);have a:=h.row
 obtain⟨g,f,d⟩:=joW a (by omega);have b:eds.length<=f:=by obtain⟨A,c,e,b⟩:=je h.row;rw[d]at e;cases e;exact b
 rw[d]at a;refine⟨_,f,d,b,fun i m l => ?_⟩;have n:=(List.getElem?_eq_some_iff.1 l).1
 obtain⟨j,k⟩:∃j,fvs[i]?=some j:=⟨_,jnW (by rw[h.len];exact n)⟩
 obtain⟨p,a1,a2⟩:=Yl eds fvs i m j l k;refine⟨g,0,j,rfl,(a.lt g rfl).2,?_,?_,?_,Qn.own (h.each i m j l k)⟩
 ·rw[jov,job a (i*3) (by omega),p]
 ·rw[jov,job a (i*3+1) (by omega),a1]
 rw[jov,job a (i*3+1+1) (by omega),a2]
theorem jb0:(prog.info? 75).map (fun i=>(i.zero,i.size,i.bytes))=some (some (.agg #[.int .i64 0,.int .i64 0,.slice none 0 0]),3,40):=by kernel_rfl
def WL(t:List UInt8)(st:List Ed×Nat)(x:Ln):List Ed×Nat:=if st.2<x.at_/\Lib.hasPrefix x.text [32,32]=false then (st.1++[vm ((t.drop st.2).take (x.at_-st.2))],x.at_) else st
def yg(t:List UInt8)(xs:List Ln):List Ed×Nat:=xs.foldl (WL t) ([],0)
theorem KA(t:List UInt8)(xs:List Ln)(x:Ln):yg t (xs++[x])=WL t (yg t xs) x:=by unfold yg;rw[jqn];rfl
theorem Zl(t:List UInt8):∀(c:List Ln) (a:List Ed) (b:Nat),(c.foldl (WL t) (a,b)).1++[vm (t.drop (c.foldl (WL t) (a,b)).2)]=a++(zZ t b c).map vm
 | [],a,b=>rfl
 | x::r,a,b=>by
  rw[List.foldl_cons,zZ];by_cases h:b<x.at_/\Lib.hasPrefix x.text [32,32]=false
  ·rw[show WL t (a,b) x=(a++[vm ((t.drop b).take (x.at_-b))],x.at_) from if_pos h,Zl t r,if_pos h,joy];simp
  rw[show WL t (a,b) x=(a,b) from if_neg h,Zl t r,if_neg h]
theorem jcX(t:List UInt8):xg t=(yg t (jf t)).1++[vm (t.drop (yg t (jf t)).2)]:=by unfold xg yg;rw[Zl];rfl
theorem Kz(t:List UInt8)(k:Nat):((yg t ((jf t).take k)).2<=(((jf t).take k).flatMap Ln.bytes).length)/\(yg t ((jf t).take k)).1.length<=k:=by
 induction k with
 | zero=>exact⟨jnT _,jnT _⟩
 | succ k d =>
 rw[jor];cases h:(jf t)[k]? with
 | none=>simp only[Option.toList,jok];omega
 | some x =>
 obtain⟨c,e⟩:=List.getElem?_eq_some_iff.1 h;have a:=(qR t ((jf t).take k) x ((jf t).drop (k+1)) (by conv=>lhs;rw[<- joj k (jf t),jou c,e])).2
 show(yg t (_++[x])).2<=_/\(yg t (_++[x])).1.length<=_;rw[KA];have b:((((jf t).take k++[x])).flatMap Ln.bytes).length=(((jf t).take k).flatMap Ln.bytes).length+x.bytes.length:=by rw[jow,jnU];simp
 show(WL t _ x).2<=(((jf t).take k++[x]).flatMap Ln.bytes).length/\_;rw[b];unfold WL;split
 ·refine⟨by show x.at_<=_;omega,?_⟩;show(_++[_]).length<=_
  rw[jnU];simp only[jn1,joz];omega
 exact⟨by omega,by omega⟩
theorem jif{t:List UInt8}{a b:List Ln}{x:Ln}(h:jf t=a++x::b):(yg t a).2<=x.at_/\x.at_<=t.length/\(yg t a).1.length<=t.length:=by
 have e:a=(jf t).take a.length:=by rw[h];simp
 have c:=Kz t a.length;rw[<- e]at c;have g:=(qR t a x b h).2
 have d:=congrArg List.length (jJ t);rw[h,jow,jnU]at d;have f:=zL t
 rw[h,jnU,jn1]at f;exact⟨by omega,by omega,by omega⟩
theorem jaA(t:List UInt8):(yg t (jf t)).2<=t.length/\(yg t (jf t)).1.length<=t.length:=by
 have a:=Kz t (jf t).length;rw[jom,jJ]at a;have:=zL t
 exact⟨a.1,by omega⟩
theorem jmB(t:List UInt8)(i j:Nat):(B t).extract i j=B ((t.drop i).take (j-i)):=by apply jpf;simp[B,ByteArray.data_extract,List.extract_eq_take_drop]
theorem yn.turned{lo B k:Nat}{W a:World}{v:Value}{eds:List Ed}{fvs:List Value}(h:yn lo W v eds fvs)(j:zm B k W a)(l:B+k<=lo):yn lo a v eds fvs :=
 ⟨j.row h.row (fun b e=>.inr (by have:=(h.row.lt b e).1;omega)),h.len,fun i c d f g=>j.row (h.each i c d f g) (fun b e=>.inr (by have:=((h.each i c d f g).lt b e).1;omega))⟩
theorem yn.set{lo:Nat}{W:World}{v:Value}{eds:List Ed}{fvs:List Value}(h:yn lo W v eds fvs){p:Addr}(f:p.block<lo)(u:Value):yn lo (W.setCell p u) v eds fvs :=
 ⟨jy h.row (fun e=>by have:=(h.row.lt _ e).1;omega) _,h.len,fun i a b c d=>jy (h.each i a b c d) (fun e=>by have:=((h.each i a b c d).lt _ e).1;omega) _⟩
theorem yn.snoc{lo:Nat}{w2 k:World}{v o x:Value}{eds:List Ed}{fvs:List Value}{ed:Ed}(h:yn lo w2 v eds fvs)(hx:w2.ownsRow lo 148 2 x ed.fields.length (jA ed.fields))
  (g:k.ownsRow lo 75 3 o (eds.length+1) (yT eds fvs++[.int .i64 ed.kind,.int .i64 ed.id,x])) (b:w2.grownBy k v.ownBlock):yn lo k o (eds++[ed]) (fvs++[x]):=by
 have f:∀(d:Value) (n:Nat) (l:List Value),w2.ownsRow lo 148 2 d n l->k.ownsRow lo 148 2 d n l:=fun d n l hx =>
  zc hx (fun r e=>b.block r (hx.lt r e).2 (fun q=>jX h.row hx (by decide) r q.symm e))
 refine⟨by rw[QX _ _ _ _ h.len,jnU];exact g,by rw[jnU,jnU,h.len];rfl,fun i y d a c => ?_⟩;rcases joo i eds.length with q|q
 ·rw[joq q]at a;rw[joq (by rw[h.len];exact q)]at c;exact f _ _ _ (h.each i y d a c)
 rw[joh q]at a;rw[joh (by rw[h.len];exact q),h.len]at c;rcases m:i-eds.length with _|j
 ·rw[m]at a c;simp at a c;subst a c;exact f _ _ _ hx
 rw[m]at a;simp at a
theorem jkI{W:World}{lo l n b:Nat}{T U:TypeId}{v:Value}{xs:List Value}{c:Array Value}(h:W.ownsRow lo T l v n xs)(i:jd W b U c)(k:T≠U):v.ownBlock≠some b:=by
 intro e;rcases h.2 with ⟨rfl,_⟩|⟨g,f,d,rfl,_,j,_⟩
 ·cases e
 have:g=b:=jnY e;subst this;have a:=j.symm.trans i
 injection a with a;injection a with _ a _;exact k a
def je7(w:World)(t:List UInt8)(st:List Ed×Nat)(W:World):Prop :=
 ∃u fvs,Boxed W w.heap.size 9 (.string (B t))/\Boxed W (w.heap.size+1) 55 u/\Boxed W (w.heap.size+2) 3 (.int .i64 (st.2:Nat))/\yn (w.heap.size+9) W u st.1 fvs/\Below w.heap.size w W
theorem je7.turned{w:World}{t:List UInt8}{st:List Ed×Nat}{W c:World}{k:Nat}(h:je7 w t st W)(a:zm (w.heap.size+4) k W c)(j:k<=5):je7 w t st c:=by obtain⟨u,b,e,f,g,i,d⟩:=h;exact⟨u,b,a.box e (.inl (by omega)),a.box f (.inl (by omega)),a.box g (.inl (by omega)),i.turned a (by omega),d.trans (a.below (by omega) d.size)⟩
theorem je7.alloc{w:World}{t:List UInt8}{st:List Ed×Nat}{W:World}(h:je7 w t st W)(o:Obj):je7 w t st (W.alloc o):=by obtain⟨u,a,c,d,e,f,b⟩:=h;exact⟨u,a,c.alloc _,d.alloc _,e.alloc _,f.below ((jnV _ W).alloc (jnT _) _) (jnT _),b.alloc b.size _⟩
theorem read_any(t:List UInt8)(ht:t.length<=50000)(w:World)(hT:Tabs w):
  Calls prog 94 #[.string (B t)] w fun e s=>∃u U,e=.returned u/\yn w.heap.size s u (xg t) U/\Below w.heap.size w s:=by
 obtain⟨xs,aM⟩:∃xs,jf t=xs:=⟨_,rfl⟩
 have aR:=jnS aM;have HT:=jnS hT
 have RA:Hid (∀j x I,xs=j++x::I->(yg t j).2<=x.at_/\x.at_<=t.length/\(yg t j).1.length<=t.length):=fun j x I h=>jif (aM.trans h);clear aM hT;refine callsIn_wide (n:=9).1 ?_;refine callsIn_of_wp_marks func94 rfl trivial ?_ rfl;simp only[ntmps94,joY,jn1,joz,Nat.reduceAdd,Nat.reduceSub,joZ,jo0,jo6,jo1,joL,jog];gi_wp2_with fail;refine⟨trivial,(callsIn_wide.2 (yF (B t) _)).mono ?_⟩;rintro e Y ⟨rfl,rfl⟩;gi_wp2_with fail;obtain⟨w1,ai⟩:∃w1,w1=((((w.alloc (.cells #[.string (B t)] 9)).alloc (.cells #[.slice none 0 0] 55)).alloc (.cells #[.int .i64 0] 3)).alloc (.cells #[.string (B t)] 9)):=⟨_,rfl⟩
 have hz:w1.heap.size=w.heap.size+4:=by rw[ai];simp
 have k3:Boxed w1 (w.heap.size+3) 9 (.string (B t)):=by
  rw[ai];have:=jps (((w.alloc (.cells #[.string (B t)] 9)).alloc (.cells #[.slice none 0 0] 55)).alloc (.cells #[.int .i64 0] 3)) 9 (.string (B t))
  simpa using this
 have aV:je7 w t ([],0) w1:=by rw[ai];refine je7.alloc ⟨.slice none 0 0,[],((jps w _ _).alloc _).alloc _,(Jr w _ _ _).alloc _,Va w _ _ _ _,⟨⟨rfl,.inl ⟨rfl,rfl⟩⟩,rfl,fun i ed fv R _=>by simp at R⟩,(((jnV _ w).alloc (jnT _) _).alloc (by simp) _).alloc (by simp;omega) _⟩ _
 rw[<- ai];clear ai;have HH:=vp (B t) (w.heap.size+3) w1 k3 (by rw[jg];omega)
 rw[jj,aR.out]at HH;refine ya (gf:=139) (lb:=#[.pointer (some ⟨w.heap.size+3,0,none⟩)]) rfl (enters_of func139 (by kernel_rfl) rfl) HH (fun _=>rfl)
  (fun j W=>je7 w t (yg t j) W) (fun _ _ _=>False) (by rw[hz];intro j W W' h ht;exact h.turned ht (by omega)) (fun _ _ _ _ hs _=>hs) aV
  (fun a j x a' W=>∃E,w.heap.size+9<=E/\a'={tmps:=(a.tmps.setIfInBounds 8 (.agg (qg x))).setIfInBounds 5 (.pointer (some ⟨E,0,none⟩)),defers:=[]}/\jd W E 157 (qg x)/\je7 w t (yg t j) W)
  ?hM ?assign ?body ?done ?stop
 case hM =>
  rw[hz];rintro a j x a' _ W W' ⟨E,R,h2,H,L⟩ ht;exact⟨E,R,h2,(ht.same E H.lt (.inr (by omega))).trans H,L.turned (ht.sub (jnT _) (by omega)) (jnT 5)⟩
 case assign =>
  rw[hz];intro l j x I W hx aD hi;clear hx;dsimp only[qg];gi_wp2;exact⟨(vX.refl _ _ W).alloc aD _,W.heap.size,by omega,rfl,jd.new _ _ _,hi.alloc _⟩
 case body =>
  rw[hz];rintro l j x I a' W hx aD ⟨E,hB,rfl,hc,u,U,R,h2,H,L,X⟩;obtain⟨r1,r2,r3⟩:=RA.out j x I hx;have SN:=jnS (KA t j x)
  clear hx RA;obtain⟨⟨f,g⟩,aC⟩:∃st,yg t j=st:=⟨_,rfl⟩
  rw[aC]at r1 r3 H L SN;dsimp only at r1 r3 H L;simp only[jof,joT,joU,qg]at hc ⊢;have p1:W.cell? ⟨E,1,none⟩=some (.int .i64 x.at_):=hc.cell 1
  have p2:W.cell? ⟨E,2,none⟩=some (.string ⟨x.text.toArray⟩):=hc.cell 2;have p3:=H.cell
  have HI:Hid (je7 w t (f,g) W):=⟨u,U,R,h2,H,L,X⟩
  refine wpIn_block (wpIn_seq ?_);by_cases aH:g<x.at_/\Lib.hasPrefix x.text [32,32]=false
  ·obtain⟨aK,hp⟩:=aH;have q:¬(x.at_:Int)<=(g:Int):=by omega
   refine wpIn_mono (Q:=fun e a' s=>e=.normal/\s=W/\∃y9 aq ar au av aw ax ay aA,a'={tmps:=#[.string (B t),.pointer (some ⟨w.heap.size,0,none⟩),.slice none 0 0,.pointer (some ⟨w.heap.size+1,0,none⟩),.pointer (some ⟨w.heap.size+1+1,0,none⟩),.pointer (some ⟨E,0,none⟩),.string (B t),.func (.func 139) #[] #[.pointer (some ⟨w.heap.size+1+1+1,0,none⟩)],.agg #[.int .i64 x.no,.int .i64 x.at_,.string ⟨x.text.toArray⟩,.bool x.ended],y9,aq,ar,au,av,aw,ax,ay,aA,.bool true,undef,undef,undef,undef,undef,undef,undef,undef,undef,undef,undef,undef,undef,undef,undef,undef,undef,undef],defers:=[]}) ?first ?rest
   case first =>
    clear HI SN R h2 H L X;gi_wp2_with fail;refine⟨trivial,((callsIn_wide.2 (Tryz.strings_HasPrefix ⟨x.text.toArray⟩ ⟨#[32,32]⟩ W)).inRound l).mono ?_⟩;rintro e V ⟨rfl,rfl⟩;rw[show Lib.hasPrefix (⟨x.text.toArray⟩:ByteArray).data.toList (⟨#[32,32]⟩:ByteArray).data.toList=Lib.hasPrefix x.text [32,32] from rfl,hp];gi_wp2_with fail
    all_goals exact⟨rfl,rfl,_,_,_,_,_,_,_,_,_,rfl⟩
   case rest =>
   rintro e a' s ⟨rfl,aL,y9,aq,ar,au,av,aw,ax,ay,aA,rfl⟩;subst aL;change Code.wpIn _ _ _ _ _ _ _;refine wpIn_cond_true rfl (wpIn_seq (Yr (by decide +kernel) (by rintro⟨a,w,h⟩;exact h) (by kernel_rfl) ?_));have aE:=hc.lt
   obtain⟨ua,uc,rfl,_⟩:=je L.row;have hS:∀V,Below s.drew.heap.size s.drew V->V.cell? ⟨w.heap.size+1,0,none⟩=some (.slice ua f.length uc)/\V.cell? ⟨w.heap.size,0,none⟩=some (.string (B t))/\V.cell? ⟨w.heap.size+1+1,0,none⟩=some (.int .i64 (g:Nat))/\V.cell? ⟨E,1,none⟩=some (.int .i64 (x.at_:Nat)):=fun V hV=>by have m:Below s.heap.size s V:=(jnV s.heap.size s).drew.trans hV;exact⟨(m.cell (p:=⟨w.heap.size+1,0,none⟩) (by show w.heap.size+1<_;omega)).trans h2.cell,(m.cell (p:=⟨w.heap.size,0,none⟩) (by show w.heap.size<_;omega)).trans R.cell,(m.cell (p:=⟨w.heap.size+1+1,0,none⟩) (by show w.heap.size+1+1<_;omega)).trans H.cell,(m.cell (p:=⟨E,1,none⟩) aE).trans p1⟩
   obtain⟨C,G⟩:∃C,C=(t.drop g).take (x.at_-g):=⟨_,rfl⟩
   have ah:C.length<=60000:=by rw[G,jn2,jn6];omega
   have aY:Hid (yg t (j++[x])=(f++[vm C],x.at_)):=by show _=_;rw[SN.out,G];exact if_pos ⟨aK,hp⟩
   obtain⟨i0,hi,aO,aP,aQ⟩:=info_parts jb0;refine jd2 _ s.drew (w.heap.size+1) w.heap.size (w.heap.size+1+1) E (w.heap.size+9) (.slice ua f.length uc) (B t) g x.at_ (jjO (w.heap.size+9) C) _ rfl rfl rfl rfl rfl hS aD ⟨r1,by rw[jg];exact r2⟩ ?pm ?pf ?pC ?pQ
   case pm =>
    rintro v x y hb ⟨u,e,h⟩;exact⟨u,e,jO h hb (jnT _)⟩
   case pf =>
    rintro v w ⟨u,rfl,h⟩;obtain⟨A,c,rfl,_⟩:=je h;exact⟨_,_,_,_,_,rfl⟩
   case pC =>
    intro V hV;have m:Below s.heap.size s V:=(jnV s.heap.size s).drew.trans hV
    rw[jmB,<- G];refine(jbs C ah V (HT.out.below (X.trans (m.mono X.size)) (jnT _))).mono ?_;rintro e w2 ⟨v,rfl,⟨u,e,h⟩,hb⟩;exact⟨v,rfl,⟨u,e,jE h (jop aD m.size)⟩,hb⟩
   case pQ =>
   intro y0 y1 y2 y3 y4 y5 y6 y7 w2 af aN bm;subst aN;obtain⟨b9,u9,aZ,rfl,⟨ux,rfl,P⟩,aT,O,ag⟩:=bm;injection O with O;subst O;have k:Below s.heap.size s w2:=(jnV s.heap.size s).drew.trans af
   have N:=L.below k (jnT _);obtain⟨xa,xc,rfl,_⟩:=je P;have HV:Hid (∀(i:Nat) (u:Value),[Value.int .i64 (vm C).kind,.int .i64 (vm C).id,.slice xa (vm C).fields.length xc][i]?=some u->w2.cell? ((⟨b9,0,none⟩:Addr).add i)=some u):=fun i u h=>by
    have ea:(⟨b9,0,none⟩:Addr).add i=⟨b9,i,none⟩:=by unfold Addr.add;split<;>simp_all
    rw[ea,ag.cell i];simpa using h
   have k1:Boxed w2 w.heap.size 9 (.string (B t)):=(k.block _ R.lt).trans R;have k2:Boxed w2 (w.heap.size+1) 55 (.slice ua f.length uc):=(k.block _ h2.lt).trans h2
   have aj:Boxed w2 (w.heap.size+1+1) 3 (.int .i64 (g:Nat)):=(k.block _ H.lt).trans H;have kc:=jb hc k aE
   have aU:=k.size;have HR:=jnS N.row
   have a8:=jnS N;have ae:=jnS P
   have a7:=jnS k;have K:=jnS (And.intro k1 (And.intro k2 (And.intro aj kc)))
   have H5:=jnS X;have bg:f.length<=50000:=by omega
   clear ag af k N P k1 k2 aj kc R h2 H L X hS HI p1 p2 p3 hc SN G ah;generalize aJ:(vm C).fields.length=fl at *
   simp only[List.foldl,jof,joT,joU];go_wp2_with (at_builtin;refine ju rfl _ _ 55 rfl (w.heap.size+9) 75 i0 _ 3 40 underlying55 hi aO aP aQ rfl (by decide) _ _ _ rfl HR.out ⟨b9,0,none⟩ 1 1 _ rfl rfl HV.out (by intro u hu;simp at hu;rcases hu with rfl | rfl | rfl<;>rfl) (by unfold maxLen;omega) (by omega) (by omega) ?_);intro aW Y z d aF;have o:∀r,(Value.slice ua f.length uc).ownBlock=some r->w.heap.size+9<=r:=fun r e=>(HR.out.lt r e).1
   obtain⟨k1,k2,aj,kc⟩:=K.out;have j1:=k1.kept d (fun e=>by have:=o _ e.symm;omega)
   have j2:=k2.kept d (fun e=>by have:=o _ e.symm;omega);have j3:=aj.kept d (fun e=>by have:=o _ e.symm;omega)
   have jc:jd Y E 157 _:=(d.block E kc.lt (fun e=>jkI HR.out kc (by decide) e.symm)).trans kc;have f2:=j2.cell
   have bo:=j2.frozen;have Z:=jnS (a8.out.snoc (ed:=vm C) (by rw[aJ];exact ae.out) z d)
   have HG:=jnS d;have aa:=jnS o
   have J:=jnS (And.intro j1 (And.intro j2 (And.intro j3 jc)));obtain⟨ak,am,rfl,_⟩:=je z;clear z d aF o k1 k2 aj kc j1 j2 j3 jc a8 ae HV;go_wp2_with fail;change Code.wpIn _ _ _ _ _ _ _;obtain⟨j1,j2,j3,jc⟩:=J.out;obtain⟨w4,D⟩:∃w4,w4=Y.setCell ⟨w.heap.size+1,0,none⟩ (.slice ak (f.length+1) am):=⟨_,rfl⟩
   have q1:Boxed w4 w.heap.size 9 (.string (B t)):=by rw[D];exact j1.other (by omega) _
   have q2:Boxed w4 (w.heap.size+1) 55 (.slice ak (f.length+1) am):=by rw[D];exact jo5 _ j2
   have q3:Boxed w4 (w.heap.size+1+1) 3 (.int .i64 (g:Nat)):=by rw[D];exact j3.other (by omega) _
   have qc:jd w4 E 157 #[.int .i64 x.no,.int .i64 x.at_,.string ⟨x.text.toArray⟩,.bool x.ended]:=by rw[D];exact jc.other (p:=⟨w.heap.size+1,0,none⟩) (by show E≠w.heap.size+1;omega) _
   have bw:w4.heap.size=Y.heap.size:=by rw[D];simp
   have aX:vX (w.heap.size+4) 5 s w4:=by rw[D];exact(((vX.refl _ _ _).below a7.out (by omega)).grown HG.out (by omega) (fun r e=>.inr (by have:=aa.out r e;omega))).setCell (.inl (by show w.heap.size+1<_;omega)) _
   have ap:=(Z.out).set (p:=⟨w.heap.size+1,0,none⟩) (by show w.heap.size+1<_;omega) (.slice ak (f.length+1) am);rw[<- D]at ap;have B4:Below w.heap.size w w4:=by rw[D];exact((H5.out.trans (a7.out.mono H5.out.size)).grown HG.out (by omega) (fun r e=>by have:=aa.out r e;omega)).setCell (p:=⟨w.heap.size+1,0,none⟩) (by show w.heap.size<=w.heap.size+1;omega) _
   rw[<- D];have g1:w4.cell? ⟨E,1,none⟩=some (.int .i64 x.at_):=qc.cell 1
   have g2:=q3.cell;have bu:=q3.frozen
   have aB:Hid (vX (w.heap.size+4) 5 s (w4.setCell ⟨w.heap.size+1+1,0,none⟩ (.int .i64 x.at_))/\je7 w t (yg t (j++[x])) (w4.setCell ⟨w.heap.size+1+1,0,none⟩ (.int .i64 x.at_))) :=
    ⟨aX.setCell (.inl (by show w.heap.size+1+1<_;omega)) _,by
     rw[aY.out];exact⟨_,_,q1.other (by omega) _,q2.other (by omega) _,jo5 _ q3,ap.set (p:=⟨w.heap.size+1+1,0,none⟩) (by show w.heap.size+1+1<_;omega) _,B4.setCell (p:=⟨w.heap.size+1+1,0,none⟩) (by show w.heap.size<=w.heap.size+1+1;omega) _⟩⟩
   clear ap B4 aX q1 q2 q3 qc j1 j2 j3 jc J Z HG aa D;gi_wp2_with fail;exact aB.out
  refine wpIn_mono (Q:=fun e a' s=>e=.normal/\s=W/\∃y9 aq ar au av aw ax ay aA,a'={tmps:=#[.string (B t),.pointer (some ⟨w.heap.size,0,none⟩),.slice none 0 0,.pointer (some ⟨w.heap.size+1,0,none⟩),.pointer (some ⟨w.heap.size+1+1,0,none⟩),.pointer (some ⟨E,0,none⟩),.string (B t),.func (.func 139) #[] #[.pointer (some ⟨w.heap.size+1+1+1,0,none⟩)],.agg #[.int .i64 x.no,.int .i64 x.at_,.string ⟨x.text.toArray⟩,.bool x.ended],y9,aq,ar,au,av,aw,ax,ay,aA,.bool false,undef,undef,undef,undef,undef,undef,undef,undef,undef,undef,undef,undef,undef,undef,undef,undef,undef,undef],defers:=[]}) ?first ?rest
  case first =>
   clear HI SN R h2 H L X;by_cases aK:g<x.at_
   ·have hp:Lib.hasPrefix x.text [32,32]=true:=by
     cases h:Lib.hasPrefix x.text [32,32]with
     | true=>rfl
     | false=>exact absurd ⟨aK,h⟩ aH
    have q:¬(x.at_:Int)<=(g:Int):=by omega
    gi_wp2_with fail;refine⟨trivial,((callsIn_wide.2 (Tryz.strings_HasPrefix ⟨x.text.toArray⟩ ⟨#[32,32]⟩ W)).inRound l).mono ?_⟩;rintro e V ⟨rfl,rfl⟩;rw[show Lib.hasPrefix (⟨x.text.toArray⟩:ByteArray).data.toList (⟨#[32,32]⟩:ByteArray).data.toList=Lib.hasPrefix x.text [32,32] from rfl,hp];gi_wp2_with fail
    all_goals exact⟨rfl,rfl,_,_,_,_,_,_,_,_,_,rfl⟩
   gi_wp2_with fail;refine⟨trivial,?_⟩;gi_wp2_with fail
   all_goals exact⟨rfl,rfl,_,_,_,_,_,_,_,_,_,rfl⟩
  case rest =>
  rintro e a' s ⟨rfl,aL,y9,aq,ar,au,av,aw,ax,ay,aA,rfl⟩;subst aL;change Code.wpIn _ _ _ _ _ _ _;refine wpIn_cond_false rfl ?_;gi_wp2;refine⟨vX.refl _ _ _,?_⟩;show je7 w t (yg t (j++[x])) s
  rw[SN.out,show WL t (f,g) x=(f,g) from if_neg aH];exact HI.out
 case done =>
  rw[hz];rintro W ⟨u,U,R,h2,H,L,X⟩ hK;rename_i Q' K aI;refine aI _ _ ?_;refine wpIn_seq ?_;refine wpIn_wide.2 ?_;refine wp_region_any (by kernel_rfl) ?_;obtain⟨st,aC⟩:∃st,yg t xs=st:=⟨_,rfl⟩
  have e1:=jcX t;have e2:=jaA t
  rw[aR.out,aC]at e1 e2;rw[aC]at H L;obtain⟨f,g⟩:=st;dsimp only at H L e1 e2;obtain⟨ua,uc,rfl,_⟩:=je L.row;have bi:w.heap.size+4<W.heap.size:=(Array.getElem?_eq_some_iff.1 hK).1
  have hS:∀V,Below W.drew.heap.size W.drew V->V.cell? ⟨w.heap.size+1,0,none⟩=some (.slice ua f.length uc)/\V.cell? ⟨w.heap.size,0,none⟩=some (.string (B t))/\V.cell? ⟨w.heap.size+1+1,0,none⟩=some (.int .i64 (g:Nat))/\True:=fun V hV=>by have m:Below W.heap.size W V:=(jnV W.heap.size W).drew.trans hV;exact⟨(m.cell (p:=⟨w.heap.size+1,0,none⟩) (by show w.heap.size+1<_;omega)).trans h2.cell,(m.cell (p:=⟨w.heap.size,0,none⟩) (by show w.heap.size<_;omega)).trans R.cell,(m.cell (p:=⟨w.heap.size+1+1,0,none⟩) (by show w.heap.size+1+1<_;omega)).trans H.cell,trivial⟩
  obtain⟨C,G⟩:∃C,C=t.drop g:=⟨_,rfl⟩
  have ah:C.length<=60000:=by rw[G,jn6];omega
  rw[<- G]at e1;obtain⟨i0,hi,aO,aP,aQ⟩:=info_parts jb0;refine jd1 _ W.drew (w.heap.size+1) w.heap.size (w.heap.size+1+1) (w.heap.size+5) (.slice ua f.length uc) (B t) g (jjO (w.heap.size+5) C) _ rfl rfl rfl rfl hS (by show w.heap.size+5<=W.heap.size;omega) (by rw[jg];exact e2.1) ?pm ?pf ?pC ?pQ
  case pm =>
   rintro v x y hb ⟨u,e,h⟩;exact⟨u,e,jO h hb (jnT _)⟩
  case pf =>
   rintro v w ⟨u,rfl,h⟩;obtain⟨A,c,rfl,_⟩:=je h;exact⟨_,_,_,_,_,rfl⟩
  case pC =>
   intro V hV;have m:Below W.heap.size W V:=(jnV W.heap.size W).drew.trans hV
   rw[jmB,show(t.drop g).take ((B t).size-g)=C by rw[G,jg,jol (by rw[jn6];omega)]];refine(jbs C ah V (HT.out.below (X.trans (m.mono X.size)) (jnT _))).mono ?_;rintro e w2 ⟨v,rfl,⟨u,e,h⟩,hb⟩;exact⟨v,rfl,⟨u,e,jE h (by have:=m.size;omega)⟩,hb⟩
  case pQ =>
  intro y0 y1 y2 y3 y4 y5 w2 af aN bj;subst aN;obtain⟨b9,u9,aZ,rfl,⟨ux,rfl,P⟩,aT,O,ag⟩:=bj;injection O with O;subst O;have k:Below W.heap.size W w2:=(jnV W.heap.size W).drew.trans af
  have N:yn (w.heap.size+5) w2 (.slice ua f.length uc) f U:=by have h:=L.below k (jnT _);exact⟨jE h.row (by omega),h.len,fun i ed fv q1 q2=>jE (h.each i ed fv q1 q2) (by omega)⟩
  obtain⟨xa,xc,rfl,_⟩:=je P;have HV:Hid (∀(i:Nat) (u:Value),[Value.int .i64 (vm C).kind,.int .i64 (vm C).id,.slice xa (vm C).fields.length xc][i]?=some u->w2.cell? ((⟨b9,0,none⟩:Addr).add i)=some u):=fun i u h=>by
   have ea:(⟨b9,0,none⟩:Addr).add i=⟨b9,i,none⟩:=by unfold Addr.add;split<;>simp_all
   rw[ea,ag.cell i];simpa using h
  have aS:w2.heap[w.heap.size+4]?=some (Obj.deferred (some [])):=(k.block _ bi).trans hK;have aU:=k.size
  have HR:=jnS N.row;have a8:=jnS N
  have ae:=jnS P;have a7:=jnS (X.trans (k.mono X.size))
  have bg:f.length<=50000:=by omega
  clear ag af k N P R h2 H L X hS G ah;generalize aJ:(vm C).fields.length=fl at *
  simp only[List.foldl,jof,joT,joU];go_wp2_with (at_builtin;refine ju rfl _ _ 55 rfl (w.heap.size+5) 75 i0 _ 3 40 underlying55 hi aO aP aQ rfl (by decide) _ _ _ rfl HR.out ⟨b9,0,none⟩ 1 1 _ rfl rfl HV.out (by intro u hu;simp at hu;rcases hu with rfl | rfl | rfl<;>rfl) (by unfold maxLen;omega) (by omega) (by omega) ?_);intro aW Y z d aF;have o:∀r,(Value.slice ua f.length uc).ownBlock=some r->w.heap.size+5<=r:=fun r e=>(HR.out.lt r e).1
  have aG:Y.heap[w.heap.size+4]?=some (Obj.deferred (some [])):=(d.block _ (by omega) (fun e=>by have:=o _ e.symm;omega)).trans aS;have Z:=a8.out.snoc (ed:=vm C) (by rw[aJ];exact ae.out) z d
  rw[<- e1]at Z;have B3:Below w.heap.size w Y:=a7.out.grown d a7.out.size (fun r e=>by have:=o r e;omega)
  have pb:=grownBy_putObj' Y (w.heap.size+4) (.deferred none);have kb:Below w.heap.size Y (Y.putObj (w.heap.size+4) (.deferred none)):=belowK_b (w:=w) (jnT _) Y _ _ _ (by omega) aG rfl rfl
  have aB:Hid (yn w.heap.size (Y.putObj (w.heap.size+4) (.deferred none)) aW (xg t) (U++[.slice xa fl xc])/\Below w.heap.size w (Y.putObj (w.heap.size+4) (.deferred none))) :=
   ⟨⟨jE (zc Z.row fun b e=>pb.block b (Z.row.lt b e).2 (fun q=>by have:=(Z.row.lt b e).1;have:=jnY q;omega)) (by omega),Z.len,fun i ed fv q1 q2=>jE (zc (Z.each i ed fv q1 q2) fun b e=>pb.block b ((Z.each i ed fv q1 q2).lt b e).2 (fun q=>by have:=((Z.each i ed fv q1 q2).lt b e).1;have:=jnY q;omega)) (by omega)⟩,B3.trans kb⟩
  have be:=jnS aG;obtain⟨ak,am,rfl,_⟩:=je z;clear z d aF o a8 ae HV Z B3 pb kb aG aS hK;go_wp2_with fail;change Code.wpIn _ _ _ _ _ _ _;gi_wp2;refine⟨by simp,.inl ⟨_,_,rfl,run_takeDeferred be.out,?_⟩⟩;exact⟨_,results_tmp rfl _ _ _,.slice ak (f.length+1) am,_,rfl,aB.out.1,aB.out.2⟩
 case stop =>
 intro c j W _ h _;exact h.elim
theorem jbB(t:List UInt8):jjQ (qM t)/\∀f∈qM t,f.1.length<=32/\f.2.length<=1000:=by
 unfold qM;cases h:jv (dd [32,32] ((jf t).map WS)).1 with
 | error e=>exact⟨⟨by simp,fun f b=>by cases b⟩,fun f b=>by cases b⟩
 | ok c =>
 obtain⟨_,s,k⟩:=vt h;have d:=YO h
 rw[<- jcV]at d;have u:=jgg (Yb c) 40 (fun r g=>by
  unfold Yb at g;obtain⟨l,i,rfl⟩:=List.mem_map.1 g;exact(k l (List.mem_filter.1 i).1).1)
 have a:∀f∈(Yb c).flatten,f.1.length<=32/\f.2.length<=1000:=fun f b=>by obtain⟨r,g,j⟩:=List.mem_flatten.1 b;unfold Yb at g;obtain⟨l,i,rfl⟩:=List.mem_map.1 g;obtain⟨m,n⟩:=List.mem_filter.1 i;obtain⟨_,_,o⟩:=Jq (jin h l m (by simpa using n));obtain⟨p,q⟩:=QS _ o f j;exact⟨Zj p,q⟩
 refine⟨⟨?_,fun f b => ?_⟩,a⟩
 ·show((Yb c).flatten).length<=_;rw[Xr];omega
 have:=a f b;omega
theorem jd8(t:List UInt8):VQ (xg t):=by intro b a;obtain⟨p,_,rfl⟩:=List.mem_map.1 a;exact(jbB _).1
theorem jie(t:List UInt8):(xg t).length<=t.length+1:=by
 rw[jcX,jnU];have:=(jaA t).2
 simp only[jn1,joz];omega
def jm9(w w':World)(t:List UInt8)(e:Ending):Prop :=
 Below w.heap.size w w'/\((Qd t=none/\e=.returned (.tuple #[.slice none 0 0,.iface 54 (.int .i64 2)]))\/∃eds u fvs,Qd t=some eds/\e=.returned (.tuple #[u,.nilIface])/\yn w.heap.size w' u eds fvs)
theorem Wq(t:List UInt8)(N:t.length<=maxLen)(w:World)(x:Tabs w):
  Calls prog 52 #[.string (B t)] w fun e P=>jm9 w P t e:=by
 have J:=jg t;by_cases hl:¬t.length<=50000
 ·have d:Hid (jm9 w w t (.returned (.tuple #[.slice none 0 0,.iface 54 (.int .i64 2)]))):=⟨jnV _ _,.inl ⟨by unfold Qd;rw[if_neg (fun h=>hl h.1)],rfl⟩⟩
  have q:¬((B t).size:Int)<=50000:=by omega
  generalize B t=s at *
  go_enter func52,ntmps52;go_wp2_with fail;go_ret2;exact d.out
 replace hl:=Classical.not_not.1 hl;have D:=jnS (read_any t hl w x)
 have q:((B t).size:Int)<=50000:=by omega
 have L:=jie t;have G:=jnS (jd8 t)
 have H:=jnS (jcW t);have E:=jnS x
 have b:Hid (∀W u c,yn w.heap.size W u (xg t) c->Below w.heap.size w W->(qu (xg t)).2=0->jo (xg t)=t->jm9 w W t (.returned (.tuple #[u,.nilIface]))):=fun W u c j y K v =>
  ⟨y,.inr ⟨xg t,u,c,by unfold Qd;rw[if_pos ⟨hl,K,v⟩],rfl,j⟩⟩
 have d:Hid (∀W,Below w.heap.size w W->¬((qu (xg t)).2=0/\jo (xg t)=t)->jm9 w W t (.returned (.tuple #[.slice none 0 0,.iface 54 (.int .i64 2)]))):=fun W y h =>
  ⟨y,.inl ⟨by unfold Qd;rw[if_neg (fun v=>h v.2)],rfl⟩⟩
 clear x N J;generalize xg t=a at *
 go_enter func52,ntmps52;go_wp2_with fail;refine D.out.mono ?_;rintro e Q ⟨u,c,rfl,j,r⟩;have l:=jnS (Wo a u Q j.edv (by omega) G.out H.out (E.out.below r (jnT _)))
 have m:=jnS j;have n:=jnS r
 obtain⟨X,Z,rfl,_⟩:=je j.row;clear D j r;go_wp2_with fail;refine l.out.mono ?_;rintro e A ⟨i,⟨f,rfl⟩|⟨f,V,rfl,O⟩⟩
 ·have o:=jnS (n.out.trans (i.mono n.out.size));have I:=jnS f
  have p:=jkh (jo a) t;by_cases k:jo a=t
  ·have C:((B (jo a)).toList==(B t).toList)=true:=by rw[p];exact decide_eq_true k
   have Y:=jnS (b.out A _ c (m.out.below i (jnT _)) o.out I.out k);clear l b d i f m p k;generalize B (jo a)=z at *
   go_wp2_with fail;go_ret2;exact Y.out
  have C:((B (jo a)).toList==(B t).toList)=false:=by rw[p];exact decide_eq_false k
  have R:¬(B (jo a)).toList=(B t).toList:=by simpa using C
  have Y:=jnS (d.out A o.out (fun h=>k h.2));clear l b d i f m p k;generalize B (jo a)=z at *
  go_wp2_with fail;go_ret2;exact Y.out
 have o:=jnS (n.out.trans (i.mono n.out.size));have Y:=jnS (d.out A o.out (fun h=>f h.1))
 obtain⟨_,⟨rfl,hx⟩|⟨U,⟨q,_,rfl,_⟩,_,_⟩⟩:=O
 ·have g:0<(qu a).2:=jpy f;rw[zn _ g];clear l b d i f m hx g;generalize ((qu a).2:Int)=zz at *
  go_wp2_with fail;go_ret2;exact Y.out
 clear l b d i f m;go_wp2_with fail;go_ret2;exact Y.out
end
end Go.Proofs.YtbapfpekklcicaaGreatDoor
