/- Texts put together:UJ,UL,TM,UM. -/
import Derived.Test.YtbapfpekklcicaaGreatDoorBtx12
set_option linter.unusedVariables false
set_option maxRecDepth 100000
set_option maxHeartbeats 16000000
namespace Go.Proofs.YtbapfpekklcicaaGreatDoor
open Go.RowKit Go.Shelf Tryz
section
open Go.Lib
theorem vh{P:Program}(w:World)(m y z e:TypeId)(i:TypeInfo)(b o d g:Nat)(a:Addr)(f k n:Nat)(c:List Value)
  (x:P.underlying m=some (.slice e)) (s:P.info? e=some i) (t:Nat.min f d=n) (u:c.length=n*i.size)
  (h:∀j v,c[j]?=some v->w.cell? (a.add j)=some v) (q:∀j,j<c.length->(w.cell? ⟨b,o+j,none⟩).isSome=true) (r:∀j,j<c.length->w.frozen? ⟨b,o+j,none⟩=false) (p:∀v∈c,v.oneCell'=true) :
  (Builtin.copy_ #[m,y] z #[.slice (some ⟨b,o,none⟩) d g,.slice (some a) f k]).run P w=.ok (goInt n) (w.setCells b o c):=by
 have hl:=run_loadCells_list (P:=P) w a c h;have l:=run_storeCells_cells (P:=P) b o c 0 w (by simpa using q) (by simpa using r) p
 rw[u]at hl;simp[Builtin.copy_,run_underlying x,Builtin.lenOf,Builtin.firstCells,sizeOf,typeInfo,s,t,hl,l]
theorem jdb{W:World}{b:Nat}{t:TypeId}{a:Array Value}(h:ja W b t a):W.shape? b=some (t,a.size):=by unfold World.shape?;rw[show W.heap[b]?=_ from h]
theorem jz{P:Program}{w:World}{ops:Array Oper}{g:List Oper}{o:Oper}{a:Act}{Q:Exit->Act->World->Prop}(D:o.guard=none)(s x:Operand)(t:TypeId)
  (E:o.op=Op.call {callee:=Callee.builtin Builtin.append,args:=#[s,x],argTypes:=#[t,t]}) (base:Nat)
  (e:TypeId) (i:TypeInfo) (z:Value) (size d:Nat) (X:P.underlying t=some (.slice e)) (U:P.info? e=some i) (Y:i.zero=some z)
  (l:i.size=size) (C:i.bytes=d) (H:z.cells.size=size) (G:0<size)
  (v:Value) (n:Nat) (xs:List Value) (W:a.eval s=v) (q:w.ownsRow base e size v n xs)
  (y:Addr) (m c:Nat) (b:List Value) (hx:a.eval x=.slice (some y) m c) (hl:b.length=m*size) (k:∀j u,b[j]?=some u->w.cell? (y.add j)=some u) (I:∀u∈b,u.oneCell'=true)
  (A:n+m<=maxLen) (f:(n+m)*d<=140737488355328) (R:base<=w.heap.size)
  (h:∀p r,r.ownsRow base e size p (n+m) (xs++b)->w.grownBy r v.ownBlock->Hid (p.ownBlock=v.ownBlock\/p.ownBlock=some w.heap.size)->wpList P ops Q g (a.put o.dst p) r):wpList P ops Q (o::g) a w:=by
 refine wpList_plain D fun K O => ?_;obtain⟨p,r,V,J,L,Z,N⟩:=run_append_own_at (P:=P) w base t o.type e i z size d X U Y l C H G v n xs q y m c b hl k I A f R;unfold Oper.wp;simp[execOp,E,resolve,invoke,builtin,W,hx,V,Result.andThen];exact O _ _ (h p r J L N)
def jmA(lo:Nat)(v:Value)(n i:Nat)(xs ys:List Value)(w:World)(e:Ending)(w':World):Prop :=
 ∃v',e=.returned v'/\w'.ownsRow lo 109 4 v' (n+1) (xs.take (i*4)++(ys++xs.drop (i*4)))/\jH (fun r=>v.ownBlock=some r) w w'/\(v'.ownBlock=v.ownBlock\/v'.ownBlock=some w.heap.size)
theorem jeS(lo:Nat)(v:Value)(n i:Nat)(xs s:List Value)(w:World)(b:w.ownsRow lo 109 4 v n xs)(Q:n<=1000000)(m:lo<=w.heap.size)(G:s.length=4)(y:ja w i 109 s.toArray)(o:∀u∈s,u.oneCell'=true):
  Calls prog 268 #[v,.int .i64 (n:Nat),sl i 1 1] w fun e N=>jmA lo v n n xs s w e N:=by
 obtain⟨H,D,p,q,r⟩:=info_parts Jp;have t:∀j u,s[j]?=some u->w.cell? ((⟨i,0,none⟩:Addr).add j)=some u:=fun j u h=>by
  have J:(⟨i,0,none⟩:Addr).add j=⟨i,j,none⟩:=by unfold Addr.add;split<;>simp_all
  rw[J,y.cell j];simpa using h
 have t:=joI t;have C:=joI b
 have d:=b.1;have P:=joI d
 have z:xs.take (n*4)=xs:=jpi (by omega);have A:xs.drop (n*4)=[]:=jpE (by omega)
 have E:=joI (And.intro z A);clear z A d;unfold sl;rcases jpH b with ⟨rfl,rfl⟩|⟨g,I,rfl⟩
 ·clear b;go_enter func268,ntmps268;go_wp2_with (at_builtin;refine jz rfl _ _ 96 rfl lo 109 H _ 4 56 underlying96 D p q r rfl (by decide) _ _ _ rfl C.out ⟨i,0,none⟩ 1 1 _ rfl (by rw[G]) t.out o ?c3 ?c4 ?c5 ?_)
  case c3=>unfold maxLen;omega
  case c4=>omega
  case c5=>exact m
  intro L O a c f;obtain⟨K,l,rfl⟩:=ownsRow_succ a;go_wp2_with fail;go_ret;exact⟨_,rfl,by rw[E.out.1,E.out.2,jo9];exact a,(jH.refl _ _).grown c (fun k x=>.inl x),f.out⟩
 clear b;go_enter func268,ntmps268;go_wp2_with (at_builtin;refine jz rfl _ _ 96 rfl lo 109 H _ 4 56 underlying96 D p q r rfl (by decide) _ _ _ rfl C.out ⟨i,0,none⟩ 1 1 _ rfl (by rw[G]) t.out o ?c3 ?c4 ?c5 ?_)
 all_goals first | (show n+1<=maxLen;unfold maxLen;omega) | (show(n+1)*56<=140737488355328;omega) | exact m | skip
 all_goals
  intro L O a c f;obtain⟨K,l,rfl⟩:=ownsRow_succ a;go_wp2_with fail;go_ret;exact⟨_,rfl,by rw[E.out.1,E.out.2,jo9];exact a,(jH.refl _ _).grown c (fun k x=>.inl x),f.out⟩
theorem jcb(w:World)(d g c lb j:Nat)(a b:Array Value)(f:d≠g)(h:ja w d 109 b)(l:ja w g 109 a)(k:a.size≠0):
  (callFunc 283 #[.slice (some ⟨d,0,none⟩) 1 1,.slice (some ⟨g,c,none⟩) lb j]).run prog w=.ok (.value (.bool false)) w:=by
 obtain⟨p,m,n,i,o⟩:=info_parts Jp;rw[run_callFunc_extern func283 (by kernel_rfl) (by kernel_rfl) (by kernel_rfl) (e:=Extern.SlicesOverlaps.overlaps #[96,96] #[4]) (by kernel_rfl),
  Lib.run_overlaps_apart w 96 4 109 underlying96 4 (fun w=>by simp[sizeOf,typeInfo,m,i]) ⟨d,0,none⟩ ⟨g,c,none⟩ 1 1 lb j f 109 109 _ _ (jdb h) (jdb l) k (h.frozen 0) (h.frozen _)]
 rfl
theorem ja4(lo g n cap i y:Nat)(xs s:List Value)(w:World)(p:w.ownsRow lo 109 4 (sl g n cap) n xs)(C:∀u∈xs,u.oneCell'=true)(hi:i<n)(hn:n<=1000000)(J:n+1<=cap)(Z:s.length=4)(K:ja w y 109 s.toArray)(W:y≠g)(am:∀u∈s,u.oneCell'=true):
  Calls prog 268 #[sl g n cap,.int .i64 (i:Nat),sl y 1 1] w fun e w'=>jmA lo (sl g n cap) n i xs s w e w':=by
 obtain⟨i0,U,aE,a7,aF⟩:=info_parts Jp;have o:=p.1
 obtain⟨k,aj,N,aB,ah,H,X⟩:∃k,lo<=g/\ja w g 109 k/\n<=cap/\cap<=maxLen/\k.size=cap*4/\k.toList.take (n*4)=xs:=by
  rcases p.2 with ⟨q,_⟩|⟨g',ar,k,q,a,b,c,d,e,f⟩
  ·cases q
  cases q;exact⟨k,a,b,c,d,e,f⟩
 have G:∀j,j<n*4->xs[j]?=k[j]?:=fun j m=>by rw[<- X,jpD,if_pos m];simp
 have Y:prog.underlying 96=some (.slice 109):=underlying96;obtain⟨h,l⟩:∃h,h=xs.drop (i*4):=⟨_,rfl⟩
 have I:h.length=(n-i)*4:=by rw[l,joX,o];omega
 have V:∀u∈h,u.oneCell'=true:=fun u Y=>C u (by rw[l]at Y;exact jpz Y);have A:∀j u,h[j]?=some u->k[i*4+j]?=some u:=fun j u m=>by have aA:=(List.getElem?_eq_some_iff.1 m).1;rw[l,jpq]at m;rw[<- G _ (by omega)];exact m
 have z:Hid (∀x E sc,(Builtin.copy_ #[96,96] x #[.slice (some ⟨g,(i+1)*4,none⟩) (n-i) E,.slice (some ⟨g,i*4,none⟩) (n+1-i) sc]).run prog w.drew=.ok (goInt ((n-i:Nat):Int)) (w.drew.setCells g ((i+1)*4) h)):=fun x E sc =>
  vh w.drew _ _ x 109 i0 g ((i+1)*4) (n-i) E ⟨g,i*4,none⟩ (n+1-i) sc (n-i) h Y U (by show min (n+1-i) (n-i)=n-i;omega) (by rw[a7,I])
   (fun j u m=>by rw[Addr.add_lit];exact(N.cell _).trans (A j u m))
   (fun j m=>by show(w.cell? _).isSome=true;rw[N.cell,jpu (by omega)];rfl) (fun j m=>N.frozen _) V
 obtain⟨t,v⟩:∃t,t=w.drew.setCells g ((i+1)*4) h:=⟨_,rfl⟩
 have C1:ja t g 109 (Wp k ((i+1)*4) h):=by rw[v];exact ja.lay h _ (show ja w.drew g _ k from N)
 have D:(Wp k ((i+1)*4) h).size=cap*4:=by rw[qL,H]
 have O1:jH (· = g) w t:=by rw[v];exact xt (S:=(· = g)) (b:=g) (.inl rfl) _ _ (jH.refl _ w).drew
 have V1:ja t y 109 s.toArray:=K.only O1 W;have R:Hid (∀x E,(Builtin.copy_ #[96,96] x #[.slice (some ⟨g,i*4,none⟩) (n+1-i) E,.slice (some ⟨y,0,none⟩) 1 1]).run prog t=.ok (goInt 1) (t.setCells g (i*4) s)):=fun x E =>
  vh t _ _ x 109 i0 g (i*4) (n+1-i) E ⟨y,0,none⟩ 1 1 1 s Y U (by show min 1 (n+1-i)=1;omega) (by rw[a7,Z])
   (fun j u m=>by
    have ea:(⟨y,0,none⟩:Addr).add j=⟨y,j,none⟩:=by unfold Addr.add;split<;>simp_all
    rw[ea,V1.cell j];simpa using m)
   (fun j m=>by rw[C1.cell,jpu (by omega)];rfl) (fun j m=>C1.frozen _) am
 have OV:=joI (fun lb cb aq=>jcb w y g aq lb cb k s.toArray W K N (by omega));rw[<- v]at z;have L:=joI o
 have af:=joI l;have a8:=joI G
 have O:=joI I;have aa:=joI C1
 have ag:=joI O1;have ae:=joI H
 have P:=joI D;clear A V I l G X N C1 p C v o V1 K H D O1;unfold sl;unfold maxLen at ah;have aD:IntKind.i64.wrap ((i:Int)+1)=(i:Int)+1:=jph _ (by omega)
 have au:(0:Int)<=(i:Int)+1:=by omega
 have ay:i<=n:=by omega
 have aC:((i:Int)+1).toNat=i+1:=by omega
 have av:¬(cap=i+1):=by omega
 have aw:(i:Int)<=(n:Int)+1:=by omega
 have ax:¬(cap=i):=by omega
 have ak:=OV.out;go_enter func268,ntmps268;go_wp2_with (simp only[ak]);go_region_law (refine step_copy_runI rfl (.tmp 73) (.tmp 76) 96 96 rfl (.slice (some ⟨g,(i+1)*4,none⟩) (n-i) (cap-(i+1))) (.slice (some ⟨g,i*4,none⟩) (n+1-i) (cap-i)) (by simp[Act.eval,Act.put]) (by simp[Act.eval,Act.put]) (z.out _ _ _) ?_);have hq:=fun x=>R.out x (cap-i)
 go_wp2_with fail;go_ret;obtain⟨W2,Q⟩:∃W2,W2=t.setCells g (i*4) s:=⟨_,rfl⟩
 have C2:ja W2 g 109 (Wp (Wp k ((i+1)*4) h) (i*4) s):=by rw[Q];exact ja.lay _ _ aa.out
 refine⟨.slice (some ⟨g,0,none⟩) (n+1) cap,rfl,?_,?_,.inl rfl⟩
 ·rw[<- Q];have ai:(xs.take (i*4)++(s++xs.drop (i*4))).length=(n+1)*4:=by rw[joK,joK,joS,joX,L.out,Z];omega
  refine⟨ai,.inr ⟨g,cap,_,rfl,aj,C2,J,by unfold maxLen;omega,by rw[qL,P.out],?_⟩⟩;apply jqI;intro j;rw[jpD];split
  ·rename_i m;rw[jqF,Jn _ _ _ _ (by rw[P.out,Z];omega),Z];split
   ·rename_i h2;rw[jo7 (by rw[joS,L.out];omega),joS,L.out,jpf (by omega)];congr 1;omega
   rename_i h2;rw[Jn _ _ _ _ (by rw[O.out,ae.out];omega),O.out];split
   ·rename_i h3;rw[jo7 (by rw[joS,L.out];omega),joS,L.out,jo7 (by omega),Z,af.out,jpq,jpq];congr 1;omega
   rename_i h3;rw[jpf (by rw[joS,L.out];omega),jpD,if_pos (by omega),a8.out j (by omega)]
  rename_i m;rw[jpe (by omega)]
 refine(xt (S:=(· = g)) (b:=g) (.inl rfl) _ _ ag.out).mono (fun r _ e => ?_);rw[e];rfl
theorem xk(b:Nat):∀(c:List Value) (o:Nat) (W a:World),W.heap=a.heap->(W.setCells b o c).heap=(a.setCells b o c).heap
 | [],_,_,_,h=>h
 | v::r,o,W,a,h=>xk b r (o+1) (W.setCell ⟨b,o,none⟩ v) (a.setCell ⟨b,o,none⟩ v) (by unfold World.setCell;simp only[h])
theorem UY(b:Nat):∀(a:List Value) (o:Nat) (W:World),(W.setCells b o a).os=W.os
 | [],_,_=>rfl
 | v::r,o,W=>(UY b r (o+1) (W.setCell ⟨b,o,none⟩ v)).trans rfl
theorem Qx(b:Nat):∀(a:List Value) (o:Nat) (W:World),(W.setCells b o a).tape=W.tape
 | [],_,_=>rfl
 | v::r,o,W=>(Qx b r (o+1) (W.setCell ⟨b,o,none⟩ v)).trans rfl
theorem Ji(b:Nat):∀(a:List Value) (o:Nat) (W:World),(W.setCells b o a).output=W.output
 | [],_,_=>rfl
 | v::r,o,W=>(Ji b r (o+1) (W.setCell ⟨b,o,none⟩ v)).trans rfl
theorem vC(Z:Array Value)(k:Nat):(Builtin.zeroCells Z k).size=k*Z.size:=by simp[Builtin.zeroCells]
theorem jcj(lo g n cap i I:Nat)(xs t:List Value)(w:World)(C:w.ownsRow lo 109 4 (sl g n cap) n xs)(N:∀u∈xs,u.oneCell'=true)(hi:i<n)(hn:n<=1000000)(aB:cap<n+1)(ag:lo<=w.heap.size)(hy:t.length=4)(ak:ja w I 109 t.toArray)(aD:∀u∈t,u.oneCell'=true):
  Calls prog 268 #[sl g n cap,.int .i64 (i:Nat),sl I 1 1] w fun e w'=>jmA lo (sl g n cap) n i xs t w e w':=by
 obtain⟨i0,R,aE,V,am⟩:=info_parts Jp;have l:=C.1
 obtain⟨o,aP,hg,aO,aw,ax,aj⟩:∃o,lo<=g/\ja w g 109 o/\n<=cap/\cap<=maxLen/\o.size=cap*4/\o.toList.take (n*4)=xs:=by
  rcases C.2 with ⟨q,_⟩|⟨g',aF,o,q,a,b,c,d,e,f⟩
  ·cases q
  cases q;exact⟨o,a,b,c,d,e,f⟩
 obtain rfl:cap=n:=by omega
 have Q:∀j,j<cap*4->xs[j]?=o[j]?:=fun j s=>by rw[<- aj,jpD,if_pos s];simp
 have X:prog.underlying 96=some (.slice 109):=underlying96;have aM:=hg.lt
 obtain⟨Z,hZ⟩:∃Z:Array Value,Z=(Value.agg #[.int .i64 0,.string ⟨#[]⟩,.slice none 0 0,.int .i64 0]).cells:=⟨_,rfl⟩
 have aa:Z.size=4:=by rw[hZ];rfl
 obtain⟨G,hG⟩:∃G,G=grownCap w (cap+1) cap 109:=⟨_,rfl⟩
 obtain⟨k,y⟩:∃k:Array Value,k=(xs.take (i*4)).toArray++Builtin.zeroCells Z (cap+1-i)++Builtin.zeroCells Z (G-(cap+1)):=⟨_,rfl⟩
 have av:cap+1<=G:=by rw[hG];exact grownCap_ge w _ _ _
 have aG:G<=9223372036854775807:=by have:=grownCap_le_maxLen w (cap+1) cap 109 (by unfold maxLen;omega);rw[<- hG]at this;unfold maxLen at this;omega
 have aC:Hid (∀z,(Builtin.append_ #[96,3] z #[.slice (some ⟨g,0,none⟩) i cap,.int .i64 ((cap:Int)+1-(i:Int))]).run prog w=.ok (.slice (some ⟨w.heap.size,0,none⟩) (cap+1) G) (w.drew.alloc (.cells k 109))):=fun z=>by
  have ai:(Builtin.firstCells i0.size i (.slice (some ⟨g,0,none⟩) i cap)).run prog w.drew=.ok (xs.take (i*4)).toArray w.drew :=
   run_firstCells_some w.drew i0.size i ⟨g,0,none⟩ i cap (xs.take (i*4)) (by rw[joS,l,V];omega) (fun j v s=>by
    have ea:(⟨g,0,none⟩:Addr).add j=⟨g,j,none⟩:=by unfold Addr.add;split<;>simp_all
    rw[jpD]at s;split at s
    ·rename_i h2;rw[ea];show w.cell? _=_
     rw[hg.cell,<- Q j (by omega)];exact s
    cases s)
  have h:=Lib.run_append_grow_zeros w 96 3 z 109 i0 _ .i64 .i64 X underlying3 R aE (some ⟨g,0,none⟩) i cap (xs.take (i*4)) ai (cap+1-i) (by omega) (by omega) (by omega) (by omega) (by rw[am];omega) (by rw[am,show i+(cap+1-i)=cap+1 by omega];exact growslice_fits (by omega) (by omega));rw[show i+(cap+1-i)=cap+1 by omega,<- hG,<- hZ,<- y]at h;rw[show(cap:Int)+1-(i:Int)=((cap+1-i:Nat):Int) by omega];exact h
 have P:k.size=G*4:=by rw[y,Array.size_append,Array.size_append,vC,vC,aa,jpN,joS,l];omega
 have K:∀j,j<i*4->k[j]?=xs[j]?:=fun j s=>by rw[y,Array.append_assoc,Array.getElem?_append_left (by rw[jpN,joS,l];omega),joQ,jpD,if_pos s]
 obtain⟨m,p⟩:∃m,m=xs.drop (i*4):=⟨_,rfl⟩
 have H:m.length=(cap-i)*4:=by rw[p,joX,l];omega
 have ah:∀u∈m,u.oneCell'=true:=fun u X=>N u (by rw[p]at X;exact jpz X);have L:∀j u,m[j]?=some u->o[i*4+j]?=some u:=fun j u s=>by have aN:=(List.getElem?_eq_some_iff.1 s).1;rw[p,jpq]at s;rw[<- Q _ (by omega)];exact s
 obtain⟨A,x⟩:∃A,A=w.drew.alloc (.cells k 109):=⟨_,rfl⟩
 have C1:ja A w.heap.size 109 k:=by rw[x];exact ja.new w.drew _ _
 have G1:ja A g 109 o:=by rw[x];exact(show ja w.drew g _ o from hg).alloc _
 have V1:ja A I 109 t.toArray:=by rw[x];exact(show ja w.drew I _ _ from ak).alloc _
 have ay:g≠w.heap.size:=by omega
 have ae:Hid (∀(W:World),W.heap=A.heap->∀z O,(Builtin.copy_ #[96,96] z #[.slice (some ⟨w.heap.size,i*4,none⟩) (cap+1-i) O,.slice (some ⟨I,0,none⟩) 1 1]).run prog W=.ok (goInt 1) (W.setCells w.heap.size (i*4) t)):=fun W hW z O =>
  have Y:ja W w.heap.size 109 k:=by show W.heap[_]?=_;rw[hW];exact C1
  have VW:ja W I 109 t.toArray:=by show W.heap[_]?=_;rw[hW];exact V1
  vh W _ _ z 109 i0 w.heap.size (i*4) (cap+1-i) O ⟨I,0,none⟩ 1 1 1 t X R (by show min 1 (cap+1-i)=1;omega) (by rw[V,hy])
   (fun j u s=>by
    have ea:(⟨I,0,none⟩:Addr).add j=⟨I,j,none⟩:=by unfold Addr.add;split<;>simp_all
    rw[ea,VW.cell j];simpa using s)
   (fun j s=>by rw[Y.cell,jpu (by omega)];rfl) (fun j s=>Y.frozen _) aD
 obtain⟨D,E⟩:∃D,D=A.setCells w.heap.size (i*4) t:=⟨_,rfl⟩
 have C2:ja D w.heap.size 109 (Wp k (i*4) t):=by rw[E];exact ja.lay t _ C1
 have O2:jH (· = w.heap.size) A D:=by rw[E];exact xt (S:=(· = w.heap.size)) (b:=w.heap.size) (.inl rfl) _ _ (jH.refl _ _)
 have G2:ja D g 109 o:=G1.only O2 ay;have U:(Wp k (i*4) t).size=G*4:=by rw[qL,P]
 have af:Hid (∀(W:World),W.heap=D.heap->∀z O sc,(Builtin.copy_ #[96,96] z #[.slice (some ⟨w.heap.size,(i+1)*4,none⟩) (cap-i) O,.slice (some ⟨g,i*4,none⟩) (cap-i) sc]).run prog W=.ok (goInt ((cap-i:Nat):Int)) (W.setCells w.heap.size ((i+1)*4) m)):=fun W hW z O sc =>
  have Y:ja W w.heap.size 109 (Wp k (i*4) t):=by show W.heap[_]?=_;rw[hW];exact C2
  have GW:ja W g 109 o:=by show W.heap[_]?=_;rw[hW];exact G2
  vh W _ _ z 109 i0 w.heap.size ((i+1)*4) (cap-i) O ⟨g,i*4,none⟩ (cap-i) sc (cap-i) m X R (by show min (cap-i) (cap-i)=cap-i;omega) (by rw[V,H])
   (fun j u s=>by rw[Addr.add_lit];exact(GW.cell _).trans (L j u s))
   (fun j s=>by rw[Y.cell,jpu (by omega)];rfl) (fun j s=>Y.frozen _) ah
 have aq:Hid (∀(J:World),J.os=w.os->J.tape=w.tape->J.output=w.output->J.heap=(D.setCells w.heap.size ((i+1)*4) m).heap->jmA lo (sl g cap cap) cap i xs t w (.returned (.slice (some ⟨w.heap.size,0,none⟩) (cap+1) G)) J):=by
  intro J e1 e2 e3 e4;have C3:ja J w.heap.size 109 (Wp (Wp k (i*4) t) ((i+1)*4) m):=by show J.heap[_]?=_;rw[e4];exact ja.lay m _ C2
  have O3:jH (· = w.heap.size) A (D.setCells w.heap.size ((i+1)*4) m):=xt (S:=(· = w.heap.size)) (b:=w.heap.size) (.inl rfl) _ _ O2;refine⟨_,rfl,?_,⟨e1,e2,e3,?_,?_⟩,.inr rfl⟩
  ·have aA:(xs.take (i*4)++(t++xs.drop (i*4))).length=(cap+1)*4:=by rw[joK,joK,joS,joX,l,hy];omega
   refine⟨aA,.inr ⟨w.heap.size,G,_,rfl,ag,C3,av,by unfold maxLen;omega,by rw[qL,U],?_⟩⟩;apply jqI;intro j;rw[jpD];split
   ·rename_i s;rw[jqF,Jn _ _ _ _ (by rw[U,H];omega),H];split
    ·rename_i h2;rw[jo7 (by rw[joS,l];omega),joS,l,jo7 (by omega),hy,p,jpq,jpq];congr 1;omega
    rename_i h2;rw[Jn _ _ _ _ (by rw[P,hy];omega),hy];split
    ·rename_i h3;rw[jo7 (by rw[joS,l];omega),joS,l,jpf (by omega)];congr 1;omega
    rename_i h3;rw[jpf (by rw[joS,l];omega),jpD,if_pos (by omega),K j (by omega)]
   rename_i s;rw[jpe (by omega)]
  ·have:=O3.size;rw[e4];have h1:A.heap.size=w.heap.size+1:=by rw[x];show(w.drew.alloc _).heap.size=_;rw[joZ];rfl
   omega
  intro r hr _;have h1:A.heap.size=w.heap.size+1:=by rw[x];show(w.drew.alloc _).heap.size=_;rw[joZ];rfl
  rw[e4,O3.same r (by omega) (by omega),x];exact jqz w.drew _ r hr
 have ar:=joI x;have au:=joI E
 clear L ah H p Q aj hg C1 C N x l V1 ak ax G1 C2 O2 G2 U P K y hZ aa hG E;unfold sl;unfold maxLen at aw;have aS:IntKind.i64.wrap ((i:Int)+1)=(i:Int)+1:=jph _ (by omega)
 have aJ:(0:Int)<=(i:Int)+1:=by omega
 have aR:((i:Int)+1).toNat=i+1:=by omega
 have aK:(i:Int)<=(cap:Int):=by omega
 have aI:¬(G=i):=by omega
 have aH:¬(G=i+1):=by omega
 have aL:¬(cap=i):=by omega
 go_enter func268,ntmps268;have a7:((w.alloc (.cells k 109)).drew).heap=A.heap:=by rw[ar.out];rfl
 have aQ:=fun z=>ae.out _ a7 z (G-i);have a8:(((w.alloc (.cells k 109)).drew.setCells w.heap.size (i*4) t).drew).heap=D.heap:=by rw[au.out];exact xk _ _ _ _ _ a7
 go_wp2_with (at_builtin;refine Lib.wpList_append_run _ rfl _ _ _ _ rfl _ _ rfl rfl _ _ (aC.out _) ?_);go_region_law (refine step_copy_runI rfl (.tmp 50) (.tmp 53) 96 96 rfl (.slice (some ⟨w.heap.size,(i+1)*4,none⟩) (cap-i) (G-(i+1))) (.slice (some ⟨g,i*4,none⟩) (cap-i) (cap-i)) (by simp[Act.eval,Act.put]) (by simp[Act.eval,Act.put]) (af.out _ a8 3 _ _) ?_);go_wp2_with fail;go_ret;exact aq.out _ (by rw[UY];show(((w.alloc (.cells k 109)).drew.setCells w.heap.size (i*4) t)).os=_;rw[UY];rfl) (by rw[Qx];show(((w.alloc (.cells k 109)).drew.setCells w.heap.size (i*4) t)).tape=_;rw[Qx];rfl) (by rw[Ji];show(((w.alloc (.cells k 109)).drew.setCells w.heap.size (i*4) t)).output=_;rw[Ji];rfl) (xk _ _ _ _ _ a8)
theorem jck(lo:Nat)(v:Value)(n i l:Nat)(xs k:List Value)(w:World)(a:w.ownsRow lo 109 4 v n xs)(c:∀u∈xs,u.oneCell'=true)(s:i<=n)(o:n<=1000000)(b:lo<=w.heap.size)(q:k.length=4)(f:ja w l 109 k.toArray)(p:v.ownBlock≠some l)(j:∀u∈k,u.oneCell'=true):
  Calls prog 268 #[v,.int .i64 (i:Nat),sl l 1 1] w fun e r=>jmA lo v n i xs k w e r:=by
 rcases jpc i n with h|h
 ·obtain⟨g,d,rfl⟩:=jpO a (by omega);rcases jpc d (n+1) with m|m
  ·exact jcj lo g n d i l xs k w a c h o m b q f j
  exact ja4 lo g n d i l xs k w a c h o m q f (fun e=>p (by rw[e];rfl)) j
 obtain rfl:i=n:=by omega
 exact jeS lo v i l xs k w a o b q f j
end
section
attribute [local go_sem] joY qN
theorem vP.only{w w':World}{v:Value}{fs:List Fld}{S:Nat->Prop}(h:vP w v fs)(g:jH S w w')(r:fs≠[]->∀b,v.ownBlock=some b->¬S b):vP w' v fs:=by
 obtain⟨A,f,n,k,q⟩:=h;refine⟨A,f,n,k,fun i s j => ?_⟩;obtain⟨b,c,l,d,o,p⟩:=q i s j;have m:w'.heap[b]?=w.heap[b]?:=g.same b d (r (fun e=>by rw[e]at j;simp at j) b (by rw[n,l];rfl))
 exact⟨b,c,l,jo4 d g.size,(jpX (w:=w) (a:=⟨b,c+i*2,none⟩) m).trans o,(jpX (w:=w) (a:=⟨b,c+i*2+1,none⟩) m).trans p⟩
theorem ZC.only{w w':World}{v:Value}{fs:List Fld}{S:Nat->Prop}(h:ZC w v fs)(g:jH S w w')(a:fs≠[]->∀b,v.ownBlock=some b->¬S b):ZC w' v fs:=⟨h.1.only g a,h.2⟩
theorem vP.lt{w:World}{v:Value}{fs:List Fld}(h:vP w v fs)(c:fs≠[]):∀b,v.ownBlock=some b->b<w.heap.size:=by
 obtain⟨A,e,k,j,i⟩:=h;intro b d;cases fs with
 | nil=>exact absurd rfl c
 | cons f r =>
 obtain⟨m,l,g,a,_⟩:=i 0 f rfl;rw[k,g]at d;cases d;exact a
structure LA(w:World)(lb:Nat)(ev:Value)(ps:List Pr)(nx:Int):Prop where
 lr:LR w lb ev ps nx
 apart:∀p∈ps,p.1.1.fields≠[]->∀b,p.2.ownBlock=some b->b≠lb/\ev.ownBlock≠some b
theorem LR.row_ne{w:World}{lb:Nat}{a:Value}{i:List Pr}{f:Int}(h:LR w lb a i f):a.ownBlock≠some lb:=by
 intro e;rcases h.ents.row.2 with ⟨q,_⟩|⟨g,b,c,q,_,d,_⟩
 ·rw[q]at e;cases e
 rw[q]at e;have:g=lb:=joN e
 subst this;have:=d.symm.trans h.head
 simp at this
theorem LA.below{w w':World}{lb:Nat}{a:Value}{c:List Pr}{b:Int}{n:Nat}(h:LA w lb a c b)(d:Below n w w')(e:w.heap.size<=n):LA w' lb a c b:=⟨h.lr.below d e,h.apart⟩
def jls(it:It)(nx:Int):Int:=if it.kind=3 then nx else 0
def jlv(it:It)(nx:Int):Int:=if it.kind=3 then nx+1 else nx
theorem jgg{c:Func}{p:Tmp}(h:c.results=#[.cell p 109])(tmps:Array Value)(w:World)(b:Nat)(a:Array Value)(e:tmps.getD p undef=.pointer (some ⟨b,0,none⟩))
  (d:ja w b 109 a) (f:a.size=4):(results c tmps).run prog w=.ok (.agg a) w:=by
 have L:=run_loadVar_row (P:=prog) w b 109 109 a (0,0) _ d underlying109 rfl (by rw[f];kernel_rfl);rw[vS h,e];show(loadVar _ _).run _ _=_
 exact L
theorem jol(d e f c3 a b c v3:Value):((((#[d,e,f,c3].setIfInBounds 0 a).setIfInBounds 1 b).setIfInBounds 2 c).setIfInBounds 3 v3)=#[a,b,c,v3]:=by simp[List.setIfInBounds_toArray,List.set]
theorem WG(it:It)(c:Option Addr)(f d lb:Nat)(u:Value)(b:Int)(w:World)(j:ja w lb 98 #[u,.int .i64 (b-1)])(L : -1000000<=b/\b<=1000000):
  Calls prog 132 #[ptr lb,.agg #[.int .i64 it.kind,.string (B it.raw),.slice c f d]] w fun e y=>e=.returned (.agg #[.int .i64 it.kind,.string (B it.raw),.slice c f d,.int .i64 (jls it b)])/\ja y lb 98 #[u,.int .i64 (jlv it b-1)]/\jH (· = lb) w y:=by
 obtain⟨k,v,J⟩:=it;unfold jls jlv;dsimp only;generalize B v=a at *
 have D:=j.lt;have G:=joI ((ja.new w 107 #[.int .i64 k,.string a,.slice c f d]).alloc (.cells #[.int .i64 0,.string ⟨#[]⟩,.slice none 0 0,.int .i64 0] 109))
 have E:=joI (ja.new (w.alloc (.cells #[.int .i64 k,.string a,.slice c f d] 107)) 109 #[.int .i64 0,.string ⟨#[]⟩,.slice none 0 0,.int .i64 0]);have H:=joI ((j.alloc (.cells #[.int .i64 k,.string a,.slice c f d] 107)).alloc (.cells #[.int .i64 0,.string ⟨#[]⟩,.slice none 0 0,.int .i64 0] 109))
 have I:=joI ((((jH.refl (· = lb) w).alloc (.cells #[.int .i64 k,.string a,.slice c f d] 107))).alloc (.cells #[.int .i64 0,.string ⟨#[]⟩,.slice none 0 0,.int .i64 0] 109));by_cases o:k=3
 ·subst o;rw[if_pos rfl,if_pos rfl];have z:w.cell? ⟨lb,1,none⟩=some (.int .i64 (b-1)):=j.cell 1
  have A:=j.frozen 1;have N:IntKind.i64.wrap (b-1+1)=b:=by rw[show b-1+1=b by omega];exact jph _ (by omega)
  have g:b-1+1=b:=by omega
  have l:=joI j;clear j;unfold ptr;go_enter func132,ntmps132;go_wp2_with fail;obtain⟨h,g⟩:∃h,h=((w.setCell ⟨lb,1,none⟩ (.int .i64 b)).alloc (.cells #[.int .i64 3,.string a,.slice c f d] 107)).alloc (.cells #[.int .i64 0,.string ⟨#[]⟩,.slice none 0 0,.int .i64 0] 109):=⟨_,rfl⟩
  have q:ja h lb 98 #[u,.int .i64 b]:=by
   have:=(((l.out.set 1 (.int .i64 b)).alloc (.cells #[.int .i64 3,.string a,.slice c f d] 107)).alloc (.cells #[.int .i64 0,.string ⟨#[]⟩,.slice none 0 0,.int .i64 0] 109))
   rw[g];simpa [List.setIfInBounds_toArray,List.set]using this
  have n:ja h w.heap.size 107 #[.int .i64 3,.string a,.slice c f d]:=by have:=(ja.new (w.setCell ⟨lb,1,none⟩ (.int .i64 b)) 107 #[.int .i64 3,.string a,.slice c f d]).alloc (.cells #[.int .i64 0,.string ⟨#[]⟩,.slice none 0 0,.int .i64 0] 109);rw[g];simpa [World.setCell]using this
  have i:ja h (w.heap.size+1) 109 #[.int .i64 0,.string ⟨#[]⟩,.slice none 0 0,.int .i64 0]:=by have:=ja.new ((w.setCell ⟨lb,1,none⟩ (.int .i64 b)).alloc (.cells #[.int .i64 3,.string a,.slice c f d] 107)) 109 #[.int .i64 0,.string ⟨#[]⟩,.slice none 0 0,.int .i64 0];rw[g];rw[joZ]at this;simpa [World.setCell]using this
  have x:jH (· = lb) w h:=by rw[g];exact(((jH.refl (· = lb) w).cellS 1 _).alloc _).alloc _
  rw[<- g];clear g z A;have K:h.cell? ⟨lb,1,none⟩=some (.int .i64 b):=q.cell 1
  have O:h.cell? ⟨w.heap.size,0,none⟩=some (.int .i64 3):=n.cell 0;have P:h.cell? ⟨w.heap.size,1,none⟩=some (.string a):=n.cell 1
  have Q:h.cell? ⟨w.heap.size,2,none⟩=some (.slice c f d):=n.cell 2;have R:h.cell? ⟨w.heap.size+1,0,none⟩=some (.int .i64 0):=i.cell 0
  have U:h.cell? ⟨w.heap.size+1,1,none⟩=some (.string ⟨#[]⟩):=i.cell 1;have V:h.cell? ⟨w.heap.size+1,2,none⟩=some (.slice none 0 0):=i.cell 2
  have W:h.cell? ⟨w.heap.size+1,3,none⟩=some (.int .i64 0):=i.cell 3;have X:=i.frozen 0
  have Y:=i.frozen 1;have Z:=i.frozen 2
  have s3:=i.frozen 3;have r:=joI q
  have s:=joI i;have t:=joI x
  clear q n i x;go_region_law (skip)
  all_goals go_wp2_with fail
  all_goals
   have m:=(((s.out.drew.set 0 (.int .i64 3)).set 1 (.string a)).set 2 (.slice c f d)).set 3 (.int .i64 b);rw[jol]at m;refine bodyPost_ret (jgg rfl _ _ (w.heap.size+1) _ rfl m rfl) rfl ?_;refine⟨rfl,?_,?_⟩
   ·have:=((((r.out.drew.other (p:=⟨w.heap.size+1,0,none⟩) (by show lb≠w.heap.size+1;omega) (.int .i64 3)).other (p:=⟨w.heap.size+1,1,none⟩) (by show lb≠w.heap.size+1;omega) (.string a)).other (p:=⟨w.heap.size+1,2,none⟩) (by show lb≠w.heap.size+1;omega) (.slice c f d)).other (p:=⟨w.heap.size+1,3,none⟩) (by show lb≠w.heap.size+1;omega) (.int .i64 b))
    rw[show b+1-1=b by omega];exact this
   exact((((t.out.drew.setCell (p:=⟨w.heap.size+1,0,none⟩) (.inr (by show w.heap.size<=w.heap.size+1;omega)) _).setCell (p:=⟨w.heap.size+1,1,none⟩) (.inr (by show w.heap.size<=w.heap.size+1;omega)) _).setCell (p:=⟨w.heap.size+1,2,none⟩) (.inr (by show w.heap.size<=w.heap.size+1;omega)) _).setCell (p:=⟨w.heap.size+1,3,none⟩) (.inr (by show w.heap.size<=w.heap.size+1;omega)) _)
 rw[if_neg o,if_neg o];have C:((k:Int)==3)=false:=beq_eq_false_iff_ne.2 o
 have l:=joI j;clear j;unfold ptr;go_enter func132,ntmps132;go_wp2_with fail;have m:=ja.new (w.alloc (.cells #[.int .i64 k,.string a,.slice c f d] 107)) 109 #[.int .i64 k,.string a,.slice c f d,.int .i64 0]
 rw[joZ]at m;refine bodyPost_ret (jgg rfl _ _ (w.heap.size+1) _ rfl m rfl) rfl ?_;exact⟨rfl,(l.out.alloc _).alloc _,((jH.refl (· = lb) w).alloc _).alloc _⟩
end
theorem jgp{w w':World}{t:List UInt8}{e:Ending}{a n:Nat}(h:Qq w t e w')(d:jD t=.error (a,n)):Below w.heap.size w w'/\∃v,e=.returned (.tuple #[.slice none 0 0,v])/\jB w.heap.size w' v a n:=by obtain⟨c,b⟩:=h;rw[d]at b;exact⟨c,b⟩
theorem jdr{w w':World}{t:List UInt8}{e:Ending}{its:List It}(h:Qq w t e w')(c:jD t=.ok its):Below w.heap.size w w'/\∃v,e=.returned (.tuple #[v,.nilIface])/\Its w' v its/\jkR w' v its:=by obtain⟨b,a⟩:=h;rw[c]at a;exact⟨b,a⟩
theorem Its.empty(w:World)(A:Option Addr)(cap:Nat):Its w (.slice A 0 cap) []:=⟨A,cap,rfl,joT _,fun i a h=>by simp at h⟩
section
attribute [local go_sem] joY qN
def OfR(w:World)(t:List UInt8)(e:Ending)(w':World):Prop :=
 Below w.heap.size w w'/\match jD t with
  | .error (a,n)=>∃u,e=.returned (.tuple #[.pointer none,u])/\jB w.heap.size w' u a n
  | .ok its=>∃lb ev ps,e=.returned (.tuple #[ptr lb,.nilIface])/\w.heap.size<=lb/\(∀b,ev.ownBlock=some b->w.heap.size<=b)/\LA w' lb ev ps (zF its).next/\ps.map Prod.fst=(zF its).es
theorem OfR.no{w w':World}{t:List UInt8}{e:Ending}{a n:Nat}(h:OfR w t e w')(d:jD t=.error (a,n)):Below w.heap.size w w'/\∃u,e=.returned (.tuple #[.pointer none,u])/\jB w.heap.size w' u a n:=by obtain⟨c,b⟩:=h;rw[d]at b;exact⟨c,b⟩
theorem OfR.yes{w w':World}{t:List UInt8}{e:Ending}{its:List It}(h:OfR w t e w')(i:jD t=.ok its):Below w.heap.size w w'/\∃a c f,e=.returned (.tuple #[ptr a,.nilIface])/\w.heap.size<=a/\(∀b,c.ownBlock=some b->w.heap.size<=b)/\LA w' a c f (zF its).next/\f.map Prod.fst=(zF its).es:=by obtain⟨g,d⟩:=h;rw[i]at d;exact⟨g,d⟩
structure jd8(w wr:World)(lb:Nat)(ev:Value)(ps:List Pr)(nx:Int):Prop where
 head:ja wr lb 98 #[ev,.int .i64 (nx-1)]
 row:wr.ownsRow w.heap.size 109 4 ev ps.length (jl ps)
 each:∀p∈ps,ZC w p.2 p.1.1.fields
 below:Below w.heap.size w wr
 lb:w.heap.size<=lb
theorem jd8.la{w wr:World}{lb:Nat}{d:Value}{g:List Pr}{f:Int}(h:jd8 w wr lb d g f):LA wr lb d g f :=
 ⟨⟨h.head,⟨jA h.row (joT _),fun p c=>(h.each p c).below h.below (joJ _)⟩⟩,fun p c a b i=>by
  have j:=(h.each p c).1.lt a b i;refine⟨by have:=h.lb;omega,fun e => ?_⟩;have:=(h.row.lt b e).1
  omega⟩
theorem jd8.ne{w wr:World}{lb:Nat}{a:Value}{c:List Pr}{b:Int}(h:jd8 w wr lb a c b):a.ownBlock≠some lb:=h.la.lr.row_ne
theorem jd8.alloc{w wr:World}{lb:Nat}{a:Value}{c:List Pr}{b:Int}(h:jd8 w wr lb a c b)(o:Obj):jd8 w (wr.alloc o) lb a c b :=
 ⟨h.head.alloc o,h.row.alloc o,h.each,h.below.alloc h.below.size o,h.lb⟩
theorem jd8.snoc{w v f c:World}{lb:Nat}{j b:Value}{d:List Pr}{I nx':Int}{p:Pr}(h:jd8 w v lb j d I)(A:ja f lb 98 #[j,.int .i64 (nx'-1)])(u:jH (· = lb) v f)(D:ZC w p.2 p.1.1.fields)
  (t:c.ownsRow 0 109 4 b (d.length+1) (jl d++zd p)) (C:ja c lb 98 #[j,.int .i64 (nx'-1)]) (a:b.ownBlock=j.ownBlock\/∃k,b.ownBlock=some k/\f.heap.size<=k/\k<c.heap.size) (J:jH (fun r=>some r=j.ownBlock) f c) :
  jd8 w (c.setCell ⟨lb,0,none⟩ b) lb b (d++[p]) nx':=by
 have s:b.ownBlock≠some lb:=by
  intro e;rcases a with a|⟨k,a,z,_⟩
  ·rw[a]at e;exact h.ne e
  rw[a]at e;have:k=lb:=joN e
  have:=A.lt;omega
 have G:=h.below.size;have H:=u.size
 have m:c.ownsRow w.heap.size 109 4 b (d.length+1) (jl d++zd p):=by
  rcases t.2 with ⟨q,_⟩|⟨o,g,i,q,_,n⟩
  ·exact⟨t.1,.inl ⟨q,by omega⟩⟩
  refine⟨t.1,.inr ⟨o,g,i,q,?_,n⟩⟩;rcases a with a|⟨k,a,z,_⟩
  ·exact(h.row.lt o (by rw[<- a,q];rfl)).1
  rw[q]at a;have:o=k:=joN a
  omega
 refine⟨?_,?_,?_,?_,h.lb⟩
 ·have:=C.set 0 b;simpa [List.setIfInBounds_toArray,List.set]using this
 ·rw[joK,vX];exact js m s _
 ·intro q l;rcases List.mem_append.1 l with l|l
  ·exact h.each q l
  rw[List.mem_singleton.1 l];exact D
 have x:Below w.heap.size w f:=h.below.trans (u.to_below G (fun r E e=>by have:=h.lb;omega));have y:Below w.heap.size f c:=J.to_below (by omega) (fun r E e=>by
  have:=(h.row.lt r e.symm).1;omega)
 exact(x.trans y).setCell (p:=⟨lb,0,none⟩) h.lb _
theorem jmV(s:ByteArray)(hs:s.size<=60000)(w:World):Calls prog 69 #[.string s] w fun e w'=>OfR w s.data.toList e w':=by
 obtain⟨i0,hi,ay,aA,aB⟩:=info_parts Jp;have PA:=joI (Xa s hs w)
 cases U:jD s.data.toList with
 | error an =>
  obtain⟨a,n⟩:=an;unfold OfR;rw[U];dsimp only;have HP:=joI U
  clear U;go_enter func69,ntmps69;go_wp2_with fail;refine PA.out.mono ?_;rintro e m H;obtain⟨Y,u,rfl,hf⟩:=jgp H HP.out;obtain⟨q,hq,rfl,aJ⟩:=id hf;go_wp2_with fail;go_ret2;exact⟨Y,_,rfl,hf⟩
 | ok g =>
 unfold OfR;rw[U];dsimp only;have HP:=joI U
 have aE:g.length<=60000:=by have h1:=(ye U).2.1;rw[<- jo2]at h1;omega
 clear U;go_enter func69,ntmps69;go_wp2_with fail;refine PA.out.mono ?_;rintro e m H;obtain⟨Y,v,rfl,t,K⟩:=jdr H HP.out;have hz:=Y.size
 obtain⟨A,aF,rfl,aI,a7⟩:=id t;have HI:=joI t
 have HN:=joI K;have HC:=joI a7
 have B1:=joI Y;clear t K a7 Y H PA;go_wp2_with fail;have W:jd8 m (m.alloc (.cells #[.slice none 0 0,.int .i64 0] 98)) m.heap.size (.slice none 0 0) [] 1 :=
  ⟨ja.new _ _ _,⟨rfl,.inl ⟨rfl,rfl⟩⟩,(fun p h=>by cases h),(joL _ _).alloc (joJ _) _,joJ _⟩
 go_loopw [21] (fun i wr=>∃(k:Nat) (ev:Value) (f:List Pr),k<=g.length/\i=.int .i64 k/\jd8 m wr m.heap.size ev f (jI 1 (g.take k))/\f.map Prod.fst=zT 1 (g.take k)) (fun i _=>g.length-(intOf i).toNat)
 case atStart=>exact⟨0,_,[],joT _,rfl,W,rfl⟩
 case round =>
 obtain⟨k,ev,f,hk,rfl,j,x⟩:=hrel;by_cases R:k<g.length
 ·obtain⟨d,Q⟩:∃d,g[k]?=some d:=⟨_,joM R⟩
  obtain⟨b,J,fv,e0,N,c0,c1,c2,O⟩:=HC.out k d Q;cases e0;obtain⟨D,E,rfl,_,_⟩:=id O;have ak:ZC m (.slice D d.fields.length E) d.fields:=⟨O,fun n c e=>by
   cases e;exact HN.out k b J _ _ _ _ rfl R c2⟩
  have L:=j.below;replace c0:=(L.cell (p:=⟨b,J+k*3,none⟩) N).trans c0;replace c1:=(L.cell (p:=⟨b,J+k*3+1,none⟩) N).trans c1;replace c2:=(L.cell (p:=⟨b,J+k*3+1+1,none⟩) N).trans c2;have ar:f.length=k:=by have:=congrArg List.length x;rw[jo8,JP,joS]at this;omega
  subst ar;have aw:=yW 1 (g.take f.length)
  rw[joS]at aw;have FS:=joI (Qa 1 (g.take f.length) d)
  have TK:=joI (show g.take (f.length+1)=g.take f.length++[d] by rw[jpd,Q];rfl);have ah:=joI j
  have ai:=joI x;obtain⟨z,C,rfl,aH⟩:=je j.row;generalize a8:jI 1 (g.take f.length)=I at *
  have av : -1000000<=I/\I<=1000000:=⟨by omega,by omega⟩
  clear j x Q O a8;go_wp2_with fail;obtain⟨r,y⟩:∃r,r=wr.alloc (.cells #[.int .i64 d.kind,.string (B d.raw),.slice D d.fields.length E] 107):=⟨_,rfl⟩
  have CI:ja r wr.heap.size 107 #[.int .i64 d.kind,.string (B d.raw),.slice D d.fields.length E]:=by rw[y];exact ja.new _ _ _
  have l:=joI (show jd8 m r m.heap.size (.slice z f.length C) f I by rw[y];exact ah.out.alloc _);have aK:r.heap.size=wr.heap.size+1:=by rw[y];simp
  rw[<- y];clear y c0 c1 c2;have g0:r.cell? ⟨m.heap.size,0,none⟩=some (.slice z f.length C):=l.out.head.cell 0
  have aL:r.cell? ⟨wr.heap.size,0,none⟩=some (.int .i64 d.kind):=CI.cell 0;have aM:r.cell? ⟨wr.heap.size,1,none⟩=some (.string (B d.raw)):=CI.cell 1
  have aN:r.cell? ⟨wr.heap.size,2,none⟩=some (.slice D d.fields.length E):=CI.cell 2;have EN:=joI (WG d D d.fields.length E m.heap.size (.slice z f.length C) I r.drew l.out.head.drew av)
  have HO:=joI (show r.drew.ownsRow 0 109 4 (.slice z f.length C) f.length (jl f) from jA l.out.row (joT _));have V:=joI l.out.ne
  clear CI;go_region_law (first
   | (go_simp;go_at_call 132;refine EN.out.mono ?_;rintro e w5 ⟨rfl,G,aa⟩;have aC:w5.cell? ⟨m.heap.size,0,none⟩=some (.slice z f.length C):=G.cell 0;have aD:∀o,(w5.alloc o).cell? ⟨m.heap.size,0,none⟩=some (.slice z f.length C):=fun o=>(G.alloc o).cell 0;have ae:=joI aa;have af:=joI (jG HO.out aa (fun b L e=>V.out (by rw[L];exact congrArg some e))))
   | (refine zb rfl (.tmp 29) (.tmp 33) 96 rfl 109 i0 _ 4 56 underlying96 hi ay aA aB rfl (by decide) (.slice z f.length C) f.length (jl f) (by simp[Act.eval]) (by exact af.out.alloc _) ⟨w5.heap.size,0,none⟩ 1 1 [.int .i64 d.kind,.string (B d.raw),.slice D d.fields.length E,.int .i64 (jls d I)] (by simp[Act.eval]) rfl (jp w5 109 [.int .i64 d.kind,.string (B d.raw),.slice D d.fields.length E,.int .i64 (jls d I)]) (by intro u hu;simp at hu;rcases hu with rfl | rfl | rfl | rfl<;>rfl) (by unfold maxLen;omega) (by omega) ?_;intro v' w' ho am aj;obtain⟨⟨g',Z,rfl⟩,P,aG,aq,ax⟩:=xN G af.out V.out ((joL _ w5).alloc (joJ _) _) ho am aj;have k0:w'.cell? ⟨m.heap.size,0,none⟩=some (.slice z f.length C):=P.cell 0;have aO:=P.frozen 0))
  all_goals go_wp2_with fail
  all_goals
   have X:=(show jd8 m r.drew m.heap.size (.slice z f.length C) f I from⟨l.out.head,l.out.row,l.out.each,l.out.below.drew,l.out.lb⟩).snoc (p:=((d,jls d I),.slice D d.fields.length E)) G ae.out ak ho P aq ax;go_roundw
   case rel =>
    refine⟨f.length+1,.slice (some ⟨g',0,none⟩) (f.length+1) Z,f++[((d,jls d I),.slice D d.fields.length E)],R,by go_num,?_,?_⟩
    ·rw[TK.out,FS.out.2];exact X
    rw[TK.out,FS.out.1,jpt,ai.out];rfl
   case measure=>simp[intOf];omega
 obtain rfl:k=g.length:=by omega
 rw[jpa]at j x;have au:=j.la
 have B2:=joI (B1.out.trans (j.below.mono hz));have ag:=j.row
 clear HC HI HN;go_wp2_with fail;go_ret2;exact⟨B2.out,_,ev,f,rfl,hz,fun b L=>jpg hz (ag.lt b L).1,au,x⟩
end
end Go.Proofs.YtbapfpekklcicaaGreatDoor
