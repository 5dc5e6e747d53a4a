/- Texts put together:UN,UO,UP,UQ. -/
import Derived.Test.YtbapfpekklcicaaGreatDoorBtx13
set_option linter.unusedVariables false
set_option maxRecDepth 100000
set_option maxHeartbeats 16000000
namespace Go.Proofs.YtbapfpekklcicaaGreatDoor
open Go.RowKit Go.Shelf Tryz
abbrev jqK:=@List.mem_or_eq_of_mem_set
abbrev jrp:=@List.length_set
section
attribute [local go_sem] joY qN
def vE(lo:Nat)(w:World)(u:Value)(a:Int)(n:Nat):Prop:=n<=11/\((u=Zc n/\a = -9)\/∃k:Nat,jB lo w u k n/\a=k/\n≠0)
theorem vE.of{lo:Nat}{w:World}{u:Value}{fs:List Fld}(h:JF lo w u fs):vE lo w u (vz fs) (qD fs):=by
 unfold JF at h;unfold vz;refine⟨Vf fs,?_⟩;split at h
 ·rename_i a;rw[if_pos a];exact .inl ⟨h,rfl⟩
 rename_i a;rw[if_neg a];have b:qD fs=foldN fs:=by unfold jkP at a;unfold qD;rw[if_neg (fun e=>a (.inl e)),if_neg (fun e=>a (.inr (.inl e)))]
 refine .inr ⟨_,by rw[b];exact h,rfl,fun e=>a (.inr (.inr (by omega)))⟩
theorem vE.none(lo:Nat)(w:World):vE lo w .nilIface (-9) 0:=⟨by decide,.inl ⟨rfl,rfl⟩⟩
theorem vE.err(lo:Nat)(w:World)(n:Nat)(h:n<=11):vE lo w (Zc n) (-9) n:=⟨h,.inl ⟨rfl,rfl⟩⟩
theorem jmW{lo:Nat}{w:World}{u:Value}{a:Int}{n:Nat}(h:vE lo w u a n):Calls prog 12 #[u] w fun e d=>e=.returned (.int .i64 (n:Nat))/\w=d:=by
 obtain⟨f,⟨rfl,rfl⟩|⟨k,c,rfl,b⟩⟩:=h
 ·exact jlr n (by omega) w
 exact jgx c b (by omega)
theorem jos{lo:Nat}{w:World}{u:Value}{a:Int}{n:Nat}(h:vE lo w u a n):Calls prog 13 #[u] w fun e d=>e=.returned (.int .i64 a)/\w=d:=by
 obtain⟨g,⟨rfl,rfl⟩|⟨k,b,rfl,f⟩⟩:=h
 ·rcases jp3 n with rfl|c
  ·rw[qN];exact jnx w
  rw[zf n c];exact jny _ w
 exact jkg b
theorem vE.below{lo:Nat}{w w':World}{u:Value}{a:Int}{n N:Nat}(h:vE lo w u a n)(d:Below N w w')(c:w.heap.size<=N):vE lo w' u a n:=by
 obtain⟨b,h|⟨k,e,h⟩⟩:=h
 ·exact⟨b,.inl h⟩
 exact⟨b,.inr ⟨k,e.below d c,h⟩⟩
def JJ(k:Option Nat)(l:LS)(fs:List Fld):Did :=
 match k with
 | none=>⟨l,-9,7,0⟩
 | some k=>if qD fs=0 then ⟨⟨Uh l.es k (zI fs),l.next⟩,-9,0,0⟩ else ⟨l,vz fs,qD fs,0⟩
def XK(k:Option Nat)(l:LS):Did :=
 match k with
 | none=>⟨l,-9,7,0⟩
 | some k=>⟨⟨jcI l.es k,l.next⟩,-9,0,0⟩
def yl(k:Option Nat)(full:Bool)(l:LS)(fs:List Fld):Did :=
 match k with
 | none=>⟨l,-9,7,0⟩
 | some k=>if qD fs=0 then (if full=true then ⟨l,-9,11,0⟩ else ⟨⟨jbO l.es k (zI fs,l.next),l.next+1⟩,-9,0,l.next⟩) else ⟨l,vz fs,qD fs,0⟩
theorem Vw{k:Nat}{l:LS}{fs:List Fld}(h:qD fs=0):JJ (some k) l fs=⟨⟨Uh l.es k (zI fs),l.next⟩,-9,0,0⟩:=if_pos h
theorem YM{k:Nat}{l:LS}{fs:List Fld}(h:qD fs≠0):JJ (some k) l fs=⟨l,vz fs,qD fs,0⟩:=if_neg h
theorem Wt{k:Nat}{a:Bool}{l:LS}{fs:List Fld}(h:qD fs≠0):yl (some k) a l fs=⟨l,vz fs,qD fs,0⟩:=if_neg h
theorem VK{k:Nat}{l:LS}{fs:List Fld}(h:qD fs=0):yl (some k) true l fs=⟨l,-9,11,0⟩:=by unfold yl;dsimp only;rw[if_pos h,if_pos rfl]
theorem Xr{k:Nat}{l:LS}{fs:List Fld}(h:qD fs=0):yl (some k) false l fs=⟨⟨jbO l.es k (zI fs,l.next),l.next+1⟩,-9,0,l.next⟩:=by unfold yl;dsimp only;rw[if_pos h,if_neg (by decide)]
theorem KQ(l:LS)(id:Int)(fs:List Fld):zy l id fs=JJ (vM l.es id) l fs:=rfl
theorem jbq(l:LS)(id:Int):qr l id=XK (vM l.es id) l:=rfl
theorem ja5(l:LS)(id:Int)(fs:List Fld):zo l id fs=yl (jha l.es id) (decide (400<=yS l.es)) l fs:=by
 unfold zo yl;cases jha l.es id with
 | none=>rfl
 | some k=>simp
theorem jl4(a:List Pr)(id:Int):xV a id=jjH (a.map Prod.fst) id:=by unfold xV jjH jnH jbX;rw[<- Yi (κ:=fun e:En=>e.1.kind) Prod.fst,List.find?_map,Option.map_map];rfl
structure WrR(w:World)(lb:Nat)(ev:Value)(ps:List Pr)(d:Did)(u:Value)(w':World)(ev':Value)(ps':List Pr):Prop where
 la:LA w' lb ev' ps' d.ls.next
 es:ps'.map Prod.fst=d.ls.es
 only:jH (fun r=>r=lb\/ev.ownBlock=some r) w w'
 blk:ev'.ownBlock=ev.ownBlock\/∃b,ev'.ownBlock=some b/\w.heap.size<=b
 err:vE w.heap.size w' u d.at_ d.bad
 mem:∀p∈ps',p∈ps\/∀b,p.2.ownBlock=some b->w.heap.size<=b
theorem jdc(a:List Pr)(k:Nat)(p:Pr)(it:It)(x:Value)(h:a[k]?=some p):(a.set k ((it,p.1.2),x)).map Prod.fst=Uh (a.map Prod.fst) k it:=by
 unfold Uh;apply jqI;intro j;rw[jpx,List.getElem?_set,jq1,jpx];by_cases b:k=j
 ·subst b;rw[if_pos rfl,h,if_pos (List.getElem?_eq_some_iff.1 h).1];simp
 rw[if_neg b];cases a[j]? with
 | none=>rfl
 | some y=>simp[b]
theorem jbl(a:List Pr)(k:Nat)(q:Pr)(h:k<a.length):jl (a.set k q)=(jl a).take (k*4)++(zd q++(jl a).drop ((k+1)*4)):=by rw[List.set_eq_take_append_cons_drop,if_pos h,yn,show jl (q::a.drop (k+1))=zd q++jl (a.drop (k+1)) from rfl,vW,vY]
theorem Qb{w:World}{v:Value}{a:List Pr}(h:Vn w v a):∀u∈jl a,u.oneCell'=true :=
 jbm fun p b=>by obtain⟨A,c,e⟩:=(h.each p b).form;rw[e];rfl
structure jbN(fs:List Fld):Prop where
 len:fs.length<=1000
 each:∀f∈fs,f.1.length<=100000/\f.2.length<=100000
theorem jcE(lb:Nat)(x:Value)(a:List Pr)(C id:Int)(w:World)(h:LA w lb x a C)(s:a.length<=1000000):
  Calls prog 242 #[ptr lb,.int .i64 id] w fun e X=>∃u K P,e=.returned u/\WrR w lb x a (XK (xV a id) ⟨a.map Prod.fst,C⟩) u X K P:=by
 have f:=joI (Gv lb x a C id w h.lr s);have H:=joI h
 clear h;unfold ptr at *
 cases z:xV a id with
 | none =>
  rw[z]at f;unfold VN at f;dsimp only at f;go_enter func242,ntmps242;go_wp2_with fail;refine f.out.mono ?_;rintro e D ⟨rfl,m⟩;go_wp2_with fail;go_ret;exact⟨_,x,a,rfl,H.out.below m (joJ _),rfl,jH.of_below m (joJ _),.inl rfl,vE.err _ _ 7 (by decide),fun p A=>.inl A⟩
 | some k =>
 obtain⟨p,A,_,_⟩:=Yv z;rw[z]at f;unfold VN at f;dsimp only at f;have V:=(List.getElem?_eq_some_iff.1 A).1
 clear z A;go_enter func242,ntmps242;go_wp2_with fail;refine f.out.mono ?_;rintro e D ⟨rfl,m⟩;have j:=H.out.below m (joJ _)
 obtain⟨g,c,rfl⟩:=jpO j.lr.ents.row (by omega);have E:=joI (jcF 0 g a.length c k (jl a) D j.lr.ents.row (Qb j.lr.ents) V s)
 have Y:D.cell? ⟨lb,0,none⟩=some (.slice (some ⟨g,0,none⟩) a.length c):=j.lr.head.cell 0;have n:g≠lb:=fun e=>j.lr.row_ne (by rw[e];rfl)
 have v:=joI j;have U:=joI m
 clear f j m;unfold sl at E;have W:IntKind.i64.wrap ((k:Int)+1)=(k:Int)+1:=jph _ (by omega)
 go_wp2_with fail;refine E.out.mono ?_;rintro e R ⟨rfl,t,O⟩;have y:=v.out.lr.head.only O (fun e=>n e.symm)
 have Z:R.cell? ⟨lb,0,none⟩=some (.slice (some ⟨g,0,none⟩) a.length c):=y.cell 0;have f0:=y.frozen 0
 have G:=joI y;have J:=joI t
 have I:=joI O;clear E y t O;go_wp2_with fail;go_ret;have N:(jcI (a.map Prod.fst) k)=(a.take k++a.drop (k+1)).map Prod.fst:=by unfold jcI;rw[jpt,List.map_take,List.map_drop]
 have o:(a.take k++a.drop (k+1)).length=a.length-1:=by rw[joK,joS,joX];omega
 have d:∀q∈a.take k++a.drop (k+1),q∈a:=fun q i=>by
  rcases List.mem_append.1 i with h|h
  ·exact jpM h
  exact jpz h
 have Q:jH (fun r=>r=lb\/(Value.slice (some ⟨g,0,none⟩) a.length c).ownBlock=some r) D (R.setCell ⟨lb,0,none⟩ (.slice (some ⟨g,0,none⟩) (a.length-1) c)) :=
  (I.out.mono (fun r _ e=>.inr (by rw[e];rfl))).setCell (p:=⟨lb,0,none⟩) (.inl (.inl rfl)) _
 refine⟨_,.slice (some ⟨g,0,none⟩) (a.length-1) c,a.take k++a.drop (k+1),rfl,⟨⟨?_,⟨?_,?_⟩⟩,?_⟩,N.symm,(jH.of_below U.out (joJ _)).trans Q (fun r hr e=>e),.inl rfl,vE.none _ _,fun q i=>.inl (d q i)⟩
 ·have:=G.out.set 0 (.slice (some ⟨g,0,none⟩) (a.length-1) c);show ja _ lb 98 #[_,.int .i64 (C-1)]
  simpa [List.setIfInBounds_toArray,List.set]using this
 ·rw[o,yn,vW,vY];exact js (p:=⟨lb,0,none⟩) J.out (fun e=>n (joN e)) _
 ·intro q i;refine(v.out.lr.ents.each q (d q i)).only Q (fun l b L e => ?_);obtain⟨a1,a2⟩:=v.out.apart q (d q i) l b L;rcases e with e|e
  ·exact a1 e
  exact a2 e
 intro q i l b L;exact v.out.apart q (d q i) l b L
theorem LA.replace{w:World}{lb g cap:Nat}{i:List Pr}{J:Int}{k:Nat}{p:Pr}{it:It}{x:Value}(h:LA w lb (.slice (some ⟨g,0,none⟩) i.length cap) i J)(I:i[k]?=some p)(hx:ZC w x it.fields)(t:it.fields≠[]->∀b,x.ownBlock=some b->b≠lb/\b≠g):
  LA (((w.setCell ⟨g,k*4,none⟩ (.int .i64 it.kind)).setCell ⟨g,k*4+1,none⟩ (.string (B it.raw))).setCell ⟨g,k*4+1+1,none⟩ x) lb (.slice (some ⟨g,0,none⟩) i.length cap) (i.set k ((it,p.1.2),x)) J /\
   jH (· = g) w (((w.setCell ⟨g,k*4,none⟩ (.int .i64 it.kind)).setCell ⟨g,k*4+1,none⟩ (.string (B it.raw))).setCell ⟨g,k*4+1+1,none⟩ x):=by
 have Q:=(List.getElem?_eq_some_iff.1 I).1;have z:g≠lb:=fun e=>h.lr.row_ne (by rw[e];rfl)
 have o:jH (· = g) w (((w.setCell ⟨g,k*4,none⟩ (.int .i64 it.kind)).setCell ⟨g,k*4+1,none⟩ (.string (B it.raw))).setCell ⟨g,k*4+1+1,none⟩ x) :=
  (((jH.refl (· = g) w).cellS _ _).cellS _ _).cellS _ _
 obtain⟨hl,L⟩:=h.lr.ents.row;obtain⟨l,P,C,y,s,E⟩:∃l,ja w g 109 l/\i.length<=cap/\cap<=maxLen/\l.size=cap*4/\l.toList.take (i.length*4)=jl i:=by
  rcases L with ⟨q,_⟩|⟨R,G,l,q,a,b,c,d,e,f⟩
  ·cases q
  cases q;exact⟨l,b,c,d,e,f⟩
 have v:∀j,j<i.length*4->(jl i)[j]?=l[j]?:=fun j u=>by rw[<- E,jpD,if_pos u];simp
 have K:ja (((w.setCell ⟨g,k*4,none⟩ (.int .i64 it.kind)).setCell ⟨g,k*4+1,none⟩ (.string (B it.raw))).setCell ⟨g,k*4+1+1,none⟩ x) g 109 (Wp l (k*4) [.int .i64 it.kind,.string (B it.raw),x]) :=
  ja.lay [.int .i64 it.kind,.string (B it.raw),x] (k*4) P
 have A:=xD i k p I 3 (.int .i64 p.1.2) rfl;refine⟨⟨⟨h.lr.head.only o (fun e=>z e.symm),⟨?_,fun q n => ?_⟩⟩,fun q n m b r => ?_⟩,o⟩
 ·rw[jrp,jbl i k _ Q];have D:((jl i).take (k*4)++(zd ((it,p.1.2),x)++(jl i).drop ((k+1)*4))).length=i.length*4:=by
   rw[joK,joK,joS,joX,hl];show _+(4+_)=_
   omega
  refine⟨D,.inr ⟨g,cap,_,rfl,joT _,K,C,y,by rw[qL,s],?_⟩⟩;apply jqI;intro j;rw[jpD];split
  ·rename_i u;rw[jqF,Jn _ _ _ _ (by rw[s];simp only[joR,jpm];omega)];simp only[joR,jpm];split
   ·rename_i N;rw[jo7 (by rw[joS,hl];omega),joS,hl,show min (k*4) (i.length*4)=k*4 by omega,jpf (by show _<4;omega)];rcases(by omega:j-k*4=0\/j-k*4=1\/j-k*4=2) with e|e|e<;>rw[e]<;>rfl
   rename_i N;rw[<- v j u];rcases jpc j (k*4) with H|H
   ·rw[jpf (by rw[joS,hl];omega),jpD,if_pos H]
   rw[jo7 (by rw[joS,hl];omega),joS,hl,show min (k*4) (i.length*4)=k*4 by omega];rcases jpc j (k*4+4) with O|O
   ·have e:j=k*4+3:=by omega
    subst e;rw[show k*4+3-k*4=3 by omega,A];rfl
   rw[jo7 (by show 4<=_;omega),jpq];show _=(jl i)[(k+1)*4+(j-k*4-4)]?
   congr 1;omega
  rename_i u;rw[jpe (by omega)]
 ·rcases jqK n with n|rfl
  ·exact(h.lr.ents.each q n).only o (fun m b r e=>(h.apart q n m b r).2 (by rw[e];rfl))
  exact hx.only o (fun m b r e=>(t m b r).2 e)
 rcases jqK n with n|rfl
 ·exact h.apart q n m b r
 obtain⟨a1,a2⟩:=t m b r;exact⟨a1,fun e=>a2 (joN e).symm⟩
theorem jaB(lb:Nat)(K:Value)(a:List Pr)(W id:Int)(fs:List Fld)(v:Value)(w:World)(h:LA w lb K a W)(af:a.length<=1000000)(hs:ZC w v fs)(N:jbN fs):
  Calls prog 241 #[ptr lb,.int .i64 id,v] w fun e w'=>∃u a8 ai,e=.returned u/\WrR w lb K a (JJ (xV a id) ⟨a.map Prod.fst,W⟩ fs) u w' a8 ai:=by
 have l:=joI (Gv lb K a W id w h.lr af);have H:=joI h
 have HS:=joI hs;obtain⟨va,vc,rfl⟩:=hs.form;clear h hs;unfold ptr at *
 cases U:xV a id with
 | none =>
  rw[U]at l;unfold VN at l;dsimp only at l;go_enter func241,ntmps241;go_wp2_with fail;refine l.out.mono ?_;rintro e X ⟨rfl,t⟩;go_wp2_with fail;go_ret;exact⟨_,K,a,rfl,H.out.below t (joJ _),rfl,jH.of_below t (joJ _),.inl rfl,vE.err _ _ 7 (by decide),fun p y=>.inl y⟩
 | some k =>
 obtain⟨p,y,_,_⟩:=Yv U;rw[U]at l;unfold VN at l;dsimp only at l;have hk:=(List.getElem?_eq_some_iff.1 y).1
 have P:=joI y;clear U y;go_enter func241,ntmps241;go_wp2_with fail;refine l.out.mono ?_;rintro e X ⟨rfl,t⟩;have z:=HS.out.below t (joJ _)
 have Y:=joI (jdC fs _ X z.1 z.2 (by have:=N.len;omega) N.each);have B1:=joI t
 have hz:=t.size;clear l t z;go_wp2_with fail;refine Y.out.mono ?_;rintro e C ⟨u,x,j⟩;have A:=joI (B1.out.trans (j.below.mono hz))
 have CK:=joI (j.chk.mono hz);obtain rfl:=j.ret;by_cases s:qD fs=0
 ·have V:=j.chk.zero s;subst V;have hx:=joI (j.own s)
  obtain⟨D,E,rfl,_⟩:=je (j.own s);have ae:Gg fs=3:=if_pos s
  have ag:jeg fs=jO fs:=if_pos s;rw[ae,ag];have G:=H.out.below A.out (joJ _)
  obtain⟨g,m,rfl⟩:=jpO G.lr.ents.row (by omega);obtain⟨g',I,pa,pc,e1,au,aj,J,d0,d1,R,d3⟩:=G.lr.ents.here P.out;cases e1;rw[J]at R;have ar:g<w.heap.size:=(H.out.lr.ents.row.lt g rfl).2
  have c0:C.cell? ⟨lb,0,none⟩=some (.slice (some ⟨g,0,none⟩) a.length m):=G.lr.head.cell 0;have LH:=joI G
  clear j Y G J;go_wp2_with fail;obtain⟨f,i⟩:∃f,f=C.alloc (.cells #[.int .i64 3,.string (B (jO fs)),.slice D fs.length E] 107):=⟨_,rfl⟩
  have Q:=joI (show LA f lb (.slice (some ⟨g,0,none⟩) a.length m) a W by rw[i];exact LH.out.below ((joL _ _).alloc (joJ _) _) (joJ _));have O:ja f C.heap.size 107 #[.int .i64 3,.string (B (jO fs)),.slice D fs.length E]:=by rw[i];exact ja.new _ _ _
  have Z:=joI (show f.ownsRow X.heap.size 148 2 (.slice D fs.length E) fs.length (ju fs) by rw[i];exact hx.out.alloc _);have B3:=joI (show Below w.heap.size w f by rw[i];exact A.out.alloc A.out.size _)
  rw[<- i];clear i c0 d0 d1 R d3 LH A hx;obtain⟨g',I,av,aw,e1,_,ak,J,d0,d1,R,d3⟩:=Q.out.lr.ents.here P.out;cases e1;rw[J]at R;obtain⟨o,d⟩:∃o,ja f g 109 o:=by
   rcases Q.out.lr.ents.row.2 with ⟨q,_⟩|⟨am,a7,o,q,_,c,_⟩
   ·cases q
   cases q;exact⟨o,c⟩
  have f0:=d.frozen (k*4);have f1:=d.frozen (k*4+1)
  have f2:=d.frozen (k*4+1+1);have c0:f.cell? ⟨lb,0,none⟩=some (.slice (some ⟨g,0,none⟩) a.length m):=Q.out.lr.head.cell 0
  have i0:f.cell? ⟨C.heap.size,0,none⟩=some (.int .i64 3):=O.cell 0;have i1:f.cell? ⟨C.heap.size,1,none⟩=some (.string (B (jO fs))):=O.cell 1
  have i2:f.cell? ⟨C.heap.size,2,none⟩=some (.slice D fs.length E):=O.cell 2;clear O d J;go_region_law (skip)
  all_goals go_wp2_with fail
  all_goals
   go_ret;rw[Vw s];have aq:lb<w.heap.size:=H.out.lr.head.lt
   obtain⟨q1,q2⟩:=(Q.out.below (n:=f.heap.size) (joL _ f).drew (joJ _)).replace (it:=zI fs) (x:=.slice D fs.length E) P.out (ZC.own (show f.drew.ownsRow X.heap.size 148 2 (.slice D fs.length E) fs.length (ju fs) from Z.out)) (fun _ b hb=>by
    have:=(Z.out.lt b hb).1;exact⟨by omega,by omega⟩)
   refine⟨_,_,_,rfl,q1,?_,(jH.of_below (B3.out.drew) (joJ _)).trans (q2.mono (fun r _ e=>(.inr (by rw[e];rfl):r=lb\/(Value.slice (some ⟨g,0,none⟩) a.length m).ownBlock=some r))) (fun r hr e=>e),.inl rfl,?_,fun q hq => ?_⟩
   ·exact jdc a k p _ _ P.out
   ·exact vE.none _ _
   rcases jqK hq with h|h
   ·exact .inl h
   right;rw[h];intro b hb;have:=(Z.out.lt b hb).1;omega
 have ah:=j.none_ s;subst ah;rcases j.chk.pos s with V|⟨q,V⟩
 all_goals
  subst V;have aa:=joI (vE.of (j.chk.mono hz))
  clear j Y CK;go_wp2_with fail;go_ret;rw[YM s];have L:=A.out.alloc A.out.size (.cells #[.int .i64 (Gg fs),.string (B (jeg fs)),.slice none 0 0] 107)
  exact⟨_,K,a,rfl,H.out.below L (joJ _),rfl,jH.of_below L (joJ _),.inl rfl,aa.out.below ((joL _ _).alloc (joJ _) _) (joJ _),fun p y=>.inl y⟩
theorem jl0{a:List Pr}{id:Int}{k:Nat}(h:jip a id=some k):k<=a.length:=by
 unfold jip at h;split at h
 ·cases h;omega
 obtain⟨q,c,rfl⟩:=Option.map_eq_some_iff.1 h;obtain⟨p,b,_⟩:=Yv c;have:=(List.getElem?_eq_some_iff.1 b).1
 omega
theorem Ws(fs:List Fld)(a:Int):jls (zI fs) a=a/\jlv (zI fs) a=a+1:=⟨rfl,rfl⟩
theorem Gf(lb:Nat)(c:Value)(a:List Pr)(f:Int)(w:World)(h:LR w lb c a f)(b:a.length<=1000000):
  Calls prog 32 #[ptr lb] w fun e g=>e=.returned (.int .i64 ((JW 0 a).length:Nat))/\Below w.heap.size w g :=
 jlF a c (some ⟨lb,0,none⟩) w (fun _ d=>jio.of (h.below d (joJ _))) b
theorem jdn(a:List Pr)(k:Nat)(e:En)(x:Value):(a.take k++(e,x)::a.drop k).map Prod.fst=jbO (a.map Prod.fst) k e:=by unfold jbO;rw[jpt,jpr,List.map_take,List.map_drop]
theorem LA.insert{w x w2 w':World}{lb:Nat}{d f:Value}{c:List Pr}{Q nx':Int}{k:Nat}{q:Pr}{lo:Nat}(h:LA x lb d c Q)(o:Below w.heap.size w x)(K:lb<w.heap.size)(s:∀b,d.ownBlock=some b->b<w.heap.size)(U:k<=c.length)
  (J:ja w2 lb 98 #[d,.int .i64 (nx'-1)]) (v:jH (· = lb) x w2)
  (L:ZC w2 q.2 q.1.1.fields) (G:q.1.1.fields≠[]->∀b,q.2.ownBlock=some b->w.heap.size<=b/\b<w2.heap.size)
  (N:w'.ownsRow lo 109 4 f (c.length+1) ((jl c).take (k*4)++(zd q++(jl c).drop (k*4)))) (E:jH (fun r=>d.ownBlock=some r) w2 w') (j:f.ownBlock=d.ownBlock\/∃b,f.ownBlock=some b/\w2.heap.size<=b) :
  LA (w'.setCell ⟨lb,0,none⟩ f) lb f (c.take k++q::c.drop k) nx'/\jH (fun r=>r=lb\/d.ownBlock=some r) w (w'.setCell ⟨lb,0,none⟩ f)/\(f.ownBlock=d.ownBlock\/∃b,f.ownBlock=some b/\w.heap.size<=b):=by
 have m:=h.lr.row_ne;have O:=o.size
 have P:=v.size;have D:f.ownBlock≠some lb:=by
  rcases j with e|⟨b,e,g⟩
  ·rw[e];exact m
  rw[e];intro q;have:b=lb:=joN q;omega
 have R:jH (fun r=>r=lb\/d.ownBlock=some r) x w':=(v.mono (fun r _ e=>.inl e)).trans E (fun r _ e=>.inr e);have I:jH (fun r=>r=lb\/d.ownBlock=some r) x (w'.setCell ⟨lb,0,none⟩ f):=R.setCell (p:=⟨lb,0,none⟩) (.inl (.inl rfl)) _
 have C:ja w' lb 98 #[d,.int .i64 (nx'-1)]:=J.only E m;have n:∀y∈c.take k++q::c.drop k,y∈c\/y=q:=fun y i=>by
  rcases List.mem_append.1 i with a|a
  ·exact .inl (jpM a)
  rcases List.mem_cons.1 a with a|a
  ·exact .inr a
  exact .inl (jpz a)
 have u:q.1.1.fields≠[]->∀b,q.2.ownBlock=some b->b≠lb/\d.ownBlock≠some b/\f.ownBlock≠some b:=fun l b g=>by
  obtain⟨a1,a2⟩:=G l b g;have a3:d.ownBlock≠some b:=fun e=>by have:=s b e;omega
  refine⟨by omega,a3,?_⟩;rcases j with e|⟨z,e,A⟩
  ·rw[e];exact a3
  rw[e];intro q;have:z=b:=joN q;omega
 refine⟨⟨⟨?_,⟨?_,?_⟩⟩,?_⟩,(jH.of_below o (joJ _)).trans I (fun r _ e=>e),?_⟩
 ·have:=C.set 0 f;simpa [List.setIfInBounds_toArray,List.set]using this
 ·have t:(c.take k++q::c.drop k).length=c.length+1:=by rw[joK,joR,joS,joX];omega
  rw[t,yn,show jl (q::c.drop k)=zd q++jl (c.drop k) from rfl,vW,vY];exact js (p:=⟨lb,0,none⟩) (jA N (joT _)) D _
 ·intro y i;rcases n y i with i|rfl
  ·refine(h.lr.ents.each y i).only I (fun l b g e => ?_);obtain⟨a1,a2⟩:=h.apart y i l b g;rcases e with e|e
   ·exact a1 e
   exact a2 e
  refine L.only ((E.mono (S':=fun r=>r=lb\/d.ownBlock=some r) (fun r _ e=>.inr e)).setCell (p:=⟨lb,0,none⟩) (.inl (.inl rfl)) f) (fun l b g e => ?_);obtain⟨a1,a2,_⟩:=u l b g;rcases e with e|e
  ·exact a1 e
  exact a2 e
 ·intro y i l b g;rcases n y i with i|rfl
  ·obtain⟨a1,a2⟩:=h.apart y i l b g;refine⟨a1,?_⟩;have H:=(h.lr.ents.each y i).1.lt l b g
   rcases j with e|⟨z,e,A⟩
   ·rw[e];exact a2
   rw[e];intro q;have:z=b:=joN q;omega
  obtain⟨a1,_,a3⟩:=u l b g;exact⟨a1,a3⟩
 rcases j with e|⟨b,e,g⟩
 ·exact .inl e
 exact .inr ⟨b,e,by omega⟩
theorem jci(lb:Nat)(z:Value)(a:List Pr)(d id:Int)(fs:List Fld)(v:Value)(w:World)(h:LA w lb z a d)(aP:a.length<=10000)(aF : -1000000<=d/\d<=1000000)(hs:ZC w v fs)(ak:jbN fs):
  Calls prog 243 #[ptr lb,.int .i64 id,v] w fun e w'=>∃u aC aL,e=.returned (.tuple #[.int .i64 (yl (jip a id) (decide ((JW 0 a).length=400)) ⟨a.map Prod.fst,d⟩ fs).id,u])/\WrR w lb z a (yl (jip a id) (decide ((JW 0 a).length=400)) ⟨a.map Prod.fst,d⟩ fs) u w' aC aL:=by
 have W:=joI (jlZ lb z a d id w h.lr (by omega));have H:=joI h
 have HS:=joI hs;obtain⟨va,vc,rfl⟩:=hs.form;clear h hs;unfold ptr at *
 generalize aj:decide ((JW 0 a).length=400)=I;have Z:=joI aj
 clear aj;cases hf:jip a id with
 | none =>
  rw[hf]at W;go_enter func243,ntmps243;go_wp2_with fail;refine W.out.mono ?_;rintro e w1 ⟨⟨k,rfl,_⟩,K⟩;dsimp only[Option.isSome];go_wp2_with fail;go_ret2;exact⟨_,z,a,rfl,H.out.below K (joJ _),rfl,jH.of_below K (joJ _),.inl rfl,vE.err _ _ 7 (by decide),fun p hp=>.inl hp⟩
 | some k =>
 rw[hf]at W;have aq:=jl0 hf
 clear hf;go_enter func243,ntmps243;go_wp2_with fail;refine W.out.mono ?_;rintro e w1 ⟨⟨k',rfl,am⟩,K⟩;obtain rfl:=am k rfl;dsimp only[Option.isSome];have N:=HS.out.below K (joJ _)
 have IT:=joI (jdC fs _ w1 N.1 N.2 (by have:=ak.len;omega) ak.each);have B1:=joI K
 have hz:=K.size;clear W K N am;go_wp2_with fail;refine IT.out.mono ?_;rintro e w2 ⟨u,x,r⟩;have B2:=joI (B1.out.trans (r.below.mono hz))
 have aR:=r.below.size;obtain rfl:=r.ret;by_cases s:qD fs=0
 ·have O:=r.chk.zero s;subst O;have hx:=joI (r.own s)
  obtain⟨g,i,rfl,_⟩:=je (r.own s);have aE:Gg fs=3:=if_pos s
  have aG:jeg fs=jO fs:=if_pos s;rw[aE,aG];clear r IT;have l:=B2.out.alloc B2.out.size (.cells #[.int .i64 3,.string (B (jO fs)),.slice g fs.length i] 107)
  have LN:=joI (Gf lb z a d _ (H.out.lr.below l (joJ _)) (by omega));unfold ptr at LN;have X:=joI l
  clear l;have aQ:=Yj (κ:=fun p:Pr=>p.1.1.kind) 0 a
  go_wp2_with fail;refine LN.out.mono ?_;rintro e Q ⟨rfl,b3⟩;have B3:=joI (X.out.trans (b3.mono X.out.size))
  have aJ:=b3.size;rw[joZ]at aJ;have U:ja Q w2.heap.size 107 #[.int .i64 3,.string (B (jO fs)),.slice g fs.length i]:=(ja.new w2 _ _).below b3 (by simp)
  have X3:=joI (jX (hx.out.alloc (.cells #[.int .i64 3,.string (B (jO fs)),.slice g fs.length i] 107)) b3 (joJ _));by_cases h4:(JW 0 a).length=400
  ·obtain rfl:I=true:=by rw[<- Z.out];exact decide_eq_true h4
   have ae:(((JW 0 a).length:Nat):Int)=400:=by omega
   clear b3 LN U;rw[ae];go_wp2_with fail;go_ret2;rw[VK s];exact⟨_,z,a,rfl,H.out.below B3.out (joJ _),rfl,jH.of_below B3.out (joJ _),.inl rfl,vE.err _ _ 11 (by decide),fun p hp=>.inl hp⟩
  obtain rfl:I=false:=by rw[<- Z.out];exact decide_eq_false h4
  have ae:((((JW 0 a).length:Nat):Int)==400)=false:=beq_eq_false_iff_ne.2 (by omega);have L3:=joI (H.out.below B3.out (joJ _))
  have V:=joI (WG (zI fs) g fs.length i lb z d Q L3.out.lr.head aF);rw[(Ws fs d).1,(Ws fs d).2]at V;unfold zI ptr at V;dsimp only at V;have i0:Q.cell? ⟨w2.heap.size,0,none⟩=some (.int .i64 3):=U.cell 0
  have i1:Q.cell? ⟨w2.heap.size,1,none⟩=some (.string (B (jO fs))):=U.cell 1;have i2:Q.cell? ⟨w2.heap.size,2,none⟩=some (.slice g fs.length i):=U.cell 2
  clear b3 LN U;generalize (JW 0 a).length=ll at *
  go_wp2_with fail;refine V.out.mono ?_;rintro e C ⟨rfl,ag,aw⟩;have EO:=joI (show ∃A n c,z=.slice A n c from by obtain⟨A,c,e,_⟩:=L3.out.lr.ents.empty;exact⟨A,_,c,e⟩)
  have ay:=joI ag;have a8:=joI aw
  clear V ag aw i0 i1 i2;go_wp2_with fail;obtain⟨f,m⟩:∃f,f=C.alloc (.cells #[.int .i64 3,.string (B (jO fs)),.slice g fs.length i,.int .i64 d] 109):=⟨_,rfl⟩
  have j:=L3.out;obtain⟨D,G,E,rfl⟩:=EO.out;have aK:f.heap.size=C.heap.size+1:=by rw[m];simp
  have aS:=a8.out.size;have aM:=j.lr.head.lt
  have CA:ja f lb 98 #[.slice D G E,.int .i64 (d+1-1)]:=by rw[m];exact ay.out.alloc _
  have P:ja f C.heap.size 109 #[.int .i64 3,.string (B (jO fs)),.slice g fs.length i,.int .i64 d]:=by rw[m];exact ja.new _ _ _
  have y:jH (· = lb) Q f:=by rw[m];exact a8.out.alloc _
  have RA:f.ownsRow 0 109 4 (.slice D G E) a.length (jl a):=jG j.lr.ents.row y (fun b t e=>j.lr.row_ne (by rw[t];exact congrArg some e));have XA:=joI (jG X3.out y (fun b t e=>by
   have h1:=(X3.out.lt b t).1;have h2:=H.out.lr.head.lt
   omega))
  rw[<- m];clear m;have a7:=joI (jck 0 (.slice D G E) a.length k' f.heap.size (jl a) [.int .i64 3,.string (B (jO fs)),.slice g fs.length i,.int .i64 d] ((f.alloc (.cells #[.int .i64 3,.string (B (jO fs)),.slice g fs.length i,.int .i64 d] 109)).drew) (show((f.alloc (.cells #[.int .i64 3,.string (B (jO fs)),.slice g fs.length i,.int .i64 d] 109)).drew).ownsRow 0 109 4 (.slice D G E) a.length (jl a) from RA.alloc _) (Qb j.lr.ents) aq (by omega) (joT _) rfl (show ja ((f.alloc (.cells #[.int .i64 3,.string (B (jO fs)),.slice g fs.length i,.int .i64 d] 109)).drew) f.heap.size 109 _ from ja.new f _ _) (fun e=>by have:=(RA.lt _ e).2;omega) (by intro u O;simp at O;rcases O with rfl | rfl | rfl | rfl<;>rfl))
  unfold sl jmA at a7;have c0:f.cell? ⟨lb,0,none⟩=some (.slice D G E):=CA.cell 0
  have aO:∀o,(f.alloc o).cell? ⟨lb,0,none⟩=some (.slice D G E):=fun o=>(CA.alloc o).cell 0;have j0:f.cell? ⟨C.heap.size,0,none⟩=some (.int .i64 3):=P.cell 0
  have j1:f.cell? ⟨C.heap.size,1,none⟩=some (.string (B (jO fs))):=P.cell 1;have j2:f.cell? ⟨C.heap.size,2,none⟩=some (.slice g fs.length i):=P.cell 2
  have j3:f.cell? ⟨C.heap.size,3,none⟩=some (.int .i64 d):=P.cell 3;have R:=joI CA
  have ax:=joI P;have aB:=joI y
  have J:=j.lr.row_ne;have aA:=joI J
  have Y:=joI (show ∀b,(Value.slice D G E).ownBlock=some b->b<w.heap.size from fun b t=>(H.out.lr.ents.row.lt b t).2);have ar:=H.out.lr.head.lt
  clear CA P y RA J j aK;go_region_law (go_simp;go_at_call 268;refine a7.out.mono ?_;rintro e w6 ⟨v',rfl,av,L,af⟩;obtain⟨g6,aa,rfl⟩:=ownsRow_succ av;have ah:=joI ((R.out.alloc _).drew.only L aA.out);have ai:=joI ((ax.out.alloc _).drew.only L (fun e=>by have:=Y.out _ e;omega));have k0:w6.cell? ⟨lb,0,none⟩=some (.slice D G E):=ah.out.cell 0;have aT:=ah.out.frozen 0;have au:=joI L)
  all_goals
   have j6:(w6.setCell ⟨lb,0,none⟩ (.slice (some ⟨g6,0,none⟩) (a.length+1) aa)).cell? ⟨C.heap.size,3,none⟩=some (.int .i64 d):=(ai.out.other (p:=⟨lb,0,none⟩) (by show C.heap.size≠lb;omega) _).cell 3;go_wp2_with fail
  all_goals
   go_ret2;rw[Xr s];have aI:ZC ((f.alloc (.cells #[.int .i64 3,.string (B (jO fs)),.slice g fs.length i,.int .i64 d] 109)).drew) (.slice g fs.length i) fs:=ZC.own ((show f.drew.ownsRow w1.heap.size 148 2 (.slice g fs.length i) fs.length (ju fs) from XA.out).alloc _)
   have aN:((f.alloc (.cells #[.int .i64 3,.string (B (jO fs)),.slice g fs.length i,.int .i64 d] 109)).drew).heap.size=f.heap.size+1:=by show(f.alloc _).heap.size=_;rw[joZ]
   obtain⟨q1,q2,q3⟩:=LA.insert (q:=((zI fs,d),.slice g fs.length i)) (nx':=d+1) L3.out B3.out ar Y.out aq ((R.out.alloc _).drew) ((aB.out.alloc _).drew) aI (fun _ b t=>⟨by have:=(XA.out.lt b t).1;omega,by have:=(XA.out.lt b t).2;omega⟩) av au.out (af.imp (fun h=>h) fun h=>⟨_,h,by omega⟩);exact⟨_,_,_,rfl,q1,jdn a k' (zI fs,d) _,q2,q3,vE.none _ _,fun q hq=>by
    rcases List.mem_append.1 hq with h|h
    ·exact .inl (jpM h)
    rcases List.mem_cons.1 h with h|h
    ·right;rw[h];intro b t;have:=(XA.out.lt b t).1;omega
    exact .inl (jpz h)⟩
 have aH:=r.none_ s;subst aH;rcases r.chk.pos s with O|⟨q,O⟩
 all_goals
  subst O;have aD:=joI (vE.of (r.chk.mono hz))
  clear r IT;go_wp2_with fail;go_ret2;rw[Wt s];have l:=B2.out.alloc B2.out.size (.cells #[.int .i64 (Gg fs),.string (B (jeg fs)),.slice none 0 0] 107)
  exact⟨_,z,a,rfl,H.out.below l (joJ _),rfl,jH.of_below l (joJ _),.inl rfl,aD.out.below ((joL _ _).alloc (joJ _) _) (joJ _),fun p hp=>.inl hp⟩
structure jir(w wr:World)(lb:Nat)(ev:Value)(ps:List Pr)(nx:Int):Prop where
 head:ja wr lb 98 #[ev,.int .i64 (nx-1)]
 row:wr.ownsRow w.heap.size 109 4 ev ps.length (jl ps)
 each:∀p∈ps,wr.ownsRow w.heap.size 148 2 p.2 p.1.1.fields.length (ju p.1.1.fields)
 below:Below w.heap.size w wr
 lb:w.heap.size<=lb
theorem jh{W:World}{lo n b:Nat}{t u:TypeId}{l:Nat}{v:Value}{xs:List Value}{c:Array Value}(h:W.ownsRow lo t l v n xs)(i:ja W b u c)(k:t≠u):v.ownBlock≠some b:=by
 intro e;rcases h.2 with ⟨q,_⟩|⟨g,a,d,q,_,j,_⟩
 ·rw[q]at e;cases e
 rw[q]at e;have:g=b:=joN e
 subst this;have:=j.symm.trans i
 injection this with this;injection this with _ f _;exact k f
theorem jZ{W:World}{lo c n m:Nat}{t u:TypeId}{o d:Nat}{v x:Value}{xs p:List Value}(h:W.ownsRow lo t o v n xs)(g:W.ownsRow c u d x m p)(l:t≠u):∀b,v.ownBlock=some b->x.ownBlock≠some b:=by
 intro b a;rcases h.2 with ⟨q,_⟩|⟨j,f,i,q,_,k,_⟩
 ·rw[q]at a;cases a
 rw[q]at a;obtain rfl:j=b:=joN a;exact jh g k (fun e=>l e.symm)
theorem jir.la{w wr:World}{lb:Nat}{c:Value}{g:List Pr}{f:Int}(h:jir w wr lb c g f):LA wr lb c g f :=
 ⟨⟨h.head,⟨jA h.row (joT _),fun p a=>ZC.own (h.each p a)⟩⟩,fun p a _ b d =>
  ⟨fun e=>jh (h.each p a) h.head (by decide) (by rw[<- e];exact d),jZ (h.each p a) h.row (by decide) b d⟩⟩
theorem jir.below'{w wr w2:World}{lb:Nat}{b:Value}{d:List Pr}{c:Int}(h:jir w wr lb b d c)(a:Below wr.heap.size wr w2):jir w w2 lb b d c :=
 ⟨h.head.below a h.head.lt,jX h.row a (joJ _),fun p e=>jX (h.each p e) a (joJ _),h.below.trans (a.mono h.below.size),h.lb⟩
theorem jir.snoc{w i d:World}{lb:Nat}{u a:Value}{g:List Pr}{C:Int}{p:Pr}(h:jir w i lb u g C)(I:i.ownsRow w.heap.size 148 2 p.2 p.1.1.fields.length (ju p.1.1.fields))
  (v:d.ownsRow 0 109 4 a (g.length+1) (jl g++zd p)) (z:ja d lb 98 #[u,.int .i64 (C-1)]) (f:a.ownBlock=u.ownBlock\/∃k,a.ownBlock=some k/\i.heap.size<=k/\k<d.heap.size) (D:jH (fun r=>some r=u.ownBlock) i d) :
  jir w (d.setCell ⟨lb,0,none⟩ a) lb a (g++[p]) C:=by
 have A:a.ownBlock≠some lb:=jh v z (by decide);have J:=h.below.size
 have s:d.ownsRow w.heap.size 109 4 a (g.length+1) (jl g++zd p):=by
  rcases v.2 with ⟨q,_⟩|⟨y,j,l,q,_,t⟩
  ·exact⟨v.1,.inl ⟨q,by omega⟩⟩
  refine⟨v.1,.inr ⟨y,j,l,q,?_,t⟩⟩;rcases f with f|⟨k,f,K,_⟩
  ·exact(h.row.lt y (by rw[<- f,q];rfl)).1
  rw[q]at f;have:y=k:=joN f
  omega
 have c:∀{x:Value} {m:Nat} {E:List Value},i.ownsRow w.heap.size 148 2 x m E->(d.setCell ⟨lb,0,none⟩ a).ownsRow w.heap.size 148 2 x m E:=fun hx =>
  have n:=jG hx D (fun b H e=>jZ hx h.row (by decide) b H e.symm)
  js (p:=⟨lb,0,none⟩) n (jh n z (by decide)) _
 refine⟨?_,?_,?_,?_,h.lb⟩
 ·have:=z.set 0 a;simpa [List.setIfInBounds_toArray,List.set]using this
 ·rw[joK,vX];exact js (p:=⟨lb,0,none⟩) s A _
 ·intro q o;rcases List.mem_append.1 o with o|o
  ·exact c (h.each q o)
  rw[List.mem_singleton.1 o];exact c I
 have G:Below w.heap.size i d:=D.to_below J (fun r L e=>by
  have:=(h.row.lt r e.symm).1;omega)
 exact(h.below.trans G).setCell (p:=⟨lb,0,none⟩) h.lb _
theorem jhS(lb:Nat)(ev:Value)(l:List Pr)(J:Int)(w:World)(h:LA w lb ev l J)(ok:Ke l):
  Calls prog 208 #[ptr lb] w fun e Z=>∃E f G,e=.returned (ptr E)/\LA Z E f G J/\G.map Prod.fst=l.map Prod.fst/\Below w.heap.size w Z/\w.heap.size<=E/\(∀b,f.ownBlock=some b->w.heap.size<=b)/\(∀p∈G,∀b,p.2.ownBlock=some b->w.heap.size<=b):=by
 obtain⟨i0,hi,ay,aA,aB⟩:=info_parts Jp;obtain⟨A,af,rfl,aG⟩:=h.lr.ents.empty;have c0:w.cell? ⟨lb,0,none⟩=some (.slice A l.length af):=h.lr.head.cell 0
 have c1:w.cell? ⟨lb,1,none⟩=some (.int .i64 (J-1)):=h.lr.head.cell 1;have aH:=h.lr.head.lt
 have H:=joI h;have aD:=ok.len
 have HF:=joI ok.fields;have v:jir w (w.alloc (.cells #[.slice none 0 0,.int .i64 (J-1)] 98)) w.heap.size (.slice none 0 0) [] J :=
  ⟨ja.new _ _ _,⟨rfl,.inl ⟨rfl,rfl⟩⟩,(fun p h=>by cases h),(joL _ _).alloc (joJ _) _,joJ _⟩
 have t:=joI v;clear h ok v;unfold ptr;go_enter func208,ntmps208;go_wp2_with fail;go_loopw [19] (fun i wr=>∃(k:Nat) (f:Value) (d:List Pr),k<=l.length/\i=.int .i64 k/\jir w wr w.heap.size f d J/\d.map Prod.fst=(l.take k).map Prod.fst) (fun i _=>l.length-(intOf i).toNat)
 case atStart=>exact⟨0,_,[],joT _,rfl,t.out,rfl⟩
 case round =>
 obtain⟨k,f,d,hk,rfl,a,m⟩:=hrel;by_cases R:k<l.length
 ·obtain⟨p,D⟩:∃p,l[k]?=some p:=⟨_,joM R⟩
  have z:=a.below;have hE:=H.out.lr.ents.below z (joJ _)
  obtain⟨g,y,X,Y,e1,_,hg,e2,d0,d1,d2,d3⟩:=hE.here D;cases e1;have Q:=hE.each p (joW D)
  have ak:=HF.out p (joW D);rw[e2]at d2;have TK:=joI (show(l.take (k+1)).map Prod.fst=(l.take k).map Prod.fst++[p.1] by rw[jpd,D];simp)
  have ar:d.length=k:=by have:=congrArg List.length m;rw[jo8,jo8,joS]at this;omega
  subst ar;have a7:=joI a
  have HQ:=joI m;have aa:=joI Q
  have E2:=joI e2;obtain⟨O,P,rfl,aF⟩:=je a.row;clear a m hE Q D e2;go_wp2_with fail;obtain⟨j,n⟩:∃j,j=wr.alloc (.cells #[.int .i64 p.1.1.kind,.string (B p.1.1.raw),.slice X p.1.1.fields.length Y,.int .i64 p.1.2] 109):=⟨_,rfl⟩
  have s:=(joL wr.heap.size wr).alloc (joJ _) (.cells #[.int .i64 p.1.1.kind,.string (B p.1.1.raw),.slice X p.1.1.fields.length Y,.int .i64 p.1.2] 109);rw[<- n]at s;have I:ja j wr.heap.size 109 #[.int .i64 p.1.1.kind,.string (B p.1.1.raw),.slice X p.1.1.fields.length Y,.int .i64 p.1.2]:=by rw[n];exact ja.new _ _ _
  have aC:j.heap.size=wr.heap.size+1:=by rw[n];simp
  rw[<- n];clear n d0 d1 d2 d3;have q:=joI (a7.out.below' s)
  have g0:j.cell? ⟨w.heap.size,0,none⟩=some (.slice O d.length P):=q.out.head.cell 0;have j0:j.cell? ⟨wr.heap.size,0,none⟩=some (.int .i64 p.1.1.kind):=I.cell 0
  have j1:j.cell? ⟨wr.heap.size,1,none⟩=some (.string (B p.1.1.raw)):=I.cell 1;have j2:j.cell? ⟨wr.heap.size,2,none⟩=some (.slice X p.1.1.fields.length Y):=I.cell 2
  have j3:j.cell? ⟨wr.heap.size,3,none⟩=some (.int .i64 p.1.2):=I.cell 3;have r:=ja3 p j.drew ((aa.out.below s (joJ _)).below (joL j.heap.size j).drew (joJ _)) ak
  unfold jbk at r;rw[E2.out]at r;have IT:=joI r
  have L:=joI I;have aw:=q.out.below.size
  have a8:=joI (q.out.below' (w2:=j.drew) (joL _ _).drew);have ae:=joI q.out.la.lr.row_ne
  clear I r aC s;go_region_law (first
   | (go_simp;go_at_call 73;refine IT.out.mono ?_;rintro e K ⟨x,rfl,hx,W⟩;obtain⟨xa,xc,rfl,_⟩:=je hx;have c:=joI (a8.out.below' W);have ax:=joI hx;have ag:=joI (L.out.drew.below W L.out.lt);have q0:K.cell? ⟨w.heap.size,0,none⟩=some (.slice O d.length P):=c.out.head.cell 0;have q3:K.cell? ⟨wr.heap.size,3,none⟩=some (.int .i64 p.1.2):=ag.out.cell 3;have aJ:∀o,(K.alloc o).cell? ⟨w.heap.size,0,none⟩=some (.slice O d.length P):=fun o=>(c.out.head.alloc o).cell 0;have U:=joI (jA c.out.row (joT _));have ai:=joI c.out.head;have B5:=joI W;clear hx W)
   | (refine zb rfl (.tmp 27) (.tmp 33) 96 rfl 109 i0 _ 4 56 underlying96 hi ay aA aB rfl (by decide) (.slice O d.length P) d.length (jl d) (by simp[Act.eval]) (by exact U.out.alloc _) ⟨K.heap.size,0,none⟩ 1 1 [.int .i64 p.1.1.kind,.string (B p.1.1.raw),.slice xa p.1.1.fields.length xc,.int .i64 p.1.2] (by simp[Act.eval]) rfl (jp K 109 [.int .i64 p.1.1.kind,.string (B p.1.1.raw),.slice xa p.1.1.fields.length xc,.int .i64 p.1.2]) (by intro u hu;simp at hu;rcases hu with rfl | rfl | rfl | rfl<;>rfl) (by unfold maxLen;omega) (by omega) ?_;intro v' Z ho am ah;obtain⟨⟨g',y,rfl⟩,C,aE,aq,av⟩:=xN ai.out U.out ae.out ((joL _ K).alloc (joJ _) _) ho am ah;have k0:Z.cell? ⟨w.heap.size,0,none⟩=some (.slice O d.length P):=C.cell 0;have aI:=C.frozen 0))
  all_goals go_wp2_with fail
  all_goals
   have N:=c.out.snoc (p:=(p.1,.slice xa p.1.1.fields.length xc)) (jA ax.out aw) ho C aq av;go_roundw
   case rel =>
    refine⟨d.length+1,.slice (some ⟨g',0,none⟩) (d.length+1) y,d++[(p.1,.slice xa p.1.1.fields.length xc)],R,by go_num,N,?_⟩;rw[TK.out,jpt,HQ.out];rfl
   case measure=>simp[intOf];omega
 obtain rfl:k=l.length:=by omega
 rw[jpa]at m;have au:=a.la
 have V:=a.row;have z:=a.below
 have aj:=a.each;clear H HF t c0 c1;go_wp2_with fail;go_ret;exact⟨_,f,d,rfl,au,m,z,joJ _,fun b z=>(V.lt b z).1,fun p D b z=>((aj p D).lt b z).1⟩
end
structure zK(w:World)(v:Value)(ps:List Pr):Prop where
 row:w.ownsRow 0 112 4 v ps.length (jl ps)
 each:∀p∈ps,vP w p.2 p.1.1.fields
theorem zK.below{w w':World}{v:Value}{c:List Pr}{n:Nat}(h:zK w v c)(a:Below n w w')(b:w.heap.size<=n):zK w' v c :=
 ⟨jX h.row a b,fun p d=>(h.each p d).below a b⟩
theorem zK.here{w:World}{v:Value}{f:List Pr}(h:zK w v f){i:Nat}{p:Pr}(j:f[i]?=some p):∃g b A c,v=.slice (some ⟨g,0,none⟩) f.length b/\f.length<=b/\g<w.heap.size/\p.2=.slice A p.1.1.fields.length c /\
  w.cell? ⟨g,i*4,none⟩=some (.int .i64 p.1.1.kind)/\w.cell? ⟨g,i*4+1,none⟩=some (.string (B p.1.1.raw))/\w.cell? ⟨g,i*4+1+1,none⟩=some p.2/\w.cell? ⟨g,i*4+1+1+1,none⟩=some (.int .i64 p.1.2):=by
 have n:i<f.length:=(List.getElem?_eq_some_iff.1 j).1;obtain⟨A,c,m,_⟩:=h.each p (joW j);have d:=h.row
 rcases h.row.2 with ⟨_,q⟩|⟨g,b,l,e,_,o,k,_⟩
 ·omega
 rw[e]at d;have a:=xD f i p j
 refine⟨g,b,A,c,e,k,(jpJ d g rfl).2,m,?_,?_,?_,?_⟩
 ·rw[jo1 d (i*4) (by omega)];exact a 0 _ rfl
 ·rw[jo1 d (i*4+1) (by omega)];exact a 1 _ rfl
 ·rw[jo1 d (i*4+1+1) (by omega)];exact a 2 _ rfl
 rw[jo1 d (i*4+1+1+1) (by omega)];exact a 3 _ rfl
theorem zK.empty{w:World}{v:Value}{c:List Pr}(h:zK w v c):∃A a,v=.slice A c.length a/\c.length<=a:=by
 rcases h.row.2 with ⟨e,f⟩|⟨g,a,d,e,_,i,b,_⟩
 ·exact⟨none,0,by rw[e,f],by omega⟩
 exact⟨_,a,e,b⟩
theorem jff(w:World):zK w (.slice none 0 0) []:=⟨⟨rfl,.inl ⟨rfl,rfl⟩⟩,fun p h=>by cases h⟩
def Gw(o:Option Nat):Int:=match o with | some k=>(k:Nat) | none => -1
theorem jfa{es:List En}{id:Int}(h:0<id):vM es id=es.findIdx? fun e=>e.2==id:=if_pos h
theorem QZ{es:List En}{id:Int}{k:Nat}(h:∀e∈es.take k,e.2≠id)(e:En)(a:es[k]?=some e)(d:e.2=id):(es.findIdx? fun e=>e.2==id)=some k:=by
 have c:=(List.getElem?_eq_some_iff.1 a).1;refine List.findIdx?_eq_some_iff_getElem.2 ⟨c,?_,fun j b => ?_⟩
 ·have:es[k]=e:=(List.getElem?_eq_some_iff.1 a).2;rw[this];simpa using d
 have:es[j]∈es.take k:=by refine joW (i:=j) ?_;rw[jpD,if_pos b,joM (by omega)]
 simpa using h _ this
theorem Zl(b:List Pr)(v:Value)(y id:Int)(w:World)(h:zK w v b)(N:b.length<=1000000):
  Calls prog 174 #[.agg #[v,.int .i64 y],.int .i64 id] w fun e P=>e=.returned (.int .i64 (Gw (vM (b.map Prod.fst) id)))/\Below w.heap.size w P:=by
 obtain⟨A,m,rfl,L⟩:=h.empty;have j:=joI ((joL w.heap.size w).alloc (joJ _) (.cells #[.slice A b.length m,.int .i64 y] 37))
 have H:=joI (h.below j.out (joJ _));clear h;by_cases d:0<id
 ·have f:=joI (jfa (es:=b.map Prod.fst) d);go_enter func174,ntmps174;go_wp2_with fail;go_loopw [5] (fun i wr=>∃k:Nat,k<=b.length/\i=.int .i64 k/\wr=w.alloc (.cells #[.slice A b.length m,.int .i64 y] 37)/\∀e∈(b.map Prod.fst).take k,e.2≠id) (fun i _=>b.length-(intOf i).toNat)
  case atStart=>exact⟨0,joT _,rfl,rfl,fun e h=>by simp at h⟩
  case round =>
  obtain⟨k,U,rfl,rfl,q⟩:=hrel;by_cases o:k<b.length
  ·obtain⟨p,x⟩:∃p,b[k]?=some p:=⟨_,joM o⟩
   obtain⟨g,z,V,W,J,_,R,Q,D,E,G,I⟩:=H.out.here x;cases J;have s:(b.map Prod.fst)[k]?=some p.1:=by rw[jpx,x];rfl
   have l:=joI s;have t:=joI q
   clear x s q D E G;by_cases u:p.1.2=id
   ·rw[u]at I;go_wp2_with fail;go_ret;exact⟨by rw[f.out,QZ t.out _ l.out u];rfl,j.out⟩
   have O:((p.1.2:Int)==id)=false:=beq_eq_false_iff_ne.2 u;go_wp2_with fail;go_roundw
   case rel =>
    refine⟨k+1,o,by go_num,trivial,fun e c => ?_⟩;rw[jpd,l.out]at c;rcases List.mem_append.1 c with c|c
    ·exact t.out e c
    simp at c;rw[c];exact u
   case measure=>simp[intOf];omega
  obtain rfl:k=b.length:=by omega
  rw[show(b.map Prod.fst).take b.length=b.map Prod.fst by rw[jpi (by simp)]]at q;have t:=joI q
  clear q;go_wp2_with fail;go_ret;exact⟨by rw[f.out,List.findIdx?_eq_none_iff.2 (fun e c=>by simpa using t.out e c)];rfl,j.out⟩
 have f:=joI (show vM (b.map Prod.fst) id=none from if_neg d);have C:decide (0<id)=false:=decide_eq_false d
 go_enter func174,ntmps174;go_wp2_with fail;refine wp_loop_rounds 1 ?_;rw[rounds_succ];cases b with
 | nil =>
  simp only[jpm]at *
  go_wp2_with fail;go_ret;exact⟨by rw[f.out];rfl,j.out⟩
 | cons a r =>
 have K:(0:Int)<((a::r).length:Int):=by simp only[joR];omega
 generalize (a::r).length=n at *
 go_wp2_with fail;go_ret;exact⟨by rw[f.out];rfl,j.out⟩
theorem jgQ(es:List En)(k:Nat)(e:En)(h:es[k]?=some e):yS (es.take (k+1))=yS (es.take k)+if 0<e.2 then 1 else 0:=by
 unfold yS;rw[jpd,h,Option.toList_some,jqS,joK];congr 1;by_cases a:0<e.2
 ·rw[if_pos a,jp4,if_pos (by simpa using a)];rfl
 rw[if_neg a,jp4,if_neg (by simpa using a)];rfl
theorem jgR(es:List En):yS es<=es.length:=List.length_filter_le _ _
theorem jey(a:List Pr)(v:Value)(n:Int)(w:World)(h:zK w v a)(C:a.length<=1000000):
  Calls prog 176 #[.agg #[v,.int .i64 n]] w fun e G=>e=.returned (.int .i64 (yS (a.map Prod.fst):Nat))/\Below w.heap.size w G:=by
 obtain⟨A,d,rfl,z⟩:=h.empty;have o:=joI ((joL w.heap.size w).alloc (joJ _) (.cells #[.slice A a.length d,.int .i64 n] 37))
 have H:=joI (h.below o.out (joJ _));have s:=joI (fun k=>jgR ((a.map Prod.fst).take k))
 clear h;go_enter func176,ntmps176;go_wp2_with fail;go_loopw [3,4] (fun c i wr=>∃k:Nat,k<=a.length/\i=.int .i64 k/\c=.int .i64 (yS ((a.map Prod.fst).take k):Nat)/\wr=w.alloc (.cells #[.slice A a.length d,.int .i64 n] 37)) (fun _ i _=>a.length-(intOf i).toNat)
 case atStart=>exact⟨0,joT _,rfl,rfl,rfl⟩
 case round =>
 obtain⟨k,L,rfl,rfl,rfl⟩:=hrel;have f:=s.out k
 rw[joS]at f;by_cases b:k<a.length
 ·obtain⟨p,l⟩:∃p,a[k]?=some p:=⟨_,joM b⟩
  obtain⟨g,r,N,O,y,_,K,J,t,u,x,I⟩:=H.out.here l;cases y;have j:(a.map Prod.fst)[k]?=some p.1:=by rw[jpx,l];rfl
  have q:=joI (jgQ _ k p.1 j);clear l j t u x;generalize yS ((a.map Prod.fst).take k)=c at *
  by_cases m:0<p.1.2
  ·go_wp2_with fail;go_roundw
   case rel=>exact⟨k+1,b,by go_num,by rw[q.out,if_pos m];go_num,trivial⟩
   case measure=>simp[intOf];omega
  have D:decide (0<p.1.2)=false:=decide_eq_false m;go_wp2_with fail;go_roundw
  case rel=>exact⟨k+1,b,by go_num,by rw[q.out,if_neg m];rfl,trivial⟩
  case measure=>simp[intOf];omega
 obtain rfl:k=a.length:=by omega
 have E:=joI (show(a.map Prod.fst).take a.length=a.map Prod.fst by rw[jpi (by simp)]);rw[E.out];go_wp2_with fail;go_ret;exact⟨rfl,o.out⟩
end Go.Proofs.YtbapfpekklcicaaGreatDoor
