/- Texts put together:UN,UO,UP,UQ. -/
import Derived.Test.YtbapfpekklcicaaGreatDoorBbx11
set_option linter.unusedVariables false
set_option maxRecDepth 100000
set_option maxHeartbeats 16000000
namespace Go.Proofs.YtbapfpekklcicaaGreatDoor
open Go.RowKit Go.Shelf Tryz
abbrev jpT:=@List.mem_or_eq_of_mem_set
abbrev jqz:=@List.length_set
section
attribute [local go_sem] jn9 qS
def vZ(lo:Nat)(w:World)(u:Value)(a:Int)(n:Nat):Prop:=n<=11/\((u=Zv n/\a = -9)\/∃k:Nat,jz lo w u k n/\a=k/\n≠0)
theorem vZ.of{lo:Nat}{w:World}{u:Value}{fs:List Fld}(h:Jw lo w u fs):vZ lo w u (vv fs) (qA fs):=by
 unfold Jw at h;unfold vv;refine⟨QZ fs,?_⟩;split at h
 ·rename_i a;rw[if_pos a];exact .inl ⟨h,rfl⟩
 rename_i a;rw[if_neg a];have b:qA fs=foldN fs:=by unfold jki at a;unfold qA;rw[if_neg (fun e=>a (.inl e)),if_neg (fun e=>a (.inr (.inl e)))]
 refine .inr ⟨_,by rw[b];exact h,rfl,fun e=>a (.inr (.inr (by omega)))⟩
theorem vZ.none(lo:Nat)(w:World):vZ lo w .nilIface (-9) 0:=⟨by decide,.inl ⟨rfl,rfl⟩⟩
theorem vZ.err(lo:Nat)(w:World)(n:Nat)(h:n<=11):vZ lo w (Zv n) (-9) n:=⟨h,.inl ⟨rfl,rfl⟩⟩
theorem vZ.below{lo:Nat}{w w':World}{u:Value}{a:Int}{n N:Nat}(h:vZ lo w u a n)(d:Below N w w')(c:w.heap.size<=N):vZ lo w' u a n:=by
 obtain⟨b,h|⟨k,e,h⟩⟩:=h
 ·exact⟨b,.inl h⟩
 exact⟨b,.inr ⟨k,e.below d c,h⟩⟩
def JA(k:Option Nat)(l:LS)(fs:List Fld):Did :=
 match k with
 | none=>⟨l,-9,7,0⟩
 | some k=>if qA fs=0 then ⟨⟨XP l.es k (zx fs),l.next⟩,-9,0,0⟩ else ⟨l,vv fs,qA fs,0⟩
def Xv(k:Option Nat)(l:LS):Did :=
 match k with
 | none=>⟨l,-9,7,0⟩
 | some k=>⟨⟨GG l.es k,l.next⟩,-9,0,0⟩
def yi(k:Option Nat)(full:Bool)(l:LS)(fs:List Fld):Did :=
 match k with
 | none=>⟨l,-9,7,0⟩
 | some k=>if qA fs=0 then (if full=true then ⟨l,-9,11,0⟩ else ⟨⟨Ui l.es k (zx fs,l.next),l.next+1⟩,-9,0,l.next⟩) else ⟨l,vv fs,qA fs,0⟩
theorem Vt{k:Nat}{l:LS}{fs:List Fld}(h:qA fs=0):JA (some k) l fs=⟨⟨XP l.es k (zx fs),l.next⟩,-9,0,0⟩:=if_pos h
theorem YB{k:Nat}{l:LS}{fs:List Fld}(h:qA fs≠0):JA (some k) l fs=⟨l,vv fs,qA fs,0⟩:=if_neg h
theorem Wh{k:Nat}{a:Bool}{l:LS}{fs:List Fld}(h:qA fs≠0):yi (some k) a l fs=⟨l,vv fs,qA fs,0⟩:=if_neg h
theorem VF{k:Nat}{l:LS}{fs:List Fld}(h:qA fs=0):yi (some k) true l fs=⟨l,-9,11,0⟩:=by unfold yi;dsimp only;rw[if_pos h,if_pos rfl]
theorem Xe{k:Nat}{l:LS}{fs:List Fld}(h:qA fs=0):yi (some k) false l fs=⟨⟨Ui l.es k (zx fs,l.next),l.next+1⟩,-9,0,l.next⟩:=by unfold yi;dsimp only;rw[if_pos h,if_neg (by decide)]
theorem Kx(l:LS)(id:Int)(fs:List Fld):zu l id fs=JA (vu l.es id) l fs:=rfl
theorem jbc(l:LS)(id:Int):zR l id=Xv (vu l.es id) l:=rfl
theorem jaT(l:LS)(id:Int)(fs:List Fld):zh l id fs=yi (jgC l.es id) (decide (400<=xp l.es)) l fs:=by
 unfold zh yi;cases jgC l.es id with
 | none=>rfl
 | some k=>simp
theorem jlq(a:List Pr)(id:Int):yj a id=jjb (a.map Prod.fst) id:=by unfold yj jjb jmY jbG;rw[<- WI (κ:=fun e:En=>e.1.kind) Prod.fst,List.find?_map,Option.map_map];rfl
structure WrR(w:World)(lb:Nat)(ev:Value)(ps:List Pr)(d:Did)(u:Value)(w':World)(ev':Value)(ps':List Pr):Prop where
 la:LA w' lb ev' ps' d.ls.next
 es:ps'.map Prod.fst=d.ls.es
 only:jI (fun r=>r=lb\/ev.ownBlock=some r) w w'
 blk:ev'.ownBlock=ev.ownBlock\/∃b,ev'.ownBlock=some b/\w.heap.size<=b
 err:vZ w.heap.size w' u d.at_ d.bad
 mem:∀p∈ps',p∈ps\/∀b,p.2.ownBlock=some b->w.heap.size<=b
theorem jcP(a:List Pr)(k:Nat)(p:Pr)(it:It)(x:Value)(h:a[k]?=some p):(a.set k ((it,p.1.2),x)).map Prod.fst=XP (a.map Prod.fst) k it:=by
 unfold XP;apply jpR;intro j;rw[joI,List.getElem?_set,jqb,joI];by_cases b:k=j
 ·subst b;rw[if_pos rfl,h,if_pos (List.getElem?_eq_some_iff.1 h).1];simp
 rw[if_neg b];cases a[j]? with
 | none=>rfl
 | some y=>simp[b]
theorem ja7(a:List Pr)(k:Nat)(q:Pr)(h:k<a.length):jl (a.set k q)=(jl a).take (k*4)++(zb q++(jl a).drop ((k+1)*4)):=by rw[List.set_eq_take_append_cons_drop,if_pos h,yk,show jl (q::a.drop (k+1))=zb q++jl (a.drop (k+1)) from rfl,vQ,vS]
theorem ZZ{w:World}{v:Value}{a:List Pr}(h:Vh w v a):∀u∈jl a,u.oneCell'=true :=
 ja8 fun p b=>by obtain⟨A,c,e⟩:=(h.each p b).form;rw[e];rfl
structure jbx(fs:List Fld):Prop where
 len:fs.length<=1000
 each:∀f∈fs,f.1.length<=100000/\f.2.length<=100000
theorem jci(lb:Nat)(x:Value)(a:List Pr)(C id:Int)(w:World)(h:LA w lb x a C)(s:a.length<=1000000):
  Calls prog 242 #[ptr lb,.int .i64 id] w fun e X=>∃u K P,e=.returned u/\WrR w lb x a (Xv (yj a id) ⟨a.map Prod.fst,C⟩) u X K P:=by
 have f:=jnS (Yk lb x a C id w h.lr s);have H:=jnS h
 clear h;unfold ptr at *
 cases z:yj a id with
 | none =>
  rw[z]at f;unfold JV at f;dsimp only at f;go_enter func242,ntmps242;go_wp2_with fail;refine f.out.mono ?_;rintro e D ⟨rfl,m⟩;go_wp2_with fail;go_ret;exact⟨_,x,a,rfl,H.out.below m (jnT _),rfl,jI.of_below m (jnT _),.inl rfl,vZ.err _ _ 7 (by decide),fun p A=>.inl A⟩
 | some k =>
 obtain⟨p,A,_,_⟩:=ZX z;rw[z]at f;unfold JV at f;dsimp only at f;have V:=(List.getElem?_eq_some_iff.1 A).1
 clear z A;go_enter func242,ntmps242;go_wp2_with fail;refine f.out.mono ?_;rintro e D ⟨rfl,m⟩;have j:=H.out.below m (jnT _)
 obtain⟨g,c,rfl⟩:=joW j.lr.ents.row (by omega);have E:=jnS (jcj 0 g a.length c k (jl a) D j.lr.ents.row (ZZ j.lr.ents) V s)
 have Y:D.cell? ⟨lb,0,none⟩=some (.slice (some ⟨g,0,none⟩) a.length c):=j.lr.head.cell 0;have n:g≠lb:=fun e=>j.lr.row_ne (by rw[e];rfl)
 have v:=jnS j;have U:=jnS m
 clear f j m;unfold sl at E;have W:IntKind.i64.wrap ((k:Int)+1)=(k:Int)+1:=jos _ (by omega)
 go_wp2_with fail;refine E.out.mono ?_;rintro e R ⟨rfl,t,O⟩;have y:=v.out.lr.head.only O (fun e=>n e.symm)
 have Z:R.cell? ⟨lb,0,none⟩=some (.slice (some ⟨g,0,none⟩) a.length c):=y.cell 0;have f0:=y.frozen 0
 have G:=jnS y;have J:=jnS t
 have I:=jnS O;clear E y t O;go_wp2_with fail;go_ret;have N:(GG (a.map Prod.fst) k)=(a.take k++a.drop (k+1)).map Prod.fst:=by unfold GG;rw[joB,List.map_take,List.map_drop]
 have o:(a.take k++a.drop (k+1)).length=a.length-1:=by rw[jnU,jn2,jn6];omega
 have d:∀q∈a.take k++a.drop (k+1),q∈a:=fun q i=>by
  rcases List.mem_append.1 i with h|h
  ·exact joR h
  exact joJ h
 have Q:jI (fun r=>r=lb\/(Value.slice (some ⟨g,0,none⟩) a.length c).ownBlock=some r) D (R.setCell ⟨lb,0,none⟩ (.slice (some ⟨g,0,none⟩) (a.length-1) c)) :=
  (I.out.mono (fun r _ e=>.inr (by rw[e];rfl))).setCell (p:=⟨lb,0,none⟩) (.inl (.inl rfl)) _
 refine⟨_,.slice (some ⟨g,0,none⟩) (a.length-1) c,a.take k++a.drop (k+1),rfl,⟨⟨?_,⟨?_,?_⟩⟩,?_⟩,N.symm,(jI.of_below U.out (jnT _)).trans Q (fun r hr e=>e),.inl rfl,vZ.none _ _,fun q i=>.inl (d q i)⟩
 ·have:=G.out.set 0 (.slice (some ⟨g,0,none⟩) (a.length-1) c);show jd _ lb 98 #[_,.int .i64 (C-1)]
  simpa [List.setIfInBounds_toArray,List.set]using this
 ·rw[o,yk,vQ,vS];exact jy (p:=⟨lb,0,none⟩) J.out (fun e=>n (jnY e)) _
 ·intro q i;refine(v.out.lr.ents.each q (d q i)).only Q (fun l b L e => ?_);obtain⟨a1,a2⟩:=v.out.apart q (d q i) l b L;rcases e with e|e
  ·exact a1 e
  exact a2 e
 intro q i l b L;exact v.out.apart q (d q i) l b L
theorem LA.replace{w:World}{lb g cap:Nat}{i:List Pr}{J:Int}{k:Nat}{p:Pr}{it:It}{x:Value}(h:LA w lb (.slice (some ⟨g,0,none⟩) i.length cap) i J)(I:i[k]?=some p)(hx:Qn w x it.fields)(t:it.fields≠[]->∀b,x.ownBlock=some b->b≠lb/\b≠g):
  LA (((w.setCell ⟨g,k*4,none⟩ (.int .i64 it.kind)).setCell ⟨g,k*4+1,none⟩ (.string (B it.raw))).setCell ⟨g,k*4+1+1,none⟩ x) lb (.slice (some ⟨g,0,none⟩) i.length cap) (i.set k ((it,p.1.2),x)) J /\
   jI (· = g) w (((w.setCell ⟨g,k*4,none⟩ (.int .i64 it.kind)).setCell ⟨g,k*4+1,none⟩ (.string (B it.raw))).setCell ⟨g,k*4+1+1,none⟩ x):=by
 have Q:=(List.getElem?_eq_some_iff.1 I).1;have z:g≠lb:=fun e=>h.lr.row_ne (by rw[e];rfl)
 have o:jI (· = g) w (((w.setCell ⟨g,k*4,none⟩ (.int .i64 it.kind)).setCell ⟨g,k*4+1,none⟩ (.string (B it.raw))).setCell ⟨g,k*4+1+1,none⟩ x) :=
  (((jI.refl (· = g) w).cellS _ _).cellS _ _).cellS _ _
 obtain⟨hl,L⟩:=h.lr.ents.row;obtain⟨l,P,C,y,s,E⟩:∃l,jd w g 109 l/\i.length<=cap/\cap<=maxLen/\l.size=cap*4/\l.toList.take (i.length*4)=jl i:=by
  rcases L with ⟨q,_⟩|⟨R,G,l,q,a,b,c,d,e,f⟩
  ·cases q
  cases q;exact⟨l,b,c,d,e,f⟩
 have v:∀j,j<i.length*4->(jl i)[j]?=l[j]?:=fun j u=>by rw[<- E,joH,if_pos u];simp
 have K:jd (((w.setCell ⟨g,k*4,none⟩ (.int .i64 it.kind)).setCell ⟨g,k*4+1,none⟩ (.string (B it.raw))).setCell ⟨g,k*4+1+1,none⟩ x) g 109 (Wd l (k*4) [.int .i64 it.kind,.string (B it.raw),x]) :=
  jd.lay [.int .i64 it.kind,.string (B it.raw),x] (k*4) P
 have A:=xz i k p I 3 (.int .i64 p.1.2) rfl;refine⟨⟨⟨h.lr.head.only o (fun e=>z e.symm),⟨?_,fun q n => ?_⟩⟩,fun q n m b r => ?_⟩,o⟩
 ·rw[jqz,ja7 i k _ Q];have D:((jl i).take (k*4)++(zb ((it,p.1.2),x)++(jl i).drop ((k+1)*4))).length=i.length*4:=by
   rw[jnU,jnU,jn2,jn6,hl];show _+(4+_)=_
   omega
  refine⟨D,.inr ⟨g,cap,_,rfl,jn3 _,K,C,y,by rw[qG,s],?_⟩⟩;apply jpR;intro j;rw[joH];split
  ·rename_i u;rw[jp7,Je _ _ _ _ (by rw[s];simp only[jn1,joz];omega)];simp only[jn1,joz];split
   ·rename_i N;rw[joh (by rw[jn2,hl];omega),jn2,hl,show min (k*4) (i.length*4)=k*4 by omega,joq (by show _<4;omega)];rcases(by omega:j-k*4=0\/j-k*4=1\/j-k*4=2) with e|e|e<;>rw[e]<;>rfl
   rename_i N;rw[<- v j u];rcases joo j (k*4) with H|H
   ·rw[joq (by rw[jn2,hl];omega),joH,if_pos H]
   rw[joh (by rw[jn2,hl];omega),jn2,hl,show min (k*4) (i.length*4)=k*4 by omega];rcases joo j (k*4+4) with O|O
   ·have e:j=k*4+3:=by omega
    subst e;rw[show k*4+3-k*4=3 by omega,A];rfl
   rw[joh (by show 4<=_;omega),jox];show _=(jl i)[(k+1)*4+(j-k*4-4)]?
   congr 1;omega
  rename_i u;rw[jon (by omega)]
 ·rcases jpT n with n|rfl
  ·exact(h.lr.ents.each q n).only o (fun m b r e=>(h.apart q n m b r).2 (by rw[e];rfl))
  exact hx.only o (fun m b r e=>(t m b r).2 e)
 rcases jpT n with n|rfl
 ·exact h.apart q n m b r
 obtain⟨a1,a2⟩:=t m b r;exact⟨a1,fun e=>a2 (jnY e).symm⟩
theorem jar(lb:Nat)(K:Value)(a:List Pr)(W id:Int)(fs:List Fld)(v:Value)(w:World)(h:LA w lb K a W)(af:a.length<=1000000)(hs:Qn w v fs)(N:jbx fs):
  Calls prog 241 #[ptr lb,.int .i64 id,v] w fun e w'=>∃u a8 ai,e=.returned u/\WrR w lb K a (JA (yj a id) ⟨a.map Prod.fst,W⟩ fs) u w' a8 ai:=by
 have l:=jnS (Yk lb K a W id w h.lr af);have H:=jnS h
 have HS:=jnS hs;obtain⟨va,vc,rfl⟩:=hs.form;clear h hs;unfold ptr at *
 cases U:yj a id with
 | none =>
  rw[U]at l;unfold JV at l;dsimp only at l;go_enter func241,ntmps241;go_wp2_with fail;refine l.out.mono ?_;rintro e X ⟨rfl,t⟩;go_wp2_with fail;go_ret;exact⟨_,K,a,rfl,H.out.below t (jnT _),rfl,jI.of_below t (jnT _),.inl rfl,vZ.err _ _ 7 (by decide),fun p y=>.inl y⟩
 | some k =>
 obtain⟨p,y,_,_⟩:=ZX U;rw[U]at l;unfold JV at l;dsimp only at l;have hk:=(List.getElem?_eq_some_iff.1 y).1
 have P:=jnS y;clear U y;go_enter func241,ntmps241;go_wp2_with fail;refine l.out.mono ?_;rintro e X ⟨rfl,t⟩;have z:=HS.out.below t (jnT _)
 have Y:=jnS (jdf fs _ X z.1 z.2 (by have:=N.len;omega) N.each);have B1:=jnS t
 have hz:=t.size;clear l t z;go_wp2_with fail;refine Y.out.mono ?_;rintro e C ⟨u,x,j⟩;have A:=jnS (B1.out.trans (j.below.mono hz))
 have CK:=jnS (j.chk.mono hz);obtain rfl:=j.ret;by_cases s:qA fs=0
 ·have V:=j.chk.zero s;subst V;have hx:=jnS (j.own s)
  obtain⟨D,E,rfl,_⟩:=je (j.own s);have ae:Us fs=3:=if_pos s
  have ag:jdQ fs=jM fs:=if_pos s;rw[ae,ag];have G:=H.out.below A.out (jnT _)
  obtain⟨g,m,rfl⟩:=joW G.lr.ents.row (by omega);obtain⟨g',I,pa,pc,e1,ar,aj,J,d0,d1,R,d3⟩:=G.lr.ents.here P.out;cases e1;rw[J]at R;have aq:g<w.heap.size:=(H.out.lr.ents.row.lt g rfl).2
  have c0:C.cell? ⟨lb,0,none⟩=some (.slice (some ⟨g,0,none⟩) a.length m):=G.lr.head.cell 0;have LH:=jnS G
  clear j Y G J;go_wp2_with fail;obtain⟨f,i⟩:∃f,f=C.alloc (.cells #[.int .i64 3,.string (B (jM fs)),.slice D fs.length E] 107):=⟨_,rfl⟩
  have Q:=jnS (show LA f lb (.slice (some ⟨g,0,none⟩) a.length m) a W by rw[i];exact LH.out.below ((jnV _ _).alloc (jnT _) _) (jnT _));have O:jd f C.heap.size 107 #[.int .i64 3,.string (B (jM fs)),.slice D fs.length E]:=by rw[i];exact jd.new _ _ _
  have Z:=jnS (show f.ownsRow X.heap.size 148 2 (.slice D fs.length E) fs.length (jA fs) by rw[i];exact hx.out.alloc _);have B3:=jnS (show Below w.heap.size w f by rw[i];exact A.out.alloc A.out.size _)
  rw[<- i];clear i c0 d0 d1 R d3 LH A hx;obtain⟨g',I,au,av,e1,_,ak,J,d0,d1,R,d3⟩:=Q.out.lr.ents.here P.out;cases e1;rw[J]at R;obtain⟨o,d⟩:∃o,jd f g 109 o:=by
   rcases Q.out.lr.ents.row.2 with ⟨q,_⟩|⟨am,a7,o,q,_,c,_⟩
   ·cases q
   cases q;exact⟨o,c⟩
  have f0:=d.frozen (k*4);have f1:=d.frozen (k*4+1)
  have f2:=d.frozen (k*4+1+1);have c0:f.cell? ⟨lb,0,none⟩=some (.slice (some ⟨g,0,none⟩) a.length m):=Q.out.lr.head.cell 0
  have i0:f.cell? ⟨C.heap.size,0,none⟩=some (.int .i64 3):=O.cell 0;have i1:f.cell? ⟨C.heap.size,1,none⟩=some (.string (B (jM fs))):=O.cell 1
  have i2:f.cell? ⟨C.heap.size,2,none⟩=some (.slice D fs.length E):=O.cell 2;clear O d J;go_region_law (skip)
  all_goals go_wp2_with fail
  all_goals
   go_ret;rw[Vt s];have ap:lb<w.heap.size:=H.out.lr.head.lt
   obtain⟨q1,q2⟩:=(Q.out.below (n:=f.heap.size) (jnV _ f).drew (jnT _)).replace (it:=zx fs) (x:=.slice D fs.length E) P.out (Qn.own (show f.drew.ownsRow X.heap.size 148 2 (.slice D fs.length E) fs.length (jA fs) from Z.out)) (fun _ b hb=>by
    have:=(Z.out.lt b hb).1;exact⟨by omega,by omega⟩)
   refine⟨_,_,_,rfl,q1,?_,(jI.of_below (B3.out.drew) (jnT _)).trans (q2.mono (fun r _ e=>(.inr (by rw[e];rfl):r=lb\/(Value.slice (some ⟨g,0,none⟩) a.length m).ownBlock=some r))) (fun r hr e=>e),.inl rfl,?_,fun q hq => ?_⟩
   ·exact jcP a k p _ _ P.out
   ·exact vZ.none _ _
   rcases jpT hq with h|h
   ·exact .inl h
   right;rw[h];intro b hb;have:=(Z.out.lt b hb).1;omega
 have ah:=j.none_ s;subst ah;rcases j.chk.pos s with V|⟨q,V⟩
 all_goals
  subst V;have aa:=jnS (vZ.of (j.chk.mono hz))
  clear j Y CK;go_wp2_with fail;go_ret;rw[YB s];have L:=A.out.alloc A.out.size (.cells #[.int .i64 (Us fs),.string (B (jdQ fs)),.slice none 0 0] 107)
  exact⟨_,K,a,rfl,H.out.below L (jnT _),rfl,jI.of_below L (jnT _),.inl rfl,aa.out.below ((jnV _ _).alloc (jnT _) _) (jnT _),fun p y=>.inl y⟩
theorem jlm{a:List Pr}{id:Int}{k:Nat}(h:jhP a id=some k):k<=a.length:=by
 unfold jhP at h;split at h
 ·cases h;omega
 obtain⟨q,c,rfl⟩:=Option.map_eq_some_iff.1 h;obtain⟨p,b,_⟩:=ZX c;have:=(List.getElem?_eq_some_iff.1 b).1
 omega
theorem Wg(fs:List Fld)(a:Int):jkR (zx fs) a=a/\jkU (zx fs) a=a+1:=⟨rfl,rfl⟩
theorem Ur(lb:Nat)(c:Value)(a:List Pr)(f:Int)(w:World)(h:LR w lb c a f)(b:a.length<=1000000):
  Calls prog 32 #[ptr lb] w fun e g=>e=.returned (.int .i64 ((Qs 0 a).length:Nat))/\Below w.heap.size w g :=
 jk1 a c (some ⟨lb,0,none⟩) w (fun _ d=>jlV.of (h.below d (jnT _))) b
theorem jcZ(a:List Pr)(k:Nat)(e:En)(x:Value):(a.take k++(e,x)::a.drop k).map Prod.fst=Ui (a.map Prod.fst) k e:=by unfold Ui;rw[joB,joy,List.map_take,List.map_drop]
theorem LA.insert{w x w2 w':World}{lb:Nat}{d f:Value}{c:List Pr}{Q nx':Int}{k:Nat}{q:Pr}{lo:Nat}(h:LA x lb d c Q)(o:Below w.heap.size w x)(K:lb<w.heap.size)(s:∀b,d.ownBlock=some b->b<w.heap.size)(U:k<=c.length)
  (J:jd w2 lb 98 #[d,.int .i64 (nx'-1)]) (v:jI (· = lb) x w2)
  (L:Qn w2 q.2 q.1.1.fields) (G:q.1.1.fields≠[]->∀b,q.2.ownBlock=some b->w.heap.size<=b/\b<w2.heap.size)
  (N:w'.ownsRow lo 109 4 f (c.length+1) ((jl c).take (k*4)++(zb q++(jl c).drop (k*4)))) (E:jI (fun r=>d.ownBlock=some r) w2 w') (j:f.ownBlock=d.ownBlock\/∃b,f.ownBlock=some b/\w2.heap.size<=b) :
  LA (w'.setCell ⟨lb,0,none⟩ f) lb f (c.take k++q::c.drop k) nx'/\jI (fun r=>r=lb\/d.ownBlock=some r) w (w'.setCell ⟨lb,0,none⟩ f)/\(f.ownBlock=d.ownBlock\/∃b,f.ownBlock=some b/\w.heap.size<=b):=by
 have m:=h.lr.row_ne;have O:=o.size
 have P:=v.size;have D:f.ownBlock≠some lb:=by
  rcases j with e|⟨b,e,g⟩
  ·rw[e];exact m
  rw[e];intro q;have:b=lb:=jnY q;omega
 have R:jI (fun r=>r=lb\/d.ownBlock=some r) x w':=(v.mono (fun r _ e=>.inl e)).trans E (fun r _ e=>.inr e);have I:jI (fun r=>r=lb\/d.ownBlock=some r) x (w'.setCell ⟨lb,0,none⟩ f):=R.setCell (p:=⟨lb,0,none⟩) (.inl (.inl rfl)) _
 have C:jd w' lb 98 #[d,.int .i64 (nx'-1)]:=J.only E m;have n:∀y∈c.take k++q::c.drop k,y∈c\/y=q:=fun y i=>by
  rcases List.mem_append.1 i with a|a
  ·exact .inl (joR a)
  rcases List.mem_cons.1 a with a|a
  ·exact .inr a
  exact .inl (joJ a)
 have u:q.1.1.fields≠[]->∀b,q.2.ownBlock=some b->b≠lb/\d.ownBlock≠some b/\f.ownBlock≠some b:=fun l b g=>by
  obtain⟨a1,a2⟩:=G l b g;have a3:d.ownBlock≠some b:=fun e=>by have:=s b e;omega
  refine⟨by omega,a3,?_⟩;rcases j with e|⟨z,e,A⟩
  ·rw[e];exact a3
  rw[e];intro q;have:z=b:=jnY q;omega
 refine⟨⟨⟨?_,⟨?_,?_⟩⟩,?_⟩,(jI.of_below o (jnT _)).trans I (fun r _ e=>e),?_⟩
 ·have:=C.set 0 f;simpa [List.setIfInBounds_toArray,List.set]using this
 ·have t:(c.take k++q::c.drop k).length=c.length+1:=by rw[jnU,jn1,jn2,jn6];omega
  rw[t,yk,show jl (q::c.drop k)=zb q++jl (c.drop k) from rfl,vQ,vS];exact jy (p:=⟨lb,0,none⟩) (jE N (jn3 _)) D _
 ·intro y i;rcases n y i with i|rfl
  ·refine(h.lr.ents.each y i).only I (fun l b g e => ?_);obtain⟨a1,a2⟩:=h.apart y i l b g;rcases e with e|e
   ·exact a1 e
   exact a2 e
  refine L.only ((E.mono (S':=fun r=>r=lb\/d.ownBlock=some r) (fun r _ e=>.inr e)).setCell (p:=⟨lb,0,none⟩) (.inl (.inl rfl)) f) (fun l b g e => ?_);obtain⟨a1,a2,_⟩:=u l b g;rcases e with e|e
  ·exact a1 e
  exact a2 e
 ·intro y i l b g;rcases n y i with i|rfl
  ·obtain⟨a1,a2⟩:=h.apart y i l b g;refine⟨a1,?_⟩;have H:=(h.lr.ents.each y i).1.lt l b g
   rcases j with e|⟨z,e,A⟩
   ·rw[e];exact a2
   rw[e];intro q;have:z=b:=jnY q;omega
  obtain⟨a1,_,a3⟩:=u l b g;exact⟨a1,a3⟩
 rcases j with e|⟨b,e,g⟩
 ·exact .inl e
 exact .inr ⟨b,e,by omega⟩
theorem jbX(lb:Nat)(z:Value)(a:List Pr)(d id:Int)(fs:List Fld)(v:Value)(w:World)(h:LA w lb z a d)(aO:a.length<=10000)(aE : -1000000<=d/\d<=1000000)(hs:Qn w v fs)(ak:jbx fs):
  Calls prog 243 #[ptr lb,.int .i64 id,v] w fun e w'=>∃u aB aK,e=.returned (.tuple #[.int .i64 (yi (jhP a id) (decide ((Qs 0 a).length=400)) ⟨a.map Prod.fst,d⟩ fs).id,u])/\WrR w lb z a (yi (jhP a id) (decide ((Qs 0 a).length=400)) ⟨a.map Prod.fst,d⟩ fs) u w' aB aK:=by
 have W:=jnS (jll lb z a d id w h.lr (by omega));have H:=jnS h
 have HS:=jnS hs;obtain⟨va,vc,rfl⟩:=hs.form;clear h hs;unfold ptr at *
 generalize aj:decide ((Qs 0 a).length=400)=I;have Z:=jnS aj
 clear aj;cases hf:jhP a id with
 | none =>
  rw[hf]at W;go_enter func243,ntmps243;go_wp2_with fail;refine W.out.mono ?_;rintro e w1 ⟨⟨k,rfl,_⟩,K⟩;dsimp only[Option.isSome];go_wp2_with fail;go_ret2;exact⟨_,z,a,rfl,H.out.below K (jnT _),rfl,jI.of_below K (jnT _),.inl rfl,vZ.err _ _ 7 (by decide),fun p hp=>.inl hp⟩
 | some k =>
 rw[hf]at W;have ap:=jlm hf
 clear hf;go_enter func243,ntmps243;go_wp2_with fail;refine W.out.mono ?_;rintro e w1 ⟨⟨k',rfl,am⟩,K⟩;obtain rfl:=am k rfl;dsimp only[Option.isSome];have N:=HS.out.below K (jnT _)
 have IT:=jnS (jdf fs _ w1 N.1 N.2 (by have:=ak.len;omega) ak.each);have B1:=jnS K
 have hz:=K.size;clear W K N am;go_wp2_with fail;refine IT.out.mono ?_;rintro e w2 ⟨u,x,r⟩;have B2:=jnS (B1.out.trans (r.below.mono hz))
 have aQ:=r.below.size;obtain rfl:=r.ret;by_cases s:qA fs=0
 ·have O:=r.chk.zero s;subst O;have hx:=jnS (r.own s)
  obtain⟨g,i,rfl,_⟩:=je (r.own s);have aD:Us fs=3:=if_pos s
  have aF:jdQ fs=jM fs:=if_pos s;rw[aD,aF];clear r IT;have l:=B2.out.alloc B2.out.size (.cells #[.int .i64 3,.string (B (jM fs)),.slice g fs.length i] 107)
  have LN:=jnS (Ur lb z a d _ (H.out.lr.below l (jnT _)) (by omega));unfold ptr at LN;have X:=jnS l
  clear l;have aP:=WJ (κ:=fun p:Pr=>p.1.1.kind) 0 a
  go_wp2_with fail;refine LN.out.mono ?_;rintro e Q ⟨rfl,b3⟩;have B3:=jnS (X.out.trans (b3.mono X.out.size))
  have aI:=b3.size;rw[joe]at aI;have U:jd Q w2.heap.size 107 #[.int .i64 3,.string (B (jM fs)),.slice g fs.length i]:=(jd.new w2 _ _).below b3 (by simp)
  have X3:=jnS (zf (hx.out.alloc (.cells #[.int .i64 3,.string (B (jM fs)),.slice g fs.length i] 107)) b3 (jnT _));by_cases h4:(Qs 0 a).length=400
  ·obtain rfl:I=true:=by rw[<- Z.out];exact decide_eq_true h4
   have ae:(((Qs 0 a).length:Nat):Int)=400:=by omega
   clear b3 LN U;rw[ae];go_wp2_with fail;go_ret2;rw[VF s];exact⟨_,z,a,rfl,H.out.below B3.out (jnT _),rfl,jI.of_below B3.out (jnT _),.inl rfl,vZ.err _ _ 11 (by decide),fun p hp=>.inl hp⟩
  obtain rfl:I=false:=by rw[<- Z.out];exact decide_eq_false h4
  have ae:((((Qs 0 a).length:Nat):Int)==400)=false:=beq_eq_false_iff_ne.2 (by omega);have L3:=jnS (H.out.below B3.out (jnT _))
  have V:=jnS (Wn (zx fs) g fs.length i lb z d Q L3.out.lr.head aE);rw[(Wg fs d).1,(Wg fs d).2]at V;unfold zx ptr at V;dsimp only at V;have i0:Q.cell? ⟨w2.heap.size,0,none⟩=some (.int .i64 3):=U.cell 0
  have i1:Q.cell? ⟨w2.heap.size,1,none⟩=some (.string (B (jM fs))):=U.cell 1;have i2:Q.cell? ⟨w2.heap.size,2,none⟩=some (.slice g fs.length i):=U.cell 2
  clear b3 LN U;generalize (Qs 0 a).length=ll at *
  go_wp2_with fail;refine V.out.mono ?_;rintro e C ⟨rfl,ag,av⟩;have EO:=jnS (show ∃A n c,z=.slice A n c from by obtain⟨A,c,e,_⟩:=L3.out.lr.ents.empty;exact⟨A,_,c,e⟩)
  have ax:=jnS ag;have a8:=jnS av
  clear V ag av i0 i1 i2;go_wp2_with fail;obtain⟨f,m⟩:∃f,f=C.alloc (.cells #[.int .i64 3,.string (B (jM fs)),.slice g fs.length i,.int .i64 d] 109):=⟨_,rfl⟩
  have j:=L3.out;obtain⟨D,G,E,rfl⟩:=EO.out;have aJ:f.heap.size=C.heap.size+1:=by rw[m];simp
  have aR:=a8.out.size;have aL:=j.lr.head.lt
  have CA:jd f lb 98 #[.slice D G E,.int .i64 (d+1-1)]:=by rw[m];exact ax.out.alloc _
  have P:jd f C.heap.size 109 #[.int .i64 3,.string (B (jM fs)),.slice g fs.length i,.int .i64 d]:=by rw[m];exact jd.new _ _ _
  have y:jI (· = lb) Q f:=by rw[m];exact a8.out.alloc _
  have RA:f.ownsRow 0 109 4 (.slice D G E) a.length (jl a):=jK j.lr.ents.row y (fun b t e=>j.lr.row_ne (by rw[t];exact congrArg some e));have XA:=jnS (jK X3.out y (fun b t e=>by
   have h1:=(X3.out.lt b t).1;have h2:=H.out.lr.head.lt
   omega))
  rw[<- m];clear m;have a7:=jnS (jbZ 0 (.slice D G E) a.length k' f.heap.size (jl a) [.int .i64 3,.string (B (jM fs)),.slice g fs.length i,.int .i64 d] ((f.alloc (.cells #[.int .i64 3,.string (B (jM fs)),.slice g fs.length i,.int .i64 d] 109)).drew) (show((f.alloc (.cells #[.int .i64 3,.string (B (jM fs)),.slice g fs.length i,.int .i64 d] 109)).drew).ownsRow 0 109 4 (.slice D G E) a.length (jl a) from RA.alloc _) (ZZ j.lr.ents) ap (by omega) (jn3 _) rfl (show jd ((f.alloc (.cells #[.int .i64 3,.string (B (jM fs)),.slice g fs.length i,.int .i64 d] 109)).drew) f.heap.size 109 _ from jd.new f _ _) (fun e=>by have:=(RA.lt _ e).2;omega) (by intro u O;simp at O;rcases O with rfl | rfl | rfl | rfl<;>rfl))
  unfold sl jlU at a7;have c0:f.cell? ⟨lb,0,none⟩=some (.slice D G E):=CA.cell 0
  have aN:∀o,(f.alloc o).cell? ⟨lb,0,none⟩=some (.slice D G E):=fun o=>(CA.alloc o).cell 0;have j0:f.cell? ⟨C.heap.size,0,none⟩=some (.int .i64 3):=P.cell 0
  have j1:f.cell? ⟨C.heap.size,1,none⟩=some (.string (B (jM fs))):=P.cell 1;have j2:f.cell? ⟨C.heap.size,2,none⟩=some (.slice g fs.length i):=P.cell 2
  have j3:f.cell? ⟨C.heap.size,3,none⟩=some (.int .i64 d):=P.cell 3;have R:=jnS CA
  have aw:=jnS P;have aA:=jnS y
  have J:=j.lr.row_ne;have ay:=jnS J
  have Y:=jnS (show ∀b,(Value.slice D G E).ownBlock=some b->b<w.heap.size from fun b t=>(H.out.lr.ents.row.lt b t).2);have aq:=H.out.lr.head.lt
  clear CA P y RA J j aJ;go_region_law (go_simp;go_at_call 268;refine a7.out.mono ?_;rintro e w6 ⟨v',rfl,au,L,af⟩;obtain⟨g6,aa,rfl⟩:=ownsRow_succ au;have ah:=jnS ((R.out.alloc _).drew.only L ay.out);have ai:=jnS ((aw.out.alloc _).drew.only L (fun e=>by have:=Y.out _ e;omega));have k0:w6.cell? ⟨lb,0,none⟩=some (.slice D G E):=ah.out.cell 0;have aS:=ah.out.frozen 0;have ar:=jnS L)
  all_goals
   have j6:(w6.setCell ⟨lb,0,none⟩ (.slice (some ⟨g6,0,none⟩) (a.length+1) aa)).cell? ⟨C.heap.size,3,none⟩=some (.int .i64 d):=(ai.out.other (p:=⟨lb,0,none⟩) (by show C.heap.size≠lb;omega) _).cell 3;go_wp2_with fail
  all_goals
   go_ret2;rw[Xe s];have aH:Qn ((f.alloc (.cells #[.int .i64 3,.string (B (jM fs)),.slice g fs.length i,.int .i64 d] 109)).drew) (.slice g fs.length i) fs:=Qn.own ((show f.drew.ownsRow w1.heap.size 148 2 (.slice g fs.length i) fs.length (jA fs) from XA.out).alloc _)
   have aM:((f.alloc (.cells #[.int .i64 3,.string (B (jM fs)),.slice g fs.length i,.int .i64 d] 109)).drew).heap.size=f.heap.size+1:=by show(f.alloc _).heap.size=_;rw[joe]
   obtain⟨q1,q2,q3⟩:=LA.insert (q:=((zx fs,d),.slice g fs.length i)) (nx':=d+1) L3.out B3.out aq Y.out ap ((R.out.alloc _).drew) ((aA.out.alloc _).drew) aH (fun _ b t=>⟨by have:=(XA.out.lt b t).1;omega,by have:=(XA.out.lt b t).2;omega⟩) au ar.out (af.imp (fun h=>h) fun h=>⟨_,h,by omega⟩);exact⟨_,_,_,rfl,q1,jcZ a k' (zx fs,d) _,q2,q3,vZ.none _ _,fun q hq=>by
    rcases List.mem_append.1 hq with h|h
    ·exact .inl (joR h)
    rcases List.mem_cons.1 h with h|h
    ·right;rw[h];intro b t;have:=(XA.out.lt b t).1;omega
    exact .inl (joJ h)⟩
 have aG:=r.none_ s;subst aG;rcases r.chk.pos s with O|⟨q,O⟩
 all_goals
  subst O;have aC:=jnS (vZ.of (r.chk.mono hz))
  clear r IT;go_wp2_with fail;go_ret2;rw[Wh s];have l:=B2.out.alloc B2.out.size (.cells #[.int .i64 (Us fs),.string (B (jdQ fs)),.slice none 0 0] 107)
  exact⟨_,z,a,rfl,H.out.below l (jnT _),rfl,jI.of_below l (jnT _),.inl rfl,aC.out.below ((jnV _ _).alloc (jnT _) _) (jnT _),fun p hp=>.inl hp⟩
structure jhS(w wr:World)(lb:Nat)(ev:Value)(ps:List Pr)(nx:Int):Prop where
 head:jd wr lb 98 #[ev,.int .i64 (nx-1)]
 row:wr.ownsRow w.heap.size 109 4 ev ps.length (jl ps)
 each:∀p∈ps,wr.ownsRow w.heap.size 148 2 p.2 p.1.1.fields.length (jA p.1.1.fields)
 below:Below w.heap.size w wr
 lb:w.heap.size<=lb
theorem jh{W:World}{lo n b:Nat}{t u:TypeId}{l:Nat}{v:Value}{xs:List Value}{c:Array Value}(h:W.ownsRow lo t l v n xs)(i:jd W b u c)(k:t≠u):v.ownBlock≠some b:=by
 intro e;rcases h.2 with ⟨q,_⟩|⟨g,a,d,q,_,j,_⟩
 ·rw[q]at e;cases e
 rw[q]at e;have:g=b:=jnY e
 subst this;have:=j.symm.trans i
 injection this with this;injection this with _ f _;exact k f
theorem jX{W:World}{lo c n m:Nat}{t u:TypeId}{o d:Nat}{v x:Value}{xs p:List Value}(h:W.ownsRow lo t o v n xs)(g:W.ownsRow c u d x m p)(l:t≠u):∀b,v.ownBlock=some b->x.ownBlock≠some b:=by
 intro b a;rcases h.2 with ⟨q,_⟩|⟨j,f,i,q,_,k,_⟩
 ·rw[q]at a;cases a
 rw[q]at a;obtain rfl:j=b:=jnY a;exact jh g k (fun e=>l e.symm)
theorem jhS.la{w wr:World}{lb:Nat}{c:Value}{g:List Pr}{f:Int}(h:jhS w wr lb c g f):LA wr lb c g f :=
 ⟨⟨h.head,⟨jE h.row (jn3 _),fun p a=>Qn.own (h.each p a)⟩⟩,fun p a _ b d =>
  ⟨fun e=>jh (h.each p a) h.head (by decide) (by rw[<- e];exact d),jX (h.each p a) h.row (by decide) b d⟩⟩
theorem jhS.below'{w wr w2:World}{lb:Nat}{b:Value}{d:List Pr}{c:Int}(h:jhS w wr lb b d c)(a:Below wr.heap.size wr w2):jhS w w2 lb b d c :=
 ⟨h.head.below a h.head.lt,zf h.row a (jnT _),fun p e=>zf (h.each p e) a (jnT _),h.below.trans (a.mono h.below.size),h.lb⟩
theorem jhS.snoc{w i d:World}{lb:Nat}{u a:Value}{g:List Pr}{C:Int}{p:Pr}(h:jhS w i lb u g C)(I:i.ownsRow w.heap.size 148 2 p.2 p.1.1.fields.length (jA p.1.1.fields))
  (v:d.ownsRow 0 109 4 a (g.length+1) (jl g++zb p)) (z:jd d lb 98 #[u,.int .i64 (C-1)]) (f:a.ownBlock=u.ownBlock\/∃k,a.ownBlock=some k/\i.heap.size<=k/\k<d.heap.size) (D:jI (fun r=>some r=u.ownBlock) i d) :
  jhS w (d.setCell ⟨lb,0,none⟩ a) lb a (g++[p]) C:=by
 have A:a.ownBlock≠some lb:=jh v z (by decide);have J:=h.below.size
 have s:d.ownsRow w.heap.size 109 4 a (g.length+1) (jl g++zb p):=by
  rcases v.2 with ⟨q,_⟩|⟨y,j,l,q,_,t⟩
  ·exact⟨v.1,.inl ⟨q,by omega⟩⟩
  refine⟨v.1,.inr ⟨y,j,l,q,?_,t⟩⟩;rcases f with f|⟨k,f,K,_⟩
  ·exact(h.row.lt y (by rw[<- f,q];rfl)).1
  rw[q]at f;have:y=k:=jnY f
  omega
 have c:∀{x:Value} {m:Nat} {E:List Value},i.ownsRow w.heap.size 148 2 x m E->(d.setCell ⟨lb,0,none⟩ a).ownsRow w.heap.size 148 2 x m E:=fun hx =>
  have n:=jK hx D (fun b H e=>jX hx h.row (by decide) b H e.symm)
  jy (p:=⟨lb,0,none⟩) n (jh n z (by decide)) _
 refine⟨?_,?_,?_,?_,h.lb⟩
 ·have:=z.set 0 a;simpa [List.setIfInBounds_toArray,List.set]using this
 ·rw[jnU,vR];exact jy (p:=⟨lb,0,none⟩) s A _
 ·intro q o;rcases List.mem_append.1 o with o|o
  ·exact c (h.each q o)
  rw[List.mem_singleton.1 o];exact c I
 have G:Below w.heap.size i d:=D.to_below J (fun r L e=>by
  have:=(h.row.lt r e.symm).1;omega)
 exact(h.below.trans G).setCell (p:=⟨lb,0,none⟩) h.lb _
theorem jhi(lb:Nat)(ev:Value)(l:List Pr)(J:Int)(w:World)(h:LA w lb ev l J)(ok:jkk l):
  Calls prog 208 #[ptr lb] w fun e Z=>∃E f G,e=.returned (ptr E)/\LA Z E f G J/\G.map Prod.fst=l.map Prod.fst/\Below w.heap.size w Z/\w.heap.size<=E/\(∀b,f.ownBlock=some b->w.heap.size<=b)/\(∀p∈G,∀b,p.2.ownBlock=some b->w.heap.size<=b):=by
 obtain⟨i0,hi,ax,ay,aA⟩:=info_parts Jg;obtain⟨A,af,rfl,aF⟩:=h.lr.ents.empty;have c0:w.cell? ⟨lb,0,none⟩=some (.slice A l.length af):=h.lr.head.cell 0
 have c1:w.cell? ⟨lb,1,none⟩=some (.int .i64 (J-1)):=h.lr.head.cell 1;have aG:=h.lr.head.lt
 have H:=jnS h;have aC:=ok.len
 have HF:=jnS ok.fields;have v:jhS w (w.alloc (.cells #[.slice none 0 0,.int .i64 (J-1)] 98)) w.heap.size (.slice none 0 0) [] J :=
  ⟨jd.new _ _ _,⟨rfl,.inl ⟨rfl,rfl⟩⟩,(fun p h=>by cases h),(jnV _ _).alloc (jnT _) _,jnT _⟩
 have t:=jnS v;clear h ok v;unfold ptr;go_enter func208,ntmps208;go_wp2_with fail;go_loopw [19] (fun i wr=>∃(k:Nat) (f:Value) (d:List Pr),k<=l.length/\i=.int .i64 k/\jhS w wr w.heap.size f d J/\d.map Prod.fst=(l.take k).map Prod.fst) (fun i _=>l.length-(intOf i).toNat)
 case atStart=>exact⟨0,_,[],jn3 _,rfl,t.out,rfl⟩
 case round =>
 obtain⟨k,f,d,hk,rfl,a,m⟩:=hrel;by_cases R:k<l.length
 ·obtain⟨p,D⟩:∃p,l[k]?=some p:=⟨_,jnW R⟩
  have z:=a.below;have hE:=H.out.lr.ents.below z (jnT _)
  obtain⟨g,y,X,Y,e1,_,hg,e2,d0,d1,d2,d3⟩:=hE.here D;cases e1;have Q:=hE.each p (jn7 D)
  have ak:=HF.out p (jn7 D);rw[e2]at d2;have TK:=jnS (show(l.take (k+1)).map Prod.fst=(l.take k).map Prod.fst++[p.1] by rw[jor,D];simp)
  have aq:d.length=k:=by have:=congrArg List.length m;rw[joi,joi,jn2]at this;omega
  subst aq;have a7:=jnS a
  have HQ:=jnS m;have aa:=jnS Q
  have E2:=jnS e2;obtain⟨O,P,rfl,aE⟩:=je a.row;clear a m hE Q D e2;go_wp2_with fail;obtain⟨j,n⟩:∃j,j=wr.alloc (.cells #[.int .i64 p.1.1.kind,.string (B p.1.1.raw),.slice X p.1.1.fields.length Y,.int .i64 p.1.2] 109):=⟨_,rfl⟩
  have s:=(jnV wr.heap.size wr).alloc (jnT _) (.cells #[.int .i64 p.1.1.kind,.string (B p.1.1.raw),.slice X p.1.1.fields.length Y,.int .i64 p.1.2] 109);rw[<- n]at s;have I:jd j wr.heap.size 109 #[.int .i64 p.1.1.kind,.string (B p.1.1.raw),.slice X p.1.1.fields.length Y,.int .i64 p.1.2]:=by rw[n];exact jd.new _ _ _
  have aB:j.heap.size=wr.heap.size+1:=by rw[n];simp
  rw[<- n];clear n d0 d1 d2 d3;have q:=jnS (a7.out.below' s)
  have g0:j.cell? ⟨w.heap.size,0,none⟩=some (.slice O d.length P):=q.out.head.cell 0;have j0:j.cell? ⟨wr.heap.size,0,none⟩=some (.int .i64 p.1.1.kind):=I.cell 0
  have j1:j.cell? ⟨wr.heap.size,1,none⟩=some (.string (B p.1.1.raw)):=I.cell 1;have j2:j.cell? ⟨wr.heap.size,2,none⟩=some (.slice X p.1.1.fields.length Y):=I.cell 2
  have j3:j.cell? ⟨wr.heap.size,3,none⟩=some (.int .i64 p.1.2):=I.cell 3;have r:=jgq p j.drew ((aa.out.below s (jnT _)).below (jnV j.heap.size j).drew (jnT _)) ak
  unfold jhQ at r;rw[E2.out]at r;have IT:=jnS r
  have L:=jnS I;have av:=q.out.below.size
  have a8:=jnS (q.out.below' (w2:=j.drew) (jnV _ _).drew);have ae:=jnS q.out.la.lr.row_ne
  clear I r aB s;go_region_law (first
   | (go_simp;go_at_call 73;refine IT.out.mono ?_;rintro e K ⟨x,rfl,hx,W⟩;obtain⟨xa,xc,rfl,_⟩:=je hx;have c:=jnS (a8.out.below' W);have aw:=jnS hx;have ag:=jnS (L.out.drew.below W L.out.lt);have q0:K.cell? ⟨w.heap.size,0,none⟩=some (.slice O d.length P):=c.out.head.cell 0;have q3:K.cell? ⟨wr.heap.size,3,none⟩=some (.int .i64 p.1.2):=ag.out.cell 3;have aI:∀o,(K.alloc o).cell? ⟨w.heap.size,0,none⟩=some (.slice O d.length P):=fun o=>(c.out.head.alloc o).cell 0;have U:=jnS (jE c.out.row (jn3 _));have ai:=jnS c.out.head;have B5:=jnS W;clear hx W)
   | (refine jZ rfl (.tmp 27) (.tmp 33) 96 rfl 109 i0 _ 4 56 underlying96 hi ax ay aA rfl (by decide) (.slice O d.length P) d.length (jl d) (by simp[Act.eval]) (by exact U.out.alloc _) ⟨K.heap.size,0,none⟩ 1 1 [.int .i64 p.1.1.kind,.string (B p.1.1.raw),.slice xa p.1.1.fields.length xc,.int .i64 p.1.2] (by simp[Act.eval]) rfl (jC K 109 [.int .i64 p.1.1.kind,.string (B p.1.1.raw),.slice xa p.1.1.fields.length xc,.int .i64 p.1.2]) (by intro u hu;simp at hu;rcases hu with rfl | rfl | rfl | rfl<;>rfl) (by unfold maxLen;omega) (by omega) ?_;intro v' Z ho am ah;obtain⟨⟨g',y,rfl⟩,C,aD,ap,au⟩:=xJ ai.out U.out ae.out ((jnV _ K).alloc (jnT _) _) ho am ah;have k0:Z.cell? ⟨w.heap.size,0,none⟩=some (.slice O d.length P):=C.cell 0;have aH:=C.frozen 0))
  all_goals go_wp2_with fail
  all_goals
   have N:=c.out.snoc (p:=(p.1,.slice xa p.1.1.fields.length xc)) (jE aw.out av) ho C ap au;go_roundw
   case rel =>
    refine⟨d.length+1,.slice (some ⟨g',0,none⟩) (d.length+1) y,d++[(p.1,.slice xa p.1.1.fields.length xc)],R,by go_num,N,?_⟩;rw[TK.out,joB,HQ.out];rfl
   case measure=>simp[intOf];omega
 obtain rfl:k=l.length:=by omega
 rw[jom]at m;have ar:=a.la
 have V:=a.row;have z:=a.below
 have aj:=a.each;clear H HF t c0 c1;go_wp2_with fail;go_ret;exact⟨_,f,d,rfl,ar,m,z,jnT _,fun b z=>(V.lt b z).1,fun p D b z=>((aj p D).lt b z).1⟩
end
structure zN(w:World)(v:Value)(ps:List Pr):Prop where
 row:w.ownsRow 0 112 4 v ps.length (jl ps)
 each:∀p∈ps,vK w p.2 p.1.1.fields
theorem zN.below{w w':World}{v:Value}{c:List Pr}{n:Nat}(h:zN w v c)(a:Below n w w')(b:w.heap.size<=n):zN w' v c :=
 ⟨zf h.row a b,fun p d=>(h.each p d).below a b⟩
theorem zN.here{w:World}{v:Value}{f:List Pr}(h:zN w v f){i:Nat}{p:Pr}(j:f[i]?=some p):∃g b A c,v=.slice (some ⟨g,0,none⟩) f.length b/\f.length<=b/\g<w.heap.size/\p.2=.slice A p.1.1.fields.length c /\
  w.cell? ⟨g,i*4,none⟩=some (.int .i64 p.1.1.kind)/\w.cell? ⟨g,i*4+1,none⟩=some (.string (B p.1.1.raw))/\w.cell? ⟨g,i*4+1+1,none⟩=some p.2/\w.cell? ⟨g,i*4+1+1+1,none⟩=some (.int .i64 p.1.2):=by
 have n:i<f.length:=(List.getElem?_eq_some_iff.1 j).1;obtain⟨A,c,m,_⟩:=h.each p (jn7 j);have d:=h.row
 rcases h.row.2 with ⟨_,q⟩|⟨g,b,l,e,_,o,k,_⟩
 ·omega
 rw[e]at d;have a:=xz f i p j
 refine⟨g,b,A,c,e,k,(joV d g rfl).2,m,?_,?_,?_,?_⟩
 ·rw[job d (i*4) (by omega)];exact a 0 _ rfl
 ·rw[job d (i*4+1) (by omega)];exact a 1 _ rfl
 ·rw[job d (i*4+1+1) (by omega)];exact a 2 _ rfl
 rw[job d (i*4+1+1+1) (by omega)];exact a 3 _ rfl
theorem zN.empty{w:World}{v:Value}{c:List Pr}(h:zN w v c):∃A a,v=.slice A c.length a/\c.length<=a:=by
 rcases h.row.2 with ⟨e,f⟩|⟨g,a,d,e,_,i,b,_⟩
 ·exact⟨none,0,by rw[e,f],by omega⟩
 exact⟨_,a,e,b⟩
theorem jeO(w:World):zN w (.slice none 0 0) []:=⟨⟨rfl,.inl ⟨rfl,rfl⟩⟩,fun p h=>by cases h⟩
def Gd(o:Option Nat):Int:=match o with | some k=>(k:Nat) | none => -1
theorem jeJ{es:List En}{id:Int}(h:0<id):vu es id=es.findIdx? fun e=>e.2==id:=if_pos h
theorem QT{es:List En}{id:Int}{k:Nat}(h:∀e∈es.take k,e.2≠id)(e:En)(a:es[k]?=some e)(d:e.2=id):(es.findIdx? fun e=>e.2==id)=some k:=by
 have c:=(List.getElem?_eq_some_iff.1 a).1;refine List.findIdx?_eq_some_iff_getElem.2 ⟨c,?_,fun j b => ?_⟩
 ·have:es[k]=e:=(List.getElem?_eq_some_iff.1 a).2;rw[this];simpa using d
 have:es[j]∈es.take k:=by refine jn7 (i:=j) ?_;rw[joH,if_pos b,jnW (by omega)]
 simpa using h _ this
theorem Zd(b:List Pr)(v:Value)(y id:Int)(w:World)(h:zN w v b)(N:b.length<=1000000):
  Calls prog 174 #[.agg #[v,.int .i64 y],.int .i64 id] w fun e P=>e=.returned (.int .i64 (Gd (vu (b.map Prod.fst) id)))/\Below w.heap.size w P:=by
 obtain⟨A,m,rfl,L⟩:=h.empty;have j:=jnS ((jnV w.heap.size w).alloc (jnT _) (.cells #[.slice A b.length m,.int .i64 y] 37))
 have H:=jnS (h.below j.out (jnT _));clear h;by_cases d:0<id
 ·have f:=jnS (jeJ (es:=b.map Prod.fst) d);go_enter func174,ntmps174;go_wp2_with fail;go_loopw [5] (fun i wr=>∃k:Nat,k<=b.length/\i=.int .i64 k/\wr=w.alloc (.cells #[.slice A b.length m,.int .i64 y] 37)/\∀e∈(b.map Prod.fst).take k,e.2≠id) (fun i _=>b.length-(intOf i).toNat)
  case atStart=>exact⟨0,jn3 _,rfl,rfl,fun e h=>by simp at h⟩
  case round =>
  obtain⟨k,U,rfl,rfl,q⟩:=hrel;by_cases o:k<b.length
  ·obtain⟨p,x⟩:∃p,b[k]?=some p:=⟨_,jnW o⟩
   obtain⟨g,z,V,W,J,_,R,Q,D,E,G,I⟩:=H.out.here x;cases J;have s:(b.map Prod.fst)[k]?=some p.1:=by rw[joI,x];rfl
   have l:=jnS s;have t:=jnS q
   clear x s q D E G;by_cases u:p.1.2=id
   ·rw[u]at I;go_wp2_with fail;go_ret;exact⟨by rw[f.out,QT t.out _ l.out u];rfl,j.out⟩
   have O:((p.1.2:Int)==id)=false:=beq_eq_false_iff_ne.2 u;go_wp2_with fail;go_roundw
   case rel =>
    refine⟨k+1,o,by go_num,trivial,fun e c => ?_⟩;rw[jor,l.out]at c;rcases List.mem_append.1 c with c|c
    ·exact t.out e c
    simp at c;rw[c];exact u
   case measure=>simp[intOf];omega
  obtain rfl:k=b.length:=by omega
  rw[show(b.map Prod.fst).take b.length=b.map Prod.fst by rw[jol (by simp)]]at q;have t:=jnS q
  clear q;go_wp2_with fail;go_ret;exact⟨by rw[f.out,List.findIdx?_eq_none_iff.2 (fun e c=>by simpa using t.out e c)];rfl,j.out⟩
 have f:=jnS (show vu (b.map Prod.fst) id=none from if_neg d);have C:decide (0<id)=false:=decide_eq_false d
 go_enter func174,ntmps174;go_wp2_with fail;refine wp_loop_rounds 1 ?_;rw[rounds_succ];cases b with
 | nil =>
  simp only[joz]at *
  go_wp2_with fail;go_ret;exact⟨by rw[f.out];rfl,j.out⟩
 | cons a r =>
 have K:(0:Int)<((a::r).length:Int):=by simp only[jn1];omega
 generalize (a::r).length=n at *
 go_wp2_with fail;go_ret;exact⟨by rw[f.out];rfl,j.out⟩
theorem jgh(es:List En)(k:Nat)(e:En)(h:es[k]?=some e):xp (es.take (k+1))=xp (es.take k)+if 0<e.2 then 1 else 0:=by
 unfold xp;rw[jor,h,Option.toList_some,jo8,jnU];congr 1;by_cases a:0<e.2
 ·rw[if_pos a,joP,if_pos (by simpa using a)];rfl
 rw[if_neg a,joP,if_neg (by simpa using a)];rfl
theorem jgi(es:List En):xp es<=es.length:=jqt _ _
theorem jd5(a:List Pr)(v:Value)(n:Int)(w:World)(h:zN w v a)(C:a.length<=1000000):
  Calls prog 176 #[.agg #[v,.int .i64 n]] w fun e G=>e=.returned (.int .i64 (xp (a.map Prod.fst):Nat))/\Below w.heap.size w G:=by
 obtain⟨A,d,rfl,z⟩:=h.empty;have o:=jnS ((jnV w.heap.size w).alloc (jnT _) (.cells #[.slice A a.length d,.int .i64 n] 37))
 have H:=jnS (h.below o.out (jnT _));have s:=jnS (fun k=>jgi ((a.map Prod.fst).take k))
 clear h;go_enter func176,ntmps176;go_wp2_with fail;go_loopw [3,4] (fun c i wr=>∃k:Nat,k<=a.length/\i=.int .i64 k/\c=.int .i64 (xp ((a.map Prod.fst).take k):Nat)/\wr=w.alloc (.cells #[.slice A a.length d,.int .i64 n] 37)) (fun _ i _=>a.length-(intOf i).toNat)
 case atStart=>exact⟨0,jn3 _,rfl,rfl,rfl⟩
 case round =>
 obtain⟨k,L,rfl,rfl,rfl⟩:=hrel;have f:=s.out k
 rw[jn2]at f;by_cases b:k<a.length
 ·obtain⟨p,l⟩:∃p,a[k]?=some p:=⟨_,jnW b⟩
  obtain⟨g,r,N,O,y,_,K,J,t,u,x,I⟩:=H.out.here l;cases y;have j:(a.map Prod.fst)[k]?=some p.1:=by rw[joI,l];rfl
  have q:=jnS (jgh _ k p.1 j);clear l j t u x;generalize xp ((a.map Prod.fst).take k)=c at *
  by_cases m:0<p.1.2
  ·go_wp2_with fail;go_roundw
   case rel=>exact⟨k+1,b,by go_num,by rw[q.out,if_pos m];go_num,trivial⟩
   case measure=>simp[intOf];omega
  have D:decide (0<p.1.2)=false:=decide_eq_false m;go_wp2_with fail;go_roundw
  case rel=>exact⟨k+1,b,by go_num,by rw[q.out,if_neg m];rfl,trivial⟩
  case measure=>simp[intOf];omega
 obtain rfl:k=a.length:=by omega
 have E:=jnS (show(a.map Prod.fst).take a.length=a.map Prod.fst by rw[jol (by simp)]);rw[E.out];go_wp2_with fail;go_ret;exact⟨rfl,o.out⟩
end Go.Proofs.YtbapfpekklcicaaGreatDoor
