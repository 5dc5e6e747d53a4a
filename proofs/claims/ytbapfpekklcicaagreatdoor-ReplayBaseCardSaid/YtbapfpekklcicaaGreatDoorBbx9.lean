/- Texts put together:UB,UC,UD,UE,TG,TJ,UF,RI,RQ,RK. -/
import Derived.Orders
import Derived.Sort.BigQuietIn
import Derived.Test.YtbapfpekklcicaaGreatDoorBbx8
set_option linter.unusedVariables false
set_option maxRecDepth 100000
set_option maxHeartbeats 16000000
namespace Go.Proofs.YtbapfpekklcicaaGreatDoor
open Go.RowKit Go.Shelf Tryz
abbrev jo9:=@Go.World.cell?_of_block
abbrev jqm:=@List.find?_append
abbrev Pr:=En×Value
def zb(p:Pr):List Value:=[.int .i64 p.1.1.kind,.string (B p.1.1.raw),p.2,.int .i64 p.1.2]
def jl(ps:List Pr):List Value:=ps.flatMap zb
theorem vR(a:List Pr)(p:Pr):jl (a++[p])=jl a++zb p:=by unfold jl;simp
theorem yk(b a:List Pr):jl (b++a)=jl b++jl a:=by unfold jl;simp
theorem vQ:∀(a:List Pr) (k:Nat),jl (a.take k)=(jl a).take (k*4)
 | [],k=>by simp[jl]
 | p::r,0=>by simp[jl]
 | p::r,k+1=>by
  have b:=vQ r k;have e:jl (p::r)=zb p++jl r:=rfl
  rw[jpX,e,show jl (p::r.take k)=zb p++jl (r.take k) from rfl,b,List.take_append];have hl:(zb p).length=4:=rfl
  rw[hl,jol (l:=zb p) (by rw[hl];omega),show(k+1)*4-4=k*4 by omega]
theorem vS:∀(a:List Pr) (k:Nat),jl (a.drop k)=(jl a).drop (k*4)
 | [],k=>by simp[jl]
 | p::r,0=>by simp
 | p::r,k+1=>by
  have b:=vS r k;have e:jl (p::r)=zb p++jl r:=rfl
  have hl:(zb p).length=4:=rfl;rw[jqd,e,b,List.drop_append,hl,joO (l:=zb p) (by rw[hl];omega),show(k+1)*4-4=k*4 by omega,joL]
theorem xz:∀(b:List Pr) (i:Nat) (p:Pr),b[i]?=some p->∀j u,(zb p)[j]?=some u->(jl b)[i*4+j]?=some u
 | [],i,p,h=>by simp at h
 | q::r,0,p,h=>by
  simp at h;subst h;intro j u a;have e:jl (q::r)=zb q++jl r:=rfl
  rw[e,Nat.zero_mul,jov,joq (by have:=(List.getElem?_eq_some_iff.1 a).1;exact this)];exact a
 | q::r,i+1,p,h=>by
  intro j u a;have c:=xz r i p (by simpa using h) j u a
  have e:jl (q::r)=zb q++jl r:=rfl;have hl:(zb q).length=4:=rfl
  rw[e,joh (by rw[hl];omega),hl,show(i+1)*4+j-4=i*4+j by omega];exact c
theorem ja8{b:List Pr}(h:∀p∈b,p.2.oneCell'=true):∀u∈jl b,u.oneCell'=true:=by
 intro u a;obtain⟨p,c,a⟩:=List.mem_flatMap.1 a;unfold zb at a;simp at a;rcases a with rfl|rfl|rfl|rfl
 ·rfl
 ·rfl
 ·exact h p c
 rfl
def Qn(w:World)(v:Value)(fs:List Fld):Prop:=vK w v fs/\∀n c,v=.slice none n c->c=0
theorem Qn.below{w w':World}{v:Value}{fs:List Fld}{n:Nat}(h:Qn w v fs)(a:Below n w w')(b:w.heap.size<=n):Qn w' v fs:=⟨h.1.below a b,h.2⟩
theorem Qn.form{w:World}{v:Value}{fs:List Fld}(h:Qn w v fs):∃A c,v=.slice A fs.length c:=by obtain⟨A,c,e,_⟩:=h.1;exact⟨A,c,e⟩
theorem Qn.own{w:World}{base:Nat}{v:Value}{fs:List Fld}(h:w.ownsRow base 148 2 v fs.length (jA fs)):Qn w v fs :=
 ⟨xw h,fun n c e=>by
  rcases h.2 with ⟨q,_⟩|⟨g,b,a,q,_⟩
  ·rw[q]at e;cases e;rfl
  rw[q]at e;cases e⟩
structure Vh(w:World)(v:Value)(ps:List Pr):Prop where
 row:w.ownsRow 0 109 4 v ps.length (jl ps)
 each:∀p∈ps,Qn w p.2 p.1.1.fields
theorem Vh.below{w w':World}{v:Value}{b:List Pr}{n:Nat}(h:Vh w v b)(a:Below n w w')(c:w.heap.size<=n):Vh w' v b :=
 ⟨zf h.row a c,fun p d=>(h.each p d).below a c⟩
theorem Vh.here{w:World}{v:Value}{f:List Pr}(h:Vh w v f){i:Nat}{p:Pr}(k:f[i]?=some p):∃g a A c,v=.slice (some ⟨g,0,none⟩) f.length a/\f.length<=a/\g<w.heap.size/\p.2=.slice A p.1.1.fields.length c /\
  w.cell? ⟨g,i*4,none⟩=some (.int .i64 p.1.1.kind)/\w.cell? ⟨g,i*4+1,none⟩=some (.string (B p.1.1.raw))/\w.cell? ⟨g,i*4+1+1,none⟩=some p.2/\w.cell? ⟨g,i*4+1+1+1,none⟩=some (.int .i64 p.1.2):=by
 have m:i<f.length:=(List.getElem?_eq_some_iff.1 k).1;obtain⟨A,c,n⟩:=(h.each p (jn7 k)).form;have d:=h.row
 rcases h.row.2 with ⟨_,q⟩|⟨g,a,l,e,_,o,j,_⟩
 ·omega
 rw[e]at d;have b:=xz f i p k
 refine⟨g,a,A,c,e,j,(joV d g rfl).2,n,?_,?_,?_,?_⟩
 ·rw[job d (i*4) (by omega)];exact b 0 _ rfl
 ·rw[job d (i*4+1) (by omega)];exact b 1 _ rfl
 ·rw[job d (i*4+1+1) (by omega)];exact b 2 _ rfl
 rw[job d (i*4+1+1+1) (by omega)];exact b 3 _ rfl
theorem Vh.empty{w:World}{v:Value}{c:List Pr}(h:Vh w v c):∃A a,v=.slice A c.length a/\c.length<=a:=by
 rcases h.row.2 with ⟨e,f⟩|⟨g,a,d,e,_,i,b,_⟩
 ·exact⟨none,0,by rw[e,f],by omega⟩
 exact⟨_,a,e,b⟩
def jhQ(p:Pr):Value:=.agg #[.int .i64 p.1.1.kind,.string (B p.1.1.raw),p.2,.int .i64 p.1.2]
abbrev Qs:Nat->List Pr->List (Nat×Pr):=VR fun p=>p.1.1.kind
theorem jgF(v:Value)(w:World)(A:Option Addr)(n c:Nat)(a:v=.slice A n c):
  Calls prog 77 #[v] w fun e b=>e=.returned (.func (.func 135) #[] #[.pointer (some ⟨w.heap.size+1,0,none⟩),.pointer (some ⟨w.heap.size,0,none⟩)]) /\
   b=(w.alloc (.cells #[v] 96)).alloc (.cells #[.int .i64 0] 3):=by
 subst a;go_enter func77,ntmps77;go_wp2;go_ret;exact⟨rfl,rfl⟩
def jns(ps:List Pr)(n:Nat)(Bn:Nat)(w:World)(e:Ending)(w':World):Prop :=
 ∃n',Boxed w' Bn 3 (.int .i64 (n':Nat))/\jI (· = Bn) w w'/\n'<=ps.length /\
  ((e=.returned (.tuple #[.int .i64 0,.bool false])/\Qs n (ps.drop n)=[]) \/
   ∃k p,n<=k/\n'=k+1/\e=.returned (.tuple #[.int .i64 (k:Nat),.bool true])/\ps[k]?=some p/\Qs n (ps.drop n)=(k,p)::Qs n' (ps.drop n'))
theorem jf1(ps:List Pr)(v:Value)(n Bn Be:Nat)(w:World)(hn:n<=ps.length)(hps:ps.length<=1000000)(hbn:Boxed w Bn 3 (.int .i64 (n:Nat)))(hbe:Boxed w Be 96 v)(hne:Be≠Bn)(hE:Vh w v ps)(hg:∀g,v.ownBlock=some g->g≠Bn):
  Calls prog 135 #[.pointer (some ⟨Bn,0,none⟩),.pointer (some ⟨Be,0,none⟩)] w fun e w'=>jns ps n Bn w e w':=by
 obtain⟨A,cap,rfl,hle⟩:=hE.empty
 have HE:=jnS hE
 have HG:=jnS hg
 have HBE:=jnS hbe
 have HN:=jnS hne
 have HBN:=jnS hbn
 clear hE hg hbe hbn
 go_enter func135,ntmps135
 go_wp2_with fail
 go_loopw [4] (fun _ wr=>∃k:Nat,n<=k/\k<=ps.length/\Boxed wr Bn 3 (.int .i64 (k:Nat))/\jI (· = Bn) w wr/\Qs n (ps.drop n)=Qs k (ps.drop k)) (fun _ wr=>ps.length-jmP Bn wr)
 case atStart=>exact⟨n,jnT _,hn,HBN.out,jI.refl _ _,rfl⟩
 case round =>
 obtain⟨k,hk1,hk2,hb,ho,hs⟩:=hrel
 have c0:=hb.cell
 have f0:=hb.frozen
 have c1:wr.cell? ⟨Be,0,none⟩=some (.slice A ps.length cap):=Boxed.cell (show Boxed wr Be _ _ from(ho.same Be HBE.out.lt HN.out).trans HBE.out)
 have HB:=jnS hb
 have HO:=jnS ho
 have HS:=jnS hs
 have hk3:k<=1000000:=by omega
 clear hb ho hs
 by_cases hlt:k<ps.length
 ·obtain⟨p,hp⟩:∃p,ps[k]?=some p:=⟨_,jnW hlt⟩
  obtain⟨g,cap',pa,pc,e,_,hgl,_,d0,_⟩:=HE.out.here hp
  cases e
  have hgn:g≠Bn:=HG.out g rfl
  replace d0:wr.cell? ⟨g,k*4,none⟩=some (.int .i64 p.1.1.kind):=(jo9 (w:=w) (a:=⟨g,k*4,none⟩) (HO.out.same g hgl hgn)).trans d0
  have hbe2:Be≠Bn:=HN.out
  have SD:=jnS (jaf (κ:=fun p:Pr=>p.1.1.kind) ps 0 k p hp)
  have HP:=jnS hp
  clear hp
  by_cases hk:p.1.1.kind=3
  ·rw[hk]at d0
   go_wp2_with fail
   go_ret2
   refine⟨k+1,?_,HO.out.cellS 0 _,hlt,.inr ⟨k,p,hk1,rfl,rfl,HP.out,?_⟩⟩
   ·exact jo5 _ HB.out
   rw[HS.out]
   have:=SD.out
   rw[if_pos hk,jov,jov]at this
   exact this
  have hk':((p.1.1.kind:Int)==3)=false:=beq_eq_false_iff_ne.2 hk
  go_wp2_with fail
  go_roundw
  case rel =>
   refine⟨k+1,by omega,hlt,jo5 _ HB.out,HO.out.cellS 0 _,?_⟩
   rw[HS.out]
   have:=SD.out
   rw[if_neg hk,jov,jov]at this
   exact this
  case measure =>
  rw[Ve HB.out,Ve (B:=Bn) (n:=k+1) (w:=wr.setCell ⟨Bn,0,none⟩ (.int .i64 ((k:Int)+1))) (jo5 (.int .i64 ((k:Int)+1)) HB.out)]
  omega
 obtain rfl:k=ps.length:=by omega
 go_wp2_with fail
 go_ret2
 refine⟨ps.length,HB.out,HO.out,jnT _,.inl ⟨rfl,?_⟩⟩
 rw[HS.out,joO (jnT _)];rfl
section
attribute [local go_sem] jn9
theorem jcM(v:Value)(w:World)(A:Option Addr)(n c:Nat)(a:v=.slice A n c):
  Calls prog 43 #[v] w fun e b=>e=.returned (.func (.func 76) #[] #[.pointer (some ⟨w.heap.size,0,none⟩)])/\b=w.alloc (.cells #[v] 96):=by
 subst a;go_enter func43,ntmps43;go_wp2;go_ret;exact⟨rfl,rfl⟩
theorem jae(ps:List Pr)(v:Value)(Be:Nat)(w:World)(hbox:Boxed w Be 96 v)(hps:ps.length<=1000000)(hE:Vh w v ps):
  jhI prog 76 #[.pointer (some ⟨Be,0,none⟩)] (fun x=>#[.int .i64 (x.1:Nat),jhQ x.2]) 2 (Qs 0 ps) (fun W=>Vh W v ps/\Boxed W Be 96 v) w:=by
 intro l J Jx W hW hJ hK hY h0
 have hb:Boxed W Be 96 v:=(hW.block Be hbox.lt).trans hbox
 have hEW:=hE.below hW (jnT _)
 have hgw:∀g,v.ownBlock=some g->g<W.heap.size:=fun g e=>(hEW.row.lt g e).2
 obtain⟨A,cap,hv,hle⟩:=hE.empty
 have c0:=hb.cell
 have hbw:=hb.lt
 have FR:=callsIn_wide (n:=7).2 (jgF v W A ps.length cap hv)
 clear hE hEW hv
 refine callsIn_of_wp func76 rfl trivial ?_ rfl
 simp only[ntmps76,joY,jn1,joz,Nat.reduceAdd,Nat.reduceSub,joZ,jo0,jo6,jo1,joL,jog]
 gi_wp2_with (refine⟨trivial,?_⟩;gi_at_call 77;refine FR.mono ?_;rintro e w' ⟨rfl,rfl⟩)
 gi_loopw [4,5] (fun _ _ wr=>∃(pre:List (Nat×Pr)) (n:Nat),n<=ps.length/\Qs 0 ps=pre++Qs n (ps.drop n)/\Boxed wr W.heap.size 96 v/\Boxed wr (W.heap.size+1) 3 (.int .i64 (n:Nat))/\J pre wr)
  (fun _ _ wr=>ps.length-jmP (W.heap.size+1) wr)
 case atStart =>
  refine⟨[],0,jn3 _,rfl,?_,?_,hJ.alloc _ (hJ.alloc _ h0)⟩
  ·exact(jps W _ _).alloc _
  have:=jps (W.alloc (.cells #[v] 96)) 3 (.int .i64 0)
  rw[joe]at this;exact this
 case round =>
 obtain⟨pre,n,hn,hx,b1,b2,hj⟩:=hrel
 obtain⟨hE1,hb1⟩:=hK _ _ hj
 have NX0:=jf1 ps v n (W.heap.size+1) W.heap.size wr hn hps b2 b1 (by omega) hE1 (fun g e=>by have:=hgw g e;omega)
 have HX:=jnS hx
 have HE1:=jnS hE1
 have HB1:=jnS hb1
 have B1:=jnS b1
 have B2:=jnS b2
 clear hE1 hb1 hx b1 b2
 have turn:∀(w':World),jI (· = W.heap.size+1) wr w'->zm W.heap.size 2 wr w':=fun w' ho=>⟨ho.os,ho.tape,ho.output,ho.size,fun r a b=>ho.same r a (by omega)⟩
 cases hq:Qs n (ps.drop n) with
 | nil =>
  have NX:=callsIn_wide (n:=7).2 (NX0.mono (R':=fun e w'=>e=.returned (.tuple #[.int .i64 0,.bool false])/\jI (· = W.heap.size+1) wr w') (by
   rintro e w' ⟨n',b2',ho,hn',(⟨rfl,hs⟩|⟨k,p,hk,hk2,rfl,hp,hs⟩)⟩
   ·exact⟨rfl,ho⟩
   rw[hs]at hq;cases hq))
  have HQ:=jnS hq
  clear NX0 hq
  gi_wp2_with (refine⟨trivial,?_⟩;gi_at_call 135;refine NX.mono ?_;clear NX;rintro e w' ⟨rfl,ho⟩)
  refine⟨fun _ h=>(by cases h),?_⟩
  gi_wp2
  refine bodyPost_ret (results_none rfl _ _ _) rfl ⟨⟨_,rfl⟩,.inl ?_⟩
  have e0:Qs 0 ps=pre:=by rw[HX.out,HQ.out,jok]
  rw[e0]
  exact hJ _ _ _ hj (turn _ ho)
 | cons x post =>
 obtain⟨k,p⟩:=x
 have NX:=callsIn_wide (n:=7).2 (NX0.mono (R':=fun e w'=>e=.returned (.tuple #[.int .i64 (k:Nat),.bool true])/\jI (· = W.heap.size+1) wr w'/\n<=k/\k<ps.length/\Boxed w' (W.heap.size+1) 3 (.int .i64 (k+1:Nat))/\ps[k]?=some p/\post=Qs (k+1) (ps.drop (k+1))) (by
  rintro e w' ⟨n',b2',ho,hn',(⟨rfl,hs⟩|⟨k',p',hk,hk2,rfl,hp,hs⟩)⟩
  ·rw[hs]at hq;cases hq
  rw[hs]at hq
  cases hq
  subst hk2
  exact⟨rfl,ho,hk,hn',b2',hp,rfl⟩))
 have HQ:=jnS hq
 have hpk:ps[k]?=some p:=by
  have:=(Zy n (ps.drop n) (k,p) (by rw[show VR (fun p:Pr=>p.1.1.kind) n (ps.drop n)=_ from hq];exact jn5)).2.1
  have h2:=(Zy n (ps.drop n) (k,p) (by rw[show VR (fun p:Pr=>p.1.1.kind) n (ps.drop n)=_ from hq];exact jn5)).1
  rw[jox,show n+((k,p).1-n)=k by simp only at h2 ⊢;omega]at this
  exact this
 have hkl0:=(List.getElem?_eq_some_iff.1 hpk).1
 obtain⟨g,cap',pa,pc,e1,_,hg,e2,d0,d1,d2,d3⟩:=HE1.out.here hpk
 have q0:wr.cell? ⟨Be,0,none⟩=some v:=HB1.out.cell
 have hgw':=hgw g (by rw[e1];rfl)
 rw[e2]at d2
 rw[e1]at q0
 have VT:∀(w':World),jI (· = W.heap.size+1) wr w'->w'.cell? ⟨Be,0,none⟩=some (.slice (some ⟨g,0,none⟩) ps.length cap')/\w'.cell? ⟨g,k*4,none⟩=some (.int .i64 p.1.1.kind)/\w'.cell? ⟨g,k*4+1,none⟩=some (.string (B p.1.1.raw))/\w'.cell? ⟨g,k*4+1+1,none⟩=some (.slice pa p.1.1.fields.length pc)/\w'.cell? ⟨g,k*4+1+1+1,none⟩=some (.int .i64 p.1.2):=fun w' ho =>
  ⟨(jo9 (w:=wr) (a:=⟨Be,0,none⟩) (ho.same Be HB1.out.lt (by omega))).trans q0,(jo9 (w:=wr) (a:=⟨g,k*4,none⟩) (ho.same g hg (by omega))).trans d0,(jo9 (w:=wr) (a:=⟨g,k*4+1,none⟩) (ho.same g hg (by omega))).trans d1,(jo9 (w:=wr) (a:=⟨g,k*4+1+1,none⟩) (ho.same g hg (by omega))).trans d2,(jo9 (w:=wr) (a:=⟨g,k*4+1+1+1,none⟩) (ho.same g hg (by omega))).trans d3⟩
 have MV:=jnS VT
 have T:=jnS turn
 have E2:=jnS e2
 clear NX0 hq VT d0 d1 d2 d3 e1 e2 q0 hpk turn
 gi_wp2_with (refine⟨trivial,?_⟩;gi_at_call 135;refine NX.mono ?_;clear NX;rintro e w' ⟨rfl,ho,hk,hkl,b2',hp,hpost⟩;obtain⟨m0,m1,m2,m3,m4⟩:=MV.out _ ho;clear hp;have HPO:=jnS hpost;clear hpost)
 have jw:J pre w':=hJ _ _ _ hj (T.out _ ho)
 have hz:=ho.size
 have hz1:=B1.out.lt
 have hz2:=B2.out.lt
 have hxp:Qs 0 ps=pre++(k,p)::post:=by rw[HX.out,HQ.out]
 obtain⟨fn,tmps,assign,body,hy,hR⟩:=hY pre (k,p) post w' hxp (by omega) jw
 dsimp only[jhQ]at hy
 rw[E2.out]at hy
 rw[hy,Oper.uponIn_round]
 refine⟨fun h=>(by cases h),hR.mono ?_⟩
 clear hR hy
 rintro e W3 (⟨rfl,hJ3,hk3⟩|⟨rfl,hJx3⟩)
 ·gi_wp2
  go_roundw
  case rel =>
   refine⟨pre++[(k,p)],k+1,hkl,?_,?_,?_,hJ3⟩
   ·rw[hxp,HPO.out,jn8,jp4]
   ·exact(hk3.same _ (by omega) (by omega)).trans ((ho.same _ hz1 (by omega)).trans B1.out)
   exact(hk3.same _ (by omega) (by omega)).trans b2'
  case measure =>
  rw[Ve B2.out,Ve (B:=W.heap.size+1) (w:=W3) (n:=k+1) ((hk3.same _ (by omega) (by omega)).trans b2')]
  omega
 gi_wp2
 refine bodyPost_ret (results_none rfl _ _ _) rfl ⟨⟨_,rfl⟩,.inr ⟨_,⟨post,?_⟩,hJx3⟩⟩
 rw[hxp,jn8,jp4]
structure LR(w:World)(lb:Nat)(ev:Value)(ps:List Pr)(nx:Int):Prop where
 head:jd w lb 98 #[ev,.int .i64 (nx-1)]
 ents:Vh w ev ps
theorem LR.below{w w':World}{lb:Nat}{c:Value}{d:List Pr}{b:Int}{n:Nat}(h:LR w lb c d b)(a:Below n w w')(e:w.heap.size<=n):LR w' lb c d b :=
 ⟨h.head.below a (jod h.head.lt e),h.ents.below a e⟩
abbrev ptr(b:Nat):Value:=.pointer (some ⟨b,0,none⟩)
theorem jlM(lb:Nat)(c:Value)(b:List Pr)(f:Int)(w:World)(h:LR w lb c b f):
  Calls prog 44 #[ptr lb] w fun e d=>e=.returned c/\w=d:=by
 obtain⟨A,a,rfl,g⟩:=h.ents.empty;have i:w.cell? ⟨lb,0,none⟩=some (.slice A b.length a):=h.head.cell 0
 clear h;unfold ptr;go_enter func44,ntmps44;go_wp2_with fail;go_ret;exact⟨rfl,rfl⟩
def yj(ps:List Pr)(id:Int):Option Nat:=((Qs 0 ps).find? fun x=>x.2.1.2==id).map Prod.fst
def JV(o:Option Nat):Value:=match o with | none=>.tuple #[.int .i64 0,.bool false] | some k=>.tuple #[.int .i64 (k:Nat),.bool true]
def jlV(w:World)(l v:Value)(ps:List Pr):Prop:=Vh w v ps/\Calls prog 44 #[l] w fun e w'=>e=.returned v/\w=w'
theorem jlV.of{w:World}{lb:Nat}{b:Value}{a:List Pr}{c:Int}(h:LR w lb b a c):jlV w (ptr lb) b a:=⟨h.ents,jlM lb b a c w h⟩
theorem jgO{a:List Pr}{id:Int}(h:∀y∈Qs 0 a,y.2.1.2≠id):yj a id=none:=by unfold yj;rw[List.find?_eq_none.2 (fun x hx=>by simpa using h x hx)];rfl
theorem jgM{c:List Pr}{id:Int}{a b:List (Nat×Pr)}{x:Nat×Pr}(h:Qs 0 c=a++x::b)(f:∀y∈a,y.2.1.2≠id)(e:x.2.1.2=id):yj c id=some x.1:=by unfold yj;rw[h,jqm,List.find?_eq_none.2 (fun y d=>by simpa using f y d),List.find?_cons_of_pos (by simpa using e)];rfl
theorem jmF{W:World}{a:Nat}{p:Pr}(h:jd W a 109 #[.int .i64 p.1.1.kind,.string (B p.1.1.raw),p.2,.int .i64 p.1.2]):W.cell? ⟨a,0,none⟩=some (.int .i64 p.1.1.kind)/\W.cell? ⟨a,1,none⟩=some (.string (B p.1.1.raw))/\W.cell? ⟨a,2,none⟩=some p.2/\W.cell? ⟨a,3,none⟩=some (.int .i64 p.1.2) :=
 ⟨h.cell 0,h.cell 1,h.cell 2,h.cell 3⟩
theorem jgR{Q:Ending->World->Prop}(w W:World)(v e:Value)(tmps:Array Value)(g:v.oneCell'=true)(j:e.oneCell'=true)(c:Boxed W (w.heap.size+1) 3 v)(d:Boxed W (w.heap.size+1+1) 4 e)(i:Below w.heap.size w W)
  (b:W.heap[w.heap.size+4]?=some (.deferred (some []))) (t4:tmps[4]?=some (.pointer (some ⟨w.heap.size+1,0,none⟩))) (t5:tmps[5]?=some (.pointer (some ⟨w.heap.size+1+1,0,none⟩)))
  (l:∀f,Below w.heap.size w f->Q (.returned (.tuple #[v,e])) f) :
  bodyPostM Fence.wide 9 prog Tryz.f62 Q .ret {tmps:=tmps,defers:=[{target:=.collected (w.heap.size+4),args:=#[]}]} W:=by
 have a:=grownBy_putObj' W (w.heap.size+4) (.deferred none);have k:Boxed (W.putObj (w.heap.size+4) (.deferred none)) (w.heap.size+1) 3 v:=(a.block _ c.lt (fun e=>by have:=jnY e;omega)).trans c
 have h:Boxed (W.putObj (w.heap.size+4) (.deferred none)) (w.heap.size+1+1) 4 e:=(a.block _ d.lt (fun e=>by have:=jnY e;omega)).trans d;have c4:=k.cell
 have c5:=h.cell;refine⟨by simp,.inl ⟨_,_,rfl,run_takeDeferred b,?_⟩⟩;exact⟨.tuple #[v,e],by simp[results,Tryz.f62,go_sem,t4,t5,c4,c5],l _ (i.trans (belowK_b (w:=w) (jnT _) W _ _ _ (by omega) b rfl rfl))⟩
theorem jja(r:List Pr)(v:Value)(q:Option Addr)(id:Int)(w:World)(hl:∀W,Below w.heap.size w W->jlV W (.pointer q) v r)(a7:r.length<=1000000):
  Calls prog 62 #[.pointer q,.int .i64 id] w fun e w'=>e=.returned (JV (yj r id))/\Below w.heap.size w w':=by
 obtain⟨A,R,hv,aa⟩:=(hl w (jnV _ _)).1.empty;have X:=jnS (fun W I=>callsIn_wide (n:=8).2 (hl W I).2)
 have HE:=jnS (fun W I=>(hl W I).1);have ST:=jnS (fun W=>callsIn_wide (n:=8).2 (jcM v W A r.length R hv))
 clear hl hv;refine callsIn_wide (n:=9).1 ?_;refine callsIn_of_wp_marks func62 rfl trivial ?_ rfl;simp only[ntmps62,joY,jn1,joz,Nat.reduceAdd,Nat.reduceSub,joZ,jo0,jo6,jo1,joL,jog];gi_wp2_with fail;have t:Below w.heap.size w (((w.alloc (.cells #[.int .i64 id] 3)).alloc (.cells #[.int .i64 0] 3)).alloc (.cells #[.bool false] 4)):=(((jnV _ w).alloc (jnT _) _).alloc (by simp) _).alloc (by simp;omega) _
 refine⟨trivial,(X.out _ t).mono ?_⟩;rintro e g ⟨rfl,rfl⟩;gi_wp2_with fail;refine⟨trivial,(ST.out _).mono ?_⟩;rintro e g ⟨rfl,rfl⟩;gi_wp2_with fail;obtain⟨g,f⟩:∃g,g=((((w.alloc (.cells #[.int .i64 id] 3)).alloc (.cells #[.int .i64 0] 3)).alloc (.cells #[.bool false] 4)).alloc (.cells #[v] 96)):=⟨_,rfl⟩
 have z:g.heap.size=w.heap.size+4:=by rw[f];simp
 have B0:Boxed g w.heap.size 3 (.int .i64 id):=by rw[f];exact(((jps w _ _).alloc _).alloc _).alloc _
 have B1:Boxed g (w.heap.size+1) 3 (.int .i64 0):=by rw[f];exact((Jr w _ _ _).alloc _).alloc _
 have B2:Boxed g (w.heap.size+1+1) 4 (.bool false):=by rw[f];exact(Va w _ _ _ _).alloc _
 have B3:Boxed g (w.heap.size+1+1+1) 96 v:=by rw[f];exact jhn w _ _ _ _ _
 have H:Below w.heap.size w g:=by rw[f];exact t.alloc (by simp;omega) _
 rw[<- f];clear f t;have HH:=jae r v _ g B3 a7 (HE.out _ H)
 refine Ys (gf:=76) (lb:=#[.pointer (some ⟨w.heap.size+1+1+1,0,none⟩)]) rfl (enters_of func76 (by kernel_rfl) rfl) HH (fun _=>rfl)
  (fun d W=>(∀y∈d,y.2.1.2≠id)/\Boxed W w.heap.size 3 (.int .i64 id)/\Boxed W (w.heap.size+1) 3 (.int .i64 0)/\Boxed W (w.heap.size+1+1) 4 (.bool false)/\Boxed W (w.heap.size+1+1+1) 96 v/\Below w.heap.size w W)
  (fun c d W=>c=.ret/\(∃k,yj r id=some k/\Boxed W (w.heap.size+1) 3 (.int .i64 (k:Nat))/\Boxed W (w.heap.size+1+1) 4 (.bool true)/\Below w.heap.size w W))
  (by
   rw[z];exact(zT.pure _ _ _).and ((zT.box (.inl (by omega)) _).and ((zT.box (.inl (by omega)) _).and ((zT.box (.inl (by omega)) _).and ((zT.box (.inl (by omega)) _).and (zT.below (jnT _) (by omega)))))))
  (by
   rw[z];rintro c s W Z ⟨h0,k,Q,N,J,K⟩ j;exact⟨h0,k,Q,j.box N (.inl (by omega)),j.box J (.inl (by omega)),K.trans (j.below (by omega) (by have:=K.size;omega))⟩)
  ⟨(fun y h=>by cases h),B0,B1,B2,B3,H⟩
  (fun d W h=>⟨HE.out _ h.2.2.2.2.2,h.2.2.2.2.1⟩)
  (fun a d x P W=>∃u,w.heap.size+8<=u/\P={tmps:=(((a.tmps.setIfInBounds 11 (.int .i64 (x.1:Nat))).setIfInBounds 12 (jhQ x.2)).setIfInBounds 6 (.int .i64 (x.1:Nat))).setIfInBounds 7 (ptr u),defers:=[]}/\jd W u 109 #[.int .i64 x.2.1.1.kind,.string (B x.2.1.1.raw),x.2.2,.int .i64 x.2.1.2] /\
   (∀y∈d,y.2.1.2≠id)/\Boxed W w.heap.size 3 (.int .i64 id)/\Boxed W (w.heap.size+1) 3 (.int .i64 0)/\Boxed W (w.heap.size+1+1) 4 (.bool false)/\Boxed W (w.heap.size+1+1+1) 96 v/\Below w.heap.size w W)
  ?hM ?assign ?body ?done ?stop
 case hM =>
  rw[z];rintro a d x P _ W Z ⟨u,Q,N,J,K,h5,h6,h7,h8,h9⟩ j;exact⟨u,Q,N,(j.same u J.lt (.inr (by omega))).trans J,K,j.box h5 (.inl (by omega)),j.box h6 (.inl (by omega)),j.box h7 (.inl (by omega)),j.box h8 (.inl (by omega)),h9.trans (j.below (by omega) (by have:=h9.size;omega))⟩
 case assign =>
  rw[z];intro l d x G W hx D o;have U:∃fa fc,x.2.2=.slice fa x.2.1.1.fields.length fc:=by have hm:=Zy 0 r x (by rw[show VR (fun p:Pr=>p.1.1.kind) 0 r=_ from hx];simp);exact((HE.out _ o.2.2.2.2.2).each x.2 (jn7 hm.2.1)).form
  obtain⟨k,⟨⟨⟨kd,a8,fs⟩,num⟩,fv⟩⟩:=x;obtain⟨fa,fc,e⟩:=U;dsimp only at e;subst e;clear hx;dsimp only[jhQ];gi_wp2;exact⟨(vX.refl _ _ W).alloc D _,W.heap.size,by omega,rfl,jd.new _ _ _,o.1,o.2.1.alloc _,o.2.2.1.alloc _,o.2.2.2.1.alloc _,o.2.2.2.2.1.alloc _,o.2.2.2.2.2.alloc o.2.2.2.2.2.size _⟩
 case body =>
  rw[z];rintro l d x G P W hx D ⟨u,I,rfl,hc,b,O,i,m,b3,C⟩;simp only[jof,joT,joU,jhQ];have q3:=(jmF hc).2.2.2
  have c0:=O.cell;have c1:=i.cell
  have c2:=m.cell;have f1:=i.frozen
  have f2:=m.frozen;have FS:=jnS (fun h=>jgM hx b h)
  have E:=jnS b;clear b hx;by_cases L:x.2.1.2=id
  ·rw[L]at q3;gi_wp2_with fail;have V:vX (w.heap.size+4) 4 W ((W.setCell ⟨w.heap.size+1,0,none⟩ (.int .i64 (x.1:Nat))).setCell ⟨w.heap.size+1+1,0,none⟩ (.bool true)):=((vX.refl _ _ W).setCell (.inl (by show w.heap.size+1<_;omega)) _).setCell (.inl (by show w.heap.size+1+1<_;omega)) _
   refine⟨V,rfl,x.1,FS.out L,(jo5 _ i).other (by show w.heap.size+1≠w.heap.size+1+1;omega) _,jo5 _ (m.other (by show w.heap.size+1+1≠w.heap.size+1;omega) _),?_⟩;exact(C.setCell (p:=⟨w.heap.size+1,0,none⟩) (by show w.heap.size<=w.heap.size+1;omega) _).setCell (p:=⟨w.heap.size+1+1,0,none⟩) (by show w.heap.size<=w.heap.size+1+1;omega) _
  have ae:((x.2.1.2:Int)==id)=false:=beq_eq_false_iff_ne.2 L;gi_wp2_with fail;refine⟨vX.refl _ _ _,?_,O,i,m,b3,C⟩;intro y hy;rcases List.mem_append.1 hy with h|h
  ·exact E.out y h
  rw[List.mem_singleton.1 h];exact L
 case done =>
  rw[z];rintro W ⟨b,O,i,m,b3,C⟩ Y;have c1:=i.cell
  have c2:=m.cell;have f1:=i.frozen
  have f2:=m.frozen;have FN:=jnS (jgO b)
  clear b;gi_wp2_with fail;refine jgR w _ (.int .i64 0) (.bool false) _ rfl rfl ((jo5 _ i).other (by show w.heap.size+1≠w.heap.size+1+1;omega) _) (jo5 _ (m.other (by show w.heap.size+1+1≠w.heap.size+1;omega) _))
   ((C.setCell (p:=⟨w.heap.size+1,0,none⟩) (by show w.heap.size<=w.heap.size+1;omega) _).setCell (p:=⟨w.heap.size+1+1,0,none⟩) (by show w.heap.size<=w.heap.size+1+1;omega) _)
   (((joF _ _ _ _ (by show w.heap.size+4≠w.heap.size+1+1;omega)).trans (joF _ _ _ _ (by show w.heap.size+4≠w.heap.size+1;omega))).trans Y) rfl rfl (fun Z h=>⟨?_,h⟩)
  rw[FN.out];rfl
 case stop =>
 rw[z];rintro c d W _ ⟨rfl,k,hk,i,m,C⟩ Y;gi_wp2_with fail;refine jgR w _ (.int .i64 (k:Nat)) (.bool true) _ rfl rfl i m C Y rfl rfl (fun Z h=>⟨?_,h⟩);rw[hk];rfl
theorem jk1(i:List Pr)(v:Value)(q:Option Addr)(w:World)(hl:∀W,Below w.heap.size w W->jlV W (.pointer q) v i)(r:i.length<=1000000):
  Calls prog 32 #[.pointer q] w fun e V=>e=.returned (.int .i64 ((Qs 0 i).length:Nat))/\Below w.heap.size w V:=by
 obtain⟨A,u,J,P⟩:=(hl w (jnV _ _)).1.empty;have z:=jnS (fun W y=>callsIn_wide (n:=8).2 (hl W y).2)
 have O:=jnS (fun W y=>(hl W y).1);have U:=jnS (fun W=>callsIn_wide (n:=8).2 (jcM v W A i.length u J))
 have E:=jnS (jop (WJ (κ:=fun p:Pr=>p.1.1.kind) 0 i) r);clear hl J;refine callsIn_wide (n:=9).1 ?_;refine callsIn_of_wp_marks func32 rfl trivial ?_ rfl;simp only[ntmps32,joY,jn1,joz,Nat.reduceAdd,Nat.reduceSub,joZ,jo0,jo6,jo1,joL,jog];gi_wp2_with fail;have g:Below w.heap.size w (w.alloc (.cells #[.int .i64 0] 3)):=(jnV _ w).alloc (jnT _) _
 refine⟨trivial,(z.out _ g).mono ?_⟩;rintro e f ⟨rfl,rfl⟩;gi_wp2_with fail;refine⟨trivial,(U.out _).mono ?_⟩;rintro e f ⟨rfl,rfl⟩;gi_wp2_with fail;obtain⟨f,d⟩:∃f,f=((w.alloc (.cells #[.int .i64 0] 3)).alloc (.cells #[v] 96)):=⟨_,rfl⟩
 have k:f.heap.size=w.heap.size+2:=by rw[d];simp
 have Q:Boxed f w.heap.size 3 (.int .i64 0):=by rw[d];exact(jps w _ _).alloc _
 have I:Boxed f (w.heap.size+1) 96 v:=by rw[d];exact Jr w _ _ _
 have o:Below w.heap.size w f:=by rw[d];exact g.alloc (by simp) _
 rw[<- d];clear d g;have X:=jae i v _ f I r (O.out _ o)
 refine Ys (gf:=76) (lb:=#[.pointer (some ⟨w.heap.size+1,0,none⟩)]) rfl (enters_of func76 (by kernel_rfl) rfl) X (fun _=>rfl)
  (fun b W=>Boxed W w.heap.size 3 (.int .i64 (b.length:Nat))/\Boxed W (w.heap.size+1) 96 v/\Below w.heap.size w W)
  (fun _ _ _=>False)
  (by
   rw[k];exact(zT.box (.inl (by omega)) (fun b:List (Nat×Pr)=>.int .i64 (b.length:Nat))).and ((zT.box (.inl (by omega)) _).and (zT.below (jnT _) (by omega))))
  (fun _ _ _ _ Y _=>Y)
  ⟨Q,I,o⟩
  (fun b W h=>⟨O.out _ h.2.2,h.2.1⟩)
  (fun a b x C W=>C={tmps:=(a.tmps.setIfInBounds 7 (.int .i64 (x.1:Nat))).setIfInBounds 8 (jhQ x.2),defers:=[]} /\
   Boxed W w.heap.size 3 (.int .i64 (b.length:Nat))/\Boxed W (w.heap.size+1) 96 v/\Below w.heap.size w W)
  ?hM ?assign ?body ?done ?stop
 case hM =>
  rw[k];rintro a b x C _ W W' ⟨Z,s,R,N⟩ t;exact⟨Z,t.box s (.inl (by omega)),t.box R (.inl (by omega)),N.trans (t.below (by omega) (by have:=N.size;omega))⟩
 case assign =>
  rw[k];intro l b x m W hx G hi;clear hx;gi_wp2;exact⟨vX.refl _ _ _,rfl,hi⟩
 case body =>
  rw[k];rintro l b x m C W hx G ⟨rfl,j,K,D⟩;have hn:b.length<=1000000:=by have:=congrArg List.length hx;have s:=E.out;rw[this]at s;simp at s;omega
  simp only[jof,joT,joU,jhQ];have c0:=j.cell
  have f0:=j.frozen;clear hx;gi_wp2_with fail;have H:(((b++[x]).length:Nat):Int)=(b.length:Int)+1:=by simp
  refine⟨(vX.refl _ _ W).setCell (.inl (by show w.heap.size<_;omega)) _,?_,K.other (by show w.heap.size+1≠w.heap.size;omega) _,D.setCell (p:=⟨w.heap.size,0,none⟩) (jnT _) _⟩;rw[H];exact jo5 _ j
 case done =>
  rw[k];rintro W ⟨j,K,D⟩ L;have c:=j.cell
  gi_wp2;refine⟨by simp,.inl ⟨_,_,rfl,run_takeDeferred L,?_⟩⟩;exact⟨_,results_tmp rfl _ _ _,rfl,D.trans (belowK_b (w:=w) (jnT _) W _ _ _ (by omega) L rfl rfl)⟩
 case stop =>
 intro c b W _ h _;exact h.elim
theorem jc8(lb:Nat)(f:Value)(d:List Pr)(a:Int)(w:World)(h:LR w lb f d a)(i : -1000000<=a/\a<=1000000):
  Calls prog 16 #[ptr lb] w fun e c=>e=.returned (.int .i64 a)/\w=c:=by
 have g:w.cell? ⟨lb,1,none⟩=some (.int .i64 (a-1)):=h.head.cell 1;clear h;have b:IntKind.i64.wrap (a-1+1)=a:=by rw[show a-1+1=a by omega];exact jos _ (by omega)
 unfold ptr;go_enter func16,ntmps16;go_wp2_with fail;go_ret;exact⟨by rw[<- b];rfl,rfl⟩
end
theorem jj2{c:Func}{p:Tmp}(h:c.results=#[.cell p 107])(tmps:Array Value)(w:World)(b:Nat)(a:Array Value)(d:tmps.getD p undef=.pointer (some ⟨b,0,none⟩))
  (f:jd w b 107 a) (e:a.size=3):(results c tmps).run prog w=.ok (.agg a) w:=by
 have L:=run_loadVar_row (P:=prog) w b 107 107 a (0,0) _ f underlying107 rfl (by rw[e];kernel_rfl);rw[yZ h,d];show(loadVar _ _).run _ _=_
 exact L
theorem YF(fs:List Fld)(A:Option Addr)(n cap:Nat)(w:World)(k:vK w (.slice A n cap) fs)(q:fs.length<=1000)(hl:∀f∈fs,f.1.length<=100000/\f.2.length<=100000):
  Calls prog 175 #[.slice A n cap] w fun e r=>e=.returned (.agg #[.int .i64 3,.string (B (jM fs)),.slice A n cap])/\Below w.heap.size w r:=by
 have b:Below w.heap.size w (w.alloc (.cells #[.int .i64 0,.string ⟨#[]⟩,.slice none 0 0] 107)):=(jnV _ _).alloc (jnT _) _;have s:(w.alloc (.cells #[.int .i64 0,.string ⟨#[]⟩,.slice none 0 0] 107)).heap.size=w.heap.size+1:=by simp
 have l:=jnS (YG fs _ _ (k.below b (jnT _)) q hl);have o:=jnS (jd.new w 107 #[.int .i64 0,.string ⟨#[]⟩,.slice none 0 0])
 clear k hl;generalize jM fs=T at *
 go_enter func175,ntmps175;go_wp2_with fail;refine l.out.mono ?_;rintro e j ⟨rfl,g⟩;have a:=jb o.out g (by omega)
 have c:Below w.heap.size w j:=b.trans (g.mono (by omega));have t:=a.cell 0
 have m:=a.cell 1;have u:=a.cell 2
 have x:=a.frozen 0;have y:=a.frozen 1
 have v:=a.frozen 2;simp only[jn0,jnZ,jnX]at t m u;have i:=((a.set 0 (.int .i64 3)).set 1 (.string (B T))).set 2 (.slice A n cap)
 rw[jmZ]at i;have h:Below w.heap.size w (((j.setCell ⟨w.heap.size,0,none⟩ (.int .i64 3)).setCell ⟨w.heap.size,1,none⟩ (.string (B T))).setCell ⟨w.heap.size,2,none⟩ (.slice A n cap)) :=
  ((c.setCell (p:=⟨w.heap.size,0,none⟩) (jnT _) _).setCell (p:=⟨w.heap.size,1,none⟩) (jnT _) _).setCell (p:=⟨w.heap.size,2,none⟩) (jnT _) _
 have d:=jnS h;clear c g l h;go_wp2_with fail;refine bodyPost_ret (jj2 rfl _ _ w.heap.size _ rfl i rfl) rfl ?_;exact⟨rfl,d.out⟩
section
attribute [local go_sem] jn9
structure jkk(ps:List Pr):Prop where
 len:ps.length<=10000
 raw:∀p∈ps,p.1.1.raw.length<=100000
 fields:∀p∈ps,p.1.1.fields.length<=1000000
 num:∀p∈ps,-1000000<=p.1.2/\p.1.2<=1000000
theorem jia{c:Func}{p:Tmp}(h:c.results=#[.cell p 107])(tmps:Array Value)(w:World)(b:Nat)(a:Array Value)(d:tmps.getD p undef=.pointer (some ⟨b,0,none⟩))
  (f:jd w b 107 a) (e:a.size=3):(results c tmps).run prog w=.ok (.agg a) w:=jj2 h tmps w b a d f e
theorem jgq(p:Pr)(w:World)(h:Qn w p.2 p.1.1.fields)(A:p.1.1.fields.length<=1000000):
  Calls prog 73 #[jhQ p] w fun e C=>∃x,e=.returned (.agg #[.int .i64 p.1.1.kind,.string (B p.1.1.raw),x])/\C.ownsRow w.heap.size 148 2 x p.1.1.fields.length (jA p.1.1.fields)/\Below w.heap.size w C:=by
 obtain⟨⟨⟨g,o,b⟩,num⟩,U⟩:=p;dsimp only at h A ⊢;obtain⟨f,j,rfl⟩:=h.form;unfold jhQ;dsimp only;generalize B o=a at *
 have i:Below w.heap.size w (((w.alloc (.cells #[.int .i64 g,.string a,.slice f b.length j,.int .i64 num] 109)).alloc (.cells #[.int .i64 0,.string ⟨#[]⟩,.slice none 0 0] 107)).alloc (.cells #[.int .i64 g,.string a,.slice f b.length j] 107)):=(((jnV _ w).alloc (jnT _) _).alloc (by simp) _).alloc (by simp;omega) _;have u:=jnS (Xz b (.slice f b.length j) _ (h.1.below i (jnT _)) h.2 A)
 have v:=jnS (jd.new ((w.alloc (.cells #[.int .i64 g,.string a,.slice f b.length j,.int .i64 num] 109)).alloc (.cells #[.int .i64 0,.string ⟨#[]⟩,.slice none 0 0] 107)) 107 #[.int .i64 g,.string a,.slice f b.length j]);have t:=jnS ((jd.new (w.alloc (.cells #[.int .i64 g,.string a,.slice f b.length j,.int .i64 num] 109)) 107 #[.int .i64 0,.string ⟨#[]⟩,.slice none 0 0]).alloc (.cells #[.int .i64 g,.string a,.slice f b.length j] 107))
 have n:=jnS i;clear h i;go_enter func73,ntmps73;go_wp2_with fail;refine u.out.mono ?_;rintro e Q ⟨x,rfl,hx,m⟩;obtain⟨r,q,rfl,_⟩:=je hx;have l:=jb v.out m (by simp)
 have c:=jb t.out m (by simp);rw[joe,joe]at l;rw[joe]at c;have K:=m.size
 simp only[joe]at K;have L:=l.cell 0
 have J:=l.cell 1;have N:=l.cell 2
 have O:=l.frozen 2;have E:=c.cell 0
 have G:=c.cell 1;have H:=c.cell 2
 have R:=c.frozen 0;have W:=c.frozen 1
 have P:=c.frozen 2;have D:=jnS hx
 have s:=jnS (n.out.trans (m.mono n.out.size));have I:=jnS c
 simp only[jn0,jnZ,jnX]at L J N E G H;clear u v t hx l c m;go_wp2_with fail;have d:∀k,k<w.heap.size+3->∀y:Value,(Value.slice r b.length q).ownBlock≠some k:=fun k V y e=>by have:=(D.out.lt k e).1;simp at this;omega
 have z:=(((I.out.other (p:=⟨w.heap.size+1+1,2,none⟩) (by show w.heap.size+1≠w.heap.size+1+1;omega) (.slice r b.length q)).set 0 (.int .i64 g)).set 1 (.string a)).set 2 (.slice r b.length q);rw[jmZ]at z;refine bodyPost_ret (jia rfl _ _ (w.heap.size+1) _ rfl z rfl) rfl ?_;refine⟨_,rfl,jE (jy (jy (jy (jy D.out ?_ _) ?_ _) ?_ _) ?_ _) (by simp;omega),?_⟩
 ·exact d _ (by show w.heap.size+1+1<_;omega) undef
 ·exact d _ (by show w.heap.size+1<_;omega) undef
 ·exact d _ (by show w.heap.size+1<_;omega) undef
 ·exact d _ (by show w.heap.size+1<_;omega) undef
 exact(((s.out.setCell (p:=⟨w.heap.size+1+1,2,none⟩) (by show w.heap.size<=w.heap.size+1+1;omega) _).setCell (p:=⟨w.heap.size+1,0,none⟩) (by show w.heap.size<=w.heap.size+1;omega) _).setCell (p:=⟨w.heap.size+1,1,none⟩) (by show w.heap.size<=w.heap.size+1;omega) _).setCell (p:=⟨w.heap.size+1,2,none⟩) (by show w.heap.size<=w.heap.size+1;omega) _
theorem Yk(lb:Nat)(c:Value)(a:List Pr)(g id:Int)(w:World)(h:LR w lb c a g)(b:a.length<=1000000):
  Calls prog 62 #[ptr lb,.int .i64 id] w fun e f=>e=.returned (JV (yj a id))/\Below w.heap.size w f :=
 jja a c (some ⟨lb,0,none⟩) id w (fun _ d=>jlV.of (h.below d (jnT _))) b
theorem ZX{c:List Pr}{id:Int}{k:Nat}(h:yj c id=some k):∃p,c[k]?=some p/\p.1.1.kind=3/\p.1.2=id:=by
 unfold yj at h;obtain⟨x,hx,rfl⟩:=Option.map_eq_some_iff.1 h;have e:=List.mem_of_find?_eq_some hx
 have d:=List.find?_some hx;obtain⟨_,a,b⟩:=Zy 0 c x e;exact⟨x.2,a,b,by simpa using d⟩
theorem jfQ(lb:Nat)(n:Value)(b:List Pr)(o id:Int)(w:World)(h:LR w lb n b o)(l:b.length<=1000000):
  Calls prog 30 #[ptr lb,.int .i64 id] w fun e s=>e=.returned (match (yj b id).bind (b[·]?) with | some p=>.tuple #[.string (B p.1.1.raw),.bool true] | none=>.tuple #[.string ⟨#[]⟩,.bool false])/\Below w.heap.size w s:=by
 have a:=jnS (Yk lb n b o id w h l);have H:=jnS h
 clear h;unfold ptr at *
 cases f:yj b id with
 | none =>
  rw[f]at a;unfold JV at a;dsimp only[Option.bind_none]at a ⊢;go_enter func30,ntmps30;go_wp2_with fail;refine a.out.mono ?_;rintro e m ⟨rfl,d⟩;go_wp2_with fail;go_ret2;exact⟨rfl,d⟩
 | some k =>
 obtain⟨p,i,_,_⟩:=ZX f;rw[f]at a;unfold JV at a;dsimp only[Option.bind_some]at a ⊢;rw[i];dsimp only;have x:=(List.getElem?_eq_some_iff.1 i).1
 have t:=jnS i;clear f i;go_enter func30,ntmps30;go_wp2_with fail;refine a.out.mono ?_;rintro e m ⟨rfl,d⟩;have j:=H.out.below d (jnT _)
 obtain⟨g,c,v,z,rfl,q,_,_,_,u,_,_⟩:=j.ents.here t.out;have y:m.cell? ⟨lb,0,none⟩=some (.slice (some ⟨g,0,none⟩) b.length c):=j.head.cell 0
 have r:=jnS d;clear j a d;go_wp2_with fail;go_ret2;exact⟨rfl,r.out⟩
def jhP(ps:List Pr)(behind:Int):Option Nat:=if behind=0 then some 0 else (yj ps behind).map (· + 1)
theorem jll(lb:Nat)(i:Value)(b:List Pr)(m id:Int)(w:World)(h:LR w lb i b m)(g:b.length<=1000000):
  Calls prog 267 #[ptr lb,.int .i64 id] w fun e o=>(∃k:Nat,e=.returned (.tuple #[.int .i64 k,.bool (jhP b id).isSome])/\∀j,jhP b id=some j->k=j)/\Below w.heap.size w o:=by
 have a:=jnS (Yk lb i b m id w h g);clear h;unfold ptr at *
 by_cases d:id=0
 ·subst d;go_enter func267,ntmps267;go_wp2_with fail;go_ret2;exact⟨⟨0,rfl,fun j h=>by cases h;rfl⟩,jnV _ _⟩
 have r:((id:Int)==0)=false:=beq_eq_false_iff_ne.2 d;unfold jhP;rw[if_neg d];cases c:yj b id with
 | none =>
  rw[c]at a;unfold JV at a;dsimp only at a;go_enter func267,ntmps267;go_wp2_with fail;refine a.out.mono ?_;rintro e n ⟨rfl,f⟩;go_wp2_with fail;go_ret2;exact⟨⟨1,rfl,fun j h=>by cases h⟩,f⟩
 | some k =>
 obtain⟨p,l,_,_⟩:=ZX c;have q:=(List.getElem?_eq_some_iff.1 l).1
 rw[c]at a;unfold JV at a;dsimp only at a;clear c l;go_enter func267,ntmps267;go_wp2_with fail;refine a.out.mono ?_;rintro e n ⟨rfl,f⟩;go_wp2_with fail;go_ret2;exact⟨⟨k+1,rfl,fun j h=>by cases h;rfl⟩,f⟩
end
def jhN(l:Array Bool):Nat:=(l.toList.filter (fun b => !b)).length
theorem Qz{ops:Array Oper}{l:Array Bool}{i:Nat}(h:i∈Region.ready .any ops l):
  ∃o,ops[i]?=some o/\l.getD i true=false/\∀e∈o.after,Region.binds .any e=true->l.getD e.on false=true:=by
 unfold Region.ready at h;rw[List.mem_filter]at h;obtain⟨b,h⟩:=h;rw[List.mem_range]at b;have a:ops[i]?=some ops[i]:=joD b
 rw[a]at h;simp only[jqy,Option.getD_some,joC,jp2]at h;refine⟨_,a,h.1,fun e d c => ?_⟩;have:=(Array.all_eq_true_iff_forall_mem.1 h.2) e d
 simpa [c]using this
theorem jfj{P:Program}{ops:Array Oper}{Q:Exit->Act->World->Prop}(I:Array Bool->Act->World->Prop)
  (step:∀l i o a w,I l a w->l.size=ops.size->ops[i]?=some o->l.getD i true=false->(∀e∈o.after,Region.binds .any e=true->l.getD e.on false=true) ->
   wpOp P ops Q i (fun v z=>I (l.setIfInBounds i true) v z) a w)
  (done:∀l a w,I l a w->l.size=ops.size->Region.ready .any ops l=[]->Q .normal a w) :
  ∀(n:Nat) (l:Array Bool) (a:Act) (w:World),I l a w->l.size=ops.size->jhN l<=n->wpAny P .any ops Q n l a w:=by
 intro n
 induction n with
 | zero =>
  intro l a w m d y;have g:Region.ready .any ops l=[]:=by
   cases D:Region.ready .any ops l with
   | nil=>rfl
   | cons i H =>
   obtain⟨o,u,hl,_⟩:=Qz (show i∈Region.ready .any ops l by rw[D];simp);exfalso;have t:i<l.size:=by
    rcases joo i l.size with h|h
    ·exact h
    simp[Array.getD,Nat.not_lt.2 h]at hl
   have C:l[i]∈l.toList.filter (fun b => !b):=by rw[List.mem_filter];refine⟨by simp,?_⟩;simp[Array.getD,t]at hl;simp[hl]
   have:0<jhN l:=List.length_pos_of_mem C;omega
  exact⟨g,done l a w m d g⟩
 | succ n A =>
 intro l a w m d y;refine⟨fun g=>done l a w m d g,fun i t => ?_⟩;obtain⟨o,u,hl,E⟩:=Qz t;refine wpOp_mono (fun v z q=>A _ _ _ q (by simpa using d) ?_) (step l i o a w m d u hl E);have f:i<l.size:=by
  rcases joo i l.size with h|h
  ·exact h
  simp[Array.getD,Nat.not_lt.2 h]at hl
 have p:l[i]=false:=by simpa [Array.getD,f]using hl
 have s:∀(c:List Bool) (j:Nat) (k:j<c.length),c[j]=false->((c.set j true).filter (fun b => !b)).length+1=(c.filter (fun b => !b)).length:=by
  intro c
  induction c with
  | nil=>intro j k;simp at k
  | cons x c r =>
  intro j k hx;cases j with
  | zero=>simp at hx;subst hx;simp
  | succ j =>
  have:=r j (by simpa using k) (by simpa using hx);cases x<;>simp at this ⊢ <;> omega
 have G:=s l.toList i (by simpa using f) (by simpa using p);unfold jhN at y ⊢;have e:(l.setIfInBounds i true).toList=l.toList.set i true:=by simp
 rw[e];omega
theorem Zw{P:Program}{id:Nat}{ops:Array Oper}{Q:Exit->Act->World->Prop}{a:Act}{w:World}(f:P.follows .mixedOrders=true)(I:Array Bool->Act->World->Prop)
  (b:I (Array.replicate ops.size false) a w.drew)
  (step:∀l i o a w,I l a w->l.size=ops.size->ops[i]?=some o->l.getD i true=false->(∀e∈o.after,Region.binds .any e=true->l.getD e.on false=true) ->
   wpOp P ops Q i (fun d c=>I (l.setIfInBounds i true) d c) a w)
  (done:∀l a w,I l a w->l.size=ops.size->Region.ready .any ops l=[]->Q .normal a w) :
  (Code.region id ops true).wp P Q a w :=
 wp_region_any f (jfj I step done ops.size _ a _ b (by simp) (by
  unfold jhN;simp))
def jm2(ops:Array Oper):Bool:=ops.all fun o=>match o.op with | .defer _=>false | _=>true
theorem jhm{ops:Array Oper}(h:jm2 ops=true){i:Nat}{o:Oper}(a:ops[i]?=some o):∀c,o.op ≠ .defer c:=by
 intro c e;have b:=Array.mem_of_getElem? a
 have:=(Array.all_eq_true_iff_forall_mem.1 h) o b;simp[e]at this
theorem jeg{n l:Nat}{P:Program}{o:Oper}{a:Act}{w:World}{next:Act->World->Prop}{Q:Exit->Act->World->Prop}(h:∀c,o.op ≠ .defer c)
  (g:o.wpIn Fence.wide n P a w next Q):o.wpIn (Fence.wide.inRound l) n P a w next Q:=by
 refine⟨g.1,?_⟩;have b:=g.2
 rw[Oper.semAt_eq _ _ _ h]at b ⊢;generalize (execOp a.eval o).run P w=r at b ⊢;cases r with
 | ok x d=>cases x<;>exact b
 | halt x d=>cases x<;>exact b
theorem xh{n l:Nat}{P:Program}{md:Region.Mode}{ops:Array Oper}{Q:Exit->Act->World->Prop}(h:jm2 ops=true):∀(b:Nat) (c:Array Bool) (a:Act) (w:World),
  wpAnyIn Fence.wide n P md ops Q b c a w->wpAnyIn (Fence.wide.inRound l) n P md ops Q b c a w
 | 0,_,_,_,g=>g
 | b+1,c,a,w,g=>by
  refine⟨g.1,fun i j => ?_⟩;have d:=g.2 i j
  unfold wpOpIn at d ⊢;cases e:ops[i]? with
  | none=>rw[e]at d;exact xh h b _ _ _ d
  | some o =>
  rw[e]at d;simp only at d ⊢;split at d
  ·rename_i f;rw[if_pos f];exact jeg (jhm h e) (opIn_mono (fun a w=>xh h b _ a w) d)
  rename_i f;rw[if_neg f];exact⟨d.1,xh h b _ _ _ d.2⟩
where
 opIn_mono {n:Nat} {P:Program} {o:Oper} {a:Act} {w:World} {K K':Act->World->Prop} {Q:Exit->Act->World->Prop} (h:∀a w,K a w->K' a w) (g:o.wpIn Fence.wide n P a w K Q):o.wpIn Fence.wide n P a w K' Q:=by
  refine⟨g.1,?_⟩
  have g2:=g.2
  generalize (Oper.semAt Fence.wide.round a.eval o).run P w=r at g2 ⊢
  cases r with
  | ok x w' =>
   cases x with
   | enter f args=>exact⟨g2.1,g2.2.mono fun e w hh=>by cases e<;>first | exact h _ _ hh | exact hh⟩
   | row f args=>exact⟨g2.1,fun c cs hr=>by obtain⟨v,w',hv,hs⟩:=g2.2 c cs hr;exact⟨v,w',h _ _ hv,hs⟩⟩
   | round l f t x y=>exact⟨g2.1,g2.2.mono fun e w hh=>by cases e<;>first | exact h _ _ hh | exact hh⟩
   | value v=>exact h _ _ g2
   | skip=>exact h _ _ g2
   | defer d=>exact h _ _ g2
   | _=>exact g2
  | halt x w'=>cases x<;>exact g2
theorem jfJ{n:Nat}{P:Program}{a:String}{args:Array Value}{w:World}{R:Value->World->Prop}(h:Rows P a args w R):RowsIn Fence.wide n P a args w R:=by intro c d _;obtain⟨v,b,r,s⟩:=h c d;exact⟨v,b,r,stepsIn_wide.2 s⟩
theorem jfW{n:Nat}{P:Program}{o:Oper}{a:Act}{w:World}{K:Act->World->Prop}{Q:Exit->Act->World->Prop}(h:∀c,o.op ≠ .defer c)(g:o.wp P a w K Q):o.wpIn Fence.wide n P a w K Q:=by
 refine⟨fun _ _=>trivial,?_⟩;unfold Oper.wp at g;rw[Oper.semAt_eq _ _ _ h];generalize (execOp a.eval o).run P w=r at g ⊢;cases r with
 | ok x b =>
  cases x with
  | enter f args=>exact⟨fun q=>by simp[Fence.wide]at q,callsIn_wide.2 g⟩
  | row f args=>exact⟨fun q=>by simp[Fence.wide]at q,jfJ g⟩
  | round l f t x y=>exact g.elim
  | value v=>exact g
  | skip=>exact g
  | defer d=>exact g
  | _=>exact g
 | halt x b=>cases x<;>exact g
theorem Ye{n:Nat}{P:Program}{md:Region.Mode}{ops:Array Oper}{Q:Exit->Act->World->Prop}(h:jm2 ops=true)(d:¬LetsOut Q):∀(b:Nat) (c:Array Bool) (a:Act) (w:World),
  wpAny P md ops Q b c a w->wpAnyIn Fence.wide n P md ops Q b c a w
 | 0,_,_,_,g=>g
 | b+1,c,a,w,g=>by
  refine⟨g.1,fun i k => ?_⟩;have e:=g.2 i k
  unfold wpOpIn;unfold wpOp at e;cases f:ops[i]? with
  | none=>rw[f]at e;exact Ye h d b _ _ _ e
  | some o =>
  rw[f]at e;simp only at e ⊢;split at e
  ·rename_i j;rw[if_pos j];exact jfW (jhm h f) (Oper.wp_mono (fun a w=>Ye h d b _ a w) (e.resolve_right fun q=>d q.2))
  rename_i j;rw[if_neg j];exact⟨fun _ _=>trivial,Ye h d b _ _ _ e⟩
theorem Yr{n r:Nat}{P:Program}{id:Nat}{ops:Array Oper}{Q:Exit->Act->World->Prop}{a:Act}{w:World}(c:jm2 ops=true)(b:¬LetsOut Q)(d:P.follows .mixedOrders=true)(h:wpAny P .any ops Q ops.size (Array.replicate ops.size false) a w.drew):
  (Code.region id ops true).wpIn (Fence.wide.inRound r) n P Q a w :=
 wpIn_region_any d (xh c _ _ _ _ (Ye c b _ _ _ _ h))
end Go.Proofs.YtbapfpekklcicaaGreatDoor
