/- Texts put together:NA,TO,NB,NC,RT,NR,ND,NE,NG,EA. -/
import Derived.Test.YtbapfpekklcicaaGreatDoorBbx13
set_option linter.unusedVariables false
set_option maxRecDepth 100000
set_option maxHeartbeats 16000000
namespace Go.Proofs.YtbapfpekklcicaaGreatDoor
open Go.RowKit Go.Shelf Tryz
abbrev jpp:=@Int.le_refl
section
attribute [local go_sem] jn9
def YH(ps:List Pr)(k:Nat)(q:Pr)(j:Nat):List Pr:=if j<k then ps.take j else ps.take k++q::(ps.take j).drop k
theorem jih(a:List Pr)(k:Nat)(q:Pr)(j:Nat):(YH a k q j).length<=j+1:=by
 unfold YH;split
 ·rw[jn2];omega
 rw[jnU,jn1,jn6,jn2,jn2];omega
theorem jfR(a:List Pr)(q:Pr):YH a 0 q 0=[q]:=by unfold YH;simp
theorem jeb(a:List Pr)(k:Nat)(q:Pr)(h:0<k):YH a k q 0=[]:=by unfold YH;rw[if_pos h,List.take_zero]
theorem jkM(a:List Pr)(j:Nat)(p q:Pr)(h:a[j]?=some p):YH a (j+1) q (j+1)=(YH a (j+1) q j++[p])++[q]:=by
 have e:a.take (j+1)=a.take j++[p]:=by rw[jor,h];rfl
 unfold YH;rw[if_neg (by omega),if_pos (by omega),jpw (by rw[jn2];omega),e]
theorem jkL(a:List Pr)(k j:Nat)(p q:Pr)(h:a[j]?=some p)(b:j+1≠k):YH a k q (j+1)=YH a k q j++[p]:=by
 have hl:=(List.getElem?_eq_some_iff.1 h).1;have e:a.take (j+1)=a.take j++[p]:=by rw[jor,h];rfl
 unfold YH;by_cases c:j<k
 ·rw[if_pos (by omega),if_pos c,e]
 rw[if_neg (by omega),if_neg c,e,jn8,jog,List.drop_append,jn2,show k-min j a.length=0 by omega,jpe]
theorem jii(a:List Pr)(k:Nat)(q:Pr)(h:k<=a.length):YH a k q a.length=a.take k++q::a.drop k:=by unfold YH;rw[if_neg (by omega),jom]
structure jff(w wr:World)(ob fb:Nat)(cf:Array Value)(v:Value)(ps:List Pr)(nx:Int):Prop where
 acc:yC w wr ob v ps nx
 fr:jd wr fb 112 cf
 ne:∀r,v.ownBlock=some r->r≠fb
 ob:fb≠ob
theorem jff.alloc{w wr:World}{d b:Nat}{a:Array Value}{v:Value}{e:List Pr}{c:Int}(h:jff w wr d b a v e c)(o:Obj):jff w (wr.alloc o) d b a v e c:=⟨h.acc.alloc o,h.fr.alloc o,h.ne,h.ob⟩
theorem jff.snoc{w l d:World}{b g:Nat}{m:Array Value}{v c:Value}{f:List Pr}{j:Int}{p:Pr}(h:jff w l b g m v f j)
  (q:d.ownsRow 0 112 4 c (f.length+1) (jl f++zb p)) (o:jd d b 37 #[v,.int .i64 j]) (a:c.ownBlock=v.ownBlock\/∃k,c.ownBlock=some k/\l.heap.size<=k/\k<d.heap.size) (n:jI (fun r=>some r=v.ownBlock) l d) :
  jff w (d.setCell ⟨b,0,none⟩ c) b g m c (f++[p]) j:=by
 refine⟨h.acc.snoc q o a n,(h.fr.only n (fun e=>h.ne g e.symm rfl)).other (p:=⟨b,0,none⟩) h.ob _,fun r i => ?_,h.ob⟩;rcases a with a|⟨k,a,s,_⟩
 ·exact h.ne r (by rw[<- a];exact i)
 rw[a]at i;have:k=r:=jnY i
 have:=h.fr.lt;omega
theorem jff.grow{w f j:World}{c g:Nat}{k:Array Value}{v b:Value}{d:List Pr}{m:Int}{p:Pr}(h:jff w f c g k v d m)
  (n:j.ownsRow w.heap.size 112 4 b (d.length+1) (jl d++zb p)) (l:f.grownBy j v.ownBlock) (a:b.ownBlock=v.ownBlock\/b.ownBlock=some f.heap.size) :
  jff w (j.setCell ⟨c,0,none⟩ b) c g k b (d++[p]) m:=by
 refine⟨h.acc.grow n l,(h.fr.grown l (fun e=>h.ne g e.symm rfl)).other (p:=⟨c,0,none⟩) h.ob _,fun r i => ?_,h.ob⟩;rcases a with a|a
 ·exact h.ne r (by rw[<- a];exact i)
 rw[a]at i;have:f.heap.size=r:=jnY i
 have:=h.fr.lt;omega
theorem jlk{es:List En}{id:Int}{a:Nat}(h:jgC es id=some a):Gd (vu es id)+1=a/\a<=es.length/\(a=0->id=0):=by
 unfold jgC at h;by_cases b:id=0
 ·rw[if_pos b]at h;have:vu es id=none:=by unfold vu;rw[if_neg (by omega)]
  rw[this];cases h;exact⟨rfl,jn3 _,fun _=>b⟩
 rw[if_neg b]at h;cases c:vu es id with
 | none=>rw[c]at h;cases h
 | some k =>
 rw[c]at h;have:=(xx c).1
 simp at h;exact⟨by simp[Gd];omega,by omega,fun e=>by omega⟩
theorem jmx{es:List En}{id:Int}(h:jgC es id=none):vu es id=none/\id≠0:=by
 unfold jgC at h;by_cases a:id=0
 ·rw[if_pos a]at h;cases h
 rw[if_neg a]at h;refine⟨?_,a⟩;cases b:vu es id with
 | none=>rfl
 | some k=>rw[b]at h;cases h
theorem Ub(a:List Pr)(v x:Value)(k id:Int)(fs:List Fld)(w:World)(h:zN w v a)(be:a.length<=1000000)(cj : -1000000<=k/\k<=1000000)(hx:vK w x fs)(a7:jbx fs):
  Calls prog 131 #[.agg #[v,.int .i64 k],.int .i64 id,x] w fun e w'=>∃v' bV,e=.returned (.tuple #[.agg #[v',.int .i64 (zh ⟨a.map Prod.fst,k⟩ id fs).ls.next],.int .i64 (zh ⟨a.map Prod.fst,k⟩ id fs).id,.int .i64 (zh ⟨a.map Prod.fst,k⟩ id fs).at_,.int .i64 (zh ⟨a.map Prod.fst,k⟩ id fs).bad])/\WrQ w v a x (zh ⟨a.map Prod.fst,k⟩ id fs).ls.es w' v' bV:=by
 obtain⟨i0,hi,aD,aE,aF⟩:=info_parts jiM;rw[jaT];dsimp only;obtain⟨A,z,rfl,cd⟩:=h.empty;obtain⟨K,O,rfl,_,_⟩:=_root_.id hx;obtain⟨W,hW⟩:∃W,W=(w.alloc (.cells #[.slice A a.length z,.int .i64 k] 37)).alloc (.cells #[.slice none 0 0,.int .i64 0] 37):=⟨_,rfl⟩
 have aB:Below w.heap.size w W:=by rw[hW];exact((jnV _ w).alloc (jnT _) _).alloc (by simp) _
 have bR:W.heap.size=w.heap.size+2:=by rw[hW];simp
 have C0:jd W w.heap.size 37 #[.slice A a.length z,.int .i64 k]:=by rw[hW];exact(jd.new _ _ _).alloc _
 have C1:jd W (w.heap.size+1) 37 #[.slice none 0 0,.int .i64 0]:=by
  rw[hW];have:=jd.new (w.alloc (.cells #[.slice A a.length z,.int .i64 k] 37)) 37 #[.slice none 0 0,.int .i64 0]
  simpa using this
 have H0:=jnS h;have HX:=jnS hx
 have FN:=jnS (Zd a (.slice A a.length z) k id W (h.below aB (jnT _)) be);have bo:=jnS aB
 have bu:=jnS C0;have bw:=jnS C1
 have HT:Hid (∀d,Below W.heap.size W d->jd d w.heap.size 37 #[.slice A a.length z,.int .i64 k]/\jd d (w.heap.size+1) 37 #[.slice none 0 0,.int .i64 0]/\Below w.heap.size w d/\w.heap.size+2<=d.heap.size):=fun d I =>
  ⟨jb bu.out I (by omega),jb bw.out I (by omega),bo.out.trans (I.mono (by omega)),by have:=I.size;omega⟩
 have aj:Hid (∀d,Below W.heap.size W d->jd ((d.setCell ⟨w.heap.size+1,0,none⟩ (.slice A a.length z)).setCell ⟨w.heap.size+1,1,none⟩ (.int .i64 k)) (w.heap.size+1) 37 #[.slice A a.length z,.int .i64 k]/\Below w.heap.size w ((d.setCell ⟨w.heap.size+1,0,none⟩ (.slice A a.length z)).setCell ⟨w.heap.size+1,1,none⟩ (.int .i64 k))):=fun d I=>by
  obtain⟨_,n,m,_⟩:=HT.out d I;have U:=(n.set 0 (.slice A a.length z)).set 1 (.int .i64 k)
  rw[Vo]at U;exact⟨U,(m.setCell (p:=⟨w.heap.size+1,0,none⟩) (jpo _) _).setCell (p:=⟨w.heap.size+1,1,none⟩) (jpo _) _⟩
 clear C0 C1 h aB bR hx;subst hW;cases hg:jgC (a.map Prod.fst) id with
 | none =>
  obtain⟨hf,au⟩:=jmx hg;rw[hf]at FN;dsimp only[Gd]at FN;have ci:(id != 0)=true:=bne_iff_ne.2 au
  clear hf hg au;unfold yi;dsimp only;go_enter func131,ntmps131;go_wp2_with fail;refine FN.out.mono ?_;rintro e d ⟨rfl,I⟩;obtain⟨t,n,m,a8⟩:=HT.out d I;obtain⟨U,HB⟩:=aj.out d I;have c0:=t.cell 0
  have c1:=t.cell 1;have r0:=n.cell 0
  have r1:=n.cell 1;have f0:=n.frozen 0
  have f1:=n.frozen 1;simp only[jn0,jnZ,jnX]at c0 c1 r0 r1;have R:=jnS U
  have aa:=jnS HB;clear FN I m t n U HB;go_wp2_with fail;refine bodyPost_ret (JR rfl _ _ (w.heap.size+1) _ rfl R.out rfl) rfl ?_;exact⟨_,a,rfl,.same H0.out rfl aa.out⟩
 | some H =>
 obtain⟨aW,aY,aV⟩:=jlk hg;rw[joi]at aY;generalize Gd (vu (a.map Prod.fst) id)=ki at *
 have T2:Hid ((ki<0/\id=0/\H=0)\/(¬ki<0/\0<H)):=by
  rcases jpK H with q|q
  ·exact .inl ⟨by omega,aV q,q⟩
  exact .inr ⟨by omega,q⟩
 have aM:=jnS aW;have c8 : -1<=ki/\ki<=1000000:=⟨by omega,by omega⟩
 clear hg aV aW;by_cases X:qA fs=0
 ·have CK:Hid (∀d,vK d (.slice K fs.length O) fs->Calls prog 173 #[.slice K fs.length O] d fun e w'=>e=.returned (.tuple #[.int .i64 (vv fs),.int .i64 0])/\Below d.heap.size d w'):=fun d h1=>by have:=yH fs _ d h1 (by have:=a7.len;omega) (fun f hf=>by have:=a7.each f hf;omega);rw[X]at this;exact this
  have LN:Hid (∀d,zN d (.slice A a.length z) a->Calls prog 176 #[.agg #[.slice A a.length z,.int .i64 k]] d fun e w'=>e=.returned (.int .i64 (xp (a.map Prod.fst):Nat))/\Below d.heap.size d w'):=fun d h1=>jd5 a _ k d h1 be;obtain⟨T,hT⟩:∃T,T=vv fs:=⟨_,rfl⟩
  rw[<- hT]at CK;have ce:xp (a.map Prod.fst)<=1000000:=by have:=jgi (a.map Prod.fst);rw[joi]at this;omega
  by_cases ah:400<=xp (a.map Prod.fst)
  ·rw[decide_eq_true ah,VF X];dsimp only;clear hT X;generalize xp (a.map Prod.fst)=aG at *
   rcases T2.out with ⟨t1,rfl,t3⟩|⟨t1,t3⟩
   all_goals
    clear T2 t3;go_enter func131,ntmps131;go_wp2_with fail;refine FN.out.mono ?_;rintro e d ⟨rfl,I⟩;obtain⟨t,n,m,a8⟩:=HT.out d I;have P:=jnS (CK.out d (HX.out.below m (jnT _)))
    have B1:=jnS I;clear FN I m t n;go_wp2_with fail;refine P.out.mono ?_;rintro e w2 ⟨rfl,b2⟩;have B2:=jnS (B1.out.trans (b2.mono B1.out.size))
    obtain⟨t,n,m,ax⟩:=HT.out w2 B2.out;have ae:=jnS (LN.out w2 (H0.out.below m (jnT _)))
    have c0:w2.cell? ⟨w.heap.size,0,none⟩=some (.slice A a.length z):=t.cell 0;have c1:w2.cell? ⟨w.heap.size,1,none⟩=some (.int .i64 k):=t.cell 1
    clear P b2 m t n;go_wp2_with fail;refine ae.out.mono ?_;rintro e E ⟨rfl,b3⟩;have Z:=B2.out.trans (b3.mono B2.out.size)
    obtain⟨t,n,m,bj⟩:=HT.out E Z;obtain⟨U,HB⟩:=aj.out E Z;have d0:=t.cell 0
    have d1:=t.cell 1;have r0:=n.cell 0
    have r1:=n.cell 1;have f0:=n.frozen 0
    have f1:=n.frozen 1;simp only[jn0,jnZ,jnX]at d0 d1 r0 r1;have R:=jnS U
    have aa:=jnS HB;have bN:(400:Int)<=(aG:Int):=by omega
    clear ae b3 Z m t n U HB c0 c1;go_wp2_with fail;refine bodyPost_ret (JR rfl _ _ (w.heap.size+1) _ rfl R.out rfl) rfl ?_;exact⟨_,a,rfl,.same H0.out rfl aa.out⟩
  rw[decide_eq_false ah,Xe X];dsimp only;have IT:Hid (∀d,vK d (.slice K fs.length O) fs->Calls prog 175 #[.slice K fs.length O] d fun e w'=>e=.returned (.agg #[.int .i64 3,.string (B (jM fs)),.slice K fs.length O])/\Below d.heap.size d w'):=fun d h1 =>
   YF fs K _ O d h1 a7.len a7.each
  obtain⟨G,hG⟩:∃G,G=jM fs:=⟨_,rfl⟩
  have HG:=jnS hG;rw[<- hG]at IT;obtain⟨q,hq⟩:∃q:Pr,q=((zx fs,k),.slice K fs.length O):=⟨_,rfl⟩
  have HQ:=jnS hq;have aJ:Hid (zb q=[.int .i64 3,.string (B G),.slice K fs.length O,.int .i64 k]):=by show _=_;rw[hq,hG];rfl
  have bP:IntKind.i64.wrap (k+1)=k+1:=jos _ (by omega);generalize bO:xp (a.map Prod.fst)=aG at *
  clear hT X hG hq bP bO;have bN:¬(400:Int)<=(aG:Int):=by omega
  go_enter func131,ntmps131;go_wp2_with fail;refine FN.out.mono ?_;rintro e d ⟨rfl,I⟩;obtain⟨t,n,m,a8⟩:=HT.out d I;have P:=jnS (CK.out d (HX.out.below m (jnT _)))
  have B1:=jnS I;clear FN I m t n;go_upto_region 2 with fail;go_cut [24] (fun c wx=>c=.bool false/\wx=d)
  case first =>
   rcases T2.out with ⟨t1,rfl,t3⟩|⟨t1,t3⟩
   all_goals
    clear T2 t3;go_wp2_with fail;go_meet;exact⟨rfl,rfl⟩
  case rest =>
  obtain⟨rfl,rfl⟩:=hcut;go_wp2_with fail;refine P.out.mono ?_;rintro e w2 ⟨rfl,b2⟩;have B2:=jnS (B1.out.trans (b2.mono B1.out.size))
  obtain⟨t,n,m,ax⟩:=HT.out w2 B2.out;have ae:=jnS (LN.out w2 (H0.out.below m (jnT _)))
  have c0:w2.cell? ⟨w.heap.size,0,none⟩=some (.slice A a.length z):=t.cell 0;have c1:w2.cell? ⟨w.heap.size,1,none⟩=some (.int .i64 k):=t.cell 1
  clear P b2 m t n;go_wp2_with fail;refine ae.out.mono ?_;rintro e E ⟨rfl,b3⟩;have Z:=B2.out.trans (b3.mono B2.out.size)
  obtain⟨t,n,ak,bj⟩:=HT.out E Z;have d1:E.cell? ⟨w.heap.size,1,none⟩=some (.int .i64 k):=t.cell 1
  have ay:=jnS t;have bz:=jnS n
  have bm:=jnS ak;have H1:=jnS (H0.out.below ak (jnT _))
  have aR:=jnS (HX.out.below ak (jnT _));clear ae b3 Z t n ak c0 c1 CK LN aj;go_upto_region 10 with fail;go_cut [14] (fun fv wx=>∃fb:Nat,fv=.pointer (some ⟨fb,0,none⟩)/\E.heap.size<fb/\yC E wx E.heap.size (.slice none 0 0) [] (k+1)/\jd wx fb 112 #[.int .i64 3,.string (B G),.slice K fs.length O,.int .i64 k])
  case first =>
   obtain⟨J,aq⟩:∃J,J=E.alloc (.cells #[.slice none 0 0,.int .i64 (k+1)] 37):=⟨_,rfl⟩
   have A4:=yC.start E (k+1);have D4:jd J w.heap.size 37 #[.slice A a.length z,.int .i64 k]:=by rw[aq];exact ay.out.alloc _
   rw[<- aq]at A4 ⊢;have bQ:J.heap.size=E.heap.size+1:=by rw[aq];simp
   clear aq d1;obtain⟨z0,aw⟩:∃z0,z0=Obj.cells #[.int .i64 0,.string ⟨#[]⟩,.slice none 0 0,.int .i64 0] 112:=⟨_,rfl⟩
   have aI:jd (J.alloc z0) J.heap.size 112 #[.int .i64 0,.string ⟨#[]⟩,.slice none 0 0,.int .i64 0]:=by rw[aw];exact jd.new _ _ _
   have bC:=jnS (aR.out.below (A4.below.drew) (jnT _));have bE:=jnS (aR.out.below ((A4.alloc z0).below.drew) (jnT _))
   have AA:=jnS A4.drew;have AZ:=jnS (A4.alloc z0).drew
   have bW:=A4.head.lt;have av:w.heap.size<J.heap.size:=D4.lt
   have bA:=jnS D4;have aK:=jnS D4.drew
   have bB:=jnS (D4.alloc z0).drew;have bF:=jnS aI.drew
   have a8:Hid ((J.alloc z0).heap.size=J.heap.size+1):=by show _=_;simp
   have d1:J.cell? ⟨w.heap.size,1,none⟩=some (.int .i64 k):=D4.cell 1;have bX:∀o,(J.alloc o).cell? ⟨w.heap.size,1,none⟩=some (.int .i64 k):=fun o=>(bA.out.alloc o).cell 1
   have bi:E.heap.size<J.heap.size:=by omega
   clear A4 D4 aI bQ;subst aw;go_region_law (go_simp;go_at_call 175;first
    | (refine(IT.out _ bC.out).mono ?_;rintro e w5 ⟨rfl,b5⟩;have cl:J.heap.size<=w5.heap.size:=b5.size;have A5:=jnS (AA.out.kept b5);have e1:w5.cell? ⟨w.heap.size,1,none⟩=some (.int .i64 k):=(jb aK.out b5 av).cell 1;have bY:∀o,(w5.alloc o).cell? ⟨w.heap.size,1,none⟩=some (.int .i64 k):=fun o=>((jb aK.out b5 av).alloc o).cell 1)
    | (refine(IT.out _ bE.out).mono ?_;rintro e w5 ⟨rfl,b5⟩;have A5:=jnS (AZ.out.kept b5);have e1:w5.cell? ⟨w.heap.size,1,none⟩=some (.int .i64 k):=(jb bB.out b5 (by show _<(J.alloc _).heap.size;rw[a8.out];omega)).cell 1;have BX:=jnS (jb bF.out b5 (by show _<(J.alloc _).heap.size;rw[a8.out];omega));have t0:=BX.out.cell 0;have t1:=BX.out.cell 1;have t2:=BX.out.cell 2;have t3:=BX.out.cell 3;simp only[jn0,jnZ,jnX]at t0 t1 t2 t3;have f0:=BX.out.frozen 0;have f1:=BX.out.frozen 1;have f2:=BX.out.frozen 2;have f3:=BX.out.frozen 3))
   all_goals (try go_wp2_with fail)
   all_goals first
    | (go_meet;exact⟨w5.heap.size,rfl,by omega,A5.out.alloc _,jd.new _ _ _⟩)
    | (go_meet;refine⟨J.heap.size,rfl,bi,(((A5.out.other (b:=J.heap.size) 0 _ (by omega) (by omega) (fun r e=>by cases e)).other (b:=J.heap.size) 1 _ (by omega) (by omega) (fun r e=>by cases e)).other (b:=J.heap.size) 2 _ (by omega) (by omega) (fun r e=>by cases e)).other (b:=J.heap.size) 3 _ (by omega) (by omega) (fun r e=>by cases e),?_⟩;have:=(((BX.out.set 0 (.int .i64 3)).set 1 (.string (B G))).set 2 (.slice K fs.length O)).set 3 (.int .i64 k);rw[jnz]at this;exact this)
  case rest =>
  obtain⟨fb,rfl,bM,l,aT⟩:=hcut;have y:=jnS (show jff E wc E.heap.size fb #[.int .i64 3,.string (B G),.slice K fs.length O,.int .i64 k] (.slice none 0 0) [] (k+1) from⟨l,aT,(fun r e=>by cases e),Nat.ne_of_gt bM⟩)
  clear l aT d1;go_upto_if 50 with fail;go_cut [] (fun wx=>∃u,jff E wx E.heap.size fb #[.int .i64 3,.string (B G),.slice K fs.length O,.int .i64 k] u (YH a H q 0) (k+1))
  case first =>
   rcases T2.out with ⟨t1,-,t3⟩|⟨t1,t3⟩
   ·have Y:wc.ownsRow E.heap.size 112 4 (.slice none 0 0) 0 []:=y.out.acc.row;have f0:=y.out.fr.cell 0
    have f1:=y.out.fr.cell 1;have f2:=y.out.fr.cell 2
    have f3:=y.out.fr.cell 3;simp only[jn0,jnZ,jnX]at f0 f1 f2 f3;have k0:wc.cell? ⟨E.heap.size,0,none⟩=some (.slice none 0 0):=y.out.acc.head.cell 0
    have bZ:=y.out.acc.below.size;have AL:=jnS (y.out.alloc (.cells #[.int .i64 3,.string (B G),.slice K fs.length O,.int .i64 k] 112))
    have HV:=jnS (jC wc 112 [.int .i64 3,.string (B G),.slice K fs.length O,.int .i64 k]);have PZ:Hid (YH a H q 0=[q]):=by show _=_;rw[t3];exact jfR a q
    clear T2 t3;go_wp2_with (at_builtin;refine ju rfl _ _ 35 rfl E.heap.size 112 i0 _ 4 56 underlying35 hi aD aE aF rfl (by decide) _ _ _ rfl (Y.alloc _) ⟨wc.heap.size,0,none⟩ 1 1 _ rfl rfl HV.out (by intro u hu;simp at hu;rcases hu with rfl | rfl | rfl | rfl<;>rfl) (by unfold maxLen;omega) (by omega) (by first | omega | (simp only[joe];omega) | (simp[World.setCell];omega)) ?_);intro v' w6 D C Q;have h6:=(AL.out.acc.grown_head C)
    have af:=jnS (AL.out.grow (p:=q) (by rw[aJ.out];exact D) C (by rw[joe];exact Q.out));have k6:w6.cell? ⟨E.heap.size,0,none⟩=some (.slice none 0 0):=h6.cell 0
    have bU:=h6.frozen 0;obtain⟨g',aS,rfl⟩:=ownsRow_succ D;clear D C h6 Q;go_wp2_with fail;go_meet;exact⟨_,by rw[PZ.out];exact af.out⟩
   have PZ:Hid (YH a H q 0=[]):=jeb a H q t3;clear T2 t3;go_wp2_with fail;go_meet;exact⟨_,by rw[PZ.out];exact y.out⟩
  case rest =>
  obtain⟨u0,ag⟩:=hcut;have aH:=jnS ag
  clear ag y;go_wp2_with fail;go_loopw [15] (fun i wr=>∃(j:Nat) (u:Value),j<=a.length/\i=.int .i64 j/\jff E wr E.heap.size fb #[.int .i64 3,.string (B G),.slice K fs.length O,.int .i64 k] u (YH a H q j) (k+1)) (fun i _=>a.length-(intOf i).toNat)
  case atStart=>exact⟨0,u0,jn3 _,rfl,aH.out⟩
  case round =>
  obtain⟨j,u,hj,rfl,l⟩:=hrel;have X:=l.acc.below
  have e0:wr.cell? ⟨w.heap.size,0,none⟩=some (.slice A a.length z):=(jb ay.out X (by omega)).cell 0;obtain⟨ua,uc,rfl,_⟩:=je l.acc.row;by_cases aC:j<a.length
  ·obtain⟨p,hp⟩:∃p,a[j]?=some p:=⟨_,jnW aC⟩
   have c7:=jih a H q j;obtain⟨g,V,pa,pc,e1,_,hg,e2,d0,d1,d2,d3⟩:=(H1.out.below X (jnT _)).here hp;cases e1;rw[e2]at d2;have PA:=jnS (fun(h:j+1=H)=>show YH a H q (j+1)=(YH a H q j++[p])++[q] from h▸jkM a j p q hp)
   have PO:=jnS (fun(h:j+1≠H)=>jkL a H j p q hp h);have g0:wr.cell? ⟨E.heap.size,0,none⟩=some (.slice ua (YH a H q j).length uc):=l.acc.head.cell 0
   have g1:∀o,(wr.alloc o).cell? ⟨E.heap.size,0,none⟩=some (.slice ua (YH a H q j).length uc):=fun o=>(l.acc.head.alloc o).cell 0;have y:=jnS l
   have HO:=jnS (jE l.acc.row (jn3 _));have aQ:=jnS l.acc.ne
   have aL:=jnS l.acc.head;have E2:=jnS e2
   generalize bL:YH a H q j=cq at *
   clear l hp X bL e2;go_wp2_with fail;go_region_law (refine jZ rfl (.tmp 65) (.tmp 71) 35 rfl 112 i0 _ 4 56 underlying35 hi aD aE aF rfl (by decide) (.slice ua cq.length uc) cq.length (jl cq) (by simp[Act.eval]) (by exact(HO.out.alloc _).drew) ⟨wr.heap.size,0,none⟩ 1 1 [.int .i64 p.1.1.kind,.string (B p.1.1.raw),.slice pa p.1.1.fields.length pc,.int .i64 p.1.2] (by simp[Act.eval]) rfl (jC wr 112 [.int .i64 p.1.1.kind,.string (B p.1.1.raw),.slice pa p.1.1.fields.length pc,.int .i64 p.1.2]) (by intro u hu;simp at hu;rcases hu with rfl | rfl | rfl | rfl<;>rfl) (by unfold maxLen;omega) (by omega) ?_;intro v' w' ho aU Q;obtain⟨⟨g',V,rfl⟩,am,bK,aX,aZ⟩:=xJ aL.out HO.out aQ.out (((jnV _ wr).alloc (jnT _) _).drew) ho aU Q;have k0:w'.cell? ⟨E.heap.size,0,none⟩=some (.slice ua cq.length uc):=am.cell 0;have bT:=am.frozen 0)
   all_goals
    have ar:=y.out.snoc (p:=p) (by unfold zb;rw[E2.out];exact ho) am aX aZ;have s:=jnS ar
    clear ar y HO aQ aL ho am aX aZ bK aU Q g0 g1 e0 d0 d1 d2 d3;by_cases ap:j+1=H
    ·have hq:((j:Int)==ki)=true:=by have:=aM.out;exact beq_iff_eq.2 (by omega)
     have bG:=jnS (PA.out ap);clear ap PO PA;obtain⟨wv,bg⟩:∃wv,wv=w'.setCell ⟨E.heap.size,0,none⟩ (.slice (some ⟨g',0,none⟩) (cq.length+1) V):=⟨_,rfl⟩
     rw[<- bg]at s ⊢;clear bg k0 bT;have ai:(cq++[p]).length=cq.length+1:=by simp
     have aN:=jnS ai;have Y:=s.out.acc.row
     rw[ai]at Y;have f0:=s.out.fr.cell 0
     have f1:=s.out.fr.cell 1;have f2:=s.out.fr.cell 2
     have f3:=s.out.fr.cell 3;simp only[jn0,jnZ,jnX]at f0 f1 f2 f3;have k0:wv.cell? ⟨E.heap.size,0,none⟩=some (.slice (some ⟨g',0,none⟩) (cq.length+1) V):=s.out.acc.head.cell 0
     have ck:=s.out.acc.head.lt;have AL:=jnS (s.out.alloc (.cells #[.int .i64 3,.string (B G),.slice K fs.length O,.int .i64 k] 112))
     have HV:=jnS (jC wv 112 [.int .i64 3,.string (B G),.slice K fs.length O,.int .i64 k]);clear ai s;go_wp2_with (at_builtin;refine ju rfl _ _ 35 rfl E.heap.size 112 i0 _ 4 56 underlying35 hi aD aE aF rfl (by decide) _ _ _ rfl (Y.alloc _) ⟨wv.heap.size,0,none⟩ 1 1 _ rfl rfl HV.out (by intro u hu;simp at hu;rcases hu with rfl | rfl | rfl | rfl<;>rfl) (by unfold maxLen;omega) (by omega) (by first | omega | (simp only[joe];omega) | (simp[World.setCell];omega)) ?_);intro v' w6 D C Q;have h6:=(AL.out.acc.grown_head C)
     have af:=jnS (AL.out.grow (p:=q) (by rw[aJ.out,aN.out];exact D) C (by rw[joe];exact Q.out));have k6:w6.cell? ⟨E.heap.size,0,none⟩=some (.slice (some ⟨g',0,none⟩) (cq.length+1) V):=h6.cell 0
     have bU:=h6.frozen 0;obtain⟨g6,aS,rfl⟩:=ownsRow_succ D;clear D C h6 Q;go_wp2_with fail;go_roundw
     case rel=>exact⟨j+1,_,aC,by go_num,by rw[bG.out];exact af.out⟩
     case measure=>simp[intOf];omega
    have hq:((j:Int)==ki)=false:=by have:=aM.out;exact beq_eq_false_iff_ne.2 (by omega)
    have bH:=jnS (PO.out ap);clear ap PO PA;go_wp2_with fail;go_roundw
    case rel=>exact⟨j+1,_,aC,by go_num,by rw[bH.out];exact s.out⟩
    case measure=>simp[intOf];omega
  obtain rfl:j=a.length:=by omega
  have aO:Hid ((a.take H++q::a.drop H).map Prod.fst=Ui (a.map Prod.fst) H (zx fs,k)):=by show _=_;rw[HQ.out];exact jcZ a H _ _
  have aP:Hid (∀p∈a.take H++q::a.drop H,p∈a\/(p.2=.slice K fs.length O/\p.1.1.fields=fs)):=fun p hp=>by
   rcases List.mem_append.1 hp with h|h
   ·exact .inl (joR h)
   rcases List.mem_cons.1 h with h|h
   ·right;rw[h,HQ.out];exact⟨rfl,rfl⟩
   exact .inl (joJ h)
  rw[jii a H q aY]at *
  generalize a.take H++q::a.drop H=L at *
  have n:=jb bz.out X (by omega);have t:=jb ay.out X (by omega)
  have G1:wr.cell? ⟨E.heap.size,1,none⟩=some (.int .i64 (k+1)):=l.acc.head.cell 1;have G0:wr.cell? ⟨E.heap.size,0,none⟩=some (.slice ua L.length uc):=l.acc.head.cell 0
  have N1:wr.cell? ⟨w.heap.size,1,none⟩=some (.int .i64 k):=t.cell 1;have r0:=n.cell 0
  have r1:=n.cell 1;have f0:=n.frozen 0
  have f1:=n.frozen 1;simp only[jn0,jnZ,jnX]at r0 r1;have U:=(n.drew.set 0 (.slice ua L.length uc)).set 1 (.int .i64 (k+1))
  rw[Vo]at U;have R:=jnS U
  have y:=jnS l.acc.drew;clear l X n t U;go_wp2_with fail;go_region_law (skip)
  all_goals go_wp2_with fail
  all_goals
   refine bodyPost_ret (JR rfl _ _ (w.heap.size+1) _ rfl R.out rfl) rfl ?_;refine⟨_,L,rfl,?_⟩;exact y.out.end_ bm.out H0.out HX.out aO.out aP.out (jpo _) (by omega) 0 1 _ _
 rw[Wh X];dsimp only;have bJ:(((qA fs:Nat):Int) != 0)=true:=bne_iff_ne.2 (by omega)
 have bI:qA fs<=11:=QZ fs;obtain⟨N,hN⟩:∃N,N=qA fs:=⟨_,rfl⟩
 obtain⟨T,hT⟩:∃T,T=vv fs:=⟨_,rfl⟩
 have CK:Hid (∀d,vK d (.slice K fs.length O) fs->Calls prog 173 #[.slice K fs.length O] d fun e w'=>e=.returned (.tuple #[.int .i64 T,.int .i64 (N:Nat)])/\Below d.heap.size d w'):=fun d h1=>by rw[hN,hT];exact yH fs _ d h1 (by have:=a7.len;omega) (fun f hf=>by have:=a7.each f hf;omega)
 rw[<- hN]at bJ bI ⊢;rw[<- hT];clear X hN hT;rcases T2.out with ⟨t1,rfl,t3⟩|⟨t1,t3⟩
 all_goals
  clear T2 t3;go_enter func131,ntmps131;go_wp2_with fail;refine FN.out.mono ?_;rintro e d ⟨rfl,I⟩;obtain⟨t,n,m,a8⟩:=HT.out d I;have P:=jnS (CK.out d (HX.out.below m (jnT _)))
  have B1:=jnS I;clear FN I m t n;go_wp2_with fail;refine P.out.mono ?_;rintro e w2 ⟨rfl,b2⟩;have aA:=B1.out.trans (b2.mono B1.out.size)
  obtain⟨t,n,m,ax⟩:=HT.out w2 aA;obtain⟨U,HB⟩:=aj.out w2 aA;have c0:=t.cell 0
  have c1:=t.cell 1;have r0:=n.cell 0
  have r1:=n.cell 1;have f0:=n.frozen 0
  have f1:=n.frozen 1;simp only[jn0,jnZ,jnX]at c0 c1 r0 r1;have R:=jnS U
  have aa:=jnS HB;clear P b2 aA m t n U HB;go_wp2_with fail;refine bodyPost_ret (JR rfl _ _ (w.heap.size+1) _ rfl R.out rfl) rfl ?_;exact⟨_,a,rfl,.same H0.out rfl aa.out⟩
end
def Ki(lb:Nat)(ev:Value)(ps:List Pr)(v:Value)(qs:List Pr)(r:Nat):Prop :=
 r=lb\/ev.ownBlock=some r\/v.ownBlock=some r\/(∃p∈ps,p.1.1.fields≠[]/\p.2.ownBlock=some r)\/(∃p∈qs,p.1.1.fields≠[]/\p.2.ownBlock=some r)
structure StR(w:World)(lb:Nat)(ev:Value)(ps:List Pr)(nx:Int)(v:Value)(qs:List Pr):Prop where
 la:LA w lb ev ps nx
 q:zN w v qs
 va:∀b,v.ownBlock=some b->b≠lb/\ev.ownBlock≠some b
 qa:∀p∈qs,p.1.1.fields≠[]->∀b,p.2.ownBlock=some b->b≠lb/\ev.ownBlock≠some b
theorem zN.only{w w':World}{v:Value}{c:List Pr}{S:Nat->Prop}(h:zN w v c)(g:jI S w w')(e:∀b,v.ownBlock=some b->¬S b)(f:∀p∈c,p.1.1.fields≠[]->∀b,p.2.ownBlock=some b->¬S b):zN w' v c :=
 ⟨jK h.row g e,fun p d=>(h.each p d).only g (fun a b i=>f p d a b i)⟩
theorem StR.lt{w:World}{lb:Nat}{e:Value}{f:List Pr}{i:Int}{v:Value}{g:List Pr}(h:StR w lb e f i v g){r:Nat}(b:Ki lb e f v g r):r<w.heap.size:=by
 rcases b with rfl|b|b|⟨p,d,a,c⟩|⟨p,d,a,c⟩
 ·exact h.la.lr.head.lt
 ·exact(h.la.lr.ents.row.lt r b).2
 ·exact(h.q.row.lt r b).2
 ·exact(h.la.lr.ents.each p d).1.lt a r c
 exact(h.q.each p d).lt a r c
theorem StR.only{w w':World}{lb:Nat}{f:Value}{i:List Pr}{k:Int}{v:Value}{j:List Pr}{S:Nat->Prop}(h:StR w lb f i k v j)(g:jI S w w')(d:∀r,Ki lb f i v j r->¬S r):StR w' lb f i k v j:=by refine⟨⟨⟨h.la.lr.head.only g (d lb (.inl rfl)),⟨jK h.la.lr.ents.row g (fun b a=>d b (.inr (.inl a))),fun p e=>(h.la.lr.ents.each p e).only g (fun c b a=>d b (.inr (.inr (.inr (.inl ⟨p,e,c,a⟩)))))⟩⟩,h.la.apart⟩,?_,h.va,h.qa⟩;exact h.q.only g (fun b a=>d b (.inr (.inr (.inl a)))) (fun p e c b a=>d b (.inr (.inr (.inr (.inr ⟨p,e,c,a⟩)))))
section
attribute [local go_sem] jn9
theorem jlw(l:LS){kind:Int}(a:kind≠1)(b:kind≠2)(id:Int)(fs:List Fld):vU l kind id fs=zh l id fs:=by unfold vU;rw[if_neg a,if_neg b]
theorem jcK{a:List Pr}(h:WF (a.map Prod.fst)):(Qs 0 a).length=xp (a.map Prod.fst):=by rw[<- jiB h];unfold jmY jbG Qs;rw[<- WI (κ:=fun e:En=>e.1.kind) Prod.fst,joi]
theorem Gc{a:List Pr}(h:WF (a.map Prod.fst))(id:Int):yj a id=vu (a.map Prod.fst) id:=by rw[jlq,jgP h]
theorem jmy{a:List Pr}(h:WF (a.map Prod.fst))(id:Int):jhP a id=jgC (a.map Prod.fst) id:=by unfold jhP jgC;rw[Gc h]
theorem jmz{a:List Pr}(h:WF (a.map Prod.fst))(b:xp (a.map Prod.fst)<=400):decide ((Qs 0 a).length=400)=decide (400<=xp (a.map Prod.fst)):=by rw[jcK h];exact decide_eq_decide.2 ⟨fun e=>by omega,fun e=>by omega⟩
end
structure Tab(a0:Act)(n:Nat)(dst:Nat->Option Nat)(val:Nat->Value)(s:Nat)(W:Bool->World)(l:Array Bool)(a:Act)(w:World):Prop where
 dfr:a.defers=a0.defers
 sz:a.tmps.size=a0.tmps.size
 frm:∀j,(∀k,k<n->dst k≠some j)->a.tmps[j]?=a0.tmps[j]?
 val:∀i d,l.getD i false=true->dst i=some d->a.tmps[d]?=some (val i)
 wd:w=W (l.getD s false)
theorem jdm(l:Array Bool)(i:Nat)(a:i<l.size)(j:Nat):(l.setIfInBounds i true).getD j false=if j=i then true else l.getD j false:=by
 rw[joA,joA,joE];by_cases h:i=j
 ·subst h;simp[a]
 rw[if_neg h,if_neg (jpN h)]
theorem jjL{ops:Array Oper}{l:Array Bool}(n:l.size=ops.size)(a:∀i o e,ops[i]?=some o->e∈o.after->Region.binds .any e=true->e.on<i)(k:Region.ready .any ops l=[]):∀i,i<ops.size->l.getD i false=true:=by
 intro i
 induction i using Nat.strongRecOn with
 | _ i m =>
 intro d;cases hl:l.getD i false with
 | true=>rfl
 | false =>
 exfalso;have f:ops[i]?=some ops[i]:=joD d
 have:i∈Region.ready .any ops l:=by
  unfold Region.ready;rw[List.mem_filter];refine⟨List.mem_range.2 d,?_⟩;have c:l.getD i true=false:=by
   have b:i<l.size:=by omega
   simp[Array.getD,b]at hl ⊢;exact hl
  simp only[f,jqy,Option.getD_some,joC,jp2];refine⟨c,Array.all_eq_true_iff_forall_mem.2 fun e j => ?_⟩;cases h:Region.binds .any e with
  | false=>simp
  | true =>
  have g:=a i _ e f j h;simp[m e.on g (by omega)]
 rw[k]at this;cases this
section
attribute [local go_sem] jn9
section
variable {o:Oper} {a:Act} {w:World} {K:Act->World->Prop} {Q:Exit->Act->World->Prop}
end
end
section
open Go.Maps Go.ChangeShapes Go.Joins Go.WideShapes
attribute [local go_sem] jn9
structure Ed where
 kind:Int
 id:Int
 fields:List Fld
end
def nums(es:List En):List Int:=(es.map Prod.snd).filter fun n=>decide (0<n)
theorem YS(a b:List En):nums (a++b)=nums a++nums b:=by unfold nums;rw[joB,jo8]
theorem xj(es:List En):(nums es).length=xp es:=by unfold nums xp;rw[List.filter_map,joi];rfl
theorem jh5(es:List En)(k:Nat)(it:It):(XP es k it).map Prod.snd=es.map Prod.snd:=by
 unfold XP;apply jpR;intro j;rw[joI,jqb,joI];cases es[j]? with
 | none=>rfl
 | some e =>
 by_cases h:k=j
 ·simp[h]
 simp[h]
structure OkL(l:LS):Prop where
 wf:WF l.es
 pos:0<l.next
 lt:∀n∈nums l.es,n<l.next
 nd:(nums l.es).Nodup
 len:xp l.es<=400
theorem OkL.replace{l:LS}(h:OkL l){k:Nat}{e:En}(c:l.es[k]?=some e)(b:e.1.kind=3)(fs:List Fld):OkL ⟨XP l.es k (zx fs),l.next⟩:=by
 have a:nums (XP l.es k (zx fs))=nums l.es:=by unfold nums;rw[jh5]
 refine⟨h.wf.set k (zx fs) rfl e c b,h.pos,?_,?_,?_⟩
 ·show ∀n∈nums (XP l.es k (zx fs)),n<l.next;rw[a];exact h.lt
 ·show(nums (XP l.es k (zx fs))).Nodup;rw[a];exact h.nd
 show xp (XP l.es k (zx fs))<=400;rw[<- xj,a,xj];exact h.len
theorem jlC(es:List En)(k:Nat):(nums (GG es k)).Sublist (nums es):=by
 unfold nums GG;refine List.Sublist.filter _ (List.Sublist.map _ ?_)
 conv=>rhs;rw[<- joj k es]
 exact(List.Sublist.refl _).append (by rw[<- jpg];exact List.drop_sublist _ _)
theorem OkL.delete{l:LS}(h:OkL l)(k:Nat):OkL ⟨GG l.es k,l.next⟩:=by
 have a:=jlC l.es k;refine⟨h.wf.cut k,h.pos,fun n b=>h.lt n (a.subset b),a.nodup h.nd,?_⟩;show xp (GG l.es k)<=400
 have:=a.length_le;rw[xj,xj]at this;have:=h.len
 omega
theorem jig(es:List En)(k:Nat)(it:It){n:Int}(c:0<n):(nums (Ui es k (it,n))).Perm (n::nums es):=by
 have a:nums (Ui es k (it,n))=nums (es.take k)++n::nums (es.drop k):=by unfold Ui;rw[YS];congr 1;unfold nums;rw[joy,joP,if_pos (by simpa using c)]
 have b:nums es=nums (es.take k)++nums (es.drop k):=by rw[<- YS,joj]
 rw[a,b];exact List.perm_middle
theorem OkL.insert{l:LS}(h:OkL l)(k:Nat)(fs:List Fld)(d:¬400<=xp l.es):OkL ⟨Ui l.es k (zx fs,l.next),l.next+1⟩:=by
 have a:=jig l.es k (zx fs) h.pos;have b:=h.pos
 refine⟨h.wf.put k ⟨rfl,h.pos⟩,by show 0<l.next+1;omega,fun n c => ?_,a.nodup_iff.2 (List.nodup_cons.2 ⟨fun q => ?_,h.nd⟩),?_⟩
 ·show n<l.next+1;rcases List.mem_cons.1 (a.subset c) with q|q
  ·omega
  have:=h.lt n q;omega
 ·have:=h.lt _ q;omega
 show xp (Ui l.es k (zx fs,l.next))<=400;have:=a.length_eq
 rw[xj,jn1,xj]at this;omega
theorem jgQ{es:List En}(h:WF es){id:Int}{k:Nat}(c:vu es id=some k):∃e,es[k]?=some e/\e.1.kind=3/\e.2=id:=by
 obtain⟨_,e,a,b,d⟩:=xx c;rcases h e (jn7 a) with ⟨q,_⟩|⟨_,q⟩
 ·exact⟨e,a,q,b⟩
 omega
theorem OkL.edit{l:LS}(h:OkL l)(kind id:Int)(fs:List Fld):OkL (vU l kind id fs).ls:=by
 unfold vU;split
 ·unfold zu;split
  ·exact h
  rename_i k d;obtain⟨e,b,a,_⟩:=jgQ h.wf d;split
  ·exact h.replace b a fs
  exact h
 split
 ·unfold zR;split
  ·exact h
  exact h.delete _
 unfold zh;split
 ·exact h
 split
 ·split
  ·exact h
  rename_i c;exact h.insert _ fs c
 exact h
theorem Gi(l:LS)(kind id:Int)(fs:List Fld):(vU l kind id fs).ls.es.length<=l.es.length+1/\l.next<=(vU l kind id fs).ls.next/\(vU l kind id fs).ls.next<=l.next+1:=by
 unfold vU;split
 ·unfold zu;split
  ·exact⟨jpo _,jpp _,by show l.next<=l.next+1;omega⟩
  split
  ·exact⟨by show(XP _ _ _).length<=_;rw[jh6];omega,jpp _,by show l.next<=l.next+1;omega⟩
  exact⟨jpo _,jpp _,by show l.next<=l.next+1;omega⟩
 split
 ·unfold zR;split
  ·exact⟨jpo _,jpp _,by show l.next<=l.next+1;omega⟩
  exact⟨by show(GG _ _).length<=_;unfold GG;rw[jnU,jn2,jn6];omega,jpp _,by show l.next<=l.next+1;omega⟩
 unfold zh;split
 ·exact⟨jpo _,jpp _,by show l.next<=l.next+1;omega⟩
 split
 ·split
  ·exact⟨jpo _,jpp _,by show l.next<=l.next+1;omega⟩
  exact⟨by show(Ui _ _ _).length<=_;unfold Ui;rw[jnU,jn1,jn2,jn6];omega,by show l.next<=l.next+1;omega,jpp _⟩
 exact⟨jpo _,jpp _,by show l.next<=l.next+1;omega⟩
theorem jgs(l:LS)(id:Int)(fs:List Fld):((zh l id fs).bad=0/\(zh l id fs).id=l.next/\(zh l id fs).ls.next=l.next+1)\/((zh l id fs).bad≠0/\(zh l id fs).id=0/\(zh l id fs).ls=l):=by
 unfold zh;split
 ·exact .inr ⟨by show(7:Nat)≠0;decide,rfl,rfl⟩
 split
 ·split
  ·exact .inr ⟨by show(11:Nat)≠0;decide,rfl,rfl⟩
  exact .inl ⟨rfl,rfl,rfl⟩
 rename_i a;exact .inr ⟨a,rfl,rfl⟩
def zG(ed:Ed):Nat:=if ed.kind=1\/ed.kind=3 then qA ed.fields else if ed.kind=2/\ed.fields.length=0 then 0 else 2
theorem ji0(ed:Ed):zG ed<=11:=by
 unfold zG;split
 ·exact QZ _
 split<;>decide
def yB:Nat->List Ed->Int×Nat
 | _,[]=>(-9,0)
 | k,ed::r=>if zG ed=0 then yB (k+1) r else ((k:Nat),zG ed)
def qu(eds:List Ed):Int×Nat:=if eds.length<1\/40<eds.length then (-9,1) else yB 0 eds
theorem Gn:∀(c:List Ed) (q k:Nat) (b:Ed),(∀x∈c.take k,zG x=0)->c[k]?=some b->zG b≠0->yB q c=(((q+k:Nat):Int),zG b)
 | [],q,k,b,_,h,_=>by simp at h
 | a::r,q,0,b,_,h,d=>by simp at h;subst h;unfold yB;rw[if_neg d];rfl
 | a::r,q,k+1,b,e,h,d=>by have f:=Gn r (q+1) k b (fun x hx=>e x (by rw[jpX];exact jn4 _ hx)) (by simpa using h) d;unfold yB;rw[if_pos (e a (by rw[jpX];exact jn5)),f,show q+1+k=q+(k+1) by omega]
theorem Qe:∀(b:List Ed) (q:Nat),(∀x∈b,zG x=0)->yB q b=(-9,0)
 | [],_,_=>rfl
 | a::r,q,h=>by unfold yB;rw[if_pos (h a jn5)];exact Qe r (q+1) (fun x hx=>h x (jn4 _ hx))
theorem Wu:∀(b:List Ed) (q:Nat),(yB q b).2=0->∀x∈b,zG x=0
 | [],_,_,x,hx=>by cases hx
 | a::r,q,h,x,hx=>by
  unfold yB at h;split at h
  ·rename_i c;rcases List.mem_cons.1 hx with rfl|hx
   ·exact c
   exact Wu r (q+1) h x hx
  rename_i c;exact absurd h c
theorem vg{eds:List Ed}(h:(qu eds).2=0):(1<=eds.length/\eds.length<=40)/\∀x∈eds,zG x=0:=by
 unfold qu at h;split at h
 ·cases h
 exact⟨by omega,Wu eds 0 h⟩
theorem jlG{eds:List Ed}(a:1<=eds.length)(b:eds.length<=40)(h:∀x∈eds,zG x=0):qu eds=(-9,0):=by unfold qu;rw[if_neg (by omega)];exact Qe eds 0 h
theorem jbi{eds:List Ed}(h:(qu eds).2=0):qu eds=(-9,0):=by obtain⟨⟨a,b⟩,c⟩:=vg h;exact jlG a b c
theorem yO{ed:Ed}(h:zG ed=0):ed.kind=1\/ed.kind=2\/ed.kind=3:=by
 unfold zG at h;split at h
 ·rename_i q;omega
 split at h
 ·rename_i q;exact .inr (.inl q.1)
 cases h
def jL(l:LS)(ed:Ed):Did:=vU l ed.kind ed.id ed.fields
def zE:LS->List Ed->LS
 | l,[]=>l
 | l,ed::r=>zE (jL l ed).ls r
def KK:LS->List Ed->Prop
 | _,[]=>True
 | l,ed::r=>(jL l ed).bad=0/\KK (jL l ed).ls r
def za:LS->List Ed->List Int
 | _,[]=>[]
 | l,ed::r=>(if ed.kind=3 then [(jL l ed).id] else [])++za (jL l ed).ls r
def jha:Nat->LS->List Ed->Int×Nat
 | _,_,[]=>(-9,0)
 | k,l,ed::r=>if (jL l ed).bad=0 then jha (k+1) (jL l ed).ls r else ((k:Nat),(jL l ed).bad)
def doB(l:LS)(eds:List Ed):Int×Nat:=if (qu eds).2=0 then jha 0 l eds else qu eds
theorem YW:∀(l:LS) (a b:List Ed),zE l (a++b)=zE (zE l a) b
 | _,[],_=>rfl
 | l,c::r,b=>YW (jL l c).ls r b
theorem YR:∀(l:LS) (a b:List Ed),KK l (a++b)↔KK l a/\KK (zE l a) b
 | _,[],_=>by simp[KK,zE]
 | l,c::r,b=>by show((jL l c).bad=0/\KK (jL l c).ls (r++b))↔((jL l c).bad=0/\KK (jL l c).ls r)/\KK (zE (jL l c).ls r) b;rw[YR,and_assoc]
theorem VG:∀(l:LS) (a b:List Ed),za l (a++b)=za l a++za (zE l a) b
 | _,[],_=>rfl
 | l,c::r,b=>by show _++za (jL l c).ls (r++b)=(_++za (jL l c).ls r)++za (zE (jL l c).ls r) b;rw[VG,jn8]
theorem Zt:∀(q:Nat) (l:LS) (a b:List Ed),KK l a->jha q l (a++b)=jha (q+a.length) (zE l a) b
 | q,l,[],b,_=>rfl
 | q,l,c::r,b,h=>by
  have d:=Zt (q+1) (jL l c).ls r b h.2;show(if (jL l c).bad=0 then jha (q+1) (jL l c).ls (r++b) else _)=jha (q+(r.length+1)) (zE (jL l c).ls r) b
  rw[if_pos h.1,d,show q+1+r.length=q+(r.length+1) by omega]
theorem jg8:∀(q:Nat) (l:LS) (a:List Ed),KK l a->jha q l a=(-9,0):=fun q l a h=>by have:=Zt q l a [] h;rw[jok]at this;rw[this];rfl
theorem take_snoc{eds:List Ed}{k:Nat}{ed:Ed}(h:eds[k]?=some ed):eds.take (k+1)=eds.take k++[ed]:=by rw[jor,h];rfl
theorem jh0{eds:List Ed}{k:Nat}{ed:Ed}(h:eds[k]?=some ed):eds=eds.take k++ed::eds.drop (k+1):=by
 obtain⟨a,e⟩:=List.getElem?_eq_some_iff.1 h
 conv=>lhs;rw[<- joj k eds]
 rw[<- e];congr 1;exact jou a
theorem jcE{eds:List Ed}{k:Nat}{ed:Ed}(h:eds[k]?=some ed):(eds.take k).length=k:=by have:=(List.getElem?_eq_some_iff.1 h).1;rw[jn2];omega
theorem jaI{l:LS}{eds:List Ed}{k:Nat}{ed:Ed}(h:eds[k]?=some ed):zE l (eds.take (k+1))=(jL (zE l (eds.take k)) ed).ls:=by rw[take_snoc h,YW];rfl
theorem jaF{l:LS}{eds:List Ed}{k:Nat}{ed:Ed}(h:eds[k]?=some ed)(b:KK l (eds.take k))(a:(jL (zE l (eds.take k)) ed).bad=0):KK l (eds.take (k+1)):=by rw[take_snoc h,YR];exact⟨b,a,trivial⟩
theorem Wi{l:LS}{eds:List Ed}{k:Nat}{ed:Ed}(h:eds[k]?=some ed):za l (eds.take (k+1))=za l (eds.take k)++(if ed.kind=3 then [(jL (zE l (eds.take k)) ed).id] else []):=by
 rw[take_snoc h,VG];show _++((if ed.kind=3 then _ else _)++[])=_
 rw[jok]
theorem jg9{l:LS}{eds:List Ed}{k:Nat}{ed:Ed}(h:eds[k]?=some ed)(b:KK l (eds.take k))(a:(jL (zE l (eds.take k)) ed).bad≠0):jha 0 l eds=(((k:Nat):Int),(jL (zE l (eds.take k)) ed).bad):=by
 have e:=jh0 h;have:jha 0 l (eds.take k++ed::eds.drop (k+1))=(((k:Nat):Int),(jL (zE l (eds.take k)) ed).bad):=by
  rw[Zt 0 l _ _ b,jcE h];show(if _ then _ else _)=_
  rw[if_neg a,jov]
 rw[<- e]at this;exact this
theorem jaW(l:LS):∀(a:List Ed),(za l a).length<=a.length:=by
 intro a
 induction a generalizing l with
 | nil=>exact jnT _
 | cons b r c =>
 have:=c (jL l b).ls;show((if b.kind=3 then [(jL l b).id] else [])++za (jL l b).ls r).length<=r.length+1
 rw[jnU];split
 ·simp only[jn1,joz];omega
 simp only[joz];omega
theorem OkL.on{l:LS}(h:OkL l):∀(a:List Ed),OkL (zE l a):=by
 intro a
 induction a generalizing l with
 | nil=>exact h
 | cons b r c=>exact c (h.edit b.kind b.id b.fields)
theorem jj7(l:LS):∀(d:List Ed),(zE l d).es.length<=l.es.length+d.length/\l.next<=(zE l d).next/\(zE l d).next<=l.next+(d.length:Nat):=by
 intro d
 induction d generalizing l with
 | nil=>exact⟨jnT _,jpp _,by show l.next<=l.next+((0:Nat):Int);omega⟩
 | cons e r h =>
 obtain⟨a,b,c⟩:=h (jL l e).ls;obtain⟨a1,f,g⟩:=Gi l e.kind e.id e.fields;refine⟨?_,?_,?_⟩
 ·show(zE (jL l e).ls r).es.length<=l.es.length+(r.length+1)
  have:(jL l e).ls.es.length<=l.es.length+1:=a1;omega
 ·show l.next<=(zE (jL l e).ls r).next;have:l.next<=(jL l e).ls.next:=f
  omega
 show(zE (jL l e).ls r).next<=l.next+((r.length+1:Nat):Int)
 have:(jL l e).ls.next<=l.next+1:=g;omega
theorem jky(l:LS)(ed:Ed):(jL l ed).bad<=11:=by
 unfold jL vU;split
 ·unfold zu;split
  ·show(7:Nat)<=11;decide
  split
  ·exact jn3 _
  exact QZ _
 split
 ·unfold zR;split
  ·show(7:Nat)<=11;decide
  exact jn3 _
 unfold zh;split
 ·show(7:Nat)<=11;decide
 split
 ·split
  ·show(11:Nat)<=11;decide
  exact jn3 _
 exact QZ _
theorem jkz{l:LS}(d:0<l.next){ed:Ed}(a:ed.kind=1\/ed.kind=2\/ed.kind=3)(b:(jL l ed).bad=0):(if ed.kind=3 then [(jL l ed).id] else [])=(if 0<(jL l ed).id then [(jL l ed).id] else []):=by
 rcases a with a|a|a
 ·have e:(jL l ed).id=0:=by
   unfold jL vU;rw[if_pos a];unfold zu;split
   ·rfl
   split<;>rfl
  rw[if_neg (by omega),if_neg (by omega)]
 ·have e:(jL l ed).id=0:=by unfold jL vU;rw[if_neg (by omega),if_pos a];unfold zR;split<;>rfl
  rw[if_neg (by omega),if_neg (by omega)]
 have c:jL l ed=zh l ed.id ed.fields:=by unfold jL vU;rw[if_neg (by omega),if_neg (by omega)]
 have e:(jL l ed).id=l.next:=by
  rw[c]at b ⊢;rcases jgs l ed.id ed.fields with q|q
  ·exact q.2.1
  exact absurd b q.1
 rw[if_pos a,if_pos (by omega)]
end Go.Proofs.YtbapfpekklcicaaGreatDoor
