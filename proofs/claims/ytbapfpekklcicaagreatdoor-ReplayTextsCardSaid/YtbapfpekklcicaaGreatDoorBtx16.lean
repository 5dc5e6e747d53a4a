/- Texts put together:NA,TO,NB,NC,RT,NR,ND,NE,NG,EA. -/
import Derived.Test.YtbapfpekklcicaaGreatDoorBtx15
set_option linter.unusedVariables false
set_option maxRecDepth 100000
set_option maxHeartbeats 16000000
namespace Go.Proofs.YtbapfpekklcicaaGreatDoor
open Go.RowKit Go.Shelf Tryz
abbrev jqm:=@Int.le_refl
section
attribute [local go_sem] joY
def YS(ps:List Pr)(k:Nat)(q:Pr)(j:Nat):List Pr:=if j<k then ps.take j else ps.take k++q::(ps.take j).drop k
theorem jiR(a:List Pr)(k:Nat)(q:Pr)(j:Nat):(YS a k q j).length<=j+1:=by
 unfold YS;split
 ·rw[joS];omega
 rw[joK,joR,joX,joS,joS];omega
theorem jgm(a:List Pr)(q:Pr):YS a 0 q 0=[q]:=by unfold YS;simp
theorem jeE(a:List Pr)(k:Nat)(q:Pr)(h:0<k):YS a k q 0=[]:=by unfold YS;rw[if_pos h,List.take_zero]
theorem jll(a:List Pr)(j:Nat)(p q:Pr)(h:a[j]?=some p):YS a (j+1) q (j+1)=(YS a (j+1) q j++[p])++[q]:=by
 have e:a.take (j+1)=a.take j++[p]:=by rw[jpd,h];rfl
 unfold YS;rw[if_neg (by omega),if_pos (by omega),jql (by rw[joS];omega),e]
theorem jlk(a:List Pr)(k j:Nat)(p q:Pr)(h:a[j]?=some p)(b:j+1≠k):YS a k q (j+1)=YS a k q j++[p]:=by
 have hl:=(List.getElem?_eq_some_iff.1 h).1;have e:a.take (j+1)=a.take j++[p]:=by rw[jpd,h];rfl
 unfold YS;by_cases c:j<k
 ·rw[if_pos (by omega),if_pos c,e]
 rw[if_neg (by omega),if_neg c,e,jo0,jo6,List.drop_append,joS,show k-min j a.length=0 by omega,jp2]
theorem jiS(a:List Pr)(k:Nat)(q:Pr)(h:k<=a.length):YS a k q a.length=a.take k++q::a.drop k:=by unfold YS;rw[if_neg (by omega),jpa]
structure jfK(w wr:World)(ob fb:Nat)(cf:Array Value)(v:Value)(ps:List Pr)(nx:Int):Prop where
 acc:yI w wr ob v ps nx
 fr:ja wr fb 112 cf
 ne:∀r,v.ownBlock=some r->r≠fb
 ob:fb≠ob
theorem jfK.alloc{w wr:World}{d b:Nat}{a:Array Value}{v:Value}{e:List Pr}{c:Int}(h:jfK w wr d b a v e c)(o:Obj):jfK w (wr.alloc o) d b a v e c:=⟨h.acc.alloc o,h.fr.alloc o,h.ne,h.ob⟩
theorem jfK.snoc{w l d:World}{b g:Nat}{m:Array Value}{v c:Value}{f:List Pr}{j:Int}{p:Pr}(h:jfK w l b g m v f j)
  (q:d.ownsRow 0 112 4 c (f.length+1) (jl f++zd p)) (o:ja d b 37 #[v,.int .i64 j]) (a:c.ownBlock=v.ownBlock\/∃k,c.ownBlock=some k/\l.heap.size<=k/\k<d.heap.size) (n:jH (fun r=>some r=v.ownBlock) l d) :
  jfK w (d.setCell ⟨b,0,none⟩ c) b g m c (f++[p]) j:=by
 refine⟨h.acc.snoc q o a n,(h.fr.only n (fun e=>h.ne g e.symm rfl)).other (p:=⟨b,0,none⟩) h.ob _,fun r i => ?_,h.ob⟩;rcases a with a|⟨k,a,s,_⟩
 ·exact h.ne r (by rw[<- a];exact i)
 rw[a]at i;have:k=r:=joN i
 have:=h.fr.lt;omega
theorem jfK.grow{w f j:World}{c g:Nat}{k:Array Value}{v b:Value}{d:List Pr}{m:Int}{p:Pr}(h:jfK w f c g k v d m)
  (n:j.ownsRow w.heap.size 112 4 b (d.length+1) (jl d++zd p)) (l:f.grownBy j v.ownBlock) (a:b.ownBlock=v.ownBlock\/b.ownBlock=some f.heap.size) :
  jfK w (j.setCell ⟨c,0,none⟩ b) c g k b (d++[p]) m:=by
 refine⟨h.acc.grow n l,(h.fr.grown l (fun e=>h.ne g e.symm rfl)).other (p:=⟨c,0,none⟩) h.ob _,fun r i => ?_,h.ob⟩;rcases a with a|a
 ·exact h.ne r (by rw[<- a];exact i)
 rw[a]at i;have:f.heap.size=r:=joN i
 have:=h.fr.lt;omega
theorem jlY{es:List En}{id:Int}{a:Nat}(h:jha es id=some a):Gw (vM es id)+1=a/\a<=es.length/\(a=0->id=0):=by
 unfold jha at h;by_cases b:id=0
 ·rw[if_pos b]at h;have:vM es id=none:=by unfold vM;rw[if_neg (by omega)]
  rw[this];cases h;exact⟨rfl,joT _,fun _=>b⟩
 rw[if_neg b]at h;cases c:vM es id with
 | none=>rw[c]at h;cases h
 | some k =>
 rw[c]at h;have:=(Yu c).1
 simp at h;exact⟨by simp[Gw];omega,by omega,fun e=>by omega⟩
theorem jng{es:List En}{id:Int}(h:jha es id=none):vM es id=none/\id≠0:=by
 unfold jha at h;by_cases a:id=0
 ·rw[if_pos a]at h;cases h
 rw[if_neg a]at h;refine⟨?_,a⟩;cases b:vM es id with
 | none=>rfl
 | some k=>rw[b]at h;cases h
theorem Ut(a:List Pr)(v x:Value)(k id:Int)(fs:List Fld)(w:World)(h:zK w v a)(bg:a.length<=1000000)(cl : -1000000<=k/\k<=1000000)(hx:vP w x fs)(a7:jbN fs):
  Calls prog 131 #[.agg #[v,.int .i64 k],.int .i64 id,x] w fun e w'=>∃v' bX,e=.returned (.tuple #[.agg #[v',.int .i64 (zo ⟨a.map Prod.fst,k⟩ id fs).ls.next],.int .i64 (zo ⟨a.map Prod.fst,k⟩ id fs).id,.int .i64 (zo ⟨a.map Prod.fst,k⟩ id fs).at_,.int .i64 (zo ⟨a.map Prod.fst,k⟩ id fs).bad])/\WrQ w v a x (zo ⟨a.map Prod.fst,k⟩ id fs).ls.es w' v' bX:=by
 obtain⟨i0,hi,aE,aF,aG⟩:=info_parts jjm;rw[ja5];dsimp only;obtain⟨A,z,rfl,ci⟩:=h.empty;obtain⟨K,O,rfl,_,_⟩:=_root_.id hx;obtain⟨W,hW⟩:∃W,W=(w.alloc (.cells #[.slice A a.length z,.int .i64 k] 37)).alloc (.cells #[.slice none 0 0,.int .i64 0] 37):=⟨_,rfl⟩
 have aC:Below w.heap.size w W:=by rw[hW];exact((joL _ w).alloc (joJ _) _).alloc (by simp) _
 have bT:W.heap.size=w.heap.size+2:=by rw[hW];simp
 have C0:ja W w.heap.size 37 #[.slice A a.length z,.int .i64 k]:=by rw[hW];exact(ja.new _ _ _).alloc _
 have C1:ja W (w.heap.size+1) 37 #[.slice none 0 0,.int .i64 0]:=by
  rw[hW];have:=ja.new (w.alloc (.cells #[.slice A a.length z,.int .i64 k] 37)) 37 #[.slice none 0 0,.int .i64 0]
  simpa using this
 have H0:=joI h;have HX:=joI hx
 have FN:=joI (Zl a (.slice A a.length z) k id W (h.below aC (joJ _)) bg);have bu:=joI aC
 have bw:=joI C0;have bz:=joI C1
 have HT:Hid (∀d,Below W.heap.size W d->ja d w.heap.size 37 #[.slice A a.length z,.int .i64 k]/\ja d (w.heap.size+1) 37 #[.slice none 0 0,.int .i64 0]/\Below w.heap.size w d/\w.heap.size+2<=d.heap.size):=fun d I =>
  ⟨jb bw.out I (by omega),jb bz.out I (by omega),bu.out.trans (I.mono (by omega)),by have:=I.size;omega⟩
 have aj:Hid (∀d,Below W.heap.size W d->ja ((d.setCell ⟨w.heap.size+1,0,none⟩ (.slice A a.length z)).setCell ⟨w.heap.size+1,1,none⟩ (.int .i64 k)) (w.heap.size+1) 37 #[.slice A a.length z,.int .i64 k]/\Below w.heap.size w ((d.setCell ⟨w.heap.size+1,0,none⟩ (.slice A a.length z)).setCell ⟨w.heap.size+1,1,none⟩ (.int .i64 k))):=fun d I=>by
  obtain⟨_,n,m,_⟩:=HT.out d I;have U:=(n.set 0 (.slice A a.length z)).set 1 (.int .i64 k)
  rw[Qs]at U;exact⟨U,(m.setCell (p:=⟨w.heap.size+1,0,none⟩) (jqf _) _).setCell (p:=⟨w.heap.size+1,1,none⟩) (jqf _) _⟩
 clear C0 C1 h aC bT hx;subst hW;cases hg:jha (a.map Prod.fst) id with
 | none =>
  obtain⟨hf,av⟩:=jng hg;rw[hf]at FN;dsimp only[Gw]at FN;have ck:(id != 0)=true:=bne_iff_ne.2 av
  clear hf hg av;unfold yl;dsimp only;go_enter func131,ntmps131;go_wp2_with fail;refine FN.out.mono ?_;rintro e d ⟨rfl,I⟩;obtain⟨t,n,m,a8⟩:=HT.out d I;obtain⟨U,HB⟩:=aj.out d I;have c0:=t.cell 0
  have c1:=t.cell 1;have r0:=n.cell 0
  have r1:=n.cell 1;have f0:=n.frozen 0
  have f1:=n.frozen 1;simp only[joQ,joP,joO]at c0 c1 r0 r1;have R:=joI U
  have aa:=joI HB;clear FN I m t n U HB;go_wp2_with fail;refine bodyPost_ret (JX rfl _ _ (w.heap.size+1) _ rfl R.out rfl) rfl ?_;exact⟨_,a,rfl,.same H0.out rfl aa.out⟩
 | some H =>
 obtain⟨aX,aZ,aW⟩:=jlY hg;rw[jo8]at aZ;generalize Gw (vM (a.map Prod.fst) id)=ki at *
 have T2:Hid ((ki<0/\id=0/\H=0)\/(¬ki<0/\0<H)):=by
  rcases jp3 H with q|q
  ·exact .inl ⟨by omega,aW q,q⟩
  exact .inr ⟨by omega,q⟩
 have aN:=joI aX;have ce : -1<=ki/\ki<=1000000:=⟨by omega,by omega⟩
 clear hg aW aX;by_cases X:qD fs=0
 ·have CK:Hid (∀d,vP d (.slice K fs.length O) fs->Calls prog 173 #[.slice K fs.length O] d fun e w'=>e=.returned (.tuple #[.int .i64 (vz fs),.int .i64 0])/\Below d.heap.size d w'):=fun d h1=>by have:=yN fs _ d h1 (by have:=a7.len;omega) (fun f hf=>by have:=a7.each f hf;omega);rw[X]at this;exact this
  have LN:Hid (∀d,zK d (.slice A a.length z) a->Calls prog 176 #[.agg #[.slice A a.length z,.int .i64 k]] d fun e w'=>e=.returned (.int .i64 (yS (a.map Prod.fst):Nat))/\Below d.heap.size d w'):=fun d h1=>jey a _ k d h1 bg;obtain⟨T,hT⟩:∃T,T=vz fs:=⟨_,rfl⟩
  rw[<- hT]at CK;have cj:yS (a.map Prod.fst)<=1000000:=by have:=jgR (a.map Prod.fst);rw[jo8]at this;omega
  by_cases ah:400<=yS (a.map Prod.fst)
  ·rw[decide_eq_true ah,VK X];dsimp only;clear hT X;generalize yS (a.map Prod.fst)=aH at *
   rcases T2.out with ⟨t1,rfl,t3⟩|⟨t1,t3⟩
   all_goals
    clear T2 t3;go_enter func131,ntmps131;go_wp2_with fail;refine FN.out.mono ?_;rintro e d ⟨rfl,I⟩;obtain⟨t,n,m,a8⟩:=HT.out d I;have P:=joI (CK.out d (HX.out.below m (joJ _)))
    have B1:=joI I;clear FN I m t n;go_wp2_with fail;refine P.out.mono ?_;rintro e w2 ⟨rfl,b2⟩;have B2:=joI (B1.out.trans (b2.mono B1.out.size))
    obtain⟨t,n,m,ay⟩:=HT.out w2 B2.out;have ae:=joI (LN.out w2 (H0.out.below m (joJ _)))
    have c0:w2.cell? ⟨w.heap.size,0,none⟩=some (.slice A a.length z):=t.cell 0;have c1:w2.cell? ⟨w.heap.size,1,none⟩=some (.int .i64 k):=t.cell 1
    clear P b2 m t n;go_wp2_with fail;refine ae.out.mono ?_;rintro e E ⟨rfl,b3⟩;have Z:=B2.out.trans (b3.mono B2.out.size)
    obtain⟨t,n,m,bm⟩:=HT.out E Z;obtain⟨U,HB⟩:=aj.out E Z;have d0:=t.cell 0
    have d1:=t.cell 1;have r0:=n.cell 0
    have r1:=n.cell 1;have f0:=n.frozen 0
    have f1:=n.frozen 1;simp only[joQ,joP,joO]at d0 d1 r0 r1;have R:=joI U
    have aa:=joI HB;have bO:(400:Int)<=(aH:Int):=by omega
    clear ae b3 Z m t n U HB c0 c1;go_wp2_with fail;refine bodyPost_ret (JX rfl _ _ (w.heap.size+1) _ rfl R.out rfl) rfl ?_;exact⟨_,a,rfl,.same H0.out rfl aa.out⟩
  rw[decide_eq_false ah,Xr X];dsimp only;have IT:Hid (∀d,vP d (.slice K fs.length O) fs->Calls prog 175 #[.slice K fs.length O] d fun e w'=>e=.returned (.agg #[.int .i64 3,.string (B (jO fs)),.slice K fs.length O])/\Below d.heap.size d w'):=fun d h1 =>
   YQ fs K _ O d h1 a7.len a7.each
  obtain⟨G,hG⟩:∃G,G=jO fs:=⟨_,rfl⟩
  have HG:=joI hG;rw[<- hG]at IT;obtain⟨q,hq⟩:∃q:Pr,q=((zI fs,k),.slice K fs.length O):=⟨_,rfl⟩
  have HQ:=joI hq;have aK:Hid (zd q=[.int .i64 3,.string (B G),.slice K fs.length O,.int .i64 k]):=by show _=_;rw[hq,hG];rfl
  have bQ:IntKind.i64.wrap (k+1)=k+1:=jph _ (by omega);generalize bP:yS (a.map Prod.fst)=aH at *
  clear hT X hG hq bQ bP;have bO:¬(400:Int)<=(aH:Int):=by omega
  go_enter func131,ntmps131;go_wp2_with fail;refine FN.out.mono ?_;rintro e d ⟨rfl,I⟩;obtain⟨t,n,m,a8⟩:=HT.out d I;have P:=joI (CK.out d (HX.out.below m (joJ _)))
  have B1:=joI I;clear FN I m t n;go_upto_region 2 with fail;go_cut [24] (fun c wx=>c=.bool false/\wx=d)
  case first =>
   rcases T2.out with ⟨t1,rfl,t3⟩|⟨t1,t3⟩
   all_goals
    clear T2 t3;go_wp2_with fail;go_meet;exact⟨rfl,rfl⟩
  case rest =>
  obtain⟨rfl,rfl⟩:=hcut;go_wp2_with fail;refine P.out.mono ?_;rintro e w2 ⟨rfl,b2⟩;have B2:=joI (B1.out.trans (b2.mono B1.out.size))
  obtain⟨t,n,m,ay⟩:=HT.out w2 B2.out;have ae:=joI (LN.out w2 (H0.out.below m (joJ _)))
  have c0:w2.cell? ⟨w.heap.size,0,none⟩=some (.slice A a.length z):=t.cell 0;have c1:w2.cell? ⟨w.heap.size,1,none⟩=some (.int .i64 k):=t.cell 1
  clear P b2 m t n;go_wp2_with fail;refine ae.out.mono ?_;rintro e E ⟨rfl,b3⟩;have Z:=B2.out.trans (b3.mono B2.out.size)
  obtain⟨t,n,ak,bm⟩:=HT.out E Z;have d1:E.cell? ⟨w.heap.size,1,none⟩=some (.int .i64 k):=t.cell 1
  have aA:=joI t;have bA:=joI n
  have bo:=joI ak;have H1:=joI (H0.out.below ak (joJ _))
  have aS:=joI (HX.out.below ak (joJ _));clear ae b3 Z t n ak c0 c1 CK LN aj;go_upto_region 10 with fail;go_cut [14] (fun fv wx=>∃fb:Nat,fv=.pointer (some ⟨fb,0,none⟩)/\E.heap.size<fb/\yI E wx E.heap.size (.slice none 0 0) [] (k+1)/\ja wx fb 112 #[.int .i64 3,.string (B G),.slice K fs.length O,.int .i64 k])
  case first =>
   obtain⟨J,ar⟩:∃J,J=E.alloc (.cells #[.slice none 0 0,.int .i64 (k+1)] 37):=⟨_,rfl⟩
   have A4:=yI.start E (k+1);have D4:ja J w.heap.size 37 #[.slice A a.length z,.int .i64 k]:=by rw[ar];exact aA.out.alloc _
   rw[<- ar]at A4 ⊢;have bR:J.heap.size=E.heap.size+1:=by rw[ar];simp
   clear ar d1;obtain⟨z0,ax⟩:∃z0,z0=Obj.cells #[.int .i64 0,.string ⟨#[]⟩,.slice none 0 0,.int .i64 0] 112:=⟨_,rfl⟩
   have aJ:ja (J.alloc z0) J.heap.size 112 #[.int .i64 0,.string ⟨#[]⟩,.slice none 0 0,.int .i64 0]:=by rw[ax];exact ja.new _ _ _
   have bE:=joI (aS.out.below (A4.below.drew) (joJ _));have bF:=joI (aS.out.below ((A4.alloc z0).below.drew) (joJ _))
   have AA:=joI A4.drew;have AZ:=joI (A4.alloc z0).drew
   have bY:=A4.head.lt;have aw:w.heap.size<J.heap.size:=D4.lt
   have bB:=joI D4;have aL:=joI D4.drew
   have bC:=joI (D4.alloc z0).drew;have bG:=joI aJ.drew
   have a8:Hid ((J.alloc z0).heap.size=J.heap.size+1):=by show _=_;simp
   have d1:J.cell? ⟨w.heap.size,1,none⟩=some (.int .i64 k):=D4.cell 1;have bZ:∀o,(J.alloc o).cell? ⟨w.heap.size,1,none⟩=some (.int .i64 k):=fun o=>(bB.out.alloc o).cell 1
   have bj:E.heap.size<J.heap.size:=by omega
   clear A4 D4 aJ bR;subst ax;go_region_law (go_simp;go_at_call 175;first
    | (refine(IT.out _ bE.out).mono ?_;rintro e w5 ⟨rfl,b5⟩;have co:J.heap.size<=w5.heap.size:=b5.size;have A5:=joI (AA.out.kept b5);have e1:w5.cell? ⟨w.heap.size,1,none⟩=some (.int .i64 k):=(jb aL.out b5 aw).cell 1;have c7:∀o,(w5.alloc o).cell? ⟨w.heap.size,1,none⟩=some (.int .i64 k):=fun o=>((jb aL.out b5 aw).alloc o).cell 1)
    | (refine(IT.out _ bF.out).mono ?_;rintro e w5 ⟨rfl,b5⟩;have A5:=joI (AZ.out.kept b5);have e1:w5.cell? ⟨w.heap.size,1,none⟩=some (.int .i64 k):=(jb bC.out b5 (by show _<(J.alloc _).heap.size;rw[a8.out];omega)).cell 1;have BX:=joI (jb bG.out b5 (by show _<(J.alloc _).heap.size;rw[a8.out];omega));have t0:=BX.out.cell 0;have t1:=BX.out.cell 1;have t2:=BX.out.cell 2;have t3:=BX.out.cell 3;simp only[joQ,joP,joO]at t0 t1 t2 t3;have f0:=BX.out.frozen 0;have f1:=BX.out.frozen 1;have f2:=BX.out.frozen 2;have f3:=BX.out.frozen 3))
   all_goals (try go_wp2_with fail)
   all_goals first
    | (go_meet;exact⟨w5.heap.size,rfl,by omega,A5.out.alloc _,ja.new _ _ _⟩)
    | (go_meet;refine⟨J.heap.size,rfl,bj,(((A5.out.other (b:=J.heap.size) 0 _ (by omega) (by omega) (fun r e=>by cases e)).other (b:=J.heap.size) 1 _ (by omega) (by omega) (fun r e=>by cases e)).other (b:=J.heap.size) 2 _ (by omega) (by omega) (fun r e=>by cases e)).other (b:=J.heap.size) 3 _ (by omega) (by omega) (fun r e=>by cases e),?_⟩;have:=(((BX.out.set 0 (.int .i64 3)).set 1 (.string (B G))).set 2 (.slice K fs.length O)).set 3 (.int .i64 k);rw[jol]at this;exact this)
  case rest =>
  obtain⟨fb,rfl,bN,l,aU⟩:=hcut;have y:=joI (show jfK E wc E.heap.size fb #[.int .i64 3,.string (B G),.slice K fs.length O,.int .i64 k] (.slice none 0 0) [] (k+1) from⟨l,aU,(fun r e=>by cases e),Nat.ne_of_gt bN⟩)
  clear l aU d1;go_upto_if 50 with fail;go_cut [] (fun wx=>∃u,jfK E wx E.heap.size fb #[.int .i64 3,.string (B G),.slice K fs.length O,.int .i64 k] u (YS a H q 0) (k+1))
  case first =>
   rcases T2.out with ⟨t1,-,t3⟩|⟨t1,t3⟩
   ·have Y:wc.ownsRow E.heap.size 112 4 (.slice none 0 0) 0 []:=y.out.acc.row;have f0:=y.out.fr.cell 0
    have f1:=y.out.fr.cell 1;have f2:=y.out.fr.cell 2
    have f3:=y.out.fr.cell 3;simp only[joQ,joP,joO]at f0 f1 f2 f3;have k0:wc.cell? ⟨E.heap.size,0,none⟩=some (.slice none 0 0):=y.out.acc.head.cell 0
    have c8:=y.out.acc.below.size;have AL:=joI (y.out.alloc (.cells #[.int .i64 3,.string (B G),.slice K fs.length O,.int .i64 k] 112))
    have HV:=joI (jp wc 112 [.int .i64 3,.string (B G),.slice K fs.length O,.int .i64 k]);have PZ:Hid (YS a H q 0=[q]):=by show _=_;rw[t3];exact jgm a q
    clear T2 t3;go_wp2_with (at_builtin;refine jz rfl _ _ 35 rfl E.heap.size 112 i0 _ 4 56 underlying35 hi aE aF aG rfl (by decide) _ _ _ rfl (Y.alloc _) ⟨wc.heap.size,0,none⟩ 1 1 _ rfl rfl HV.out (by intro u hu;simp at hu;rcases hu with rfl | rfl | rfl | rfl<;>rfl) (by unfold maxLen;omega) (by omega) (by first | omega | (simp only[joZ];omega) | (simp[World.setCell];omega)) ?_);intro v' w6 D C Q;have h6:=(AL.out.acc.grown_head C)
    have af:=joI (AL.out.grow (p:=q) (by rw[aK.out];exact D) C (by rw[joZ];exact Q.out));have k6:w6.cell? ⟨E.heap.size,0,none⟩=some (.slice none 0 0):=h6.cell 0
    have bW:=h6.frozen 0;obtain⟨g',aT,rfl⟩:=ownsRow_succ D;clear D C h6 Q;go_wp2_with fail;go_meet;exact⟨_,by rw[PZ.out];exact af.out⟩
   have PZ:Hid (YS a H q 0=[]):=jeE a H q t3;clear T2 t3;go_wp2_with fail;go_meet;exact⟨_,by rw[PZ.out];exact y.out⟩
  case rest =>
  obtain⟨u0,ag⟩:=hcut;have aI:=joI ag
  clear ag y;go_wp2_with fail;go_loopw [15] (fun i wr=>∃(j:Nat) (u:Value),j<=a.length/\i=.int .i64 j/\jfK E wr E.heap.size fb #[.int .i64 3,.string (B G),.slice K fs.length O,.int .i64 k] u (YS a H q j) (k+1)) (fun i _=>a.length-(intOf i).toNat)
  case atStart=>exact⟨0,u0,joT _,rfl,aI.out⟩
  case round =>
  obtain⟨j,u,hj,rfl,l⟩:=hrel;have X:=l.acc.below
  have e0:wr.cell? ⟨w.heap.size,0,none⟩=some (.slice A a.length z):=(jb aA.out X (by omega)).cell 0;obtain⟨ua,uc,rfl,_⟩:=je l.acc.row;by_cases aD:j<a.length
  ·obtain⟨p,hp⟩:∃p,a[j]?=some p:=⟨_,joM aD⟩
   have cd:=jiR a H q j;obtain⟨g,V,pa,pc,e1,_,hg,e2,d0,d1,d2,d3⟩:=(H1.out.below X (joJ _)).here hp;cases e1;rw[e2]at d2;have PA:=joI (fun(h:j+1=H)=>show YS a H q (j+1)=(YS a H q j++[p])++[q] from h▸jll a j p q hp)
   have PO:=joI (fun(h:j+1≠H)=>jlk a H j p q hp h);have g0:wr.cell? ⟨E.heap.size,0,none⟩=some (.slice ua (YS a H q j).length uc):=l.acc.head.cell 0
   have g1:∀o,(wr.alloc o).cell? ⟨E.heap.size,0,none⟩=some (.slice ua (YS a H q j).length uc):=fun o=>(l.acc.head.alloc o).cell 0;have y:=joI l
   have HO:=joI (jA l.acc.row (joT _));have aR:=joI l.acc.ne
   have aM:=joI l.acc.head;have E2:=joI e2
   generalize bM:YS a H q j=cq at *
   clear l hp X bM e2;go_wp2_with fail;go_region_law (refine zb rfl (.tmp 65) (.tmp 71) 35 rfl 112 i0 _ 4 56 underlying35 hi aE aF aG rfl (by decide) (.slice ua cq.length uc) cq.length (jl cq) (by simp[Act.eval]) (by exact(HO.out.alloc _).drew) ⟨wr.heap.size,0,none⟩ 1 1 [.int .i64 p.1.1.kind,.string (B p.1.1.raw),.slice pa p.1.1.fields.length pc,.int .i64 p.1.2] (by simp[Act.eval]) rfl (jp wr 112 [.int .i64 p.1.1.kind,.string (B p.1.1.raw),.slice pa p.1.1.fields.length pc,.int .i64 p.1.2]) (by intro u hu;simp at hu;rcases hu with rfl | rfl | rfl | rfl<;>rfl) (by unfold maxLen;omega) (by omega) ?_;intro v' w' ho aV Q;obtain⟨⟨g',V,rfl⟩,am,bL,aY,be⟩:=xN aM.out HO.out aR.out (((joL _ wr).alloc (joJ _) _).drew) ho aV Q;have k0:w'.cell? ⟨E.heap.size,0,none⟩=some (.slice ua cq.length uc):=am.cell 0;have bU:=am.frozen 0)
   all_goals
    have au:=y.out.snoc (p:=p) (by unfold zd;rw[E2.out];exact ho) am aY be;have s:=joI au
    clear au y HO aR aM ho am aY be bL aV Q g0 g1 e0 d0 d1 d2 d3;by_cases aq:j+1=H
    ·have hq:((j:Int)==ki)=true:=by have:=aN.out;exact beq_iff_eq.2 (by omega)
     have bH:=joI (PA.out aq);clear aq PO PA;obtain⟨wv,bi⟩:∃wv,wv=w'.setCell ⟨E.heap.size,0,none⟩ (.slice (some ⟨g',0,none⟩) (cq.length+1) V):=⟨_,rfl⟩
     rw[<- bi]at s ⊢;clear bi k0 bU;have ai:(cq++[p]).length=cq.length+1:=by simp
     have aO:=joI ai;have Y:=s.out.acc.row
     rw[ai]at Y;have f0:=s.out.fr.cell 0
     have f1:=s.out.fr.cell 1;have f2:=s.out.fr.cell 2
     have f3:=s.out.fr.cell 3;simp only[joQ,joP,joO]at f0 f1 f2 f3;have k0:wv.cell? ⟨E.heap.size,0,none⟩=some (.slice (some ⟨g',0,none⟩) (cq.length+1) V):=s.out.acc.head.cell 0
     have cm:=s.out.acc.head.lt;have AL:=joI (s.out.alloc (.cells #[.int .i64 3,.string (B G),.slice K fs.length O,.int .i64 k] 112))
     have HV:=joI (jp wv 112 [.int .i64 3,.string (B G),.slice K fs.length O,.int .i64 k]);clear ai s;go_wp2_with (at_builtin;refine jz rfl _ _ 35 rfl E.heap.size 112 i0 _ 4 56 underlying35 hi aE aF aG rfl (by decide) _ _ _ rfl (Y.alloc _) ⟨wv.heap.size,0,none⟩ 1 1 _ rfl rfl HV.out (by intro u hu;simp at hu;rcases hu with rfl | rfl | rfl | rfl<;>rfl) (by unfold maxLen;omega) (by omega) (by first | omega | (simp only[joZ];omega) | (simp[World.setCell];omega)) ?_);intro v' w6 D C Q;have h6:=(AL.out.acc.grown_head C)
     have af:=joI (AL.out.grow (p:=q) (by rw[aK.out,aO.out];exact D) C (by rw[joZ];exact Q.out));have k6:w6.cell? ⟨E.heap.size,0,none⟩=some (.slice (some ⟨g',0,none⟩) (cq.length+1) V):=h6.cell 0
     have bW:=h6.frozen 0;obtain⟨g6,aT,rfl⟩:=ownsRow_succ D;clear D C h6 Q;go_wp2_with fail;go_roundw
     case rel=>exact⟨j+1,_,aD,by go_num,by rw[bH.out];exact af.out⟩
     case measure=>simp[intOf];omega
    have hq:((j:Int)==ki)=false:=by have:=aN.out;exact beq_eq_false_iff_ne.2 (by omega)
    have bI:=joI (PO.out aq);clear aq PO PA;go_wp2_with fail;go_roundw
    case rel=>exact⟨j+1,_,aD,by go_num,by rw[bI.out];exact s.out⟩
    case measure=>simp[intOf];omega
  obtain rfl:j=a.length:=by omega
  have aP:Hid ((a.take H++q::a.drop H).map Prod.fst=jbO (a.map Prod.fst) H (zI fs,k)):=by show _=_;rw[HQ.out];exact jdn a H _ _
  have aQ:Hid (∀p∈a.take H++q::a.drop H,p∈a\/(p.2=.slice K fs.length O/\p.1.1.fields=fs)):=fun p hp=>by
   rcases List.mem_append.1 hp with h|h
   ·exact .inl (jpM h)
   rcases List.mem_cons.1 h with h|h
   ·right;rw[h,HQ.out];exact⟨rfl,rfl⟩
   exact .inl (jpz h)
  rw[jiS a H q aZ]at *
  generalize a.take H++q::a.drop H=L at *
  have n:=jb bA.out X (by omega);have t:=jb aA.out X (by omega)
  have G1:wr.cell? ⟨E.heap.size,1,none⟩=some (.int .i64 (k+1)):=l.acc.head.cell 1;have G0:wr.cell? ⟨E.heap.size,0,none⟩=some (.slice ua L.length uc):=l.acc.head.cell 0
  have N1:wr.cell? ⟨w.heap.size,1,none⟩=some (.int .i64 k):=t.cell 1;have r0:=n.cell 0
  have r1:=n.cell 1;have f0:=n.frozen 0
  have f1:=n.frozen 1;simp only[joQ,joP,joO]at r0 r1;have U:=(n.drew.set 0 (.slice ua L.length uc)).set 1 (.int .i64 (k+1))
  rw[Qs]at U;have R:=joI U
  have y:=joI l.acc.drew;clear l X n t U;go_wp2_with fail;go_region_law (skip)
  all_goals go_wp2_with fail
  all_goals
   refine bodyPost_ret (JX rfl _ _ (w.heap.size+1) _ rfl R.out rfl) rfl ?_;refine⟨_,L,rfl,?_⟩;exact y.out.end_ bo.out H0.out HX.out aP.out aQ.out (jqf _) (by omega) 0 1 _ _
 rw[Wt X];dsimp only;have bK:(((qD fs:Nat):Int) != 0)=true:=bne_iff_ne.2 (by omega)
 have bJ:qD fs<=11:=Vf fs;obtain⟨N,hN⟩:∃N,N=qD fs:=⟨_,rfl⟩
 obtain⟨T,hT⟩:∃T,T=vz fs:=⟨_,rfl⟩
 have CK:Hid (∀d,vP d (.slice K fs.length O) fs->Calls prog 173 #[.slice K fs.length O] d fun e w'=>e=.returned (.tuple #[.int .i64 T,.int .i64 (N:Nat)])/\Below d.heap.size d w'):=fun d h1=>by rw[hN,hT];exact yN fs _ d h1 (by have:=a7.len;omega) (fun f hf=>by have:=a7.each f hf;omega)
 rw[<- hN]at bK bJ ⊢;rw[<- hT];clear X hN hT;rcases T2.out with ⟨t1,rfl,t3⟩|⟨t1,t3⟩
 all_goals
  clear T2 t3;go_enter func131,ntmps131;go_wp2_with fail;refine FN.out.mono ?_;rintro e d ⟨rfl,I⟩;obtain⟨t,n,m,a8⟩:=HT.out d I;have P:=joI (CK.out d (HX.out.below m (joJ _)))
  have B1:=joI I;clear FN I m t n;go_wp2_with fail;refine P.out.mono ?_;rintro e w2 ⟨rfl,b2⟩;have aB:=B1.out.trans (b2.mono B1.out.size)
  obtain⟨t,n,m,ay⟩:=HT.out w2 aB;obtain⟨U,HB⟩:=aj.out w2 aB;have c0:=t.cell 0
  have c1:=t.cell 1;have r0:=n.cell 0
  have r1:=n.cell 1;have f0:=n.frozen 0
  have f1:=n.frozen 1;simp only[joQ,joP,joO]at c0 c1 r0 r1;have R:=joI U
  have aa:=joI HB;clear P b2 aB m t n U HB;go_wp2_with fail;refine bodyPost_ret (JX rfl _ _ (w.heap.size+1) _ rfl R.out rfl) rfl ?_;exact⟨_,a,rfl,.same H0.out rfl aa.out⟩
end
def Ky(lb:Nat)(ev:Value)(ps:List Pr)(v:Value)(qs:List Pr)(r:Nat):Prop :=
 r=lb\/ev.ownBlock=some r\/v.ownBlock=some r\/(∃p∈ps,p.1.1.fields≠[]/\p.2.ownBlock=some r)\/(∃p∈qs,p.1.1.fields≠[]/\p.2.ownBlock=some r)
structure StR(w:World)(lb:Nat)(ev:Value)(ps:List Pr)(nx:Int)(v:Value)(qs:List Pr):Prop where
 la:LA w lb ev ps nx
 q:zK w v qs
 va:∀b,v.ownBlock=some b->b≠lb/\ev.ownBlock≠some b
 qa:∀p∈qs,p.1.1.fields≠[]->∀b,p.2.ownBlock=some b->b≠lb/\ev.ownBlock≠some b
theorem zK.only{w w':World}{v:Value}{c:List Pr}{S:Nat->Prop}(h:zK w v c)(g:jH S w w')(e:∀b,v.ownBlock=some b->¬S b)(f:∀p∈c,p.1.1.fields≠[]->∀b,p.2.ownBlock=some b->¬S b):zK w' v c :=
 ⟨jG h.row g e,fun p d=>(h.each p d).only g (fun a b i=>f p d a b i)⟩
theorem StR.lt{w:World}{lb:Nat}{e:Value}{f:List Pr}{i:Int}{v:Value}{g:List Pr}(h:StR w lb e f i v g){r:Nat}(b:Ky lb e f v g r):r<w.heap.size:=by
 rcases b with rfl|b|b|⟨p,d,a,c⟩|⟨p,d,a,c⟩
 ·exact h.la.lr.head.lt
 ·exact(h.la.lr.ents.row.lt r b).2
 ·exact(h.q.row.lt r b).2
 ·exact(h.la.lr.ents.each p d).1.lt a r c
 exact(h.q.each p d).lt a r c
theorem StR.only{w w':World}{lb:Nat}{f:Value}{i:List Pr}{k:Int}{v:Value}{j:List Pr}{S:Nat->Prop}(h:StR w lb f i k v j)(g:jH S w w')(d:∀r,Ky lb f i v j r->¬S r):StR w' lb f i k v j:=by refine⟨⟨⟨h.la.lr.head.only g (d lb (.inl rfl)),⟨jG h.la.lr.ents.row g (fun b a=>d b (.inr (.inl a))),fun p e=>(h.la.lr.ents.each p e).only g (fun c b a=>d b (.inr (.inr (.inr (.inl ⟨p,e,c,a⟩)))))⟩⟩,h.la.apart⟩,?_,h.va,h.qa⟩;exact h.q.only g (fun b a=>d b (.inr (.inr (.inl a)))) (fun p e c b a=>d b (.inr (.inr (.inr (.inr ⟨p,e,c,a⟩)))))
section
attribute [local go_sem] joY
theorem jc9{a:List Pr}(h:WF (a.map Prod.fst)):(JW 0 a).length=yS (a.map Prod.fst):=by rw[<- jjc h];unfold jnH jbX JW;rw[<- Yi (κ:=fun e:En=>e.1.kind) Prod.fst,jo8]
theorem jcz{a:List Pr}(h:WF (a.map Prod.fst))(id:Int):xV a id=vM (a.map Prod.fst) id:=by rw[jl4,jhp h]
theorem jnh{a:List Pr}(h:WF (a.map Prod.fst))(id:Int):jip a id=jha (a.map Prod.fst) id:=by unfold jip jha;rw[jcz h]
theorem jni{a:List Pr}(h:WF (a.map Prod.fst))(b:yS (a.map Prod.fst)<=400):decide ((JW 0 a).length=400)=decide (400<=yS (a.map Prod.fst)):=by rw[jc9 h];exact decide_eq_decide.2 ⟨fun e=>by omega,fun e=>by omega⟩
end
structure Tab(a0:Act)(n:Nat)(dst:Nat->Option Nat)(val:Nat->Value)(s:Nat)(W:Bool->World)(l:Array Bool)(a:Act)(w:World):Prop where
 dfr:a.defers=a0.defers
 sz:a.tmps.size=a0.tmps.size
 frm:∀j,(∀k,k<n->dst k≠some j)->a.tmps[j]?=a0.tmps[j]?
 val:∀i d,l.getD i false=true->dst i=some d->a.tmps[d]?=some (val i)
 wd:w=W (l.getD s false)
theorem Ys(l:Array Bool)(i:Nat)(a:i<l.size)(j:Nat):(l.setIfInBounds i true).getD j false=if j=i then true else l.getD j false:=by
 rw[jpj,jpj,jps];by_cases h:i=j
 ·subst h;simp[a]
 rw[if_neg h,if_neg (jqr h)]
theorem jeJ{l:Array Bool}{i:Nat}(h:l.getD i true=false):i<l.size:=by
 rcases jpc i l.size with q|q
 ·exact q
 simp[Array.getD,Nat.not_lt.2 q]at h
theorem jd6{ops:Array Oper}{l:Array Bool}(n:l.size=ops.size)(a:∀i o e,ops[i]?=some o->e∈o.after->Region.binds .any e=true->e.on<i)(k:Region.ready .any ops l=[]):∀i,i<ops.size->l.getD i false=true:=by
 intro i
 induction i using Nat.strongRecOn with
 | _ i m =>
 intro d;cases hl:l.getD i false with
 | true=>rfl
 | false =>
 exfalso;have f:ops[i]?=some ops[i]:=jpu d
 have:i∈Region.ready .any ops l:=by
  unfold Region.ready;rw[List.mem_filter];refine⟨List.mem_range.2 d,?_⟩;have c:l.getD i true=false:=by
   have b:i<l.size:=by omega
   simp[Array.getD,b]at hl ⊢;exact hl
  simp only[f,jq7,Option.getD_some,jpk,jre];refine⟨c,Array.all_eq_true_iff_forall_mem.2 fun e j => ?_⟩;cases h:Region.binds .any e with
  | false=>simp
  | true =>
  have g:=a i _ e f j h;simp[m e.on g (by omega)]
 rw[k]at this;cases this
section
attribute [local go_sem] joY
section
variable {o:Oper} {a:Act} {w:World} {K:Act->World->Prop} {Q:Exit->Act->World->Prop}
end
end
section
open Go.Maps Go.ChangeShapes Go.Joins Go.WideShapes
attribute [local go_sem] joY
structure Ed where
 kind:Int
 id:Int
 fields:List Fld
end
def nums(es:List En):List Int:=(es.map Prod.snd).filter fun n=>decide (0<n)
theorem Xe(a b:List En):nums (a++b)=nums a++nums b:=by unfold nums;rw[jpt,jqS]
theorem xu(es:List En):(nums es).length=yS es:=by unfold nums yS;rw[List.filter_map,jo8];rfl
theorem jiE(es:List En)(k:Nat)(it:It):(Uh es k it).map Prod.snd=es.map Prod.snd:=by
 unfold Uh;apply jqI;intro j;rw[jpx,jq1,jpx];cases es[j]? with
 | none=>rfl
 | some e =>
 by_cases h:k=j
 ·simp[h]
 simp[h]
structure OkL(l:LS):Prop where
 wf:WF l.es
 pos:0<l.next
 lt:∀n∈nums l.es,n<l.next
 nd:(nums l.es).Nodup
 len:yS l.es<=400
theorem OkL.replace{l:LS}(h:OkL l){k:Nat}{e:En}(c:l.es[k]?=some e)(b:e.1.kind=3)(fs:List Fld):OkL ⟨Uh l.es k (zI fs),l.next⟩:=by
 have a:nums (Uh l.es k (zI fs))=nums l.es:=by unfold nums;rw[jiE]
 refine⟨h.wf.set k (zI fs) rfl e c b,h.pos,?_,?_,?_⟩
 ·show ∀n∈nums (Uh l.es k (zI fs)),n<l.next;rw[a];exact h.lt
 ·show(nums (Uh l.es k (zI fs))).Nodup;rw[a];exact h.nd
 show yS (Uh l.es k (zI fs))<=400;rw[<- xu,a,xu];exact h.len
theorem jmg(es:List En)(k:Nat):(nums (jcI es k)).Sublist (nums es):=by
 unfold nums jcI;refine List.Sublist.filter _ (List.Sublist.map _ ?_)
 conv=>rhs;rw[<- jpb k es]
 exact(List.Sublist.refl _).append (by rw[<- jp7];exact List.drop_sublist _ _)
theorem OkL.delete{l:LS}(h:OkL l)(k:Nat):OkL ⟨jcI l.es k,l.next⟩:=by
 have a:=jmg l.es k;refine⟨h.wf.cut k,h.pos,fun n b=>h.lt n (a.subset b),a.nodup h.nd,?_⟩;show yS (jcI l.es k)<=400
 have:=a.length_le;rw[xu,xu]at this;have:=h.len
 omega
theorem jiP(es:List En)(k:Nat)(it:It){n:Int}(c:0<n):(nums (jbO es k (it,n))).Perm (n::nums es):=by
 have a:nums (jbO es k (it,n))=nums (es.take k)++n::nums (es.drop k):=by unfold jbO;rw[Xe];congr 1;unfold nums;rw[jpr,jp4,if_pos (by simpa using c)]
 have b:nums es=nums (es.take k)++nums (es.drop k):=by rw[<- Xe,jpb]
 rw[a,b];exact List.perm_middle
theorem OkL.insert{l:LS}(h:OkL l)(k:Nat)(fs:List Fld)(d:¬400<=yS l.es):OkL ⟨jbO l.es k (zI fs,l.next),l.next+1⟩:=by
 have a:=jiP l.es k (zI fs) h.pos;have b:=h.pos
 refine⟨h.wf.put k ⟨rfl,h.pos⟩,by show 0<l.next+1;omega,fun n c => ?_,a.nodup_iff.2 (List.nodup_cons.2 ⟨fun q => ?_,h.nd⟩),?_⟩
 ·show n<l.next+1;rcases List.mem_cons.1 (a.subset c) with q|q
  ·omega
  have:=h.lt n q;omega
 ·have:=h.lt _ q;omega
 show yS (jbO l.es k (zI fs,l.next))<=400;have:=a.length_eq
 rw[xu,joR,xu]at this;omega
theorem jhq{es:List En}(h:WF es){id:Int}{k:Nat}(c:vM es id=some k):∃e,es[k]?=some e/\e.1.kind=3/\e.2=id:=by
 obtain⟨_,e,a,b,d⟩:=Yu c;rcases h e (joW a) with ⟨q,_⟩|⟨_,q⟩
 ·exact⟨e,a,q,b⟩
 omega
theorem OkL.edit{l:LS}(h:OkL l)(kind id:Int)(fs:List Fld):OkL (xe l kind id fs).ls:=by
 unfold xe;split
 ·unfold zy;split
  ·exact h
  rename_i k d;obtain⟨e,b,a,_⟩:=jhq h.wf d;split
  ·exact h.replace b a fs
  exact h
 split
 ·unfold qr;split
  ·exact h
  exact h.delete _
 unfold zo;split
 ·exact h
 split
 ·split
  ·exact h
  rename_i c;exact h.insert _ fs c
 exact h
theorem jdR(l:LS)(kind id:Int)(fs:List Fld):(xe l kind id fs).ls.es.length<=l.es.length+1/\l.next<=(xe l kind id fs).ls.next/\(xe l kind id fs).ls.next<=l.next+1:=by
 unfold xe;split
 ·unfold zy;split
  ·exact⟨jqf _,jqm _,by show l.next<=l.next+1;omega⟩
  split
  ·exact⟨by show(Uh _ _ _).length<=_;rw[jiF];omega,jqm _,by show l.next<=l.next+1;omega⟩
  exact⟨jqf _,jqm _,by show l.next<=l.next+1;omega⟩
 split
 ·unfold qr;split
  ·exact⟨jqf _,jqm _,by show l.next<=l.next+1;omega⟩
  exact⟨by show(jcI _ _).length<=_;unfold jcI;rw[joK,joS,joX];omega,jqm _,by show l.next<=l.next+1;omega⟩
 unfold zo;split
 ·exact⟨jqf _,jqm _,by show l.next<=l.next+1;omega⟩
 split
 ·split
  ·exact⟨jqf _,jqm _,by show l.next<=l.next+1;omega⟩
  exact⟨by show(jbO _ _ _).length<=_;unfold jbO;rw[joK,joR,joS,joX];omega,by show l.next<=l.next+1;omega,jqm _⟩
 exact⟨jqf _,jqm _,by show l.next<=l.next+1;omega⟩
theorem jg0(l:LS)(id:Int)(fs:List Fld):((zo l id fs).bad=0/\(zo l id fs).id=l.next/\(zo l id fs).ls.next=l.next+1)\/((zo l id fs).bad≠0/\(zo l id fs).id=0/\(zo l id fs).ls=l):=by
 unfold zo;split
 ·exact .inr ⟨by show(7:Nat)≠0;decide,rfl,rfl⟩
 split
 ·split
  ·exact .inr ⟨by show(11:Nat)≠0;decide,rfl,rfl⟩
  exact .inl ⟨rfl,rfl,rfl⟩
 rename_i a;exact .inr ⟨a,rfl,rfl⟩
def zG(ed:Ed):Nat:=if ed.kind=1\/ed.kind=3 then qD ed.fields else if ed.kind=2/\ed.fields.length=0 then 0 else 2
theorem jjw(ed:Ed):zG ed<=11:=by
 unfold zG;split
 ·exact Vf _
 split<;>decide
def yG:Nat->List Ed->Int×Nat
 | _,[]=>(-9,0)
 | k,ed::r=>if zG ed=0 then yG (k+1) r else ((k:Nat),zG ed)
def qw(eds:List Ed):Int×Nat:=if eds.length<1\/40<eds.length then (-9,1) else yG 0 eds
theorem GY:∀(c:List Ed) (q k:Nat) (b:Ed),(∀x∈c.take k,zG x=0)->c[k]?=some b->zG b≠0->yG q c=(((q+k:Nat):Int),zG b)
 | [],q,k,b,_,h,_=>by simp at h
 | a::r,q,0,b,_,h,d=>by simp at h;subst h;unfold yG;rw[if_neg d];rfl
 | a::r,q,k+1,b,e,h,d=>by have f:=GY r (q+1) k b (fun x hx=>e x (by rw[jqP];exact joU _ hx)) (by simpa using h) d;unfold yG;rw[if_pos (e a (by rw[jqP];exact joV)),f,show q+1+k=q+(k+1) by omega]
theorem Qg:∀(b:List Ed) (q:Nat),(∀x∈b,zG x=0)->yG q b=(-9,0)
 | [],_,_=>rfl
 | a::r,q,h=>by unfold yG;rw[if_pos (h a joV)];exact Qg r (q+1) (fun x hx=>h x (joU _ hx))
theorem WU:∀(b:List Ed) (q:Nat),(yG q b).2=0->∀x∈b,zG x=0
 | [],_,_,x,hx=>by cases hx
 | a::r,q,h,x,hx=>by
  unfold yG at h;split at h
  ·rename_i c;rcases List.mem_cons.1 hx with rfl|hx
   ·exact c
   exact WU r (q+1) h x hx
  rename_i c;exact absurd h c
theorem vm{eds:List Ed}(h:(qw eds).2=0):(1<=eds.length/\eds.length<=40)/\∀x∈eds,zG x=0:=by
 unfold qw at h;split at h
 ·cases h
 exact⟨by omega,WU eds 0 h⟩
theorem jmk{eds:List Ed}(a:1<=eds.length)(b:eds.length<=40)(h:∀x∈eds,zG x=0):qw eds=(-9,0):=by unfold qw;rw[if_neg (by omega)];exact Qg eds 0 h
theorem jbw{eds:List Ed}(h:(qw eds).2=0):qw eds=(-9,0):=by obtain⟨⟨a,b⟩,c⟩:=vm h;exact jmk a b c
theorem yV{ed:Ed}(h:zG ed=0):ed.kind=1\/ed.kind=2\/ed.kind=3:=by
 unfold zG at h;split at h
 ·rename_i q;omega
 split at h
 ·rename_i q;exact .inr (.inl q.1)
 cases h
def jM(l:LS)(ed:Ed):Did:=xe l ed.kind ed.id ed.fields
def zH:LS->List Ed->LS
 | l,[]=>l
 | l,ed::r=>zH (jM l ed).ls r
def Wc:LS->List Ed->Prop
 | _,[]=>True
 | l,ed::r=>(jM l ed).bad=0/\Wc (jM l ed).ls r
def zc:LS->List Ed->List Int
 | _,[]=>[]
 | l,ed::r=>(if ed.kind=3 then [(jM l ed).id] else [])++zc (jM l ed).ls r
def jhK:Nat->LS->List Ed->Int×Nat
 | _,_,[]=>(-9,0)
 | k,l,ed::r=>if (jM l ed).bad=0 then jhK (k+1) (jM l ed).ls r else ((k:Nat),(jM l ed).bad)
def doB(l:LS)(eds:List Ed):Int×Nat:=if (qw eds).2=0 then jhK 0 l eds else qw eds
theorem Xi:∀(l:LS) (a b:List Ed),zH l (a++b)=zH (zH l a) b
 | _,[],_=>rfl
 | l,c::r,b=>Xi (jM l c).ls r b
theorem Xc:∀(l:LS) (a b:List Ed),Wc l (a++b)↔Wc l a/\Wc (zH l a) b
 | _,[],_=>by simp[Wc,zH]
 | l,c::r,b=>by show((jM l c).bad=0/\Wc (jM l c).ls (r++b))↔((jM l c).bad=0/\Wc (jM l c).ls r)/\Wc (zH (jM l c).ls r) b;rw[Xc,and_assoc]
theorem VL:∀(l:LS) (a b:List Ed),zc l (a++b)=zc l a++zc (zH l a) b
 | _,[],_=>rfl
 | l,c::r,b=>by show _++zc (jM l c).ls (r++b)=(_++zc (jM l c).ls r)++zc (zH (jM l c).ls r) b;rw[VL,jo0]
theorem ZA:∀(q:Nat) (l:LS) (a b:List Ed),Wc l a->jhK q l (a++b)=jhK (q+a.length) (zH l a) b
 | q,l,[],b,_=>rfl
 | q,l,c::r,b,h=>by
  have d:=ZA (q+1) (jM l c).ls r b h.2;show(if (jM l c).bad=0 then jhK (q+1) (jM l c).ls (r++b) else _)=jhK (q+(r.length+1)) (zH (jM l c).ls r) b
  rw[if_pos h.1,d,show q+1+r.length=q+(r.length+1) by omega]
theorem jhI:∀(q:Nat) (l:LS) (a:List Ed),Wc l a->jhK q l a=(-9,0):=fun q l a h=>by have:=ZA q l a [] h;rw[jo9]at this;rw[this];rfl
theorem take_snoc{eds:List Ed}{k:Nat}{ed:Ed}(h:eds[k]?=some ed):eds.take (k+1)=eds.take k++[ed]:=by rw[jpd,h];rfl
theorem jiz{eds:List Ed}{k:Nat}{ed:Ed}(h:eds[k]?=some ed):eds=eds.take k++ed::eds.drop (k+1):=by
 obtain⟨a,e⟩:=List.getElem?_eq_some_iff.1 h
 conv=>lhs;rw[<- jpb k eds]
 rw[<- e];congr 1;exact jpp a
theorem jc3{eds:List Ed}{k:Nat}{ed:Ed}(h:eds[k]?=some ed):(eds.take k).length=k:=by have:=(List.getElem?_eq_some_iff.1 h).1;rw[joS];omega
theorem jaU{l:LS}{eds:List Ed}{k:Nat}{ed:Ed}(h:eds[k]?=some ed):zH l (eds.take (k+1))=(jM (zH l (eds.take k)) ed).ls:=by rw[take_snoc h,Xi];rfl
theorem jaR{l:LS}{eds:List Ed}{k:Nat}{ed:Ed}(h:eds[k]?=some ed)(b:Wc l (eds.take k))(a:(jM (zH l (eds.take k)) ed).bad=0):Wc l (eds.take (k+1)):=by rw[take_snoc h,Xc];exact⟨b,a,trivial⟩
theorem Wu{l:LS}{eds:List Ed}{k:Nat}{ed:Ed}(h:eds[k]?=some ed):zc l (eds.take (k+1))=zc l (eds.take k)++(if ed.kind=3 then [(jM (zH l (eds.take k)) ed).id] else []):=by
 rw[take_snoc h,VL];show _++((if ed.kind=3 then _ else _)++[])=_
 rw[jo9]
theorem jhJ{l:LS}{eds:List Ed}{k:Nat}{ed:Ed}(h:eds[k]?=some ed)(b:Wc l (eds.take k))(a:(jM (zH l (eds.take k)) ed).bad≠0):jhK 0 l eds=(((k:Nat):Int),(jM (zH l (eds.take k)) ed).bad):=by
 have e:=jiz h;have:jhK 0 l (eds.take k++ed::eds.drop (k+1))=(((k:Nat):Int),(jM (zH l (eds.take k)) ed).bad):=by
  rw[ZA 0 l _ _ b,jc3 h];show(if _ then _ else _)=_
  rw[if_neg a,jpl]
 rw[<- e]at this;exact this
theorem ja8(l:LS):∀(a:List Ed),(zc l a).length<=a.length:=by
 intro a
 induction a generalizing l with
 | nil=>exact joJ _
 | cons b r c =>
 have:=c (jM l b).ls;show((if b.kind=3 then [(jM l b).id] else [])++zc (jM l b).ls r).length<=r.length+1
 rw[joK];split
 ·simp only[joR,jpm];omega
 simp only[jpm];omega
theorem OkL.on{l:LS}(h:OkL l):∀(a:List Ed),OkL (zH l a):=by
 intro a
 induction a generalizing l with
 | nil=>exact h
 | cons b r c=>exact c (h.edit b.kind b.id b.fields)
theorem jkD(l:LS):∀(d:List Ed),(zH l d).es.length<=l.es.length+d.length/\l.next<=(zH l d).next/\(zH l d).next<=l.next+(d.length:Nat):=by
 intro d
 induction d generalizing l with
 | nil=>exact⟨joJ _,jqm _,by show l.next<=l.next+((0:Nat):Int);omega⟩
 | cons e r h =>
 obtain⟨a,b,c⟩:=h (jM l e).ls;obtain⟨a1,f,g⟩:=jdR l e.kind e.id e.fields;refine⟨?_,?_,?_⟩
 ·show(zH (jM l e).ls r).es.length<=l.es.length+(r.length+1)
  have:(jM l e).ls.es.length<=l.es.length+1:=a1;omega
 ·show l.next<=(zH (jM l e).ls r).next;have:l.next<=(jM l e).ls.next:=f
  omega
 show(zH (jM l e).ls r).next<=l.next+((r.length+1:Nat):Int)
 have:(jM l e).ls.next<=l.next+1:=g;omega
theorem jk6(l:LS)(ed:Ed):(jM l ed).bad<=11:=by
 unfold jM xe;split
 ·unfold zy;split
  ·show(7:Nat)<=11;decide
  split
  ·exact joT _
  exact Vf _
 split
 ·unfold qr;split
  ·show(7:Nat)<=11;decide
  exact joT _
 unfold zo;split
 ·show(7:Nat)<=11;decide
 split
 ·split
  ·show(11:Nat)<=11;decide
  exact joT _
 exact Vf _
theorem jk7{l:LS}(d:0<l.next){ed:Ed}(a:ed.kind=1\/ed.kind=2\/ed.kind=3)(b:(jM l ed).bad=0):(if ed.kind=3 then [(jM l ed).id] else [])=(if 0<(jM l ed).id then [(jM l ed).id] else []):=by
 rcases a with a|a|a
 ·have e:(jM l ed).id=0:=by
   unfold jM xe;rw[if_pos a];unfold zy;split
   ·rfl
   split<;>rfl
  rw[if_neg (by omega),if_neg (by omega)]
 ·have e:(jM l ed).id=0:=by unfold jM xe;rw[if_neg (by omega),if_pos a];unfold qr;split<;>rfl
  rw[if_neg (by omega),if_neg (by omega)]
 have c:jM l ed=zo l ed.id ed.fields:=by unfold jM xe;rw[if_neg (by omega),if_neg (by omega)]
 have e:(jM l ed).id=l.next:=by
  rw[c]at b ⊢;rcases jg0 l ed.id ed.fields with q|q
  ·exact q.2.1
  exact absurd b q.1
 rw[if_pos a,if_pos (by omega)]
end Go.Proofs.YtbapfpekklcicaaGreatDoor
