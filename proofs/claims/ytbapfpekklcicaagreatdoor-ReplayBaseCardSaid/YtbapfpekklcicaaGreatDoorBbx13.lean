/- Texts put together:UR,US,UT. -/
import Derived.Test.YtbapfpekklcicaaGreatDoorBbx12
set_option linter.unusedVariables false
set_option maxRecDepth 100000
set_option maxHeartbeats 16000000
namespace Go.Proofs.YtbapfpekklcicaaGreatDoor
open Go.RowKit Go.Shelf Tryz
abbrev jpo:=@Nat.le_succ
abbrev jpw:=@List.drop_eq_nil_of_le
section
attribute [local go_sem] jn9
theorem jiM:(prog.info? 112).map (fun i=>(i.zero,i.size,i.bytes))=some (some (.agg #[.int .i64 0,.string ⟨#[]⟩,.slice none 0 0,.int .i64 0]),4,56):=by kernel_rfl
structure yC(w wr:World)(ob:Nat)(v:Value)(ps:List Pr)(nx:Int):Prop where
 head:jd wr ob 37 #[v,.int .i64 nx]
 row:wr.ownsRow w.heap.size 112 4 v ps.length (jl ps)
 below:Below w.heap.size w wr
 lo:w.heap.size<=ob
theorem yC.ne{w wr:World}{a:Nat}{v:Value}{c:List Pr}{b:Int}(h:yC w wr a v c b):v.ownBlock≠some a :=
 jh h.row h.head (by decide)
theorem yC.alloc{w wr:World}{b:Nat}{v:Value}{c:List Pr}{a:Int}(h:yC w wr b v c a)(o:Obj):yC w (wr.alloc o) b v c a :=
 ⟨h.head.alloc o,h.row.alloc o,h.below.alloc h.below.size o,h.lo⟩
theorem yC.drew{w wr:World}{b:Nat}{v:Value}{c:List Pr}{a:Int}(h:yC w wr b v c a):yC w wr.drew b v c a:=⟨h.head.drew,h.row,h.below.drew,h.lo⟩
theorem yC.kept{w wr w2:World}{c:Nat}{v:Value}{d:List Pr}{b:Int}(h:yC w wr c v d b)(a:Below wr.heap.size wr w2):yC w w2 c v d b :=
 ⟨jb h.head a h.head.lt,zf h.row a (jnT _),h.below.trans (a.mono h.below.size),h.lo⟩
theorem yC.snoc{w m d:World}{c:Nat}{v b:Value}{f:List Pr}{t:Int}{p:Pr}(h:yC w m c v f t)
  (s:d.ownsRow 0 112 4 b (f.length+1) (jl f++zb p)) (y:jd d c 37 #[v,.int .i64 t]) (a:b.ownBlock=v.ownBlock\/∃k,b.ownBlock=some k/\m.heap.size<=k/\k<d.heap.size) (A:jI (fun r=>some r=v.ownBlock) m d) :
  yC w (d.setCell ⟨c,0,none⟩ b) c b (f++[p]) t:=by
 have o:b.ownBlock≠some c:=by
  intro e;rcases a with a|⟨k,a,x,_⟩
  ·rw[a]at e;exact h.ne e
  rw[a]at e;have:k=c:=jnY e
  have:=h.head.lt;omega
 have z:=h.below.size;have j:d.ownsRow w.heap.size 112 4 b (f.length+1) (jl f++zb p):=by
  rcases s.2 with ⟨q,_⟩|⟨n,g,i,q,_,l⟩
  ·exact⟨s.1,.inl ⟨q,by omega⟩⟩
  refine⟨s.1,.inr ⟨n,g,i,q,?_,l⟩⟩;rcases a with a|⟨k,a,x,_⟩
  ·exact(h.row.lt n (by rw[<- a,q];rfl)).1
  rw[q]at a;have:n=k:=jnY a
  omega
 refine⟨?_,?_,?_,h.lo⟩
 ·have:=y.set 0 b;simpa [List.setIfInBounds_toArray,List.set]using this
 ·rw[jnU,vR];exact jy j o _
 have u:Below w.heap.size m d:=A.to_below z (fun r C e=>by
  have:=(h.row.lt r e.symm).1;omega)
 exact(h.below.trans u).setCell (p:=⟨c,0,none⟩) h.lo _
theorem yC.grown_head{w d c:World}{a:Nat}{v:Value}{g:List Pr}{b:Int}(h:yC w d a v g b)(f:d.grownBy c v.ownBlock):jd c a 37 #[v,.int .i64 b] :=
 (f.block a h.head.lt (fun e=>h.ne e.symm)).trans h.head
theorem yC.grow{w l d:World}{a:Nat}{v c:Value}{b:List Pr}{j:Int}{p:Pr}(h:yC w l a v b j)
  (i:d.ownsRow w.heap.size 112 4 c (b.length+1) (jl b++zb p)) (g:l.grownBy d v.ownBlock) :
  yC w (d.setCell ⟨a,0,none⟩ c) a c (b++[p]) j:=by
 have f:=h.grown_head g;refine⟨?_,?_,?_,h.lo⟩
 ·have:=f.set 0 c;simpa [List.setIfInBounds_toArray,List.set]using this
 ·rw[jnU,vR];exact jy i (jh i f (by decide)) _
 exact(h.below.grown g h.below.size (fun k e=>(h.row.lt k e).1)).setCell (p:=⟨a,0,none⟩) h.lo _
theorem yC.other{w wr:World}{a:Nat}{v:Value}{d:List Pr}{c:Int}(h:yC w wr a v d c){b:Nat}(i:Nat)(u:Value)(j:w.heap.size<=b)(f:b≠a)(g:∀r,v.ownBlock=some r->r≠b):yC w (wr.setCell ⟨b,i,none⟩ u) a v d c :=
 ⟨h.head.other (p:=⟨b,i,none⟩) (fun e=>f e.symm) u,jy h.row (fun e=>g b e rfl) u,h.below.setCell (p:=⟨b,i,none⟩) j u,h.lo⟩
theorem yC.start(w:World)(a:Int):yC w (w.alloc (.cells #[.slice none 0 0,.int .i64 a] 37)) w.heap.size (.slice none 0 0) [] a :=
 ⟨jd.new _ _ _,⟨rfl,.inl ⟨rfl,rfl⟩⟩,(jnV _ _).alloc (jnT _) _,jnT _⟩
structure WrQ(w:World)(v:Value)(ps:List Pr)(x:Value)(es:List En)(w':World)(v':Value)(ps':List Pr):Prop where
 ents:zN w' v' ps'
 es:ps'.map Prod.fst=es
 below:Below w.heap.size w w'
 blk:v'=v\/∀b,v'.ownBlock=some b->w.heap.size<=b
 mem:∀p∈ps',p∈ps\/p.2=x
theorem WrQ.same{w w':World}{v:Value}{a:List Pr}{x:Value}{es:List En}(h:zN w v a)(c:a.map Prod.fst=es)(b:Below w.heap.size w w'):WrQ w v a x es w' v a :=
 ⟨h.below b (jnT _),c,b,.inl rfl,fun p d=>.inl d⟩
theorem yC.end_{w o wr:World}{C:Nat}{v n:Value}{m d:List Pr}{A:Int}{x:Value}{fs:List Fld}{es:List En}(h:yC o wr C n d A)(k:Below w.heap.size w o)(y:zN w v m)(hx:vK w x fs)(u:d.map Prod.fst=es)(t:∀p∈d,p∈m\/(p.2=x/\p.1.1.fields=fs)){b:Nat}(s:w.heap.size<=b)(G:b<o.heap.size)(i j:Nat)(a c:Value):
  WrQ w v m x es ((wr.setCell ⟨b,i,none⟩ a).setCell ⟨b,j,none⟩ c) n d:=by
 have g:Below w.heap.size w ((wr.setCell ⟨b,i,none⟩ a).setCell ⟨b,j,none⟩ c):=((k.trans (h.below.mono k.size)).setCell (p:=⟨b,i,none⟩) s _).setCell (p:=⟨b,j,none⟩) s _;have f:n.ownBlock≠some b:=fun e=>by have:=(h.row.lt b e).1;omega
 refine⟨⟨jy (jy (jE h.row (jn3 _)) f _) f _,fun p l => ?_⟩,u,g,.inr fun r z=>jop k.size (h.row.lt r z).1,fun p l=>(t p l).imp id (·.1)⟩;rcases t p l with q|⟨D,E⟩
 ·exact(y.each p q).below g (jnT _)
 rw[D,E];exact hx.below g (jnT _)
theorem WrQ.from{w g w':World}{v f:Value}{d a:List Pr}{x:Value}{es:List En}(h:WrQ g v d x es w' f a)(c:Below w.heap.size w g):WrQ w v d x es w' f a :=
 ⟨h.ents,h.es,c.trans (h.below.mono c.size),h.blk.imp id fun q b e=>jop c.size (q b e),h.mem⟩
theorem Qw{d:Func}{p u z:Tmp}{e:TypeId}(h:d.results=#[.cell p e,.tmp u,.tmp z])(tmps:Array Value)(P:Program)(w:World):
  (results d tmps).run P w=((asAddr (tmps.getD p undef)).run P w).andThen fun a b=>((loadVar e a).run P b).andThen fun v c=>.ok (.tuple #[v,tmps.getD u undef,tmps.getD z undef]) c:=by
 simp only[results,h];simp[Sem.run_bind,Result.andThen]
theorem Vq{c:Func}{p u z:Tmp}(h:c.results=#[.cell p 37,.tmp u,.tmp z])(tmps:Array Value)(w:World)(b:Nat)(a:Array Value)(e:tmps.getD p undef=.pointer (some ⟨b,0,none⟩))
  (d:jd w b 37 a) (f:a.size=2):(results c tmps).run prog w=.ok (.tuple #[.agg a,tmps.getD u undef,tmps.getD z undef]) w:=by
 have L:=run_loadVar_row (P:=prog) w b 37 37 a (0,0) _ d underlying37 rfl (by rw[f];kernel_rfl);rw[Qw h,e];show((loadVar _ _).run _ _).andThen _=_
 rw[L];rfl
theorem jdX{d:Func}{p u z y:Tmp}{e:TypeId}(h:d.results=#[.cell p e,.tmp u,.tmp z,.tmp y])(tmps:Array Value)(P:Program)(w:World):
  (results d tmps).run P w=((asAddr (tmps.getD p undef)).run P w).andThen fun a b=>((loadVar e a).run P b).andThen fun v c=>.ok (.tuple #[v,tmps.getD u undef,tmps.getD z undef,tmps.getD y undef]) c:=by
 simp only[results,h];simp[Sem.run_bind,Result.andThen]
theorem JR{c:Func}{p u z y:Tmp}(h:c.results=#[.cell p 37,.tmp u,.tmp z,.tmp y])(tmps:Array Value)(w:World)(b:Nat)(a:Array Value)(e:tmps.getD p undef=.pointer (some ⟨b,0,none⟩))
  (d:jd w b 37 a) (f:a.size=2):(results c tmps).run prog w=.ok (.tuple #[.agg a,tmps.getD u undef,tmps.getD z undef,tmps.getD y undef]) w:=by
 have L:=run_loadVar_row (P:=prog) w b 37 37 a (0,0) _ d underlying37 rfl (by rw[f];kernel_rfl);rw[jdX h,e];show((loadVar _ _).run _ _).andThen _=_
 rw[L];rfl
theorem jj0{c:Func}{p u:Tmp}(h:c.results=#[.cell p 37,.tmp u])(tmps:Array Value)(w:World)(b:Nat)(a:Array Value)(e:tmps.getD p undef=.pointer (some ⟨b,0,none⟩))
  (d:jd w b 37 a) (f:a.size=2):(results c tmps).run prog w=.ok (.tuple #[.agg a,tmps.getD u undef]) w:=by
 have L:=run_loadVar_row (P:=prog) w b 37 37 a (0,0) _ d underlying37 rfl (by rw[f];kernel_rfl);rw[results_cell_tmp h,e];show((loadVar _ _).run _ _).andThen _=_
 rw[L];rfl
def jbe(ps:List Pr)(k j:Nat):List Pr:=if j<=k then ps.take j else ps.take k++(ps.take j).drop (k+1)
theorem jjw(a:List Pr)(k j:Nat):(jbe a k j).length<=j:=by
 unfold jbe;split
 ·rw[jn2];omega
 rw[jnU,jn2,jn6,jn2];omega
theorem jlE(a:List Pr)(k:Nat)(p:Pr)(h:a[k]?=some p):jbe a k (k+1)=jbe a k k:=by unfold jbe;rw[if_neg (by omega),if_pos (jnT _),jpw (by rw[jn2];omega),jok]
theorem jlD(a:List Pr)(k j:Nat)(p:Pr)(h:a[j]?=some p)(b:j≠k):jbe a k (j+1)=jbe a k j++[p]:=by
 have hl:=(List.getElem?_eq_some_iff.1 h).1;have e:a.take (j+1)=a.take j++[p]:=by rw[jor,h];rfl
 unfold jbe;by_cases q:j<k
 ·rw[if_pos (by omega),if_pos (by omega),e]
 rw[if_neg (by omega),if_neg (by omega),e,List.drop_append,jn2,show k+1-min j a.length=0 by omega,jpe,jn8]
theorem jjx(a:List Pr)(k:Nat)(h:k<a.length):jbe a k a.length=a.take k++a.drop (k+1):=by unfold jbe;rw[if_neg (by omega),jom]
theorem jjv(a:List Pr)(k:Nat):(a.take k++a.drop (k+1)).map Prod.fst=GG (a.map Prod.fst) k:=by unfold GG;rw[joB,List.map_take,List.map_drop]
theorem Ud(b:List Pr)(v:Value)(l id:Int)(w:World)(h:zN w v b)(ak:b.length<=1000000):
  Calls prog 130 #[.agg #[v,.int .i64 l],.int .i64 id] w fun e w'=>∃v' av,e=.returned (.tuple #[.agg #[v',.int .i64 (zR ⟨b.map Prod.fst,l⟩ id).ls.next],.int .i64 (zR ⟨b.map Prod.fst,l⟩ id).bad])/\WrQ w v b (.slice none 0 0) (zR ⟨b.map Prod.fst,l⟩ id).ls.es w' v' av:=by
 obtain⟨i0,hi,am,ap,aq⟩:=info_parts jiM;rw[jbc];dsimp only;obtain⟨A,d,rfl,ay⟩:=h.empty;obtain⟨W,N⟩:∃W,W=(w.alloc (.cells #[.slice A b.length d,.int .i64 l] 37)).alloc (.cells #[.slice none 0 0,.int .i64 0] 37):=⟨_,rfl⟩
 have x:Below w.heap.size w W:=by rw[N];exact((jnV _ w).alloc (jnT _) _).alloc (by simp) _
 have ar:W.heap.size=w.heap.size+2:=by rw[N];simp
 have C0:jd W w.heap.size 37 #[.slice A b.length d,.int .i64 l]:=by rw[N];exact(jd.new _ _ _).alloc _
 have C1:jd W (w.heap.size+1) 37 #[.slice none 0 0,.int .i64 0]:=by
  rw[N];have:=jd.new (w.alloc (.cells #[.slice A b.length d,.int .i64 l] 37)) 37 #[.slice none 0 0,.int .i64 0]
  simpa using this
 have U:=jnS h;have s:=jnS (Zd b (.slice A b.length d) l id W (h.below x (jnT _)) ak)
 have X:=jnS x;have Y:=jnS C0
 have Z:=jnS C1;have HT:Hid (∀c,Below W.heap.size W c->jd c w.heap.size 37 #[.slice A b.length d,.int .i64 l]/\jd c (w.heap.size+1) 37 #[.slice none 0 0,.int .i64 0]/\Below w.heap.size w c/\w.heap.size+2<=c.heap.size):=fun c r =>
  ⟨jb Y.out r (by omega),jb Z.out r (by omega),X.out.trans (r.mono (by omega)),by have:=r.size;omega⟩
 clear C0 C1 h x ar;subst N;cases O:vu (b.map Prod.fst) id with
 | none =>
  rw[O]at s;dsimp only[Gd]at s;clear O;unfold Xv;dsimp only;go_enter func130,ntmps130;go_wp2_with fail;refine s.out.mono ?_;rintro e c ⟨rfl,r⟩;obtain⟨t,m,n,au⟩:=HT.out c r;have c0:=t.cell 0
  have c1:=t.cell 1;have r0:=m.cell 0
  have r1:=m.cell 1;have f0:=m.frozen 0
  have f1:=m.frozen 1;simp only[jn0,jnZ,jnX]at c0 c1 r0 r1;have I:=(m.set 0 (.slice A b.length d)).set 1 (.int .i64 l)
  rw[Vo]at I;have HB:Hid (Below w.heap.size w ((c.setCell ⟨w.heap.size+1,0,none⟩ (.slice A b.length d)).setCell ⟨w.heap.size+1,1,none⟩ (.int .i64 l))) :=
   (n.setCell (p:=⟨w.heap.size+1,0,none⟩) (by show _<=_+1;omega) _).setCell (p:=⟨w.heap.size+1,1,none⟩) (by show _<=_+1;omega) _
  clear s r n t m;go_wp2_with fail;refine bodyPost_ret (jj0 rfl _ _ (w.heap.size+1) _ rfl I rfl) rfl ?_;exact⟨_,b,rfl,.same U.out rfl HB.out⟩
 | some k =>
 rw[O]at s;dsimp only[Gd]at s;have hk:k<b.length:=by have:=(xx O).1;rwa [joi]at this
 clear O;unfold Xv;dsimp only;go_enter func130,ntmps130;go_wp2_with fail;refine s.out.mono ?_;rintro e c ⟨rfl,r⟩;obtain⟨t,m,n,au⟩:=HT.out c r;have c1:c.cell? ⟨w.heap.size,1,none⟩=some (.int .i64 l):=t.cell 1
 have a7:=jnS t;have a8:=jnS m
 have V:=jnS n;have H1:=jnS (U.out.below n (jnT _))
 clear s r t m n;go_wp2_with fail;go_loopw [8] (fun i wr=>∃(j:Nat) (u:Value),j<=b.length/\i=.int .i64 j/\yC c wr c.heap.size u (jbe b k j) l) (fun i _=>b.length-(intOf i).toNat)
 case atStart =>
  refine⟨0,.slice none 0 0,jn3 _,rfl,?_⟩;have:=yC.start c l
  unfold jbe;rw[if_pos (jn3 _),List.take_zero];exact this
 case round =>
 obtain⟨j,u,hj,rfl,a⟩:=hrel;have E:=a.below
 have e0:wr.cell? ⟨w.heap.size,0,none⟩=some (.slice A b.length d):=(jb a7.out E (by omega)).cell 0;have g0:wr.cell? ⟨c.heap.size,0,none⟩=some u:=a.head.cell 0
 by_cases C:j<b.length
 ·obtain⟨p,D⟩:∃p,b[j]?=some p:=⟨_,jnW C⟩
  by_cases z:j=k
  ·have CA:=jnS (show jbe b k (j+1)=jbe b k j by rw[z];exact jlE b k p (z▸D));have q:=jnS (show yC c wr c.heap.size u (jbe b k (j+1)) l by rw[CA.out];exact a)
   clear a D E;go_wp2_with fail;go_roundw
   case rel=>exact⟨j+1,u,C,by go_num,q.out⟩
   case measure=>simp[intOf];omega
  have CO:=jnS (jlD b k j p D z);have hq:((j:Int) != (k:Int))=true:=bne_iff_ne.2 (by omega)
  obtain⟨g,K,pa,pc,e1,_,hg,e2,d0,d1,d2,d3⟩:=(H1.out.below E (jnT _)).here D;cases e1;have ax:=jjw b k j
  have q:=jnS a;have HO:=jnS (jE a.row (jn3 _))
  have ae:=jnS a.ne;obtain⟨P,Q,rfl,_⟩:=je a.row;have aa:=jnS a.head
  have g1:∀o,(wr.alloc o).cell? ⟨c.heap.size,0,none⟩=some (.slice P (jbe b k j).length Q):=fun o=>(a.head.alloc o).cell 0;generalize ag:(jbe b k j)=R at *
  rw[e2]at d2;clear a D E ag;go_wp2_with fail;go_region_law (refine jZ rfl (.tmp 29) (.tmp 35) 35 rfl 112 i0 _ 4 56 underlying35 hi am ap aq rfl (by decide) (.slice P R.length Q) R.length (jl R) (by simp[Act.eval]) (by exact(HO.out.alloc _).drew) ⟨wr.heap.size,0,none⟩ 1 1 [.int .i64 p.1.1.kind,.string (B p.1.1.raw),.slice pa p.1.1.fields.length pc,.int .i64 p.1.2] (by simp[Act.eval]) rfl (jC wr 112 [.int .i64 p.1.1.kind,.string (B p.1.1.raw),.slice pa p.1.1.fields.length pc,.int .i64 p.1.2]) (by intro u hu;simp at hu;rcases hu with rfl | rfl | rfl | rfl<;>rfl) (by unfold maxLen;omega) (by omega) ?_;intro v' w' ho ah af;obtain⟨⟨g',K,rfl⟩,y,aw,ai,aj⟩:=xJ aa.out HO.out ae.out (((jnV _ wr).alloc (jnT _) _).drew) ho ah af;have k0:w'.cell? ⟨c.heap.size,0,none⟩=some (.slice P R.length Q):=y.cell 0;have aA:=y.frozen 0)
  all_goals go_wp2_with fail
  all_goals
   have J:=q.out.snoc (p:=p) (by unfold zb;rw[e2];exact ho) y ai aj;go_roundw
   case rel=>exact⟨j+1,_,C,by go_num,by rw[CO.out];exact J⟩
   case measure=>simp[intOf];omega
 obtain rfl:j=b.length:=by omega
 have m:=jb a8.out E (by omega);have G1:wr.cell? ⟨c.heap.size,1,none⟩=some (.int .i64 l):=a.head.cell 1
 obtain⟨P,Q,rfl,_⟩:=je a.row;have r0:=m.cell 0
 have r1:=m.cell 1;have f0:=m.frozen 0
 have f1:=m.frozen 1;simp only[jn0,jnZ,jnX]at r0 r1;have G:=jnS (jjv b k)
 have H:Hid (∀p∈b.take k++b.drop (k+1),p∈b\/(p.2=.slice none 0 0/\p.1.1.fields=[])):=fun p D=>by
  rcases List.mem_append.1 D with h|h
  ·exact .inl (joR h)
  exact .inl (joJ h)
 rw[jjx b k hk]at *
 generalize b.take k++b.drop (k+1)=L at *
 have I:=(m.set 0 (.slice P L.length Q)).set 1 (.int .i64 l);rw[Vo]at I;have q:=jnS a
 clear a E m;go_wp2_with fail;refine bodyPost_ret (jj0 rfl _ _ (w.heap.size+1) _ rfl I rfl) rfl ?_;refine⟨_,L,rfl,?_⟩;exact q.out.end_ V.out U.out (fs:=[]) ⟨none,0,rfl,jnT _,fun i f h=>by simp at h⟩ G.out H.out (jpo _) (by omega) 0 1 _ _
theorem jkF(a:List Pr)(k:Nat)(q:Pr)(h:k<a.length):(a.set k q).take (k+1)=(a.set k q).take k++[q]:=by rw[jor,List.getElem?_set_self h];rfl
theorem jkE(a:List Pr)(k j:Nat)(p q:Pr)(h:a[j]?=some p)(b:j≠k):(a.set k q).take (j+1)=(a.set k q).take j++[p]:=by rw[jor,List.getElem?_set_ne (fun e=>b e.symm),h];rfl
theorem XV(d:List Pr)(v x:Value)(z id:Int)(fs:List Fld)(w:World)(h:zN w v d)(aT:d.length<=1000000)(hx:vK w x fs)(Q:jbx fs):
  Calls prog 129 #[.agg #[v,.int .i64 z],.int .i64 id,x] w fun e w'=>∃v' aY,e=.returned (.tuple #[.agg #[v',.int .i64 (zu ⟨d.map Prod.fst,z⟩ id fs).ls.next],.int .i64 (zu ⟨d.map Prod.fst,z⟩ id fs).at_,.int .i64 (zu ⟨d.map Prod.fst,z⟩ id fs).bad])/\WrQ w v d x (zu ⟨d.map Prod.fst,z⟩ id fs).ls.es w' v' aY:=by
 obtain⟨i0,hi,aA,aB,aC⟩:=info_parts jiM;rw[Kx];dsimp only;obtain⟨A,y,rfl,bm⟩:=h.empty;obtain⟨o,s,rfl,_,_⟩:=_root_.id hx;obtain⟨W,hW⟩:∃W,W=(w.alloc (.cells #[.slice A d.length y,.int .i64 z] 37)).alloc (.cells #[.slice none 0 0,.int .i64 0] 37):=⟨_,rfl⟩
 have aj:Below w.heap.size w W:=by rw[hW];exact((jnV _ w).alloc (jnT _) _).alloc (by simp) _
 have aU:W.heap.size=w.heap.size+2:=by rw[hW];simp
 have C0:jd W w.heap.size 37 #[.slice A d.length y,.int .i64 z]:=by rw[hW];exact(jd.new _ _ _).alloc _
 have C1:jd W (w.heap.size+1) 37 #[.slice none 0 0,.int .i64 0]:=by
  rw[hW];have:=jd.new (w.alloc (.cells #[.slice A d.length y,.int .i64 z] 37)) 37 #[.slice none 0 0,.int .i64 0]
  simpa using this
 have H0:=jnS h;have HX:=jnS hx
 have FN:=jnS (Zd d (.slice A d.length y) z id W (h.below aj (jnT _)) aT);have aG:=jnS aj
 have aI:=jnS C0;have aJ:=jnS C1
 have HT:Hid (∀c,Below W.heap.size W c->jd c w.heap.size 37 #[.slice A d.length y,.int .i64 z]/\jd c (w.heap.size+1) 37 #[.slice none 0 0,.int .i64 0]/\Below w.heap.size w c/\w.heap.size+2<=c.heap.size):=fun c D =>
  ⟨jb aI.out D (by omega),jb aJ.out D (by omega),aG.out.trans (D.mono (by omega)),by have:=D.size;omega⟩
 have au:Hid (∀c,Below W.heap.size W c->jd ((c.setCell ⟨w.heap.size+1,0,none⟩ (.slice A d.length y)).setCell ⟨w.heap.size+1,1,none⟩ (.int .i64 z)) (w.heap.size+1) 37 #[.slice A d.length y,.int .i64 z]/\Below w.heap.size w ((c.setCell ⟨w.heap.size+1,0,none⟩ (.slice A d.length y)).setCell ⟨w.heap.size+1,1,none⟩ (.int .i64 z))):=fun c D=>by
  obtain⟨_,n,t,_⟩:=HT.out c D;have U:=(n.set 0 (.slice A d.length y)).set 1 (.int .i64 z)
  rw[Vo]at U;exact⟨U,(t.setCell (p:=⟨w.heap.size+1,0,none⟩) (jpo _) _).setCell (p:=⟨w.heap.size+1,1,none⟩) (jpo _) _⟩
 clear C0 C1 h aj aU hx;subst hW;cases hf:vu (d.map Prod.fst) id with
 | none =>
  rw[hf]at FN;dsimp only[Gd]at FN;clear hf;unfold JA;dsimp only;go_enter func129,ntmps129;go_wp2_with fail;refine FN.out.mono ?_;rintro e c ⟨rfl,D⟩;obtain⟨O,n,t,aE⟩:=HT.out c D;obtain⟨U,HB⟩:=au.out c D;have c0:=O.cell 0
  have c1:=O.cell 1;have r0:=n.cell 0
  have r1:=n.cell 1;have f0:=n.frozen 0
  have f1:=n.frozen 1;simp only[jn0,jnZ,jnX]at c0 c1 r0 r1;have Y:=jnS U
  have ah:=jnS HB;clear FN D t O n U HB;go_wp2_with fail;refine bodyPost_ret (Vq rfl _ _ (w.heap.size+1) _ rfl Y.out rfl) rfl ?_;exact⟨_,d,rfl,.same H0.out rfl ah.out⟩
 | some k =>
 rw[hf]at FN;dsimp only[Gd]at FN;have hk:k<d.length:=by have:=(xx hf).1;rwa [joi]at this
 clear hf;obtain⟨p0,af⟩:∃p,d[k]?=some p:=⟨_,jnW hk⟩
 have aN:=jnS af;have ay:qA fs<=11:=QZ fs
 by_cases J:qA fs=0
 ·rw[Vt J];dsimp only;obtain⟨q,hq⟩:∃q:Pr,q=((zx fs,p0.1.2),.slice o fs.length s):=⟨_,rfl⟩
  have ar:=jnS (jcP d k p0 (zx fs) (.slice o fs.length s) af);have av:=jnS (jkF d k q hk)
  have aw:=jnS (fun j p=>jkE d k j p q);have HQ:=jnS hq
  have ag:Hid (∀p∈d.set k q,p∈d\/(p.2=.slice o fs.length s/\p.1.1.fields=fs)):=fun p hp=>by
   rcases jpT hp with h|h
   ·exact .inl h
   right;rw[h,hq];exact⟨rfl,rfl⟩
  have CK:Hid (∀c,vK c (.slice o fs.length s) fs->Calls prog 173 #[.slice o fs.length s] c fun e w'=>e=.returned (.tuple #[.int .i64 (vv fs),.int .i64 0])/\Below c.heap.size c w'):=fun c h1=>by have:=yH fs _ c h1 (by have:=Q.len;omega) (fun f hf=>by have:=Q.each f hf;omega);rw[J]at this;exact this
  have IT:Hid (∀c,vK c (.slice o fs.length s) fs->Calls prog 175 #[.slice o fs.length s] c fun e w'=>e=.returned (.agg #[.int .i64 3,.string (B (jM fs)),.slice o fs.length s])/\Below c.heap.size c w'):=fun c h1 =>
   YF fs o _ s c h1 Q.len Q.each
  obtain⟨T,hT⟩:∃T,T=vv fs:=⟨_,rfl⟩
  obtain⟨G,hG⟩:∃G,G=jM fs:=⟨_,rfl⟩
  have HG:=jnS hG;rw[<- hT]at CK;rw[<- hG]at IT;obtain⟨L,hL⟩:∃L,L=d.set k q:=⟨_,rfl⟩
  have aM:Hid (L.length=d.length):=by show _=_;rw[hL,jqz]
  rw[<- hL]at ag av aw;have HL:=jnS hL
  clear J ay af hT hG hL hq;go_enter func129,ntmps129;go_wp2_with fail;refine FN.out.mono ?_;rintro e c ⟨rfl,D⟩;obtain⟨_,_,t,_⟩:=HT.out c D;have X:=jnS (CK.out c (HX.out.below t (jnT _)))
  have B1:=jnS D;clear FN D t CK;go_wp2_with fail;refine X.out.mono ?_;rintro e C ⟨rfl,b2⟩;have P:=B1.out.trans (b2.mono B1.out.size)
  obtain⟨O,n,ae,aE⟩:=HT.out C P;have c1:C.cell? ⟨w.heap.size,1,none⟩=some (.int .i64 z):=O.cell 1
  have aK:=jnS O;have aL:=jnS n
  have aF:=jnS ae;have H1:=jnS (H0.out.below ae (jnT _))
  have aO:=jnS (HX.out.below ae (jnT _));clear X b2 P O n ae B1;go_wp2_with fail;go_loopw [13] (fun i wr=>∃(j:Nat) (u:Value),j<=d.length/\i=.int .i64 j/\yC C wr C.heap.size u (L.take j) z) (fun i _=>d.length-(intOf i).toNat)
  case atStart=>exact⟨0,.slice none 0 0,jn3 _,rfl,yC.start C z⟩
  case round =>
  obtain⟨j,u,hj,rfl,a⟩:=hrel;have J:=a.below
  have ap:=J.size;have e0:wr.cell? ⟨w.heap.size,0,none⟩=some (.slice A d.length y):=(jb aK.out J (by omega)).cell 0
  obtain⟨ua,uc,rfl,_⟩:=je a.row;by_cases am:j<d.length
  ·obtain⟨p,hp⟩:∃p,d[j]?=some p:=⟨_,jnW am⟩
   obtain⟨g,aZ,pa,pc,e1,_,hg,e2,d0,d1,d2,d3⟩:=(H1.out.below J (jnT _)).here hp;cases e1;rw[e2]at d2;have bj:(L.take j).length<=j:=by rw[jn2];omega
   by_cases R:j=k
   ·have hq:((j:Int)==(k:Int))=true:=by simp[R]
    have SJ:Hid (L.take (j+1)=L.take j++[q]):=by show _=_;rw[R];exact av.out
    have aS:p=p0:=by have:=aN.out;rw[<- R,hp]at this;exact jnY this
    subst aS;obtain⟨wa,a8⟩:∃wa,wa=wr.alloc (.cells #[.int .i64 p.1.1.kind,.string (B p.1.1.raw),.slice pa p.1.1.fields.length pc,.int .i64 p.1.2] 112):=⟨_,rfl⟩
    have aP:=jnS (IT.out wa (aO.out.below (J.trans (by rw[a8];exact(jnV _ wr).alloc (by omega) _)) (jnT _)));have aH:Hid (jd wa wr.heap.size 112 #[.int .i64 p.1.1.kind,.string (B p.1.1.raw),.slice pa p.1.1.fields.length pc,.int .i64 p.1.2]):=by show jd _ _ _ _;rw[a8];exact jd.new _ _ _
    have K:=jnS (show yC C wa C.heap.size (.slice ua (L.take j).length uc) (L.take j) z by rw[a8];exact a.alloc _);have aa:Hid (wa.heap.size=wr.heap.size+1):=by show _=_;rw[a8];simp
    have aX:=a.head.lt;have ai:Hid (∀r,(Value.slice ua (L.take j).length uc).ownBlock=some r->r≠wr.heap.size):=fun r e=>by have:=(a.row.lt r e).2;omega
    generalize ak:L.take j=cq at *
    clear a hp J ak R;subst a8;go_wp2_with fail;refine aP.out.mono ?_;rintro e w4 ⟨rfl,b4⟩;have aq:=jnS (K.out.kept b4)
    have E:=jb aH.out b4 (by rw[aa.out];omega);have aQ:=b4.size
    rw[aa.out]at aQ;have I:wr.heap.size≠C.heap.size:=by omega
    have aW:C.heap.size≠wr.heap.size:=by omega
    have H:=((aq.out.other (b:=wr.heap.size) 0 (.int .i64 3) ap I ai.out).other (b:=wr.heap.size) 1 (.string (B G)) ap I ai.out).other (b:=wr.heap.size) 2 (.slice o fs.length s) ap I ai.out;have V:jd (((w4.setCell ⟨wr.heap.size,0,none⟩ (.int .i64 3)).setCell ⟨wr.heap.size,1,none⟩ (.string (B G))).setCell ⟨wr.heap.size,2,none⟩ (.slice o fs.length s)) wr.heap.size 112 #[.int .i64 3,.string (B G),.slice o fs.length s,.int .i64 p.1.2]:=by have:=((E.set 0 (.int .i64 3)).set 1 (.string (B G))).set 2 (.slice o fs.length s);simpa [List.setIfInBounds_toArray,List.set]using this
    have q0:=E.cell 0;have q1:=E.cell 1
    have q2:=E.cell 2;simp only[jn0,jnZ,jnX]at q0 q1 q2;have be:=E.frozen 0
    have bg:=E.frozen 1;have bi:=E.frozen 2
    have s0:(((w4.setCell ⟨wr.heap.size,0,none⟩ (.int .i64 3)).setCell ⟨wr.heap.size,1,none⟩ (.string (B G))).setCell ⟨wr.heap.size,2,none⟩ (.slice o fs.length s)).cell? ⟨wr.heap.size,0,none⟩=some (.int .i64 3):=V.cell 0;have s1:(((w4.setCell ⟨wr.heap.size,0,none⟩ (.int .i64 3)).setCell ⟨wr.heap.size,1,none⟩ (.string (B G))).setCell ⟨wr.heap.size,2,none⟩ (.slice o fs.length s)).cell? ⟨wr.heap.size,1,none⟩=some (.string (B G)):=V.cell 1
    have s2:(((w4.setCell ⟨wr.heap.size,0,none⟩ (.int .i64 3)).setCell ⟨wr.heap.size,1,none⟩ (.string (B G))).setCell ⟨wr.heap.size,2,none⟩ (.slice o fs.length s)).cell? ⟨wr.heap.size,2,none⟩=some (.slice o fs.length s):=V.cell 2;have s3:(((w4.setCell ⟨wr.heap.size,0,none⟩ (.int .i64 3)).setCell ⟨wr.heap.size,1,none⟩ (.string (B G))).setCell ⟨wr.heap.size,2,none⟩ (.slice o fs.length s)).cell? ⟨wr.heap.size,3,none⟩=some (.int .i64 p.1.2):=V.cell 3
    have k0:(((w4.setCell ⟨wr.heap.size,0,none⟩ (.int .i64 3)).setCell ⟨wr.heap.size,1,none⟩ (.string (B G))).setCell ⟨wr.heap.size,2,none⟩ (.slice o fs.length s)).cell? ⟨C.heap.size,0,none⟩=some (.slice ua cq.length uc):=H.head.cell 0;have a7:=H.row
    have aD:=H.below.size;have A5:=jnS (H.alloc (.cells #[.int .i64 3,.string (B G),.slice o fs.length s,.int .i64 p.1.2] 112))
    have hv:=jC (((w4.setCell ⟨wr.heap.size,0,none⟩ (.int .i64 3)).setCell ⟨wr.heap.size,1,none⟩ (.string (B G))).setCell ⟨wr.heap.size,2,none⟩ (.slice o fs.length s)) 112 [.int .i64 3,.string (B G),.slice o fs.length s,.int .i64 p.1.2];rw[show(((w4.setCell ⟨wr.heap.size,0,none⟩ (.int .i64 3)).setCell ⟨wr.heap.size,1,none⟩ (.string (B G))).setCell ⟨wr.heap.size,2,none⟩ (.slice o fs.length s)).heap.size=w4.heap.size by simp[World.setCell]]at hv aD;have HV:=jnS hv
    clear hv H V E b4;go_wp2_with (at_builtin;refine wpList_append_own _ rfl _ _ 35 rfl C.heap.size 112 i0 _ 4 56 underlying35 hi aA aB aC rfl (by decide) _ _ _ rfl (a7.alloc _) ⟨w4.heap.size,0,none⟩ 1 1 _ rfl rfl HV.out (by intro u hu;simp at hu;rcases hu with rfl | rfl | rfl | rfl<;>rfl) (by unfold maxLen;omega) (by omega) (by first | omega | (simp only[joe];omega) | (simp[World.setCell];omega)) ?_);intro v' w6 m l _;have h6:=(A5.out.grown_head l)
    have Z:=jnS (A5.out.grow (p:=q) (by rw[HQ.out,HG.out]at *;exact m) l);have k6:w6.cell? ⟨C.heap.size,0,none⟩=some (.slice ua cq.length uc):=h6.cell 0
    have aV:=h6.frozen 0;obtain⟨g',ax,rfl⟩:=ownsRow_succ m;clear m l h6;go_wp2_with fail;go_roundw
    case rel=>exact⟨j+1,_,am,by go_num,by rw[SJ.out];exact Z.out⟩
    case measure=>simp[intOf];omega
   have hq:((j:Int)==(k:Int))=false:=beq_eq_false_iff_ne.2 (by omega);have SJ:Hid (L.take (j+1)=L.take j++[p]):=aw.out j p hp R
   have K:=jnS ((a.alloc (.cells #[.int .i64 p.1.1.kind,.string (B p.1.1.raw),.slice pa p.1.1.fields.length pc,.int .i64 p.1.2] 112)).alloc (.cells #[.int .i64 p.1.1.kind,.string (B p.1.1.raw),.slice pa p.1.1.fields.length pc,.int .i64 p.1.2] 112));have k0:wr.cell? ⟨C.heap.size,0,none⟩=some (.slice ua (L.take j).length uc):=a.head.cell 0
   have a7:=a.row;have aX:=a.head.lt
   have hv:=jC (wr.alloc (.cells #[.int .i64 p.1.1.kind,.string (B p.1.1.raw),.slice pa p.1.1.fields.length pc,.int .i64 p.1.2] 112)) 112 [.int .i64 p.1.1.kind,.string (B p.1.1.raw),.slice pa p.1.1.fields.length pc,.int .i64 p.1.2];rw[joe]at hv;have HV:=jnS hv
   generalize ak:L.take j=cq at *
   clear a hp J ak hv R;go_wp2_with (at_builtin;refine wpList_append_own _ rfl _ _ 35 rfl C.heap.size 112 i0 _ 4 56 underlying35 hi aA aB aC rfl (by decide) _ _ _ rfl ((a7.alloc _).alloc _) ⟨wr.heap.size+1,0,none⟩ 1 1 _ rfl rfl HV.out (by intro u hu;simp at hu;rcases hu with rfl | rfl | rfl | rfl<;>rfl) (by unfold maxLen;omega) (by omega) (by first | omega | (simp only[joe];omega) | (simp[World.setCell];omega)) ?_);intro v' w6 m l _;have h6:=(K.out.grown_head l)
   have Z:=jnS (K.out.grow (p:=p) (by unfold zb;rw[e2];exact m) l);have k6:w6.cell? ⟨C.heap.size,0,none⟩=some (.slice ua cq.length uc):=h6.cell 0
   have aV:=h6.frozen 0;obtain⟨g',ax,rfl⟩:=ownsRow_succ m;clear m l h6;go_wp2_with fail;go_roundw
   case rel=>exact⟨j+1,_,am,by go_num,by rw[SJ.out];exact Z.out⟩
   case measure=>simp[intOf];omega
  obtain rfl:j=d.length:=by omega
  rw[show L.take d.length=L by rw[<- aM.out,jom]]at *
  have n:=jb aL.out J (by omega);have G1:wr.cell? ⟨C.heap.size,1,none⟩=some (.int .i64 z):=a.head.cell 1
  have G0:wr.cell? ⟨C.heap.size,0,none⟩=some (.slice ua L.length uc):=a.head.cell 0;have r0:=n.cell 0
  have r1:=n.cell 1;have f0:=n.frozen 0
  have f1:=n.frozen 1;simp only[jn0,jnZ,jnX]at r0 r1;have U:=(n.set 0 (.slice ua L.length uc)).set 1 (.int .i64 z)
  rw[Vo]at U;have Y:=jnS U
  have K:=jnS a;clear a J n U;go_wp2_with fail;refine bodyPost_ret (Vq rfl _ _ (w.heap.size+1) _ rfl Y.out rfl) rfl ?_;refine⟨_,L,rfl,?_⟩;exact K.out.end_ aF.out H0.out HX.out (by rw[HL.out,HQ.out];exact ar.out) ag.out (jpo _) (by omega) 0 1 _ _
 rw[YB J];dsimp only;have aR:(((qA fs:Nat):Int) != 0)=true:=bne_iff_ne.2 (by omega)
 obtain⟨N,hN⟩:∃N,N=qA fs:=⟨_,rfl⟩
 obtain⟨T,hT⟩:∃T,T=vv fs:=⟨_,rfl⟩
 have CK:Hid (∀c,vK c (.slice o fs.length s) fs->Calls prog 173 #[.slice o fs.length s] c fun e w'=>e=.returned (.tuple #[.int .i64 T,.int .i64 (N:Nat)])/\Below c.heap.size c w'):=fun c h1=>by rw[hN,hT];exact yH fs _ c h1 (by have:=Q.len;omega) (fun f hf=>by have:=Q.each f hf;omega)
 rw[<- hN]at aR ay ⊢;rw[<- hT];clear J af hN hT;go_enter func129,ntmps129;go_wp2_with fail;refine FN.out.mono ?_;rintro e c ⟨rfl,D⟩;obtain⟨O,n,t,aE⟩:=HT.out c D;have X:=jnS (CK.out c (HX.out.below t (jnT _)))
 have B1:=jnS D;clear FN D t O n;go_wp2_with fail;refine X.out.mono ?_;rintro e C ⟨rfl,b2⟩;have P:=B1.out.trans (b2.mono B1.out.size)
 obtain⟨O,n,t,aa⟩:=HT.out C P;obtain⟨U,HB⟩:=au.out C P;have c0:=O.cell 0
 have c1:=O.cell 1;have r0:=n.cell 0
 have r1:=n.cell 1;have f0:=n.frozen 0
 have f1:=n.frozen 1;simp only[jn0,jnZ,jnX]at c0 c1 r0 r1;have Y:=jnS U
 have ah:=jnS HB;clear X b2 P t O n U HB;go_wp2_with fail;refine bodyPost_ret (Vq rfl _ _ (w.heap.size+1) _ rfl Y.out rfl) rfl ?_;exact⟨_,d,rfl,.same H0.out rfl ah.out⟩
end
end Go.Proofs.YtbapfpekklcicaaGreatDoor
