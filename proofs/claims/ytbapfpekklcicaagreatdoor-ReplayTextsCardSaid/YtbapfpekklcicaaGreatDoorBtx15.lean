/- Texts put together:UR,US,UT. -/
import Derived.Test.YtbapfpekklcicaaGreatDoorBtx14
set_option linter.unusedVariables false
set_option maxRecDepth 100000
set_option maxHeartbeats 16000000
namespace Go.Proofs.YtbapfpekklcicaaGreatDoor
open Go.RowKit Go.Shelf Tryz
abbrev jqf:=@Nat.le_succ
abbrev jql:=@List.drop_eq_nil_of_le
section
attribute [local go_sem] joY
theorem jjm:(prog.info? 112).map (fun i=>(i.zero,i.size,i.bytes))=some (some (.agg #[.int .i64 0,.string ⟨#[]⟩,.slice none 0 0,.int .i64 0]),4,56):=by kernel_rfl
structure yI(w wr:World)(ob:Nat)(v:Value)(ps:List Pr)(nx:Int):Prop where
 head:ja wr ob 37 #[v,.int .i64 nx]
 row:wr.ownsRow w.heap.size 112 4 v ps.length (jl ps)
 below:Below w.heap.size w wr
 lo:w.heap.size<=ob
theorem yI.ne{w wr:World}{a:Nat}{v:Value}{c:List Pr}{b:Int}(h:yI w wr a v c b):v.ownBlock≠some a :=
 jh h.row h.head (by decide)
theorem yI.alloc{w wr:World}{b:Nat}{v:Value}{c:List Pr}{a:Int}(h:yI w wr b v c a)(o:Obj):yI w (wr.alloc o) b v c a :=
 ⟨h.head.alloc o,h.row.alloc o,h.below.alloc h.below.size o,h.lo⟩
theorem yI.drew{w wr:World}{b:Nat}{v:Value}{c:List Pr}{a:Int}(h:yI w wr b v c a):yI w wr.drew b v c a:=⟨h.head.drew,h.row,h.below.drew,h.lo⟩
theorem yI.kept{w wr w2:World}{c:Nat}{v:Value}{d:List Pr}{b:Int}(h:yI w wr c v d b)(a:Below wr.heap.size wr w2):yI w w2 c v d b :=
 ⟨jb h.head a h.head.lt,jX h.row a (joJ _),h.below.trans (a.mono h.below.size),h.lo⟩
theorem yI.snoc{w m d:World}{c:Nat}{v b:Value}{f:List Pr}{t:Int}{p:Pr}(h:yI w m c v f t)
  (s:d.ownsRow 0 112 4 b (f.length+1) (jl f++zd p)) (y:ja d c 37 #[v,.int .i64 t]) (a:b.ownBlock=v.ownBlock\/∃k,b.ownBlock=some k/\m.heap.size<=k/\k<d.heap.size) (A:jH (fun r=>some r=v.ownBlock) m d) :
  yI w (d.setCell ⟨c,0,none⟩ b) c b (f++[p]) t:=by
 have o:b.ownBlock≠some c:=by
  intro e;rcases a with a|⟨k,a,x,_⟩
  ·rw[a]at e;exact h.ne e
  rw[a]at e;have:k=c:=joN e
  have:=h.head.lt;omega
 have z:=h.below.size;have j:d.ownsRow w.heap.size 112 4 b (f.length+1) (jl f++zd p):=by
  rcases s.2 with ⟨q,_⟩|⟨n,g,i,q,_,l⟩
  ·exact⟨s.1,.inl ⟨q,by omega⟩⟩
  refine⟨s.1,.inr ⟨n,g,i,q,?_,l⟩⟩;rcases a with a|⟨k,a,x,_⟩
  ·exact(h.row.lt n (by rw[<- a,q];rfl)).1
  rw[q]at a;have:n=k:=joN a
  omega
 refine⟨?_,?_,?_,h.lo⟩
 ·have:=y.set 0 b;simpa [List.setIfInBounds_toArray,List.set]using this
 ·rw[joK,vX];exact js j o _
 have u:Below w.heap.size m d:=A.to_below z (fun r C e=>by
  have:=(h.row.lt r e.symm).1;omega)
 exact(h.below.trans u).setCell (p:=⟨c,0,none⟩) h.lo _
theorem yI.grown_head{w d c:World}{a:Nat}{v:Value}{g:List Pr}{b:Int}(h:yI w d a v g b)(f:d.grownBy c v.ownBlock):ja c a 37 #[v,.int .i64 b] :=
 (f.block a h.head.lt (fun e=>h.ne e.symm)).trans h.head
theorem yI.grow{w l d:World}{a:Nat}{v c:Value}{b:List Pr}{j:Int}{p:Pr}(h:yI w l a v b j)
  (i:d.ownsRow w.heap.size 112 4 c (b.length+1) (jl b++zd p)) (g:l.grownBy d v.ownBlock) :
  yI w (d.setCell ⟨a,0,none⟩ c) a c (b++[p]) j:=by
 have f:=h.grown_head g;refine⟨?_,?_,?_,h.lo⟩
 ·have:=f.set 0 c;simpa [List.setIfInBounds_toArray,List.set]using this
 ·rw[joK,vX];exact js i (jh i f (by decide)) _
 exact(h.below.grown g h.below.size (fun k e=>(h.row.lt k e).1)).setCell (p:=⟨a,0,none⟩) h.lo _
theorem yI.other{w wr:World}{a:Nat}{v:Value}{d:List Pr}{c:Int}(h:yI w wr a v d c){b:Nat}(i:Nat)(u:Value)(j:w.heap.size<=b)(f:b≠a)(g:∀r,v.ownBlock=some r->r≠b):yI w (wr.setCell ⟨b,i,none⟩ u) a v d c :=
 ⟨h.head.other (p:=⟨b,i,none⟩) (fun e=>f e.symm) u,js h.row (fun e=>g b e rfl) u,h.below.setCell (p:=⟨b,i,none⟩) j u,h.lo⟩
theorem yI.start(w:World)(a:Int):yI w (w.alloc (.cells #[.slice none 0 0,.int .i64 a] 37)) w.heap.size (.slice none 0 0) [] a :=
 ⟨ja.new _ _ _,⟨rfl,.inl ⟨rfl,rfl⟩⟩,(joL _ _).alloc (joJ _) _,joJ _⟩
structure WrQ(w:World)(v:Value)(ps:List Pr)(x:Value)(es:List En)(w':World)(v':Value)(ps':List Pr):Prop where
 ents:zK w' v' ps'
 es:ps'.map Prod.fst=es
 below:Below w.heap.size w w'
 blk:v'=v\/∀b,v'.ownBlock=some b->w.heap.size<=b
 mem:∀p∈ps',p∈ps\/p.2=x
theorem WrQ.same{w w':World}{v:Value}{a:List Pr}{x:Value}{es:List En}(h:zK w v a)(c:a.map Prod.fst=es)(b:Below w.heap.size w w'):WrQ w v a x es w' v a :=
 ⟨h.below b (joJ _),c,b,.inl rfl,fun p d=>.inl d⟩
theorem yI.end_{w o wr:World}{C:Nat}{v n:Value}{m d:List Pr}{A:Int}{x:Value}{fs:List Fld}{es:List En}(h:yI o wr C n d A)(k:Below w.heap.size w o)(y:zK w v m)(hx:vP w x fs)(u:d.map Prod.fst=es)(t:∀p∈d,p∈m\/(p.2=x/\p.1.1.fields=fs)){b:Nat}(s:w.heap.size<=b)(G:b<o.heap.size)(i j:Nat)(a c:Value):
  WrQ w v m x es ((wr.setCell ⟨b,i,none⟩ a).setCell ⟨b,j,none⟩ c) n d:=by
 have g:Below w.heap.size w ((wr.setCell ⟨b,i,none⟩ a).setCell ⟨b,j,none⟩ c):=((k.trans (h.below.mono k.size)).setCell (p:=⟨b,i,none⟩) s _).setCell (p:=⟨b,j,none⟩) s _;have f:n.ownBlock≠some b:=fun e=>by have:=(h.row.lt b e).1;omega
 refine⟨⟨js (js (jA h.row (joT _)) f _) f _,fun p l => ?_⟩,u,g,.inr fun r z=>jpg k.size (h.row.lt r z).1,fun p l=>(t p l).imp id (·.1)⟩;rcases t p l with q|⟨D,E⟩
 ·exact(y.each p q).below g (joJ _)
 rw[D,E];exact hx.below g (joJ _)
theorem WrQ.from{w g w':World}{v f:Value}{d a:List Pr}{x:Value}{es:List En}(h:WrQ g v d x es w' f a)(c:Below w.heap.size w g):WrQ w v d x es w' f a :=
 ⟨h.ents,h.es,c.trans (h.below.mono c.size),h.blk.imp id fun q b e=>jpg c.size (q b e),h.mem⟩
theorem QL{d:Func}{p u z:Tmp}{e:TypeId}(h:d.results=#[.cell p e,.tmp u,.tmp z])(tmps:Array Value)(P:Program)(w:World):
  (results d tmps).run P w=((asAddr (tmps.getD p undef)).run P w).andThen fun a b=>((loadVar e a).run P b).andThen fun v c=>.ok (.tuple #[v,tmps.getD u undef,tmps.getD z undef]) c:=by
 simp only[results,h];simp[Sem.run_bind,Result.andThen]
theorem Vt{c:Func}{p u z:Tmp}(h:c.results=#[.cell p 37,.tmp u,.tmp z])(tmps:Array Value)(w:World)(b:Nat)(a:Array Value)(e:tmps.getD p undef=.pointer (some ⟨b,0,none⟩))
  (d:ja w b 37 a) (f:a.size=2):(results c tmps).run prog w=.ok (.tuple #[.agg a,tmps.getD u undef,tmps.getD z undef]) w:=by
 have L:=run_loadVar_row (P:=prog) w b 37 37 a (0,0) _ d underlying37 rfl (by rw[f];kernel_rfl);rw[QL h,e];show((loadVar _ _).run _ _).andThen _=_
 rw[L];rfl
theorem jen{d:Func}{p u z y:Tmp}{e:TypeId}(h:d.results=#[.cell p e,.tmp u,.tmp z,.tmp y])(tmps:Array Value)(P:Program)(w:World):
  (results d tmps).run P w=((asAddr (tmps.getD p undef)).run P w).andThen fun a b=>((loadVar e a).run P b).andThen fun v c=>.ok (.tuple #[v,tmps.getD u undef,tmps.getD z undef,tmps.getD y undef]) c:=by
 simp only[results,h];simp[Sem.run_bind,Result.andThen]
theorem JX{c:Func}{p u z y:Tmp}(h:c.results=#[.cell p 37,.tmp u,.tmp z,.tmp y])(tmps:Array Value)(w:World)(b:Nat)(a:Array Value)(e:tmps.getD p undef=.pointer (some ⟨b,0,none⟩))
  (d:ja w b 37 a) (f:a.size=2):(results c tmps).run prog w=.ok (.tuple #[.agg a,tmps.getD u undef,tmps.getD z undef,tmps.getD y undef]) w:=by
 have L:=run_loadVar_row (P:=prog) w b 37 37 a (0,0) _ d underlying37 rfl (by rw[f];kernel_rfl);rw[jen h,e];show((loadVar _ _).run _ _).andThen _=_
 rw[L];rfl
theorem jkw{c:Func}{p u:Tmp}(h:c.results=#[.cell p 37,.tmp u])(tmps:Array Value)(w:World)(b:Nat)(a:Array Value)(e:tmps.getD p undef=.pointer (some ⟨b,0,none⟩))
  (d:ja w b 37 a) (f:a.size=2):(results c tmps).run prog w=.ok (.tuple #[.agg a,tmps.getD u undef]) w:=by
 have L:=run_loadVar_row (P:=prog) w b 37 37 a (0,0) _ d underlying37 rfl (by rw[f];kernel_rfl);rw[results_cell_tmp h,e];show((loadVar _ _).run _ _).andThen _=_
 rw[L];rfl
def jbs(ps:List Pr)(k j:Nat):List Pr:=if j<=k then ps.take j else ps.take k++(ps.take j).drop (k+1)
theorem jj2(a:List Pr)(k j:Nat):(jbs a k j).length<=j:=by
 unfold jbs;split
 ·rw[joS];omega
 rw[joK,joS,joX,joS];omega
theorem jmi(a:List Pr)(k:Nat)(p:Pr)(h:a[k]?=some p):jbs a k (k+1)=jbs a k k:=by unfold jbs;rw[if_neg (by omega),if_pos (joJ _),jql (by rw[joS];omega),jo9]
theorem jmh(a:List Pr)(k j:Nat)(p:Pr)(h:a[j]?=some p)(b:j≠k):jbs a k (j+1)=jbs a k j++[p]:=by
 have hl:=(List.getElem?_eq_some_iff.1 h).1;have e:a.take (j+1)=a.take j++[p]:=by rw[jpd,h];rfl
 unfold jbs;by_cases q:j<k
 ·rw[if_pos (by omega),if_pos (by omega),e]
 rw[if_neg (by omega),if_neg (by omega),e,List.drop_append,joS,show k+1-min j a.length=0 by omega,jp2,jo0]
theorem jj3(a:List Pr)(k:Nat)(h:k<a.length):jbs a k a.length=a.take k++a.drop (k+1):=by unfold jbs;rw[if_neg (by omega),jpa]
theorem jj1(a:List Pr)(k:Nat):(a.take k++a.drop (k+1)).map Prod.fst=jcI (a.map Prod.fst) k:=by unfold jcI;rw[jpt,List.map_take,List.map_drop]
theorem Uv(b:List Pr)(v:Value)(l id:Int)(w:World)(h:zK w v b)(ak:b.length<=1000000):
  Calls prog 130 #[.agg #[v,.int .i64 l],.int .i64 id] w fun e w'=>∃v' aw,e=.returned (.tuple #[.agg #[v',.int .i64 (qr ⟨b.map Prod.fst,l⟩ id).ls.next],.int .i64 (qr ⟨b.map Prod.fst,l⟩ id).bad])/\WrQ w v b (.slice none 0 0) (qr ⟨b.map Prod.fst,l⟩ id).ls.es w' v' aw:=by
 obtain⟨i0,hi,am,aq,ar⟩:=info_parts jjm;rw[jbq];dsimp only;obtain⟨A,d,rfl,aA⟩:=h.empty;obtain⟨W,N⟩:∃W,W=(w.alloc (.cells #[.slice A b.length d,.int .i64 l] 37)).alloc (.cells #[.slice none 0 0,.int .i64 0] 37):=⟨_,rfl⟩
 have x:Below w.heap.size w W:=by rw[N];exact((joL _ w).alloc (joJ _) _).alloc (by simp) _
 have au:W.heap.size=w.heap.size+2:=by rw[N];simp
 have C0:ja W w.heap.size 37 #[.slice A b.length d,.int .i64 l]:=by rw[N];exact(ja.new _ _ _).alloc _
 have C1:ja W (w.heap.size+1) 37 #[.slice none 0 0,.int .i64 0]:=by
  rw[N];have:=ja.new (w.alloc (.cells #[.slice A b.length d,.int .i64 l] 37)) 37 #[.slice none 0 0,.int .i64 0]
  simpa using this
 have U:=joI h;have s:=joI (Zl b (.slice A b.length d) l id W (h.below x (joJ _)) ak)
 have X:=joI x;have Y:=joI C0
 have Z:=joI C1;have HT:Hid (∀c,Below W.heap.size W c->ja c w.heap.size 37 #[.slice A b.length d,.int .i64 l]/\ja c (w.heap.size+1) 37 #[.slice none 0 0,.int .i64 0]/\Below w.heap.size w c/\w.heap.size+2<=c.heap.size):=fun c r =>
  ⟨jb Y.out r (by omega),jb Z.out r (by omega),X.out.trans (r.mono (by omega)),by have:=r.size;omega⟩
 clear C0 C1 h x au;subst N;cases O:vM (b.map Prod.fst) id with
 | none =>
  rw[O]at s;dsimp only[Gw]at s;clear O;unfold XK;dsimp only;go_enter func130,ntmps130;go_wp2_with fail;refine s.out.mono ?_;rintro e c ⟨rfl,r⟩;obtain⟨t,m,n,av⟩:=HT.out c r;have c0:=t.cell 0
  have c1:=t.cell 1;have r0:=m.cell 0
  have r1:=m.cell 1;have f0:=m.frozen 0
  have f1:=m.frozen 1;simp only[joQ,joP,joO]at c0 c1 r0 r1;have I:=(m.set 0 (.slice A b.length d)).set 1 (.int .i64 l)
  rw[Qs]at I;have HB:Hid (Below w.heap.size w ((c.setCell ⟨w.heap.size+1,0,none⟩ (.slice A b.length d)).setCell ⟨w.heap.size+1,1,none⟩ (.int .i64 l))) :=
   (n.setCell (p:=⟨w.heap.size+1,0,none⟩) (by show _<=_+1;omega) _).setCell (p:=⟨w.heap.size+1,1,none⟩) (by show _<=_+1;omega) _
  clear s r n t m;go_wp2_with fail;refine bodyPost_ret (jkw rfl _ _ (w.heap.size+1) _ rfl I rfl) rfl ?_;exact⟨_,b,rfl,.same U.out rfl HB.out⟩
 | some k =>
 rw[O]at s;dsimp only[Gw]at s;have hk:k<b.length:=by have:=(Yu O).1;rwa [jo8]at this
 clear O;unfold XK;dsimp only;go_enter func130,ntmps130;go_wp2_with fail;refine s.out.mono ?_;rintro e c ⟨rfl,r⟩;obtain⟨t,m,n,av⟩:=HT.out c r;have c1:c.cell? ⟨w.heap.size,1,none⟩=some (.int .i64 l):=t.cell 1
 have a7:=joI t;have a8:=joI m
 have V:=joI n;have H1:=joI (U.out.below n (joJ _))
 clear s r t m n;go_wp2_with fail;go_loopw [8] (fun i wr=>∃(j:Nat) (u:Value),j<=b.length/\i=.int .i64 j/\yI c wr c.heap.size u (jbs b k j) l) (fun i _=>b.length-(intOf i).toNat)
 case atStart =>
  refine⟨0,.slice none 0 0,joT _,rfl,?_⟩;have:=yI.start c l
  unfold jbs;rw[if_pos (joT _),List.take_zero];exact this
 case round =>
 obtain⟨j,u,hj,rfl,a⟩:=hrel;have E:=a.below
 have e0:wr.cell? ⟨w.heap.size,0,none⟩=some (.slice A b.length d):=(jb a7.out E (by omega)).cell 0;have g0:wr.cell? ⟨c.heap.size,0,none⟩=some u:=a.head.cell 0
 by_cases C:j<b.length
 ·obtain⟨p,D⟩:∃p,b[j]?=some p:=⟨_,joM C⟩
  by_cases z:j=k
  ·have CA:=joI (show jbs b k (j+1)=jbs b k j by rw[z];exact jmi b k p (z▸D));have q:=joI (show yI c wr c.heap.size u (jbs b k (j+1)) l by rw[CA.out];exact a)
   clear a D E;go_wp2_with fail;go_roundw
   case rel=>exact⟨j+1,u,C,by go_num,q.out⟩
   case measure=>simp[intOf];omega
  have CO:=joI (jmh b k j p D z);have hq:((j:Int) != (k:Int))=true:=bne_iff_ne.2 (by omega)
  obtain⟨g,K,pa,pc,e1,_,hg,e2,d0,d1,d2,d3⟩:=(H1.out.below E (joJ _)).here D;cases e1;have ay:=jj2 b k j
  have q:=joI a;have HO:=joI (jA a.row (joT _))
  have ae:=joI a.ne;obtain⟨P,Q,rfl,_⟩:=je a.row;have aa:=joI a.head
  have g1:∀o,(wr.alloc o).cell? ⟨c.heap.size,0,none⟩=some (.slice P (jbs b k j).length Q):=fun o=>(a.head.alloc o).cell 0;generalize ag:(jbs b k j)=R at *
  rw[e2]at d2;clear a D E ag;go_wp2_with fail;go_region_law (refine zb rfl (.tmp 29) (.tmp 35) 35 rfl 112 i0 _ 4 56 underlying35 hi am aq ar rfl (by decide) (.slice P R.length Q) R.length (jl R) (by simp[Act.eval]) (by exact(HO.out.alloc _).drew) ⟨wr.heap.size,0,none⟩ 1 1 [.int .i64 p.1.1.kind,.string (B p.1.1.raw),.slice pa p.1.1.fields.length pc,.int .i64 p.1.2] (by simp[Act.eval]) rfl (jp wr 112 [.int .i64 p.1.1.kind,.string (B p.1.1.raw),.slice pa p.1.1.fields.length pc,.int .i64 p.1.2]) (by intro u hu;simp at hu;rcases hu with rfl | rfl | rfl | rfl<;>rfl) (by unfold maxLen;omega) (by omega) ?_;intro v' w' ho ah af;obtain⟨⟨g',K,rfl⟩,y,ax,ai,aj⟩:=xN aa.out HO.out ae.out (((joL _ wr).alloc (joJ _) _).drew) ho ah af;have k0:w'.cell? ⟨c.heap.size,0,none⟩=some (.slice P R.length Q):=y.cell 0;have aB:=y.frozen 0)
  all_goals go_wp2_with fail
  all_goals
   have J:=q.out.snoc (p:=p) (by unfold zd;rw[e2];exact ho) y ai aj;go_roundw
   case rel=>exact⟨j+1,_,C,by go_num,by rw[CO.out];exact J⟩
   case measure=>simp[intOf];omega
 obtain rfl:j=b.length:=by omega
 have m:=jb a8.out E (by omega);have G1:wr.cell? ⟨c.heap.size,1,none⟩=some (.int .i64 l):=a.head.cell 1
 obtain⟨P,Q,rfl,_⟩:=je a.row;have r0:=m.cell 0
 have r1:=m.cell 1;have f0:=m.frozen 0
 have f1:=m.frozen 1;simp only[joQ,joP,joO]at r0 r1;have G:=joI (jj1 b k)
 have H:Hid (∀p∈b.take k++b.drop (k+1),p∈b\/(p.2=.slice none 0 0/\p.1.1.fields=[])):=fun p D=>by
  rcases List.mem_append.1 D with h|h
  ·exact .inl (jpM h)
  exact .inl (jpz h)
 rw[jj3 b k hk]at *
 generalize b.take k++b.drop (k+1)=L at *
 have I:=(m.set 0 (.slice P L.length Q)).set 1 (.int .i64 l);rw[Qs]at I;have q:=joI a
 clear a E m;go_wp2_with fail;refine bodyPost_ret (jkw rfl _ _ (w.heap.size+1) _ rfl I rfl) rfl ?_;refine⟨_,L,rfl,?_⟩;exact q.out.end_ V.out U.out (fs:=[]) ⟨none,0,rfl,joJ _,fun i f h=>by simp at h⟩ G.out H.out (jqf _) (by omega) 0 1 _ _
theorem jld(a:List Pr)(k:Nat)(q:Pr)(h:k<a.length):(a.set k q).take (k+1)=(a.set k q).take k++[q]:=by rw[jpd,List.getElem?_set_self h];rfl
theorem jlc(a:List Pr)(k j:Nat)(p q:Pr)(h:a[j]?=some p)(b:j≠k):(a.set k q).take (j+1)=(a.set k q).take j++[p]:=by rw[jpd,List.getElem?_set_ne (fun e=>b e.symm),h];rfl
theorem Kk(d:List Pr)(v x:Value)(z id:Int)(fs:List Fld)(w:World)(h:zK w v d)(aU:d.length<=1000000)(hx:vP w x fs)(Q:jbN fs):
  Calls prog 129 #[.agg #[v,.int .i64 z],.int .i64 id,x] w fun e w'=>∃v' aZ,e=.returned (.tuple #[.agg #[v',.int .i64 (zy ⟨d.map Prod.fst,z⟩ id fs).ls.next],.int .i64 (zy ⟨d.map Prod.fst,z⟩ id fs).at_,.int .i64 (zy ⟨d.map Prod.fst,z⟩ id fs).bad])/\WrQ w v d x (zy ⟨d.map Prod.fst,z⟩ id fs).ls.es w' v' aZ:=by
 obtain⟨i0,hi,aB,aC,aD⟩:=info_parts jjm;rw[KQ];dsimp only;obtain⟨A,y,rfl,bo⟩:=h.empty;obtain⟨o,s,rfl,_,_⟩:=_root_.id hx;obtain⟨W,hW⟩:∃W,W=(w.alloc (.cells #[.slice A d.length y,.int .i64 z] 37)).alloc (.cells #[.slice none 0 0,.int .i64 0] 37):=⟨_,rfl⟩
 have aj:Below w.heap.size w W:=by rw[hW];exact((joL _ w).alloc (joJ _) _).alloc (by simp) _
 have aV:W.heap.size=w.heap.size+2:=by rw[hW];simp
 have C0:ja W w.heap.size 37 #[.slice A d.length y,.int .i64 z]:=by rw[hW];exact(ja.new _ _ _).alloc _
 have C1:ja W (w.heap.size+1) 37 #[.slice none 0 0,.int .i64 0]:=by
  rw[hW];have:=ja.new (w.alloc (.cells #[.slice A d.length y,.int .i64 z] 37)) 37 #[.slice none 0 0,.int .i64 0]
  simpa using this
 have H0:=joI h;have HX:=joI hx
 have FN:=joI (Zl d (.slice A d.length y) z id W (h.below aj (joJ _)) aU);have aH:=joI aj
 have aJ:=joI C0;have aK:=joI C1
 have HT:Hid (∀c,Below W.heap.size W c->ja c w.heap.size 37 #[.slice A d.length y,.int .i64 z]/\ja c (w.heap.size+1) 37 #[.slice none 0 0,.int .i64 0]/\Below w.heap.size w c/\w.heap.size+2<=c.heap.size):=fun c D =>
  ⟨jb aJ.out D (by omega),jb aK.out D (by omega),aH.out.trans (D.mono (by omega)),by have:=D.size;omega⟩
 have av:Hid (∀c,Below W.heap.size W c->ja ((c.setCell ⟨w.heap.size+1,0,none⟩ (.slice A d.length y)).setCell ⟨w.heap.size+1,1,none⟩ (.int .i64 z)) (w.heap.size+1) 37 #[.slice A d.length y,.int .i64 z]/\Below w.heap.size w ((c.setCell ⟨w.heap.size+1,0,none⟩ (.slice A d.length y)).setCell ⟨w.heap.size+1,1,none⟩ (.int .i64 z))):=fun c D=>by
  obtain⟨_,n,t,_⟩:=HT.out c D;have U:=(n.set 0 (.slice A d.length y)).set 1 (.int .i64 z)
  rw[Qs]at U;exact⟨U,(t.setCell (p:=⟨w.heap.size+1,0,none⟩) (jqf _) _).setCell (p:=⟨w.heap.size+1,1,none⟩) (jqf _) _⟩
 clear C0 C1 h aj aV hx;subst hW;cases hf:vM (d.map Prod.fst) id with
 | none =>
  rw[hf]at FN;dsimp only[Gw]at FN;clear hf;unfold JJ;dsimp only;go_enter func129,ntmps129;go_wp2_with fail;refine FN.out.mono ?_;rintro e c ⟨rfl,D⟩;obtain⟨O,n,t,aF⟩:=HT.out c D;obtain⟨U,HB⟩:=av.out c D;have c0:=O.cell 0
  have c1:=O.cell 1;have r0:=n.cell 0
  have r1:=n.cell 1;have f0:=n.frozen 0
  have f1:=n.frozen 1;simp only[joQ,joP,joO]at c0 c1 r0 r1;have Y:=joI U
  have ah:=joI HB;clear FN D t O n U HB;go_wp2_with fail;refine bodyPost_ret (Vt rfl _ _ (w.heap.size+1) _ rfl Y.out rfl) rfl ?_;exact⟨_,d,rfl,.same H0.out rfl ah.out⟩
 | some k =>
 rw[hf]at FN;dsimp only[Gw]at FN;have hk:k<d.length:=by have:=(Yu hf).1;rwa [jo8]at this
 clear hf;obtain⟨p0,af⟩:∃p,d[k]?=some p:=⟨_,joM hk⟩
 have aO:=joI af;have aA:qD fs<=11:=Vf fs
 by_cases J:qD fs=0
 ·rw[Vw J];dsimp only;obtain⟨q,hq⟩:∃q:Pr,q=((zI fs,p0.1.2),.slice o fs.length s):=⟨_,rfl⟩
  have au:=joI (jdc d k p0 (zI fs) (.slice o fs.length s) af);have aw:=joI (jld d k q hk)
  have ax:=joI (fun j p=>jlc d k j p q);have HQ:=joI hq
  have ag:Hid (∀p∈d.set k q,p∈d\/(p.2=.slice o fs.length s/\p.1.1.fields=fs)):=fun p hp=>by
   rcases jqK hp with h|h
   ·exact .inl h
   right;rw[h,hq];exact⟨rfl,rfl⟩
  have CK:Hid (∀c,vP c (.slice o fs.length s) fs->Calls prog 173 #[.slice o fs.length s] c fun e w'=>e=.returned (.tuple #[.int .i64 (vz fs),.int .i64 0])/\Below c.heap.size c w'):=fun c h1=>by have:=yN fs _ c h1 (by have:=Q.len;omega) (fun f hf=>by have:=Q.each f hf;omega);rw[J]at this;exact this
  have IT:Hid (∀c,vP c (.slice o fs.length s) fs->Calls prog 175 #[.slice o fs.length s] c fun e w'=>e=.returned (.agg #[.int .i64 3,.string (B (jO fs)),.slice o fs.length s])/\Below c.heap.size c w'):=fun c h1 =>
   YQ fs o _ s c h1 Q.len Q.each
  obtain⟨T,hT⟩:∃T,T=vz fs:=⟨_,rfl⟩
  obtain⟨G,hG⟩:∃G,G=jO fs:=⟨_,rfl⟩
  have HG:=joI hG;rw[<- hT]at CK;rw[<- hG]at IT;obtain⟨L,hL⟩:∃L,L=d.set k q:=⟨_,rfl⟩
  have aN:Hid (L.length=d.length):=by show _=_;rw[hL,jrp]
  rw[<- hL]at ag aw ax;have HL:=joI hL
  clear J aA af hT hG hL hq;go_enter func129,ntmps129;go_wp2_with fail;refine FN.out.mono ?_;rintro e c ⟨rfl,D⟩;obtain⟨_,_,t,_⟩:=HT.out c D;have X:=joI (CK.out c (HX.out.below t (joJ _)))
  have B1:=joI D;clear FN D t CK;go_wp2_with fail;refine X.out.mono ?_;rintro e C ⟨rfl,b2⟩;have P:=B1.out.trans (b2.mono B1.out.size)
  obtain⟨O,n,ae,aF⟩:=HT.out C P;have c1:C.cell? ⟨w.heap.size,1,none⟩=some (.int .i64 z):=O.cell 1
  have aL:=joI O;have aM:=joI n
  have aG:=joI ae;have H1:=joI (H0.out.below ae (joJ _))
  have aP:=joI (HX.out.below ae (joJ _));clear X b2 P O n ae B1;go_wp2_with fail;go_loopw [13] (fun i wr=>∃(j:Nat) (u:Value),j<=d.length/\i=.int .i64 j/\yI C wr C.heap.size u (L.take j) z) (fun i _=>d.length-(intOf i).toNat)
  case atStart=>exact⟨0,.slice none 0 0,joT _,rfl,yI.start C z⟩
  case round =>
  obtain⟨j,u,hj,rfl,a⟩:=hrel;have J:=a.below
  have aq:=J.size;have e0:wr.cell? ⟨w.heap.size,0,none⟩=some (.slice A d.length y):=(jb aL.out J (by omega)).cell 0
  obtain⟨ua,uc,rfl,_⟩:=je a.row;by_cases am:j<d.length
  ·obtain⟨p,hp⟩:∃p,d[j]?=some p:=⟨_,joM am⟩
   obtain⟨g,be,pa,pc,e1,_,hg,e2,d0,d1,d2,d3⟩:=(H1.out.below J (joJ _)).here hp;cases e1;rw[e2]at d2;have bm:(L.take j).length<=j:=by rw[joS];omega
   by_cases R:j=k
   ·have hq:((j:Int)==(k:Int))=true:=by simp[R]
    have SJ:Hid (L.take (j+1)=L.take j++[q]):=by show _=_;rw[R];exact aw.out
    have aT:p=p0:=by have:=aO.out;rw[<- R,hp]at this;exact joN this
    subst aT;obtain⟨wa,a8⟩:∃wa,wa=wr.alloc (.cells #[.int .i64 p.1.1.kind,.string (B p.1.1.raw),.slice pa p.1.1.fields.length pc,.int .i64 p.1.2] 112):=⟨_,rfl⟩
    have aQ:=joI (IT.out wa (aP.out.below (J.trans (by rw[a8];exact(joL _ wr).alloc (by omega) _)) (joJ _)));have aI:Hid (ja wa wr.heap.size 112 #[.int .i64 p.1.1.kind,.string (B p.1.1.raw),.slice pa p.1.1.fields.length pc,.int .i64 p.1.2]):=by show ja _ _ _ _;rw[a8];exact ja.new _ _ _
    have K:=joI (show yI C wa C.heap.size (.slice ua (L.take j).length uc) (L.take j) z by rw[a8];exact a.alloc _);have aa:Hid (wa.heap.size=wr.heap.size+1):=by show _=_;rw[a8];simp
    have aY:=a.head.lt;have ai:Hid (∀r,(Value.slice ua (L.take j).length uc).ownBlock=some r->r≠wr.heap.size):=fun r e=>by have:=(a.row.lt r e).2;omega
    generalize ak:L.take j=cq at *
    clear a hp J ak R;subst a8;go_wp2_with fail;refine aQ.out.mono ?_;rintro e w4 ⟨rfl,b4⟩;have ar:=joI (K.out.kept b4)
    have E:=jb aI.out b4 (by rw[aa.out];omega);have aR:=b4.size
    rw[aa.out]at aR;have I:wr.heap.size≠C.heap.size:=by omega
    have aX:C.heap.size≠wr.heap.size:=by omega
    have H:=((ar.out.other (b:=wr.heap.size) 0 (.int .i64 3) aq I ai.out).other (b:=wr.heap.size) 1 (.string (B G)) aq I ai.out).other (b:=wr.heap.size) 2 (.slice o fs.length s) aq I ai.out;have V:ja (((w4.setCell ⟨wr.heap.size,0,none⟩ (.int .i64 3)).setCell ⟨wr.heap.size,1,none⟩ (.string (B G))).setCell ⟨wr.heap.size,2,none⟩ (.slice o fs.length s)) wr.heap.size 112 #[.int .i64 3,.string (B G),.slice o fs.length s,.int .i64 p.1.2]:=by have:=((E.set 0 (.int .i64 3)).set 1 (.string (B G))).set 2 (.slice o fs.length s);simpa [List.setIfInBounds_toArray,List.set]using this
    have q0:=E.cell 0;have q1:=E.cell 1
    have q2:=E.cell 2;simp only[joQ,joP,joO]at q0 q1 q2;have bg:=E.frozen 0
    have bi:=E.frozen 1;have bj:=E.frozen 2
    have s0:(((w4.setCell ⟨wr.heap.size,0,none⟩ (.int .i64 3)).setCell ⟨wr.heap.size,1,none⟩ (.string (B G))).setCell ⟨wr.heap.size,2,none⟩ (.slice o fs.length s)).cell? ⟨wr.heap.size,0,none⟩=some (.int .i64 3):=V.cell 0;have s1:(((w4.setCell ⟨wr.heap.size,0,none⟩ (.int .i64 3)).setCell ⟨wr.heap.size,1,none⟩ (.string (B G))).setCell ⟨wr.heap.size,2,none⟩ (.slice o fs.length s)).cell? ⟨wr.heap.size,1,none⟩=some (.string (B G)):=V.cell 1
    have s2:(((w4.setCell ⟨wr.heap.size,0,none⟩ (.int .i64 3)).setCell ⟨wr.heap.size,1,none⟩ (.string (B G))).setCell ⟨wr.heap.size,2,none⟩ (.slice o fs.length s)).cell? ⟨wr.heap.size,2,none⟩=some (.slice o fs.length s):=V.cell 2;have s3:(((w4.setCell ⟨wr.heap.size,0,none⟩ (.int .i64 3)).setCell ⟨wr.heap.size,1,none⟩ (.string (B G))).setCell ⟨wr.heap.size,2,none⟩ (.slice o fs.length s)).cell? ⟨wr.heap.size,3,none⟩=some (.int .i64 p.1.2):=V.cell 3
    have k0:(((w4.setCell ⟨wr.heap.size,0,none⟩ (.int .i64 3)).setCell ⟨wr.heap.size,1,none⟩ (.string (B G))).setCell ⟨wr.heap.size,2,none⟩ (.slice o fs.length s)).cell? ⟨C.heap.size,0,none⟩=some (.slice ua cq.length uc):=H.head.cell 0;have a7:=H.row
    have aE:=H.below.size;have A5:=joI (H.alloc (.cells #[.int .i64 3,.string (B G),.slice o fs.length s,.int .i64 p.1.2] 112))
    have hv:=jp (((w4.setCell ⟨wr.heap.size,0,none⟩ (.int .i64 3)).setCell ⟨wr.heap.size,1,none⟩ (.string (B G))).setCell ⟨wr.heap.size,2,none⟩ (.slice o fs.length s)) 112 [.int .i64 3,.string (B G),.slice o fs.length s,.int .i64 p.1.2];rw[show(((w4.setCell ⟨wr.heap.size,0,none⟩ (.int .i64 3)).setCell ⟨wr.heap.size,1,none⟩ (.string (B G))).setCell ⟨wr.heap.size,2,none⟩ (.slice o fs.length s)).heap.size=w4.heap.size by simp[World.setCell]]at hv aE;have HV:=joI hv
    clear hv H V E b4;go_wp2_with (at_builtin;refine wpList_append_own _ rfl _ _ 35 rfl C.heap.size 112 i0 _ 4 56 underlying35 hi aB aC aD rfl (by decide) _ _ _ rfl (a7.alloc _) ⟨w4.heap.size,0,none⟩ 1 1 _ rfl rfl HV.out (by intro u hu;simp at hu;rcases hu with rfl | rfl | rfl | rfl<;>rfl) (by unfold maxLen;omega) (by omega) (by first | omega | (simp only[joZ];omega) | (simp[World.setCell];omega)) ?_);intro v' w6 m l _;have h6:=(A5.out.grown_head l)
    have Z:=joI (A5.out.grow (p:=q) (by rw[HQ.out,HG.out]at *;exact m) l);have k6:w6.cell? ⟨C.heap.size,0,none⟩=some (.slice ua cq.length uc):=h6.cell 0
    have aW:=h6.frozen 0;obtain⟨g',ay,rfl⟩:=ownsRow_succ m;clear m l h6;go_wp2_with fail;go_roundw
    case rel=>exact⟨j+1,_,am,by go_num,by rw[SJ.out];exact Z.out⟩
    case measure=>simp[intOf];omega
   have hq:((j:Int)==(k:Int))=false:=beq_eq_false_iff_ne.2 (by omega);have SJ:Hid (L.take (j+1)=L.take j++[p]):=ax.out j p hp R
   have K:=joI ((a.alloc (.cells #[.int .i64 p.1.1.kind,.string (B p.1.1.raw),.slice pa p.1.1.fields.length pc,.int .i64 p.1.2] 112)).alloc (.cells #[.int .i64 p.1.1.kind,.string (B p.1.1.raw),.slice pa p.1.1.fields.length pc,.int .i64 p.1.2] 112));have k0:wr.cell? ⟨C.heap.size,0,none⟩=some (.slice ua (L.take j).length uc):=a.head.cell 0
   have a7:=a.row;have aY:=a.head.lt
   have hv:=jp (wr.alloc (.cells #[.int .i64 p.1.1.kind,.string (B p.1.1.raw),.slice pa p.1.1.fields.length pc,.int .i64 p.1.2] 112)) 112 [.int .i64 p.1.1.kind,.string (B p.1.1.raw),.slice pa p.1.1.fields.length pc,.int .i64 p.1.2];rw[joZ]at hv;have HV:=joI hv
   generalize ak:L.take j=cq at *
   clear a hp J ak hv R;go_wp2_with (at_builtin;refine wpList_append_own _ rfl _ _ 35 rfl C.heap.size 112 i0 _ 4 56 underlying35 hi aB aC aD rfl (by decide) _ _ _ rfl ((a7.alloc _).alloc _) ⟨wr.heap.size+1,0,none⟩ 1 1 _ rfl rfl HV.out (by intro u hu;simp at hu;rcases hu with rfl | rfl | rfl | rfl<;>rfl) (by unfold maxLen;omega) (by omega) (by first | omega | (simp only[joZ];omega) | (simp[World.setCell];omega)) ?_);intro v' w6 m l _;have h6:=(K.out.grown_head l)
   have Z:=joI (K.out.grow (p:=p) (by unfold zd;rw[e2];exact m) l);have k6:w6.cell? ⟨C.heap.size,0,none⟩=some (.slice ua cq.length uc):=h6.cell 0
   have aW:=h6.frozen 0;obtain⟨g',ay,rfl⟩:=ownsRow_succ m;clear m l h6;go_wp2_with fail;go_roundw
   case rel=>exact⟨j+1,_,am,by go_num,by rw[SJ.out];exact Z.out⟩
   case measure=>simp[intOf];omega
  obtain rfl:j=d.length:=by omega
  rw[show L.take d.length=L by rw[<- aN.out,jpa]]at *
  have n:=jb aM.out J (by omega);have G1:wr.cell? ⟨C.heap.size,1,none⟩=some (.int .i64 z):=a.head.cell 1
  have G0:wr.cell? ⟨C.heap.size,0,none⟩=some (.slice ua L.length uc):=a.head.cell 0;have r0:=n.cell 0
  have r1:=n.cell 1;have f0:=n.frozen 0
  have f1:=n.frozen 1;simp only[joQ,joP,joO]at r0 r1;have U:=(n.set 0 (.slice ua L.length uc)).set 1 (.int .i64 z)
  rw[Qs]at U;have Y:=joI U
  have K:=joI a;clear a J n U;go_wp2_with fail;refine bodyPost_ret (Vt rfl _ _ (w.heap.size+1) _ rfl Y.out rfl) rfl ?_;refine⟨_,L,rfl,?_⟩;exact K.out.end_ aG.out H0.out HX.out (by rw[HL.out,HQ.out];exact au.out) ag.out (jqf _) (by omega) 0 1 _ _
 rw[YM J];dsimp only;have aS:(((qD fs:Nat):Int) != 0)=true:=bne_iff_ne.2 (by omega)
 obtain⟨N,hN⟩:∃N,N=qD fs:=⟨_,rfl⟩
 obtain⟨T,hT⟩:∃T,T=vz fs:=⟨_,rfl⟩
 have CK:Hid (∀c,vP c (.slice o fs.length s) fs->Calls prog 173 #[.slice o fs.length s] c fun e w'=>e=.returned (.tuple #[.int .i64 T,.int .i64 (N:Nat)])/\Below c.heap.size c w'):=fun c h1=>by rw[hN,hT];exact yN fs _ c h1 (by have:=Q.len;omega) (fun f hf=>by have:=Q.each f hf;omega)
 rw[<- hN]at aS aA ⊢;rw[<- hT];clear J af hN hT;go_enter func129,ntmps129;go_wp2_with fail;refine FN.out.mono ?_;rintro e c ⟨rfl,D⟩;obtain⟨O,n,t,aF⟩:=HT.out c D;have X:=joI (CK.out c (HX.out.below t (joJ _)))
 have B1:=joI D;clear FN D t O n;go_wp2_with fail;refine X.out.mono ?_;rintro e C ⟨rfl,b2⟩;have P:=B1.out.trans (b2.mono B1.out.size)
 obtain⟨O,n,t,aa⟩:=HT.out C P;obtain⟨U,HB⟩:=av.out C P;have c0:=O.cell 0
 have c1:=O.cell 1;have r0:=n.cell 0
 have r1:=n.cell 1;have f0:=n.frozen 0
 have f1:=n.frozen 1;simp only[joQ,joP,joO]at c0 c1 r0 r1;have Y:=joI U
 have ah:=joI HB;clear X b2 P t O n U HB;go_wp2_with fail;refine bodyPost_ret (Vt rfl _ _ (w.heap.size+1) _ rfl Y.out rfl) rfl ?_;exact⟨_,d,rfl,.same H0.out rfl ah.out⟩
end
end Go.Proofs.YtbapfpekklcicaaGreatDoor
