/- Texts put together:JB,EM,EN,EV,NS,NT,NU,NV,NL,NM,NP,NW,EB,EC,EO,EW,HA,ES. -/
import Derived.BigFrame
import Derived.Test.YtbapfpekklcicaaGreatDoorBtx18
set_option linter.unusedVariables false
set_option maxRecDepth 100000
set_option maxHeartbeats 16000000
namespace Go.Proofs.YtbapfpekklcicaaGreatDoor
open Go.RowKit Go.Shelf Tryz
section
attribute [local go_sem] joY
section
variable {o:Oper} {a:Act} {w:World} {K:Act->World->Prop} {Q:Exit->Act->World->Prop}
theorem jdw{x y:Operand}{T:TypeId}{u z p:Value}(d:(Instr.indexAt T u z).run prog w=.ok p w)(c:o.op=Op.indexAddr T x y)(hx:a.eval x=u)(e:a.eval y=z)(b:K (a.put o.dst p) w):Oper.wp prog o a w K Q :=
 JZ (by simp only[execOp,c,hx,e];simp[d]) b
theorem jdv{x:Operand}{T:TypeId}{p u:Value}(hl:(Instr.loadAt T p).run prog w=.ok u w)(c:o.op=Op.load T x)(hx:a.eval x=p)(b:K (a.put o.dst u) w):Oper.wp prog o a w K Q :=
 JZ (by simp only[execOp,c,hx];simp[hl]) b
end
section
variable {o:Oper} {a:Act} {w:World} {K:Act->World->Prop} {Q:Exit->Act->World->Prop}
theorem jcc{v:Value}{w':World}(e:(execOp a.eval o).run prog w=.ok (.value v) w')(b:K (a.put o.dst v) w'):Oper.wp prog o a w K Q:=by unfold Oper.wp;rw[e];exact b
theorem jgG{x:Operand}{k i:Int}{b:Option Addr}{d c:Nat}(f:o.op=Op.buildSlice 55 1 #[(0,x)])(hx:a.eval x=.agg #[.int .i64 k,.int .i64 i,.slice b d c])
  (e:K (a.put o.dst (.slice (some ⟨w.heap.size,0,none⟩) 1 1)) (w.alloc (.cells #[.int .i64 k,.int .i64 i,.slice b d c] 75))):Oper.wp prog o a w K Q:=by
 refine jcc ?_ e;simp only[execOp,f];rw[show(Array.map (fun(p:Nat×Operand)=>match p with | (i,x)=>(i,a.eval x)) #[((0:Nat),x)])=#[((0:Nat),Value.agg #[.int .i64 k,.int .i64 i,.slice b d c])] from by rw[<- hx];simp];kernel_rfl
end
end
section
attribute [local go_sem] joY
def xg:List Ed->List Value->List Value
 | ed::r,fv::q=>.int .i64 ed.kind :: .int .i64 ed.id::fv::xg r q
 | _,_=>[]
theorem Vd:∀(l:List Ed) (d:List Value) (c:Ed) (v:Value),d.length=l.length->xg (l++[c]) (d++[v])=xg l d++[.int .i64 c.kind,.int .i64 c.id,v]
 | [],[],c,v,_=>rfl
 | a::l,b::d,c,v,h=>by show _::_::_::xg (l++[c]) (d++[v])=_;rw[Vd l d c v (by simpa using h)];rfl
 | [],_::_,_,_,h=>by simp at h
 | _::_,[],_,_,h=>by simp at h
theorem Yw:∀(l:List Ed) (c:List Value) (i:Nat) (d:Ed) (v:Value),l[i]?=some d->c[i]?=some v->(xg l c)[i*3]?=some (.int .i64 d.kind)/\(xg l c)[i*3+1]?=some (.int .i64 d.id)/\(xg l c)[i*3+1+1]?=some v
 | [],_,i,_,_,h,_=>by simp at h
 | _::_,[],i,_,_,_,h=>by simp at h
 | a::l,b::c,0,d,v,e,f=>by simp at e f;subst e f;exact⟨rfl,rfl,rfl⟩
 | a::l,b::c,i+1,d,v,e,f=>by obtain⟨x,y,z⟩:=Yw l c i d v (by simpa using e) (by simpa using f);rw[show(i+1)*3=i*3+3 by omega];exact⟨x,y,z⟩
structure yr(lo:Nat)(w:World)(v:Value)(eds:List Ed)(fvs:List Value):Prop where
 row:w.ownsRow lo 75 3 v eds.length (xg eds fvs)
 len:fvs.length=eds.length
 each:∀(i:Nat) ed fv,eds[i]?=some ed->fvs[i]?=some fv->w.ownsRow lo 148 2 fv ed.fields.length (ju ed.fields)
theorem yr.below{lo:Nat}{w w':World}{v:Value}{eds:List Ed}{fvs:List Value}{N:Nat}(h:yr lo w v eds fvs)(b:Below N w w')(a:w.heap.size<=N):yr lo w' v eds fvs :=
 ⟨jN h.row b a,h.len,fun i c d e f=>jN (h.each i c d e f) b a⟩
theorem yr.edv{lo:Nat}{w:World}{v:Value}{eds:List Ed}{fvs:List Value}(h:yr lo w v eds fvs):EdV w v eds:=by
 by_cases o:eds=[]
 ·subst o;obtain⟨A,c,rfl,b⟩:=je h.row;exact⟨A,c,rfl,b,fun i m l=>by simp at l⟩
 have q:eds.length≠0:=fun e=>o (List.length_eq_zero_iff.1 e);have a:=h.row
 obtain⟨g,f,d⟩:=jpO a (by omega);have b:eds.length<=f:=by obtain⟨A,c,e,b⟩:=je h.row;rw[d]at e;cases e;exact b
 rw[d]at a;refine⟨_,f,d,b,fun i m l => ?_⟩;have n:=(List.getElem?_eq_some_iff.1 l).1
 obtain⟨j,k⟩:∃j,fvs[i]?=some j:=⟨_,joM (by rw[h.len];exact n)⟩
 obtain⟨p,a1,a2⟩:=Yw eds fvs i m j l k;refine⟨g,0,j,rfl,(a.lt g rfl).2,?_,?_,?_,ZC.own (h.each i m j l k)⟩
 ·rw[jpl,jo1 a (i*3) (by omega),p]
 ·rw[jpl,jo1 a (i*3+1) (by omega),a1]
 rw[jpl,jo1 a (i*3+1+1) (by omega),a2]
theorem jcl:(prog.info? 75).map (fun i=>(i.zero,i.size,i.bytes))=some (some (.agg #[.int .i64 0,.int .i64 0,.slice none 0 0]),3,40):=by kernel_rfl
def Szs(w:World)(v:Value)(rs:List Stz):Prop :=
 ∃A cap,v=.slice A rs.length cap/\rs.length<=cap/\∀(i:Nat) (s:Stz),rs[i]?=some s->∃b off fv,A=some ⟨b,off,none⟩/\b<w.heap.size/\w.cell? ⟨b,off+i*2,none⟩=some (.int .i64 s.1)/\w.cell? ⟨b,off+i*2+1,none⟩=some fv/\vP w fv s.2
theorem jef {w : World} {base : Nat} {v : Value} {rs : List Stz} {fvs : List Value} (h : w.ownsRow base 100 2 v rs.length (qQ rs fvs)) (hl : fvs.length = rs.length) (he : ∀ (j : Nat) s x, rs[j]? = some s -> fvs[j]? = some x -> vP w x s.2) : Szs w v rs := by
  rcases jpH h with ⟨rfl, hn⟩ | ⟨g, cap, rfl⟩
  . have : rs = [] := List.length_eq_zero_iff.1 hn
    subst this
    exact ⟨none, 0, rfl, joJ _, fun i s h => by simp at h⟩
  refine ⟨_, cap, rfl, (by rcases h.2 with ⟨q, _⟩ | ⟨g', cap', cur, q, _, _, q2, _⟩; · cases q
                           cases q; exact q2), fun i s hi => ?_⟩
  have hlt : i < rs.length := (List.getElem?_eq_some_iff.1 hi).1
  obtain ⟨x, hx⟩ : ∃ x, fvs[i]? = some x := ⟨_, joM (by omega)⟩
  obtain ⟨a0, a1⟩ := YI rs fvs i s x hi hx
  exact ⟨g, 0, x, rfl, (jpJ h g rfl).2, by rw [jpl, jo1 h (i * 2) (by omega)]; exact a0, by rw [jpl, jo1 h (i * 2 + 1) (by omega)]; exact a1, he i s x hi hx⟩
theorem WZ.szs{lo:Nat}{w wr:World}{v:Value}{fvs:List Value}{a:List Stz}(h:WZ lo w wr v fvs a):Szs wr v a :=
 jef h.row h.len fun j s x b c=>ym (h.each j s x b c)
theorem Us(b:List Pr)(v:Value)(D:Int)(w:World)(h:zK w v b)(a8:b.length<=10000):
  Calls prog 41 #[.agg #[v,.int .i64 D]] w fun e w'=>∃u c,e=.returned u/\jcT w w' u c (VJ b):=by
 obtain⟨i0,hi,L,N,O⟩:=info_parts xz;have H:=joI h
 obtain⟨A,m,rfl,a7⟩:=h.empty;have Y:=joI ((joL w.heap.size w).alloc (joJ _) (.cells #[.slice A b.length m,.int .i64 D] 37))
 have X:=joI (ja.new w 37 #[.slice A b.length m,.int .i64 D]);clear h;go_enter func41,ntmps41;go_wp2_with fail;go_loopw [3,4] (fun u i wr=>∃(k:Nat) (c:List Value),k<=b.length/\i=.int .i64 k/\jcT w wr u c (VJ (b.take k))/\ja wr w.heap.size 37 #[.slice A b.length m,.int .i64 D]) (fun _ i _=>b.length-(intOf i).toNat)
 case atStart=>exact⟨0,[],joT _,rfl,⟨⟨rfl,.inl ⟨rfl,rfl⟩⟩,rfl,(fun j it x h=>by simp[VJ]at h),Y.out⟩,X.out⟩
 case round =>
 obtain⟨k,c,hk,rfl,a,d⟩:=hrel;have c0:wr.cell? ⟨w.heap.size,0,none⟩=some (.slice A b.length m):=d.cell 0
 by_cases z:k<b.length
 ·obtain⟨p,C⟩:∃p,b[k]?=some p:=⟨_,joM z⟩
  have R:=a.below;have Q:=H.out.below R (joJ _)
  obtain⟨g,s,V,W,e1,_,hg,P,d0,d1,d2,d3⟩:=Q.here C;cases e1;have q:=H.out.each p (joW C)
  rw[P]at d2 q;have E:=joI a
  have I:=joI q;have K:=joI (show VJ (b.take (k+1))=VJ (b.take k)++[p.1.1] by unfold VJ;rw[jpd,C];simp)
  have y:(VJ (b.take k)).length=k:=by unfold VJ;rw[jo8,joS];omega
  have n:=a.row;rw[y]at n;have G:=joI d
  have J:=joI (jh a.row d (by decide));have Z:=joI (jp wr 107 [.int .i64 p.1.1.kind,.string (B p.1.1.raw),.slice V p.1.1.fields.length W])
  have aa:=R.size;clear a Q q C d P d3;go_wp2_with (at_builtin;refine wpList_append_own _ rfl _ _ 92 rfl w.heap.size 107 i0 _ 3 48 underlying92 hi L N O rfl (by decide) _ _ _ rfl (n.alloc _) ⟨wr.heap.size,0,none⟩ 1 1 _ rfl rfl Z.out ?c2 ?c3 ?c4 ?c5 ?_)
  case c2=>intro u U;simp at U;rcases U with rfl | rfl | rfl<;>rfl
  case c3=>unfold maxLen;omega
  case c4=>omega
  case c5=>simp;omega
  intro v' w3 l f _;have o:=E.out.snoc I.out (by rw[y];exact l) _ f
  have t:=(G.out.alloc (.cells #[.int .i64 p.1.1.kind,.string (B p.1.1.raw),.slice V p.1.1.fields.length W] 107)).grown f (fun e=>J.out e.symm);obtain⟨g',s,rfl⟩:=ownsRow_succ l;go_wp2_with fail;go_roundw
  case rel=>exact⟨k+1,_,z,by go_num,by rw[K.out];exact o,t⟩
  case measure=>simp[intOf];omega
 obtain rfl:k=b.length:=by omega
 rw[jpa]at a;have r:=joI a
 clear a d;go_wp2_with fail;go_ret;exact⟨_,c,rfl,r.out⟩
def jok(ps:List Pr):List Stz:=(ps.filter fun p=>decide (0<p.1.2)).map fun p=>(p.1.2,p.1.1.fields)
end
section
attribute [local go_sem] joY
theorem jaC(c:List Pr)(v:Value)(k:Int)(w:World)(h:zK w v c)(j:c.length<=10000)(b:∀p∈c,p.1.1.raw.length<=100000):
  Calls prog 15 #[.agg #[v,.int .i64 k]] w fun e C=>e=.returned (.string (B ((ze (VJ c)).flatMap It.raw)))/\Below w.heap.size w C:=by
 obtain⟨A,f,rfl,y⟩:=h.empty;have g:=(joL w.heap.size w).alloc (joJ _) (.cells #[.slice A c.length f,.int .i64 k] 37)
 have l:=joI (Us c _ k _ (h.below g (joJ _)) j);have r:=joI g
 have s:=joI (show ∀q∈VJ c,q.raw.length<=100000 from fun q x=>by
  obtain⟨p,z,rfl⟩:=List.mem_map.1 x;exact b p z)
 clear h g b;go_enter func15,ntmps15;go_wp2_with fail;refine l.out.mono ?_;rintro e D ⟨u,t,rfl,a⟩;have n:=a.below
 have d:=joI (r.out.trans (n.mono (by simp)));have m:=joI (Up (VJ c) _ D a.its (by rw[jdB];omega) s.out)
 obtain⟨E,G,rfl,_⟩:=je a.row;clear a n l;go_wp2_with fail;refine m.out.mono ?_;rintro e H ⟨rfl,o⟩;have i:=joI (d.out.trans (o.mono d.out.size))
 clear o m;go_wp2_with fail;go_ret;exact⟨rfl,i.out⟩
end
theorem jgX{a:List Pr}{es:List En}(h:a.map Prod.fst=es):VJ a=es.map Prod.fst:=by rw[<- h,jqj];rfl
section
attribute [local go_sem] joY
section
variable {w:World} {lb:Nat} {ev v:Value} {ps qs:List Pr} {nx:Int}
end
end
theorem Gt:∀(a:List Fld),(∀f∈a,zh f.1 f.2=0)->foldN a=0
 | [],_=>rfl
 | f::r,h=>by unfold foldN;rw[if_pos (h f joV)];exact Gt r (fun x hx=>h x (joU _ hx))
structure GkP(p:PS):Prop where
 fl:∀f∈p.fields,zh f.1 f.2=0
 each:∀it∈p.items,(∀f∈it.fields,zh f.1 f.2=0)/\(it.kind=3->it.fields.length≠0)
theorem GkP.endField{p:PS}(h:GkP p)(b:ji p=0):GkP (jd p):=by
 unfold jd;split
 ·exact h
 rename_i c;unfold ji at b;rw[if_neg c]at b;have d:jy p.said=0:=by
  by_cases q:jy p.said=0
  ·exact q
  rw[if_pos q]at b;exact b
 refine⟨fun f a => ?_,h.each⟩;rcases List.mem_append.1 a with a|a
 ·exact h.fl f a
 rw[List.mem_singleton.1 a];exact(YD d).1
theorem GkP.endItem{t:List UInt8}{p:PS}(h:GkP p)(kind e:Nat)(c:kind=3->p.fields.length≠0):GkP (zl t p kind e) :=
 ⟨fun f b=>(by cases b),fun d a=>by
  rcases List.mem_append.1 a with a|a
  ·exact h.each d a
  rw[List.mem_singleton.1 a];exact⟨h.fl,fun q=>c (by have g:((kind:Nat):Int)=3:=q;omega)⟩⟩
theorem GkP.endBlock{t:List UInt8}{p:PS}(h:GkP p)(e:Nat):GkP (jk t p e):=by
 unfold jk;split
 ·exact h
 split
 ·exact h.endItem 2 e (fun q=>absurd q (by decide))
 rename_i hl;exact⟨(h.endItem (t:=t) 3 e (fun _=>hl)).fl,(h.endItem (t:=t) 3 e (fun _=>hl)).each⟩
theorem GkP.went{p:PS}(h:GkP p)(x:Ln):GkP (zx p x):=by
 unfold zx;split
 ·exact⟨h.fl,h.each⟩
 exact h
theorem GkP.take{t:List UInt8}{p q:PS}{x:Ln}(h:GkP p)(c:zq t p x=.ok q):GkP q:=by
 obtain⟨b,_,rfl⟩:=yK c;have a:GkP (qT p x):=by
  unfold qT;split
  ·rename_i q;exact(h.went x).endField (b q)
  exact h.went x
 unfold JK;split
 ·exact⟨a.fl,a.each⟩
 split
 ·exact⟨((a.endBlock x.at_).endItem 1 _ (fun q=>absurd q (by decide))).fl,((a.endBlock x.at_).endItem 1 _ (fun q=>absurd q (by decide))).each⟩
 exact⟨a.fl,a.each⟩
theorem GkP.run(t:List UInt8):∀(c:List Ln) (p q:PS),GkP p->qU t p c=.ok q->GkP q
 | [],p,q,h,a=>by cases a;exact h
 | x::c,p,q,h,a=>by
  unfold qU at a;cases b:zq t p x with
  | error e=>rw[b]at a;cases a
  | ok d =>
  rw[b]at a;exact GkP.run t c d q (h.take b) a
theorem jiX{t:List UInt8}{its:List It}(h:jD t=.ok its):∀a∈its,a.kind=3->qD a.fields=0:=by
 obtain⟨p,k,c,rfl,g,_⟩:=QS h;have l:GkP (jk t (jd p) t.length):=((GkP.run t _ _ _ ⟨(fun f h=>by cases h),(fun a h=>by cases h)⟩ k).endField c).endBlock _
 intro a b i;have j:a.fields.length<=40:=g.each a b
 obtain⟨d,e⟩:=l.each a b;unfold qD;rw[if_neg (e i),if_neg (by omega)];exact Gt _ d
def szE(es:List En):List (Int×List Fld):=(es.filter fun e=>decide (0<e.2)).map fun e=>(e.2,e.1.fields)
theorem jkZ(es:List En):(szE es).length=yS es:=by unfold szE yS;rw[jo8]
section
attribute [local go_sem] joY
theorem jk1{a:List Pr}(h:WF (a.map Prod.fst)):jfD (JW 0 a)=szE (a.map Prod.fst):=by
 have b:=Yi (κ:=fun e:En=>e.1.kind) (Prod.fst:Pr->En) 0 a;have c:=Qz 0 (a.map Prod.fst) h
 unfold szE;rw[<- c];show List.map _ (JW 0 a)=List.map _ (List.map Prod.snd (Qr (fun e:En=>e.1.kind) 0 (a.map Prod.fst)))
 rw[<- b,jqj,jqj];rfl
theorem jfo{S0:Nat}{w:World}{lb:Nat}{a:Value}{b:List Pr}{l:LS}{m:Nat}(C:zM S0 w lb a b l m)(c:m<=10000):
  Calls prog 14 #[ptr lb] w fun e d=>e=.returned (.string (B ((ze (l.es.map Prod.fst)).flatMap It.raw)))/\Below w.heap.size w d:=by
 have:=jix b a (some ⟨lb,0,none⟩) w (jio.of C.la.lr) (C.ents c);rw[jgX C.es]at this;exact this
theorem jab{S0:Nat}{w:World}{lb:Nat}{c:Value}{f:List Pr}{l:LS}{m:Nat}(C:zM S0 w lb c f l m)(i:m<=10000):
  Calls prog 18 #[ptr lb] w fun e b=>∃u,e=.returned u/\Szs b u (szE l.es)/\Below w.heap.size w b:=by
 refine(jbZ f c (some ⟨lb,0,none⟩) w (fun W h=>jio.of (C.la.lr.below h (joJ _))) (C.ents i)).mono ?_;rintro e b ⟨u,g,rfl,a⟩;have d:=a.szs
 rw[jk1 C.wf,C.es]at d;exact⟨u,rfl,d,a.below⟩
theorem jcJ{S0:Nat}{w:World}{lb:Nat}{b:Value}{d:List Pr}{l:LS}{m:Nat}(C:zM S0 w lb b d l m):(szE l.es).length<=1000000/\∀s∈szE l.es,s.2.length<=1000000:=by refine⟨by rw[jkZ];have:=C.ok.len;omega,fun s a => ?_⟩;unfold szE at a;obtain⟨e,c,rfl⟩:=List.mem_map.1 a;exact(C.sz e (List.mem_filter.1 c).1).2
theorem WrQ.end2{w m d:World}{v z x:Value}{i g:List Pr}{es:List En}{fs:List Fld}{b:Nat}(h:WrQ m v i x es d z g)(G:Below w.heap.size w m)(u:zK w v i)(hx:vP w x fs)(H:w.heap.size<=b)(I:b<m.heap.size)(o:Obj)(j l:Value):
  WrQ w v i x es (((d.alloc o).setCell ⟨b,0,none⟩ j).setCell ⟨b,1,none⟩ l) z g:=by
 have a:=h.from G;have C:Below d.heap.size d (d.alloc o):=(joL _ d).alloc (joJ _) _
 have y:jH (· = b) d (((d.alloc o).setCell ⟨b,0,none⟩ j).setCell ⟨b,1,none⟩ l):=((jH.of_below (S:=(· = b)) C (joJ _)).cellS 0 j).cellS 1 l;refine⟨a.ents.only y (fun r e q => ?_) (fun p t f r e q => ?_),a.es,?_,a.blk,a.mem⟩
 ·rcases h.blk with k|k
  ·rw[k]at e;have:=(u.row.lt r e).2;omega
  have:=k r e;omega
 ·rcases a.mem p t with k|k
  ·have:=(u.each p k).lt f r e;omega
  have J:fs≠[]:=by intro D;obtain⟨A,c,n,_⟩:=a.ents.each p t;obtain⟨K,L,E,_⟩:=hx;rw[k,E]at n;injection n with _ s _;rw[D]at s;exact f (List.length_eq_zero_iff.1 s.symm)
  rw[k]at e;have:=hx.lt J r e;omega
 exact a.below.trans (y.to_below a.below.size (fun r N e=>by omega))
theorem jew(b:List Pr)(v K:Value)(g:Int)(ed:Ed)(w:World)(h:zK w v b)(t:b.length<=1000000)(L : -1000000<=g/\g<=1000000)(hx:vP w K ed.fields)(V:jbN ed.fields):
  Calls prog 68 #[.agg #[v,.int .i64 g],.agg #[.int .i64 ed.kind,.int .i64 ed.id,K]] w fun e w'=>∃c a x,e=.returned (.tuple #[.agg #[c,.int .i64 (jM ⟨b.map Prod.fst,g⟩ ed).ls.next],.int .i64 (jM ⟨b.map Prod.fst,g⟩ ed).id,.int .i64 (jM ⟨b.map Prod.fst,g⟩ ed).bad])/\WrQ w v b x (jM ⟨b.map Prod.fst,g⟩ ed).ls.es w' c a/\(x=K\/x=.slice none 0 0):=by
 obtain⟨y,z,rfl,_⟩:=h.empty;obtain⟨E,G,rfl,_,_⟩:=_root_.id hx;obtain⟨r,d⟩:∃r,r=((w.alloc (.cells #[.slice y b.length z,.int .i64 g] 37)).alloc (.cells #[.int .i64 ed.kind,.int .i64 ed.id,.slice E ed.fields.length G] 75)).alloc (.cells #[.slice none 0 0,.int .i64 0] 37):=⟨_,rfl⟩
 have l:Below w.heap.size w r:=by rw[d];exact(((joL _ w).alloc (joJ _) _).alloc (by simp) _).alloc (by simp;omega) _
 have u:r.heap.size=w.heap.size+3:=by rw[d];simp
 have c4:ja r (w.heap.size+1+1) 37 #[.slice none 0 0,.int .i64 0]:=by
  rw[d];have:=(ja.new ((w.alloc (.cells #[.slice y b.length z,.int .i64 g] 37)).alloc (.cells #[.int .i64 ed.kind,.int .i64 ed.id,.slice E ed.fields.length G] 75)) 37 #[.slice none 0 0,.int .i64 0])
  simp only[joZ]at this;exact this
 have m:=h.below l (joJ _);have q:=hx.below l (joJ _)
 have k:Hid (∀(j:World) (c x:Value) (a:List Pr) (J:List En) (n:Int) (Q:List Fld),WrQ r (.slice y b.length z) b x J j c a->vP w x Q ->
   WrQ w (.slice y b.length z) b x J (((j.alloc (.cells #[c,.int .i64 n] 37)).setCell ⟨w.heap.size+1+1,0,none⟩ c).setCell ⟨w.heap.size+1+1,1,none⟩ (.int .i64 n)) c a/\ja (((j.alloc (.cells #[c,.int .i64 n] 37)).setCell ⟨w.heap.size+1+1,0,none⟩ c).setCell ⟨w.heap.size+1+1,1,none⟩ (.int .i64 n)) (w.heap.size+1+1) 37 #[c,.int .i64 n] /\
   (j.alloc (.cells #[c,.int .i64 n] 37)).cell? ⟨w.heap.size+1+1,0,none⟩=some (.slice none 0 0)/\(j.alloc (.cells #[c,.int .i64 n] 37)).cell? ⟨w.heap.size+1+1,1,none⟩=some (.int .i64 0)/\(j.alloc (.cells #[c,.int .i64 n] 37)).frozen? ⟨w.heap.size+1+1,0,none⟩=false/\(j.alloc (.cells #[c,.int .i64 n] 37)).frozen? ⟨w.heap.size+1+1,1,none⟩=false):=by
  intro j c x a J n Q p N;have P:=jb c4 p.below (by omega)
  have U:=((P.alloc (.cells #[c,.int .i64 n] 37)).set 0 c).set 1 (.int .i64 n);rw[Qs]at U;have D:=P.alloc (.cells #[c,.int .i64 n] 37)
  exact⟨p.end2 l h N (by omega) (by omega) _ _ _,U,by rw[D.cell];rfl,by rw[D.cell];rfl,D.frozen 0,D.frozen 1⟩
 have O:=joI hx;have HN:Hid (vP w (.slice none 0 0) []):=⟨none,0,rfl,joJ _,fun i f h=>by simp at h⟩
 have hl:(⟨b.map Prod.fst,g⟩:LS)=⟨b.map Prod.fst,g⟩:=rfl;by_cases H:ed.kind=1
 ·have R:=joI (Kk b (.slice y b.length z) (.slice E ed.fields.length G) g ed.id ed.fields r m t q V);rw[jf5 _ H,Vx];generalize zy ⟨b.map Prod.fst,g⟩ ed.id ed.fields=dd at *
  rw[H]at d ⊢;clear l u c4 m q h hx hl;subst d;go_enter func68,ntmps68;go_wp2_with fail;refine R.out.mono ?_;rintro e j ⟨c,a,rfl,p⟩;obtain⟨o,s,W,X,Y,Z⟩:=k.out j c _ a _ dd.ls.next ed.fields p O.out;obtain⟨xa,xc,rfl,_⟩:=o.ents.empty;have A:=joI o
  have C:=joI s;clear p o s k R;go_wp2_with fail;refine bodyPost_ret (Vt rfl _ _ (w.heap.size+1+1) _ rfl C.out rfl) rfl ?_;exact⟨_,a,_,rfl,A.out,.inl rfl⟩
 have q1:(ed.kind==1)=false:=by simpa using H
 by_cases I:ed.kind=2
 ·have R:=joI (Uv b (.slice y b.length z) g ed.id r m t);rw[jf4 _ I,XL];generalize qr ⟨b.map Prod.fst,g⟩ ed.id=dd at *
  rw[I]at d ⊢;clear l u c4 m q h hx hl q1;subst d;go_enter func68,ntmps68;go_wp2_with fail;refine R.out.mono ?_;rintro e j ⟨c,a,rfl,p⟩;obtain⟨o,s,W,X,Y,Z⟩:=k.out j c _ a _ dd.ls.next [] p HN.out;obtain⟨xa,xc,rfl,_⟩:=o.ents.empty;have A:=joI o
  have C:=joI s;clear p o s k R;go_wp2_with fail;refine bodyPost_ret (Vt rfl _ _ (w.heap.size+1+1) _ rfl C.out rfl) rfl ?_;exact⟨_,a,_,rfl,A.out,.inr rfl⟩
 have q2:(ed.kind==2)=false:=by simpa using I
 have R:=joI (Ut b (.slice y b.length z) (.slice E ed.fields.length G) g ed.id ed.fields r m t L q V);rw[jf3 _ H I];generalize zo ⟨b.map Prod.fst,g⟩ ed.id ed.fields=dd at *
 clear l u c4 m q h hx hl;subst d;go_enter func68,ntmps68;go_wp2_with fail;refine R.out.mono ?_;rintro e j ⟨c,a,rfl,p⟩;obtain⟨o,s,W,X,Y,Z⟩:=k.out j c _ a _ dd.ls.next ed.fields p O.out;obtain⟨xa,xc,rfl,_⟩:=o.ents.empty;have A:=joI o
 have C:=joI s;clear p o s k R;go_wp2_with fail;refine bodyPost_ret (Vt rfl _ _ (w.heap.size+1+1) _ rfl C.out rfl) rfl ?_;exact⟨_,a,_,rfl,A.out,.inl rfl⟩
theorem Zk(ed:Ed)(p:Value)(w:World)(h:vP w p ed.fields)(s:jkm ed.fields):
  Calls prog 128 #[.agg #[.int .i64 ed.kind,.int .i64 ed.id,p]] w fun e z=>e=.returned (.int .i64 (zG ed:Nat))/\Below w.heap.size w z:=by
 obtain⟨n,o,rfl,_,_⟩:=_root_.id h;obtain⟨k,a⟩:∃k,k=w.alloc (.cells #[.int .i64 ed.kind,.int .i64 ed.id,.slice n ed.fields.length o] 75):=⟨_,rfl⟩
 have c:Below w.heap.size w k:=by rw[a];exact(joL _ w).alloc (joJ _) _
 have l:=joI (yN ed.fields (.slice n ed.fields.length o) k (h.below c (joJ _)) (by have:=s.len;omega) (fun f y=>by have:=s.each f y;omega));have d:=joI c
 have g:=joI (show zG ed=if ed.kind=1\/ed.kind=3 then qD ed.fields else if ed.kind=2/\ed.fields.length=0 then 0 else 2 from rfl);clear c h;generalize zG ed=i at *
 generalize qD ed.fields=u at *
 generalize vz ed.fields=A at *
 generalize ed.fields.length=fl at *
 generalize ed.kind=j at *
 generalize ed.id=D at *
 by_cases x:j<1
 ·have b:i=2:=by rw[g.out,if_neg (by omega),if_neg (by omega)]
  subst b a;go_enter func128,ntmps128;go_wp2_with fail;go_ret;exact⟨rfl,d.out⟩
 by_cases v:3<j
 ·have b:i=2:=by rw[g.out,if_neg (by omega),if_neg (by omega)]
  subst b a;go_enter func128,ntmps128;go_wp2_with fail;go_ret;exact⟨rfl,d.out⟩
 by_cases r:j=2
 ·subst r;by_cases q:fl=0
  ·have b:i=0:=by rw[g.out,if_neg (by omega),if_pos ⟨rfl,q⟩]
   subst b q a;go_enter func128,ntmps128;go_wp2_with fail;go_ret;exact⟨rfl,d.out⟩
  have b:i=2:=by rw[g.out,if_neg (by omega),if_neg (by omega)]
  have C:(0:Int)<(fl:Int):=by omega
  subst b a;go_enter func128,ntmps128;go_wp2_with fail;go_ret;exact⟨rfl,d.out⟩
 have b:i=u:=by rw[g.out,if_pos (by omega)]
 have E:(j==2)=false:=by simpa using r
 subst b a;go_enter func128,ntmps128;go_wp2_with fail;refine l.out.mono ?_;rintro e G ⟨rfl,m⟩;have t:=joI (d.out.trans (m.mono d.out.size))
 clear m l;go_wp2_with fail;go_ret;exact⟨rfl,t.out⟩
theorem JY(eds:List Ed)(v:Value)(w:World)(h:EdV w v eds)(hl:eds.length<=1000000)(N:VY eds):
  Calls prog 67 #[v] w fun e X=>e=.returned (.tuple #[.int .i64 (qw eds).1,.int .i64 (qw eds).2])/\Below w.heap.size w X:=by
 obtain⟨A,P,rfl,W,L⟩:=h;have G:=joI L
 have O:=joI N;clear L N;by_cases Z:eds.length<1
 ·have y:qw eds=(-9,1):=by unfold qw;rw[if_pos (by omega)]
  have z0:eds.length=0:=by omega
  rw[y,z0];go_enter func67,ntmps67;go_wp2_with fail;go_ret2;exact⟨rfl,joL _ _⟩
 have q0:¬((eds.length:Int)<1):=by omega
 by_cases V:40<eds.length
 ·have y:qw eds=(-9,1):=by unfold qw;rw[if_pos (by omega)]
  rw[y];go_enter func67,ntmps67;go_wp2_with fail;go_ret2;exact⟨rfl,joL _ _⟩
 have Q:qw eds=yG 0 eds:=by unfold qw;rw[if_neg (by omega)]
 rw[Q];go_enter func67,ntmps67;go_wp2_with fail;go_loopw [4] (fun i wr=>∃k:Nat,k<=eds.length/\i=.int .i64 k/\(∀x∈eds.take k,zG x=0)/\Below w.heap.size w wr) (fun i _=>eds.length-(intOf i).toNat)
 case atStart=>exact⟨0,joT _,rfl,(fun x hx=>by simp at hx),joL _ _⟩
 case round =>
 obtain⟨k,hk,rfl,a,g⟩:=hrel;by_cases r:k<eds.length
 ·obtain⟨c,d⟩:∃c,eds[k]?=some c:=⟨_,joM r⟩
  obtain⟨b,n,Y,rfl,j,I,J,K,l⟩:=G.out k c d;obtain⟨R,U,rfl,_,_⟩:=_root_.id l.1;replace I:=(g.cell (p:=⟨b,n+k*3,none⟩) j).trans I;replace J:=(g.cell (p:=⟨b,n+k*3+1,none⟩) j).trans J;replace K:=(g.cell (p:=⟨b,n+k*3+1+1,none⟩) j).trans K;have E:=joI (Zk c (.slice R c.fields.length U) wr (l.1.below g (joJ _)) (O.out c (joW d)))
  have t:Hid (zG c=0->∀x∈eds.take (k+1),zG x=0):=fun C x hx=>by
   rw[take_snoc d]at hx;rcases List.mem_append.1 hx with hx|hx
   ·exact a x hx
   rw[List.mem_singleton.1 hx];exact C
  have s:Hid (zG c≠0->yG 0 eds=(((k:Nat):Int),zG c)):=fun C=>by rw[GY eds 0 k c a d C,jpl]
  have q:=joI g;clear d a l g;generalize zG c=z at *
  go_wp2_with fail;refine E.out.mono ?_;rintro e w2 ⟨rfl,H⟩;have D:=joI (q.out.trans (H.mono q.out.size))
  clear H E;by_cases m:z=0
  ·subst m;have u:=joI (t.out rfl)
   clear t s;go_wp2_with fail;go_roundw
   case rel=>exact⟨k+1,r,by go_num,u.out,D.out⟩
   case measure=>simp[intOf];omega
  have o:=joI (s.out m);have qn:((z:Int)==0)=false:=by simpa using m
  have f:Hid (Ending.returned (.tuple #[.int .i64 (k:Nat),.int .i64 (z:Nat)])=.returned (.tuple #[.int .i64 (yG 0 eds).1,.int .i64 (yG 0 eds).2])):=by show _=_;rw[o.out]
  clear t s o;go_wp2_with fail;go_ret2;exact⟨f.out,D.out⟩
 obtain rfl:k=eds.length:=by omega
 rw[jpa]at a;have f:Hid (Ending.returned (.tuple #[.int .i64 (-9),.int .i64 0])=.returned (.tuple #[.int .i64 (yG 0 eds).1,.int .i64 (yG 0 eds).2])):=by show _=_;rw[Qg eds 0 a];rfl
 clear G a;go_wp2_with fail;go_ret2;exact⟨f.out,g⟩
theorem Uw(eds:List Ed)(v:Value)(w:World)(h:EdV w v eds)(hl:eds.length<=1000000)(a:Kd eds):
  Calls prog 67 #[v] w fun e b=>e=.returned (.tuple #[.int .i64 (qw eds).1,.int .i64 (qw eds).2])/\Below w.heap.size w b:=JY eds v w h hl a.eight
end
end Go.Proofs.YtbapfpekklcicaaGreatDoor
