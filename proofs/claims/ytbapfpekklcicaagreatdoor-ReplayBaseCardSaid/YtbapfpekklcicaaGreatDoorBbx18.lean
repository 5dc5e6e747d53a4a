/- Texts put together:QD,QE,QF,QG. -/
import Derived.Test.YtbapfpekklcicaaGreatDoorBbx10
import Derived.Test.YtbapfpekklcicaaGreatDoorBbx17
set_option linter.unusedVariables false
set_option maxRecDepth 100000
set_option maxHeartbeats 16000000
namespace Go.Proofs.YtbapfpekklcicaaGreatDoor
open Go.RowKit Go.Shelf Tryz
abbrev jqu:=@Nat.le_of_ble_eq_true
def jlT(w:World)(v:Value)(xs:List Ln):Prop :=
 ∃A cap,v=.slice A xs.length cap/\xs.length<=cap/\∀(i:Nat) (x:Ln),xs[i]?=some x->∃b off,A=some ⟨b,off,none⟩/\b<w.heap.size/\w.cell? ⟨b,off+i*4+1+1,none⟩=some (.string (B x.text))/\w.cell? ⟨b,off+i*4+1+1+1,none⟩=some (.bool x.ended)
theorem jlT.below{w w':World}{v:Value}{xs:List Ln}{n:Nat}(h:jlT w v xs)(f:Below n w w')(q:w.heap.size<=n):jlT w' v xs:=by
 obtain⟨A,e,r,g,m⟩:=h;refine⟨A,e,r,g,fun i x o => ?_⟩;obtain⟨b,c,l,d,j,k⟩:=m i x o;have a:=jod d q
 exact⟨b,c,l,jod d f.size,(f.cell (p:=⟨b,c+i*4+1+1,none⟩) a).trans j,(f.cell (p:=⟨b,c+i*4+1+1+1,none⟩) a).trans k⟩
def jlQ(w:World)(v:Value)(xs:List Ln):Prop :=
 ∃A cap,v=.slice A xs.length cap/\xs.length<=cap/\∀(i:Nat) (x:Ln),xs[i]?=some x->∃b off,A=some ⟨b,off,none⟩/\b<w.heap.size/\w.cell? ⟨b,off+i,none⟩=some (.int .i64 (jm x.text:Nat))
theorem jlQ.below{w w':World}{v:Value}{xs:List Ln}{n:Nat}(h:jlQ w v xs)(f:Below n w w')(m:w.heap.size<=n):jlQ w' v xs:=by obtain⟨A,d,o,e,k⟩:=h;refine⟨A,d,o,e,fun i x l => ?_⟩;obtain⟨b,c,j,a,g⟩:=k i x l;exact⟨b,c,j,jod a f.size,(f.cell (p:=⟨b,c+i,none⟩) (jod a m)).trans g⟩
def vE(xs:List Ln):List Value:=xs.map fun x=>.int .i64 (jm x.text:Nat)
theorem jeo {w : World} {base : Nat} {v : Value} {xs : List Ln} (h : w.ownsRow base 3 1 v xs.length (vE xs)) : jlQ w v xs := by
  rcases joQ h with ⟨e, hn⟩ | ⟨g, cap, e⟩
  . have : xs = [] := List.length_eq_zero_iff.1 hn
    rw [e, this]
    exact ⟨none, 0, rfl, jnT _, fun i it hi => by simp at hi⟩
  refine ⟨some ⟨g, 0, none⟩, cap, e, (by rcases h.2 with ⟨q, _⟩ | ⟨g', cap', cur, q, _, _, q2, _⟩; · rw [e] at q; cases q
                                         rw [e] at q; cases q; exact q2), fun i x hi => ?_⟩
  have hlt : i < xs.length := by
    rcases joo i xs.length with q | q
    . exact q
    rw [jon q] at hi; cases hi
  rw [e] at h
  refine ⟨g, 0, rfl, (joV h g rfl).2, ?_⟩
  rw [jov, job h i (by omega)]
  unfold vE
  rw [joI, hi]; rfl
theorem jei {w : World} {base : Nat} {v : Value} {xs : List Ln} (h : w.ownsRow base 126 4 v xs.length (cellsOf xs)) : jlT w v xs := by
  rcases joQ h with ⟨e, hn⟩ | ⟨g, cap, e⟩
  . have : xs = [] := List.length_eq_zero_iff.1 hn
    rw [e, this]
    exact ⟨none, 0, rfl, jnT _, fun i it hi => by simp at hi⟩
  refine ⟨some ⟨g, 0, none⟩, cap, e, (by rcases h.2 with ⟨q, _⟩ | ⟨g', cap', cur, q, _, _, q2, _⟩; · rw [e] at q; cases q
                                         rw [e] at q; cases q; exact q2), fun i x hi => ?_⟩
  have hlt : i < xs.length := by
    rcases joo i xs.length with q | q
    . exact q
    rw [jon q] at hi; cases hi
  rw [e] at h
  have hx : xs = xs.take i ++ x :: xs.drop (i + 1) := by
    have e := jou hlt
    rw [jnW hlt] at hi
    rw [jnY hi] at e
    rw [<- e, joj]
  have hti : (xs.take i).length = i := by rw [jn2]; omega
  have c2 : (cellsOf xs)[i * 4 + 2]? = some (.string ⟨x.text.toArray⟩) := by
    have := vx (xs.take i) x (xs.drop (i + 1)) 2 (by decide)
    rw [hti, <- hx] at this
    exact this
  have c3 : (cellsOf xs)[i * 4 + 3]? = some (.bool x.ended) := by
    have := vx (xs.take i) x (xs.drop (i + 1)) 3 (by decide)
    rw [hti, <- hx] at this
    exact this
  refine ⟨g, 0, rfl, (joV h g rfl).2, ?_, ?_⟩
  . rw [jov, job h (i * 4 + 1 + 1) (by omega)]; exact c2
  rw [jov, job h (i * 4 + 1 + 1 + 1) (by omega)]; exact c3
def yo(xs:List Ln)(i:Nat):Nat:=if i=0 then 0 else match xs[i-1]? with | some x=>jm x.text | none=>0
theorem JH(xs:List Ln)(v:Value)(i:Nat)(w:World)(h:jlQ w v xs)(t:i<xs.length)(u:xs.length<=1000000):
  Calls prog 157 #[v,.int .i64 i] w fun e p=>e=.returned (.bool (decide (yo xs i=4\/yo xs i=3)))/\w=p:=by
 obtain⟨A,k,rfl,n,c⟩:=h;by_cases l:i=0
 ·subst l;have e:decide (yo xs 0=4\/yo xs 0=3)=false:=rfl
  rw[e];clear c;go_enter func157,ntmps157;go_wp2;go_ret;exact⟨rfl,rfl⟩
 obtain⟨j,rfl⟩:∃j,i=j+1:=⟨i-1,by omega⟩
 obtain⟨y,d⟩:∃y,xs[j]?=some y:=⟨_,jnW (by omega)⟩
 obtain⟨b,o,rfl,m,g⟩:=c j y d;have f:yo xs (j+1)=jm y.text:=by unfold yo;rw[if_neg (by omega),Nat.add_sub_cancel,d]
 rw[f];have q:IntKind.i64.wrap (((j+1:Nat):Int)-1)=(j:Int):=by rw[jos _ (by omega)];omega
 have r:(((j+1:Nat):Int)-1)=(j:Int):=by omega
 have s:(0:Int)<((j+1:Nat):Int):=by omega
 clear c f d;rcases ZO y.text with a|a|a|a|a
 all_goals
  rw[a]at g ⊢;go_enter func157,ntmps157;go_wp2;go_ret;exact⟨rfl,rfl⟩
theorem jf4{xs:List Ln}{k:Nat}{x:Ln}(h:xs[k]?=some x):zI (xs.drop k)=if jm x.text=3 then x.text::zI (xs.drop (k+1)) else []:=by
 have a:k<xs.length:=by
  rcases joo k xs.length with q|q
  ·exact q
  rw[jon q]at h;cases h
 have e:=jou a;rw[jnW a]at h;rw[jnY h]at e;rw[e];rfl
theorem jh4(W:World)(x:List UInt8):∀(j:Nat) u,[Value.string (B x)][j]?=some u->(W.alloc (.cells #[.string (B x)] 9)).cell? ((⟨W.heap.size,0,none⟩:Addr).add j)=some u:=jC W _ [.string (B x)]
theorem jaq(xs:List Ln)(lv kv:Value)(i:Nat)(x:Ln)(w:World)(hL:jlT w lv xs)(hK:jlQ w kv xs)(hx:xs[i]?=some x)(hn:xs.length<=100000):
  Calls prog 100 #[lv,kv,.int .i64 i] w fun e w'=>∃v,e=.returned v/\ym w' w.heap.size v ((x.text::zI (xs.drop (i+1))).map B)/\Below w.heap.size w w':=by
 obtain⟨i0,hi,O,P,Q⟩:=info_parts Xf;have Y:i<xs.length:=by
  rcases joo i xs.length with q|q
  ·exact q
  rw[jon q]at hx;cases hx
 obtain⟨A,a8,rfl,af,N⟩:=hL;obtain⟨A',U,rfl,X,o⟩:=hK;have D:=jnS N
 have l:=jnS o;obtain⟨b,R,rfl,aa,G,_⟩:=N i x hx;clear N o;have C:ym (w.alloc (.cells #[.string (B x.text)] 9)) w.heap.size (.slice (some ⟨w.heap.size,0,none⟩) 1 1) [B x.text]:=ym.one w _ (jnT _) _
 go_enter func100,ntmps100;go_wp2_with fail;go_loopw [7,8] (fun u j wr=>∃(k:Nat) (d:List (List UInt8)),i<k/\k<=xs.length/\j=.int .i64 k/\ym wr w.heap.size u ((x.text::d).map B)/\d.length<=k/\d++zI (xs.drop k)=zI (xs.drop (i+1))/\Below w.heap.size w wr) (fun _ j _=>xs.length-(intOf j).toNat)
 case atStart=>exact⟨i+1,[],by omega,by omega,by go_num,C,by simp,rfl,(jnV _ _).alloc (jnT _) _⟩
 case round =>
 obtain⟨k,d,ae,hk,rfl,c,ag,a,n⟩:=hrel;have ah:=n.size
 by_cases s:k<xs.length
 ·obtain⟨y,t⟩:∃y,xs[k]?=some y:=⟨_,jnW s⟩
  obtain⟨b1,a7,e,J,W,_⟩:=D.out k y t;cases e;obtain⟨b2,z,rfl,K,H⟩:=l.out k y t;replace W:=(n.cell (p:=⟨b,R+k*4+1+1,none⟩) J).trans W;replace H:=(n.cell (p:=⟨b2,z+k,none⟩) K).trans H;rw[jf4 t]at a;by_cases I:jm y.text=3
  ·rw[if_pos I]at a;rw[I]at H;have f:wr.ownsRow w.heap.size 9 1 u7 ((x.text::d).map B).length (((x.text::d).map B).map Value.string):=c
   have r:((x.text::d).map B).length=d.length+1:=by simp
   rw[r]at f;have HV:=jnS (jh4 wr y.text)
   have g:=jnS a;clear c t a D l G;go_wp2_with (at_builtin;refine wpList_append_own _ rfl _ _ 158 rfl w.heap.size 9 i0 _ 1 16 underlying158 hi O P Q rfl (by decide) _ _ _ rfl (f.alloc _) ⟨wr.heap.size,0,none⟩ 1 1 _ rfl rfl HV.out ?c2 ?c3 ?c4 ?c5 ?_)
   case c2=>intro u Z;simp at Z;subst Z;rfl
   case c3=>unfold maxLen;omega
   case c4=>omega
   case c5=>simp;omega
   intro v' w3 h m _;obtain⟨g',V,rfl⟩:=ownsRow_succ h;have L:Below w.heap.size w w3:=(n.alloc (by omega) _).grown m (by simp;omega) (fun j ej=>(f.lt j ej).1)
   go_wp2_with fail;go_roundw
   case rel =>
    refine⟨k+1,d++[y.text],by omega,s,by go_num,?_,by simp;omega,by rw[jn8];exact g.out,L⟩;unfold ym;have e2:((x.text::(d++[y.text])).map B).length=d.length+1+1:=by simp
    have e3:((x.text::(d++[y.text])).map B).map Value.string=((x.text::d).map B).map Value.string++[.string (B y.text)]:=by simp
    rw[e2,e3,show((x.text::d).map B).map Value.string++[.string (B y.text)]=Value.string (B x.text)::(List.map (Value.string∘B) d++[Value.string (B y.text)]) by simp];exact h
   case measure=>simp[intOf];omega
  rw[if_neg I,jok]at a;have d2:(((jm y.text:Nat):Int)==3)=false:=beq_eq_false_iff_ne.2 (by omega)
  have E:=jnS c;have g:=jnS a
  clear c t D l G a;go_wp2_with fail;go_ret;exact⟨_,rfl,by rw[<- g.out];exact E.out,n⟩
 obtain rfl:k=xs.length:=by omega
 rw[joO (jnT _)]at a;have g:=jnS (show d=zI (xs.drop (i+1)) by rw[<- a];show d=d++[];simp)
 have E:=jnS c;clear c D l G a;go_wp2_with fail;go_ret;exact⟨_,rfl,by rw[<- g.out];exact E.out,n⟩
def qC(prev fields records:Nat)(x:Ln)(xs:List Ln):Nat :=
 if jm x.text=5\/(jm x.text=3/\¬(prev=4\/prev=3))\/x.ended=false then 2
 else if jm x.text≠4 then 0
 else if jt (x.text::zI xs)≠0 then jt (x.text::zI xs)
 else if 40<=fields\/(fields=0/\400<=records) then 11 else 0
theorem jfg(s:RS)(x:Ln)(xs:List Ln):zv s x xs=qC s.prev s.fields.length s.records x xs:=rfl
theorem jfh(xs:List Ln)(X H:Value)(i:Nat)(x:Ln)(fields a:Nat)(w:World)(P:jlT w X xs)(G:jlQ w H xs)(hx:xs[i]?=some x)(hn:xs.length<=100000)(hf:fields<=1000000)(hr:a<=1000000)
  (m:((x.text::zI (xs.drop (i+1))).map List.length).sum<=90000) (U:(x.text::zI (xs.drop (i+1))).length<=90000) :
  Calls prog 98 #[X,H,.int .i64 i,.int .i64 fields,.int .i64 a] w fun e I=>e=.returned (.int .i64 (qC (yo xs i) fields a x (xs.drop (i+1)):Nat))/\Below w.heap.size w I:=by
 have D:i<xs.length:=by
  rcases joo i xs.length with q|q
  ·exact q
  rw[jon q]at hx;cases hx
 have j:=jnS (JH xs H i w G D (by omega));have f:=jnS (jaq xs X H i x w P G hx hn)
 have Q:=P;have O:=G
 obtain⟨A,af,rfl,ah,hc⟩:=P;obtain⟨A',Z,rfl,aa,C⟩:=G;obtain⟨b,aj,rfl,ag,c0,p⟩:=hc i x hx;obtain⟨b',ae,rfl,a8,v⟩:=C i x hx;clear hc C Q O;rcases ZO x.text with d|d|d|d|d;rw[d]at v;cases c:x.ended;have e:qC (yo xs i) fields a x (xs.drop (i+1))=2:=by unfold qC;rw[if_pos (.inr (.inr c))]
 rw[e];rw[c]at p;clear e j f m;rotate_left;have e:qC (yo xs i) fields a x (xs.drop (i+1))=0:=by unfold qC;rw[if_neg (by rw[d,c];simp),if_pos (by omega)]
 rw[e];rw[c]at p;clear e j f m;rotate_left;rw[d]at v;cases c:x.ended;have e:qC (yo xs i) fields a x (xs.drop (i+1))=2:=by unfold qC;rw[if_pos (.inr (.inr c))]
 rw[e];rw[c]at p;clear e j f m;rotate_left;have e:qC (yo xs i) fields a x (xs.drop (i+1))=0:=by unfold qC;rw[if_neg (by rw[d,c];simp),if_pos (by omega)]
 rw[e];rw[c]at p;clear e j f m;rotate_left;rw[d]at v;by_cases t:yo xs i=4\/yo xs i=3;rw[decide_eq_true t]at j;cases c:x.ended;have e:qC (yo xs i) fields a x (xs.drop (i+1))=2:=by unfold qC;rw[if_pos (.inr (.inr c))]
 rw[e];rw[c]at p;clear e f m t;rotate_left;have e:qC (yo xs i) fields a x (xs.drop (i+1))=0:=by unfold qC;rw[if_neg (by rintro(h | ⟨_,h⟩ | h);omega;exact h t;rw[c]at h;cases h),if_pos (by omega)]
 rw[e];rw[c]at p;clear e f m t;rotate_left;rw[decide_eq_false t]at j;have e:qC (yo xs i) fields a x (xs.drop (i+1))=2:=by unfold qC;rw[if_pos (.inr (.inl ⟨d,t⟩))]
 rw[e];clear e f m t;rotate_left;rw[d]at v;cases c:x.ended;have e:qC (yo xs i) fields a x (xs.drop (i+1))=2:=by unfold qC;rw[if_pos (.inr (.inr c))]
 rw[e];rw[c]at p;clear e j f m;rotate_left
 ·rw[c]at p;obtain⟨n,s⟩:∃n,x.text::zI (xs.drop (i+1))=n:=⟨_,rfl⟩
  have e:qC (yo xs i) fields a x (xs.drop (i+1))=if jt n≠0 then jt n else if 40<=fields\/(fields=0/\400<=a) then 11 else 0:=by unfold qC;rw[if_neg (by rw[d,c];simp),if_neg (by omega),s]
  have E:=jnS (fun I v' (h:Strs I v' ((x.text::zI (xs.drop (i+1))).map B))=>xe x.text (zI (xs.drop (i+1))) v' I h (fun l hl=>by have:=jaP _ _ hl;omega) (by omega) (by have:=ZB (x.text::zI (xs.drop (i+1)));omega) d);rw[s]at f E m U;have ai:=Qp n
  rw[e];clear e j s;obtain⟨N,R⟩:∃N,(if jt n≠0 then jt n else if 40<=fields\/(fields=0/\400<=a) then 11 else 0)=N:=⟨_,rfl⟩
  rw[R];have k:=jnS R
  clear R;unfold zC at E;generalize jt n=un at *
  generalize jU n=uk at *
  generalize jT n=uv at *
  go_enter func98,ntmps98;go_wp2_with fail;refine f.out.mono ?_;rintro e w1 ⟨sv,rfl,r,K⟩;have u:=r.strs
  obtain⟨Av,a7,rfl,_,_⟩:=id u;have J:=jnS (E.out w1 _ u)
  rw[joi]at J;have V:=K.size
  clear r u f E;go_wp2_with fail;refine J.out.mono ?_;rintro e w2 ⟨rfl,Y⟩;have z:=K.trans (Y.mono V)
  have W:=z.size;have g:=z.alloc W (.cells #[.string (B uk),.string (B uv)] 148)
  clear J K Y;by_cases hu:un=0
  ·subst hu;by_cases L:40<=fields
   ·have o:N=11:=by rw[<- k.out,if_neg (by simp),if_pos (.inl L)]
    subst o;clear k;go_wp2;go_ret;exact⟨rfl,g⟩
   by_cases h0:fields=0
   ·subst h0;by_cases y:400<=a
    ·have o:N=11:=by rw[<- k.out,if_neg (by simp),if_pos (.inr ⟨rfl,y⟩)]
     subst o;clear k;go_wp2;go_ret;exact⟨rfl,g⟩
    have o:N=0:=by rw[<- k.out,if_neg (by simp),if_neg (by omega)]
    subst o;clear k;go_wp2;go_ret;exact⟨rfl,g⟩
   have o:N=0:=by rw[<- k.out,if_neg (by simp),if_neg (by omega)]
   subst o;clear k;have z1:((fields:Int)==0)=false:=beq_eq_false_iff_ne.2 (by omega)
   go_wp2;go_ret;exact⟨rfl,g⟩
  have o:N=un:=by rw[<- k.out,if_pos hu]
  subst o;clear k;have z1:((N:Int) != 0)=true:=by simp;omega
  go_wp2;go_ret;exact⟨rfl,g⟩
 have e:qC (yo xs i) fields a x (xs.drop (i+1))=2:=by unfold qC;rw[if_pos (.inl d)]
 rw[e];rw[d]at v;clear e j f m;rotate_left
 all_goals
  go_enter func98,ntmps98;go_wp2_with fail
  try (refine j.out.mono ?_;rintro e w1 ⟨rfl,rfl⟩;go_wp2)
  go_ret;exact⟨rfl,jnV _ _⟩
theorem jla:(prog.info? 3).map (fun i=>(i.zero,i.size,i.bytes))=some (some (.int .i64 0),1,8):=by kernel_rfl
theorem Ka(xs:List Ln)(x:Ln):vE (xs++[x])=vE xs++[.int .i64 (jm x.text:Nat)]:=by unfold vE;simp
theorem jej{t:List UInt8}{xs:List Ln}(h:jf t=xs){k:Nat}{x:Ln}(hx:xs[k]?=some x):x.no=k:=by
 have a:k<xs.length:=by
  rcases joo k xs.length with q|q
  ·exact q
  rw[jon q]at hx;cases hx
 have e:=jou a;rw[jnW a]at hx;rw[jnY hx]at e;have:=(qR t (xs.take k) x (xs.drop (k+1)) (by rw[h,<- e,joj])).1
 rw[this,jn2];omega
theorem Uo:∀(a:List Ln),(∀y∈a,1<=y.bytes.length)->((zI a).map List.length).sum<=(a.flatMap Ln.bytes).length/\(zI a).length<=(a.flatMap Ln.bytes).length
 | [],_=>⟨jnT _,jnT _⟩
 | y::a,h=>by
  obtain⟨e,f⟩:=Uo a (fun z b=>h z (jn4 _ b));have c:=h y jn5
  have d:y.text.length<=y.bytes.length:=by unfold Ln.bytes;simp
  rw[joc,jnU];unfold zI;split
  ·simp only[joy,jo2,jn1];omega
  simp
theorem Uq{x:Ln}{xs:List Ln}(h:∀y∈x::xs,1<=y.bytes.length):((x.text::zI xs).map List.length).sum<=((x::xs).flatMap Ln.bytes).length/\(x.text::zI xs).length<=((x::xs).flatMap Ln.bytes).length:=by
 obtain⟨d,e⟩:=Uo xs (fun z a=>h z (jn4 _ a));have b:=h x jn5
 have c:x.text.length<=x.bytes.length:=by unfold Ln.bytes;simp
 rw[joc,jnU];simp only[joy,jo2,jn1];omega
def jhJ(lo:Nat)(w:World)(v:Value)(its:List It):Prop :=
 ∃fvs,w.ownsRow lo 107 3 v its.length (jV its fvs)/\fvs.length=its.length/\∀(j:Nat) it x,its[j]?=some it->fvs[j]?=some x->w.ownsRow lo 148 2 x it.fields.length (jA it.fields)
theorem jhM.fresh{lo:Nat}{w wr:World}{v:Value}{fvs:List Value}{its:List It}(h:jhM w wr v fvs its)(hl:lo<=w.heap.size):jhJ lo wr v its :=
 ⟨fvs,jE h.row hl,h.len,fun j c x a b=>jE (h.each j c x a b) hl⟩
def qI(w:World)(t:List UInt8)(e:Ending)(w':World):Prop :=
 Below w.heap.size w w'/\match yG t with
  | .error (a,n)=>e=.returned (.tuple #[.slice none 0 0,.int .i64 (a:Nat),.int .i64 (n:Nat)])
  | .ok its=>∃v,e=.returned (.tuple #[v,.int .i64 (-9),.int .i64 0])/\Its w' v its/\jhJ w.heap.size w' v its
theorem qI.no{w w':World}{t:List UInt8}{a n:Nat}(h:yG t=.error (a,n))(b:Below w.heap.size w w'):qI w t (.returned (.tuple #[.slice none 0 0,.int .i64 (a:Nat),.int .i64 (n:Nat)])) w':=⟨b,by rw[h]⟩
theorem qI.yes{w w':World}{t:List UInt8}{v:Value}{its:List It}(h:yG t=.ok its)(a:Below w.heap.size w w')(c:Its w' v its)(b:jhJ w.heap.size w' v its):qI w t (.returned (.tuple #[v,.int .i64 (-9),.int .i64 0])) w':=⟨a,by rw[h];exact⟨v,rfl,c,b⟩⟩
structure VX(w wr:World)(nb:Nat)(s:RS)(u fv:Value)(fvs:List Value):Prop where
 acc:jhM w wr u fvs s.out
 box:jd wr nb 107 #[.int .i64 s.kind,.string (B s.raw),fv]
 low:w.heap.size<=nb
 flds:wr.ownsRow w.heap.size 148 2 fv s.fields.length (jA s.fields)
 apart:u.ownBlock≠some nb
theorem VX.kept{w wr w2:World}{c:Nat}{s:RS}{u b:Value}{fvs:List Value}(h:VX w wr c s u b fvs)(a:Below wr.heap.size wr w2):VX w w2 c s u b fvs :=
 ⟨h.acc.kept a,jb h.box a h.box.lt,h.low,zf h.flds a (jnT _),h.apart⟩
theorem jm1{w:World}{lo m d:Nat}{x:Value}{k:List Value}{b:Array Value}(hx:w.ownsRow lo 148 2 x m k)(i:jd w d 107 b):x.ownBlock≠some d:=by
 intro e;rcases hx.2 with ⟨rfl,_⟩|⟨g,f,c,rfl,_,j,_⟩
 ·cases e
 have:g=d:=jnY e;subst this;have a:w.heap[g]?=some (.cells b 107 (0,0)):=i
 rw[j]at a;injection a with a;injection a with _ h _;exact absurd h (by decide)
theorem VX.set{w wr:World}{a:Nat}{s s':RS}{u b:Value}{fvs:List Value}(h:VX w wr a s u b fvs)(i:Nat)(v:Value)(g:#[.int .i64 s.kind,.string (B s.raw),b].setIfInBounds i v=#[.int .i64 s'.kind,.string (B s'.raw),b])(d:s'.out=s.out)(k:s'.fields=s.fields):VX w (wr.setCell ⟨a,i,none⟩ v) a s' u b fvs:=by
 refine⟨⟨?_,?_,fun j f x c e => ?_,h.acc.below.setCell (p:=⟨a,i,none⟩) h.low v⟩,?_,h.low,?_,h.apart⟩
 ·rw[d];exact jy (p:=⟨a,i,none⟩) h.acc.row h.apart v
 ·rw[d];exact h.acc.len
 ·rw[d]at c;exact jy (p:=⟨a,i,none⟩) (h.acc.each j f x c e) (jm1 (h.acc.each j f x c e) h.box) v
 ·rw[<- g];exact h.box.set i v
 rw[k];exact jy (p:=⟨a,i,none⟩) h.flds (jm1 h.flds h.box) v
theorem XG{w:World}{b c:Nat}(h:b≠c)(o i:Nat){v:Value}:(w.setCell ⟨c,i,none⟩ v).cell? ⟨b,o,none⟩=w.cell? ⟨b,o,none⟩ :=
 jo9 (a:=⟨b,o,none⟩) (joF _ _ _ _ h)
theorem VX.drew{w wr:World}{b:Nat}{s:RS}{u a:Value}{fvs:List Value}(h:VX w wr b s u a fvs):VX w wr.drew b s u a fvs:=h.kept ((jnV _ _).drew)
theorem VX.put{w W g:World}{f:Nat}{s:RS}{u a i x:Value}{fvs:List Value}{it:It}(h:VX w W f s u i fvs)(hx:W.ownsRow w.heap.size 148 2 x it.fields.length (jA it.fields))(j:g.ownsRow w.heap.size 107 3 a (s.out.length+1) (jV s.out fvs++[.int .i64 it.kind,.string (B it.raw),x]))(o:Obj)(d:(W.alloc o).grownBy g u.ownBlock)(b:a.ownBlock=u.ownBlock\/a.ownBlock=some (W.heap.size+1)):VX w g f {s with out:=s.out++[it]} a i (fvs++[x]):=by
 have c:=(jnV W.heap.size W).alloc (jnT _) o;have hl:=h.box.lt
 refine⟨h.acc.snoc hx j o d,?_,h.low,?_,?_⟩
 ·exact(d.block f (by simp;omega) (fun e=>h.apart e.symm)).trans (jb h.box c hl)
 ·exact jkK (zf h.acc.row c (jnT _)) (zf h.flds c (jnT _)) d
 intro e;rcases b with q|q
 ·exact h.apart (q.symm.trans e)
 rw[q]at e;have:=jnY e
 omega
theorem VX.setF{w wr:World}{b:Nat}{s s':RS}{u i a:Value}{fvs:List Value}(h:VX w wr b s u i fvs)(k:s'.kind=s.kind)(l:s'.raw=s.raw)(d:s'.out=s.out)(f:wr.ownsRow w.heap.size 148 2 a s'.fields.length (jA s'.fields)):VX w (wr.setCell ⟨b,2,none⟩ a) b s' u a fvs:=by
 refine⟨⟨?_,?_,fun j g x c e => ?_,h.acc.below.setCell (p:=⟨b,2,none⟩) h.low _⟩,?_,h.low,?_,h.apart⟩
 ·rw[d];exact jy (p:=⟨b,2,none⟩) h.acc.row h.apart _
 ·rw[d];exact h.acc.len
 ·rw[d]at c;exact jy (p:=⟨b,2,none⟩) (h.acc.each j g x c e) (jm1 (h.acc.each j g x c e) h.box) _
 ·have:=h.box.set 2 a;rw[k,l];simpa using this
 exact jy (p:=⟨b,2,none⟩) f (jm1 f h.box) _
theorem VX.fresh{w wr:World}{a:Nat}{s s':RS}{u b:Value}{fvs:List Value}(h:VX w wr a s u b fvs)(f:s'.kind=2)(i:s'.raw=[])(g:s'.out=s.out)(e:s'.fields=[]):VX w (((wr.setCell ⟨a,0,none⟩ (.int .i64 2)).setCell ⟨a,1,none⟩ (.string ⟨#[]⟩)).setCell ⟨a,2,none⟩ (.slice none 0 0)) a s' u (.slice none 0 0) fvs:=by
 have c:=h.set (s':={s with kind:=2}) 0 (.int .i64 2) rfl rfl rfl;have d:=c.set (s':={s with kind:=2,raw:=[]}) 1 (.string ⟨#[]⟩) rfl rfl rfl
 refine d.setF f i g ?_;rw[e];exact⟨rfl,.inl ⟨rfl,rfl⟩⟩
theorem Vx(s:ByteArray)(hs:s.size<=60000)(w:World):
  Calls prog 56 #[.string s] w fun e w'=>qI w s.data.toList e w':=by
 obtain⟨xs,aw⟩:∃xs,jf s.data.toList=xs:=⟨_,rfl⟩
 have bV:=zL s.data.toList;rw[<- joa,aw]at bV;have hj:(xs.flatMap Ln.bytes).length=s.size:=by rw[<- aw,jJ,<- joa]
 have aC:=jnS aw;have aP:=jnS (yr s (by omega) w)
 rw[aw]at aP;have HJ:=jnS hj
 obtain⟨i0,hi,c8,cd,bL⟩:=info_parts jla;clear aw hj;go_enter func56,ntmps56;go_wp2_with fail;refine aP.out.mono ?_;rintro e w1 ⟨lv,rfl,aV,b1⟩;obtain⟨la,lc,bU,_⟩:=je aV;subst bU;have aO:=jnS (jei aV)
 have bK:=b1.size;clear aV aP;go_wp2_with fail;go_loopw [6,7] (fun u i wr=>∃k:Nat,k<=xs.length/\i=.int .i64 k/\wr.ownsRow w1.heap.size 3 1 u k (vE (xs.take k))/\Below w1.heap.size w1 wr) (fun _ i _=>xs.length-(intOf i).toNat)
 case atStart=>exact⟨0,jn3 _,rfl,⟨rfl,.inl ⟨rfl,rfl⟩⟩,jnV _ _⟩
 case round =>
 obtain⟨k,hk,rfl,z,hb⟩:=hrel;have aB:=hb.size
 by_cases G:k<xs.length
 ·obtain⟨x,hx⟩:∃x,xs[k]?=some x:=⟨_,jnW G⟩
  obtain⟨A,cy,e,_,hc⟩:=aO.out.below hb (jnT _);cases e;obtain⟨b,cF,rfl,cA,c0,_⟩:=hc k x hx;have c7:x.text.length<=60000:=by
   have h1:x.bytes.length<=(xs.flatMap Ln.bytes).length:=by obtain⟨p1,p2,e⟩:=jpY (jn7 hx);rw[e,jow,joc,jnU,jnU];omega
   have h2:=HJ.out;have h3:x.text.length<=x.bytes.length:=by unfold Ln.bytes;simp
   omega
  have KD:=jnS (vr (B x.text) (by rw[jg];omega) wr);rw[jj]at KD;have TK:=jnS (show vE (xs.take (k+1))=vE (xs.take k)++[.int .i64 (jm x.text:Nat)] by rw[jor,hx];exact Ka _ _)
  have HO:=jnS z;clear hc hx z;go_wp2_with fail;refine KD.out.mono ?_;rintro e W ⟨rfl,I⟩;have aD:=hb.trans (I.mono aB)
  have av:=zf HO.out I (jnT _);have cu:=aD.size
  have HV:=jnS (jfl W (.int .i64 (jm x.text:Nat)) 3);clear KD HO I c0;go_wp2_with (at_builtin;refine wpList_append_own _ rfl _ _ 23 rfl w1.heap.size 3 i0 _ 1 8 underlying23 hi c8 cd bL rfl (by decide) _ _ _ rfl (av.alloc _) ⟨W.heap.size,0,none⟩ 1 1 _ rfl rfl HV.out ?c2 ?c3 ?c4 ?c5 ?_)
  case c2=>intro u P;simp at P;subst P;rfl
  case c3=>unfold maxLen;omega
  case c4=>omega
  case c5=>simp;omega
  intro v' w3 c f _;obtain⟨g',ae,rfl⟩:=ownsRow_succ c;have aR:Below w1.heap.size w1 w3:=(aD.alloc (by omega) _).grown f (by simp;omega) (fun j ej=>(av.lt j ej).1)
  go_wp2_with fail;go_roundw
  case rel=>exact⟨k+1,G,by go_num,by rw[TK.out];exact c,aR⟩
  case measure=>simp[intOf];omega
 obtain rfl:k=xs.length:=by omega
 rw[jom]at z;obtain⟨ka,kc,bT,_⟩:=je z;subst bT;have KR:=jnS (jeo z)
 have aU:=b1.trans (hb.mono bK);have ak:=jnS (aO.out.below hb (jnT _))
 clear z aO hb;obtain⟨g,bZ⟩:∃g,g=wr:=⟨wr,rfl⟩
 subst bZ;have cm:=jnS (fun(k:Nat) (x:Ln) (hx:xs[k]?=some x)=>jej aC.out hx)
 have H:VX g (g.alloc (.cells #[.int .i64 2,.string ⟨#[]⟩,.slice none 0 0] 107)) g.heap.size RS.new (.slice none 0 0) (.slice none 0 0) [] :=
  ⟨⟨⟨rfl,.inl ⟨rfl,rfl⟩⟩,rfl,fun j it x h=>by simp[RS.new]at h,(jnV _ _).alloc (jnT _) _⟩,jd.new _ _ _,jnT _,⟨rfl,.inl ⟨rfl,rfl⟩⟩,fun e=>by cases e⟩
 have aL:∀x∈xs,1<=x.bytes.length:=by rw[<- aC.out];exact xl _ 0 0 _ (jnT _)
 have aj:=jnS aL;have aH:=aU.size
 clear aL;go_wp2_with fail;go_loopw [8,10,11] (fun u r i wr=>∃(k:Nat) (st:RS) (fv:Value) (Q:List Value),k<=xs.length/\i=.int .i64 k/\r=.int .i64 st.records/\VX g wr g.heap.size st u fv Q/\ZD RS.new xs=ZD st (xs.drop k)/\st.prev=yo xs k/\st.records<=k/\st.fields.length<=k/\st.out.length<=2*k/\st.raw.length<=60001*k) (fun _ _ i _=>xs.length-(intOf i).toNat)
 case atStart=>exact⟨0,RS.new,_,[],jn3 _,rfl,rfl,H,rfl,rfl,jnT _,jnT _,jnT _,jnT _⟩
 case round =>
 obtain⟨k,st,fv,Q,hk,rfl,rfl,Z,D,aW,q1,q2,q3,q4⟩:=hrel;have L:=Z.acc.below
 have hb:=aU.trans (L.mono aH);obtain⟨fa,fc,bR,_⟩:=je Z.flds;subst bR;obtain⟨ua,uc,bX,_⟩:=je Z.acc.row;subst bX;have n0:wr.cell? ⟨g.heap.size,0,none⟩=some (.int .i64 st.kind):=Z.box.cell 0
 have n1:wr.cell? ⟨g.heap.size,1,none⟩=some (.string (B st.raw)):=Z.box.cell 1;have n2:wr.cell? ⟨g.heap.size,2,none⟩=some (.slice fa st.fields.length fc):=Z.box.cell 2
 have nl:=Z.box.lt;by_cases G:k<xs.length
 ·obtain⟨x,hx⟩:∃x,xs[k]?=some x:=⟨_,jnW G⟩
  have q:xs.drop k=x::xs.drop (k+1):=by have e:=jou G;rw[jnW G]at hx;rw[jnY hx]at e;exact e
  have bo:=ak.out.below L (jnT _);have bm:=KR.out.below L (jnT _)
  have aF:=Uo (xs.drop k) (fun y hy=>aj.out y (joJ hy));have bG:((xs.drop k).flatMap Ln.bytes).length<=s.size:=by
   rw[<- HJ.out]
   conv=>rhs;rw[<- joj k xs,jow,jnU]
   omega
  have aG:=Uq (x:=x) (xs:=xs.drop (k+1)) (by rw[<- q];exact fun y hy=>aj.out y (joJ hy));rw[<- q]at aG;have WR:=jnS (jfh xs _ _ k x st.fields.length st.records wr bo bm hx (by omega) (by omega) (by omega) (by omega) (by omega))
  rw[<- aW,<- jfg]at WR;have bJ:=cm.out k x hx
  rw[q]at D;have d:ZD RS.new xs=if zv st x (xs.drop (k+1))≠0 then Except.error (x.no,zv st x (xs.drop (k+1))) else ZD (vC st x (xs.drop (k+1))) (xs.drop (k+1)):=D
  by_cases hn:zv st x (xs.drop (k+1))=0
  ·rw[if_neg (by rw[hn];decide)]at d;rw[hn]at WR;obtain⟨A9,cr,e9,_,bF⟩:=ak.out;cases e9;obtain⟨bl,ol,rfl,R,l2,_⟩:=bF k x hx;obtain⟨A8,cp,e8,_,bE⟩:=KR.out;cases e8;obtain⟨bk,ok,rfl,ap,k0⟩:=bE k x hx;replace l2:=(L.cell (p:=⟨bl,ol+k*4+1+1,none⟩) R).trans l2;replace k0:=(L.cell (p:=⟨bk,ok+k,none⟩) ap).trans k0;have aT:bl<wr.heap.size:=jod R L.size
   have aS:bk<wr.heap.size:=jod ap L.size;have aM:bk≠g.heap.size:=jp6 ap
   have cw:bl≠g.heap.size:=jp6 R;have c7:x.text.length<=60000:=by have h1:=aG.1;simp only[joy,jo2]at h1;omega
   have aB:=hb.size;have ce:=L.size
   have NX:=jnS d;have PK:Hid (∀m,m=jm x.text->m=yo xs (k+1)):=by show ∀m,_;intro m hm;unfold yo;rw[if_neg (by omega),Nat.add_sub_cancel,hx];exact hm
   have HV:=jnS Z;have zr:=jg st.raw
   have zt:=jg x.text;have N:=ZO x.text
   have bi:Hid (∀y∈x::xs.drop (k+1),1<=y.bytes.length):=by show ∀y,_;rw[<- q];exact fun y hy=>aj.out y (joJ hy)
   have bg:Hid (((x::xs.drop (k+1)).flatMap Ln.bytes).length<=60000):=by show _<=_;rw[<- q];omega
   clear D d bG aF aG Z bE bF q H bJ n0 n1;by_cases ah:jm x.text=1
   ·have C:vC st x (xs.drop (k+1))=⟨st.out++st.block++[⟨1,x.text++[10],[]⟩],2,[],[],st.records,1⟩:=by unfold vC;rw[if_pos ah]
    rw[C]at NX;have Y:=jnS (PK.out 1 ah.symm)
    rw[ah]at k0;have bB:B x.text ++ ⟨#[10]⟩=B (x.text++[10]):=jn _ [10]
    have be:=jnS bB;obtain⟨i1,aq,ax,ay,aA⟩:=info_parts Uu;have bY:st.out.length<=200000:=by omega
    clear C hx N PK ah bB;go_wp2_with fail;refine WR.out.mono ?_;rintro e W ⟨rfl,I⟩;have K:=HV.out.kept I
    have n0:W.cell? ⟨g.heap.size,0,none⟩=some (.int .i64 st.kind):=K.box.cell 0;have n1:W.cell? ⟨g.heap.size,1,none⟩=some (.string (B st.raw)):=K.box.cell 1
    have bN:W.cell? ⟨g.heap.size,2,none⟩=some (.slice fa st.fields.length fc):=K.box.cell 2;have cl:=K.box.lt
    have aa:=(I.cell (p:=⟨bl,ol+k*4+1+1,none⟩) aT).trans l2;have V:=(I.cell (p:=⟨bk,ok+k,none⟩) aS).trans k0
    have bL:=I.size;have VH:=jnS K
    have J:=K.acc.row;have bW:=K.acc.below.size
    clear WR HV K I l2 k0 n2;by_cases U:st.raw=[]
    ·have o:st.block=[]:=by unfold RS.block;rw[if_pos U]
     rw[o,jok]at NX;have e1:((B st.raw).toList==[])=true:=by rw[U,jot,jj];rfl
     have e2:((B st.raw).toList != [])=false:=by rw[U,jot,jj];rfl
     have HI:=jnS (jC W 107 [.int .i64 1,.string (B x.text ++ ⟨#[10]⟩),.slice none 0 0]);clear U o;go_wp2_with (at_builtin;refine wpList_append_own_at _ rfl _ _ 92 rfl g.heap.size 107 i1 _ 3 48 underlying92 aq ax ay aA rfl (by decide) _ _ _ rfl (J.alloc _) ⟨W.heap.size,0,none⟩ 1 1 _ rfl rfl HI.out ?c2 ?c3 ?c4 ?c5 ?_)
     case c2=>intro u P;simp at P;rcases P with rfl | rfl | rfl<;>rfl
     case c3=>unfold maxLen;omega
     case c4=>omega
     case c5=>simp;omega
     intro v' w3 c f _ am;rw[be.out]at c;have E:=VH.out.put (it:=⟨1,x.text++[10],[]⟩) (x:=.slice none 0 0) ⟨rfl,.inl ⟨rfl,rfl⟩⟩ c _ f am
     obtain⟨g',ae,rfl⟩:=ownsRow_succ c;have f0:=E.box.frozen 0
     have f1:=E.box.frozen 1;have f2:=E.box.frozen 2
     have m0:w3.cell? ⟨g.heap.size,0,none⟩=some (.int .i64 st.kind):=E.box.cell 0;have m1:w3.cell? ⟨g.heap.size,1,none⟩=some (.string (B st.raw)):=E.box.cell 1
     have m2:w3.cell? ⟨g.heap.size,2,none⟩=some (.slice fa st.fields.length fc):=E.box.cell 2;have V4:=jnS (E.fresh (s':=⟨st.out++[⟨1,x.text++[10],[]⟩],2,[],[],st.records,1⟩) rfl rfl rfl rfl)
     clear E VH J n0 n1 bN aa V e1 e2 c f am HI;go_wp2_with fail;go_roundw
     case rel=>exact⟨k+1,⟨st.out++[⟨1,x.text++[10],[]⟩],2,[],[],st.records,1⟩,_,_,G,by go_num,rfl,V4.out,NX.out,Y.out,by show st.records<=_;omega,jn3 _,by show(st.out++[_]).length<=_;simp;omega,jn3 _⟩
     case measure=>simp[intOf];omega
    have o:st.block=[⟨st.kind,st.raw,st.fields⟩]:=by unfold RS.block;rw[if_neg U]
    rw[o]at NX;have hB:(B st.raw).toList=st.raw:=by rw[jot,jj]
    have e1:((B st.raw).toList==[])=false:=by rw[hB];simpa using U
    have e2:((B st.raw).toList != [])=true:=by rw[hB];simpa using U
    have HI:=jnS (jC W 107 [.int .i64 st.kind,.string (B st.raw),.slice fa st.fields.length fc]);clear U o hB;go_wp2_with (at_builtin;refine wpList_append_own_at _ rfl _ _ 92 rfl g.heap.size 107 i1 _ 3 48 underlying92 aq ax ay aA rfl (by decide) _ _ _ rfl (J.alloc _) ⟨W.heap.size,0,none⟩ 1 1 _ rfl rfl HI.out ?c2 ?c3 ?c4 ?c5 ?_)
    case c2=>intro u P;simp at P;rcases P with rfl | rfl | rfl<;>rfl
    case c3=>unfold maxLen;omega
    case c4=>omega
    case c5=>simp;omega
    intro v' w3 c f _ am;have E:=VH.out.put (it:=⟨st.kind,st.raw,st.fields⟩) VH.out.flds c _ f am
    obtain⟨g',ae,rfl⟩:=ownsRow_succ c;have b3:=E.acc.below
    have cj:w3.cell? ⟨bl,ol+k*4+1+1,none⟩=some (.string (B x.text)):=by rw[b3.cell (p:=⟨bl,ol+k*4+1+1,none⟩) R,<- VH.out.acc.below.cell (p:=⟨bl,ol+k*4+1+1,none⟩) R];exact aa
    have a8:=E.acc.row;have bu:=jnS E
    have cB:=E.box.lt;have bj:=jnS (jC w3 107 [.int .i64 1,.string (B x.text ++ ⟨#[10]⟩),.slice none 0 0])
    have ar:(st.out++[(⟨st.kind,st.raw,st.fields⟩:It)]).length=st.out.length+1:=by simp
    simp only[ar]at a8;clear E VH J n0 n1 bN aa V e1 e2 c f am HI b3;go_wp2_with (at_builtin;refine wpList_append_own_at _ rfl _ _ 92 rfl g.heap.size 107 i1 _ 3 48 underlying92 aq ax ay aA rfl (by decide) _ _ _ rfl (a8.alloc _) ⟨w3.heap.size,0,none⟩ 1 1 _ rfl rfl bj.out ?d2 ?d3 ?d4 ?d5 ?_)
    case d2=>intro u P;simp at P;rcases P with rfl | rfl | rfl<;>rfl
    case d3=>unfold maxLen;omega
    case d4=>omega
    case d5=>simp;omega
    intro cG w4 O af _ aI;rw[be.out]at O;have V4:=bu.out.put (it:=⟨1,x.text++[10],[]⟩) (x:=.slice none 0 0) ⟨rfl,.inl ⟨rfl,rfl⟩⟩ (by show w4.ownsRow _ _ _ _ ((st.out++[(⟨st.kind,st.raw,st.fields⟩:It)]).length+1) _;rw[ar];exact O) _ af aI
    obtain⟨g4,co,rfl⟩:=ownsRow_succ O;have f0:=V4.box.frozen 0
    have f1:=V4.box.frozen 1;have f2:=V4.box.frozen 2
    have m0:w4.cell? ⟨g.heap.size,0,none⟩=some (.int .i64 st.kind):=V4.box.cell 0;have m1:w4.cell? ⟨g.heap.size,1,none⟩=some (.string (B st.raw)):=V4.box.cell 1
    have m2:w4.cell? ⟨g.heap.size,2,none⟩=some (.slice fa st.fields.length fc):=V4.box.cell 2;have V5:=jnS (V4.fresh (s':=⟨st.out++[⟨st.kind,st.raw,st.fields⟩]++[⟨1,x.text++[10],[]⟩],2,[],[],st.records,1⟩) rfl rfl rfl rfl)
    clear V4 bu a8 cj O af aI bj;go_wp2_with fail;go_roundw
    case rel=>exact⟨k+1,⟨st.out++[⟨st.kind,st.raw,st.fields⟩]++[⟨1,x.text++[10],[]⟩],2,[],[],st.records,1⟩,_,_,G,by go_num,rfl,V5.out,NX.out,Y.out,by show st.records<=_;omega,jn3 _,by show(st.out++[_]++[_]).length<=_;simp;omega,jn3 _⟩
    case measure=>simp[intOf];omega
   by_cases ai:jm x.text=4
   ·obtain⟨ls,au⟩:∃ls,x.text::zI (xs.drop (k+1))=ls:=⟨_,rfl⟩
    have C:vC st x (xs.drop (k+1))=⟨st.out,3,st.raw++x.text++[10],st.fields++[(jU ls,jT ls)],if st.kind=2 then st.records+1 else st.records,4⟩:=by unfold vC;rw[if_neg (by omega),if_pos ai,au]
    rw[C]at NX;have Y:=jnS (PK.out 4 ai.symm)
    rw[ai]at k0;have HX:=jnS hx
    have bQ:=jnS ai;have ag:=jnS au
    have aF:=(Uq (x:=x) (xs:=xs.drop (k+1)) (bi.out)).1;have bH:=(Uq (x:=x) (xs:=xs.drop (k+1)) (bi.out)).2
    have cC:(ls.map List.length).sum<=60000:=by rw[<- au];have:=bg.out;omega
    have bW:ls.length<=60000:=by rw[<- au];have:=bg.out;omega
    have ci:(((4:Nat):Int)==1)=false:=rfl;clear C hx N PK ah ai au aF bH;go_wp2_with fail;refine WR.out.mono ?_;rintro e W ⟨rfl,I⟩;have K:=HV.out.kept I
    have n1:W.cell? ⟨g.heap.size,1,none⟩=some (.string (B st.raw)):=K.box.cell 1;have aY:=K.box.frozen 1
    have cl:=K.box.lt;have aa:=(I.cell (p:=⟨bl,ol+k*4+1+1,none⟩) aT).trans l2
    have V:=(I.cell (p:=⟨bk,ok+k,none⟩) aS).trans k0;have VV:=jnS (fun aZ h1 h2 h3=>K.set (s':=aZ) 1 (.string (B st.raw++B x.text ++ ⟨#[10]⟩)) h1 h2 h3)
    clear WR HV K I l2 k0 n2;go_wp2_with fail;go_cut [] (fun wx=>VX g wx g.heap.size {st with raw:=st.raw++x.text++[10]} (.slice ua st.out.length uc) (.slice fa st.fields.length fc) Q/\wx.cell? ⟨bk,ok+k,none⟩=some (.int .i64 4))
    case first =>
     go_region
     all_goals
      go_wp2;go_meet;refine⟨VX.drew (VV.out _ ?_ rfl rfl),?_⟩
      ·show #[_,_,_]=_;rw[<- jn,<- jn];rfl
      show((W.setCell ⟨g.heap.size,1,none⟩ _).drew).cell? ⟨bk,ok+k,none⟩=_;exact(XG aM _ _).trans V
    case rest =>
    obtain⟨E,bM⟩:=hcut;have n0:wc.cell? ⟨g.heap.size,0,none⟩=some (.int .i64 st.kind):=E.box.cell 0
    have ck:=E.box.frozen 0;have cE:=E.box.lt
    have cz:=E.acc.below.size;have VH:=jnS E
    clear E VV aa V n1 aY;by_cases aE:st.kind=2
    case' pos =>
     have c0:((st.kind:Int)==2)=true:=by rw[aE];rfl
     rw[if_pos aE]at NX
    case' neg =>
     have c0:((st.kind:Int)==2)=false:=beq_eq_false_iff_ne.2 aE;rw[if_neg aE]at NX
    all_goals
     have V4:=VH.out.set (s':={st with raw:=st.raw++x.text++[10],kind:=3}) 0 (.int .i64 3) rfl rfl rfl;have bC:=V4.acc.below
     have SD:=jnS (jaq xs _ _ k x _ (ak.out.below bC (jnT _)) (KR.out.below bC (jnT _)) HX.out (by omega));rw[ag.out]at SD;have bw:=jnS V4
     clear V4 VH;go_wp2_with fail;refine SD.out.mono ?_;rintro e w5 ⟨sv,rfl,z,b5⟩;have aX:=z.strs
     obtain⟨Av,ct,rfl,_,_⟩:=id aX;have UF:=jnS (xe x.text (zI (xs.drop (k+1))) _ w5 (by rw[ag.out];exact aX) (by rw[ag.out];exact fun l hl=>by have:=jaP _ _ hl;omega) (by rw[ag.out];omega) (by rw[ag.out];have:=ZB ls;omega) bQ.out)
     rw[ag.out,joi]at UF;have bz:=jnS (bw.out.kept b5)
     unfold zC at UF;clear z aX SD bw b5 n0 ck;generalize jU ls=uk at *
     generalize jT ls=uv at *
     generalize jt ls=un at *
     go_wp2_with fail;refine UF.out.mono ?_;rintro e w6 ⟨rfl,b6⟩;have bA:=jnS (bz.out.kept b6)
     clear UF bz b6;go_upto_region 29 with fail;have aJ:Below w6.heap.size w6 (w6.alloc (.cells #[.string (B uk),.string (B uv)] 148)):=(jnV _ _).alloc (jnT _) _
     have V7:=jnS (bA.out.kept aJ);have FB:=jd.new w6 148 #[.string (B uk),.string (B uv)]
     generalize w6.alloc (.cells #[.string (B uk),.string (B uv)] 148)=W3 at *
     have aK:∀u∈jA st.fields,u.oneCell'=true:=by intro u P;unfold jA at P;simp at P;obtain⟨a,b,_,h|h⟩:=P<;>subst h<;>rfl
     refine region29x _ _ g.heap.size w6.heap.size st.fields.length (.slice fa st.fields.length fc) (jA st.fields) (B uk) (B uv) _ _ _ ?h9 ?h13 ?hsz V7.out.box FB (jE V7.out.flds (jn3 _)) aK (by omega) ?_
     case h9=>kernel_rfl
     case h13=>kernel_rfl
     case hsz=>exact jqu (by kernel_rfl)
     intro y0 y1 y2 y3 y4 y5 y6 y7 bO g2 c2 bb o2;have V9:∀nr,Hid (VX g (bO.setCell ⟨g.heap.size,2,none⟩ (sl g2 (st.fields.length+1) c2)) g.heap.size ⟨st.out,3,st.raw++x.text++[10],st.fields++[(uk,uv)],nr,4⟩ (.slice ua st.out.length uc) (sl g2 (st.fields.length+1) c2) Q):=fun nr =>
      (V7.out.kept bb).setF rfl rfl rfl (by show bO.ownsRow _ _ _ _ (st.fields++[(uk,uv)]).length _;rw[jnU,XD];exact jE o2 V7.out.acc.below.size)
     clear bb o2 V7 FB aK aJ bA;dsimp only;simp only[jof,joT,joU];go_wp2_with fail;go_roundw
     case rel =>
      first | exact⟨k+1,⟨st.out,3,st.raw++x.text++[10],st.fields++[(uk,uv)],st.records+1,4⟩,_,Q,G,by go_num,rfl,(V9 _).out,NX.out,Y.out,by show st.records+1<=_;omega,by show(st.fields++[_]).length<=_;rw[jnU];simp only[joN];omega,by show st.out.length<=_;omega,by show(st.raw++x.text++[10]).length<=_;simp;omega⟩ | exact⟨k+1,⟨st.out,3,st.raw++x.text++[10],st.fields++[(uk,uv)],st.records,4⟩,_,Q,G,by go_num,rfl,(V9 _).out,NX.out,Y.out,by show st.records<=_;omega,by show(st.fields++[_]).length<=_;rw[jnU];simp only[joN];omega,by show st.out.length<=_;omega,by show(st.raw++x.text++[10]).length<=_;simp;omega⟩
     case measure=>simp[intOf];omega
   have ci:(((jm x.text:Nat):Int)==1)=false:=beq_eq_false_iff_ne.2 (by omega);have cD:(((jm x.text:Nat):Int)==4)=false:=beq_eq_false_iff_ne.2 (by omega)
   have C:vC st x (xs.drop (k+1))={st with raw:=st.raw++x.text++[10],prev:=jm x.text}:=by unfold vC;rw[if_neg ah,if_neg ai]
   rw[C]at NX;have Y:=jnS (PK.out _ rfl)
   clear C hx N;generalize jm x.text=kn at *
   go_wp2_with fail;refine WR.out.mono ?_;rintro e W ⟨rfl,I⟩;have K:=HV.out.kept I
   have n1:W.cell? ⟨g.heap.size,1,none⟩=some (.string (B st.raw)):=K.box.cell 1;have aY:=K.box.frozen 1
   have aa:=(I.cell (p:=⟨bl,ol+k*4+1+1,none⟩) aT).trans l2;have V:=(I.cell (p:=⟨bk,ok+k,none⟩) aS).trans k0
   have VV:=jnS (fun aZ h1 h2 h3=>K.set (s':=aZ) 1 (.string (B st.raw++B x.text ++ ⟨#[10]⟩)) h1 h2 h3);clear WR HV K I l2 k0 n2;go_wp2_with fail;go_cut [] (fun wx=>VX g wx g.heap.size {st with raw:=st.raw++x.text++[10],prev:=kn} (.slice ua st.out.length uc) (.slice fa st.fields.length fc) Q/\wx.cell? ⟨bk,ok+k,none⟩=some (.int .i64 (kn:Nat)))
   case first =>
    go_region
    all_goals
     go_wp2;go_meet;refine⟨VX.drew (VV.out _ ?_ rfl rfl),?_⟩
     ·show #[_,_,_]=_;rw[<- jn,<- jn];rfl
     show((W.setCell ⟨g.heap.size,1,none⟩ _).drew).cell? ⟨bk,ok+k,none⟩=_;exact(XG aM _ _).trans V
   case rest =>
   obtain⟨E,bM⟩:=hcut;have VH:=jnS E
   clear E VV aa V n1 aY;go_wp2_with fail;go_roundw
   case rel=>exact⟨k+1,{st with raw:=st.raw++x.text++[10],prev:=kn},_,Q,G,by go_num,rfl,VH.out,NX.out,Y.out,by show st.records<=_;omega,by show st.fields.length<=_;omega,by show st.out.length<=_;omega,by show(st.raw++x.text++[10]).length<=_;simp;omega⟩
   case measure=>simp[intOf];omega
  rw[if_pos hn,bJ]at d;have X:=jnS (fun w' (aQ:Below w.heap.size w w')=>qI.no (w:=w) (t:=s.data.toList) (w':=w') (a:=k) (n:=zv st x (xs.drop (k+1))) (by unfold yG;rw[aC.out,d]) aQ)
  obtain⟨n,bI⟩:∃n,zv st x (xs.drop (k+1))=n:=⟨_,rfl⟩
  rw[bI]at WR X hn;have z1:((n:Int) != 0)=true:=by simp;omega
  have aB:=hb.size;clear D d bI bG aF aG bo bm Z q hx H;go_wp2_with fail;refine WR.out.mono ?_;rintro e W ⟨rfl,I⟩;have aD:=hb.trans (I.mono aB)
  clear WR;go_wp2_with fail;refine bodyPost_ret (v:=.tuple #[.slice none 0 0,.int .i64 (k:Nat),.int .i64 (n:Nat)]) (by simp[results,results56,go_sem]) rfl ?_;exact X.out _ aD
 obtain rfl:k=xs.length:=by omega
 rw[joO (jnT _)]at D;have d:ZD RS.new xs=.ok st:=D
 have X:=jnS (fun w' v (aQ:Below w.heap.size w w') (hi:Its w' v (st.out++st.block)) (hf:jhJ w.heap.size w' v (st.out++st.block))=>qI.yes (w:=w) (t:=s.data.toList) (w':=w') (v:=v) (by unfold yG;rw[aC.out,d]) aQ hi hf);have aN:=jnS Z.acc
 have bP:=jnS Z.flds;have ce:=L.size
 have aB:=hb.size;by_cases U:st.raw=[]
 ·have o:st.block=[]:=by unfold RS.block;rw[if_pos U]
  rw[o,jok]at X;have e1:((B st.raw).toList==[])=true:=by rw[U,jot,jj];rfl
  have e2:((B st.raw).toList != [])=false:=by rw[U,jot,jj];rfl
  clear D d Z H o U;go_wp2_with fail;refine bodyPost_ret (v:=.tuple #[.slice ua st.out.length uc,.int .i64 (-9),.int .i64 0]) (by simp[results,results56,go_sem]) rfl ?_;exact X.out _ _ hb aN.out.its (aN.out.fresh aH)
 have o:st.block=[⟨st.kind,st.raw,st.fields⟩]:=by unfold RS.block;rw[if_neg U]
 rw[o]at X;have hB:(B st.raw).toList=st.raw:=by rw[jot,jj]
 have e1:((B st.raw).toList==[])=false:=by rw[hB];simpa using U
 have e2:((B st.raw).toList != [])=true:=by rw[hB];simpa using U
 obtain⟨i1,aq,ax,ay,aA⟩:=info_parts Uu;have J:=Z.acc.row
 have bY:st.out.length<=200000:=by omega
 have HV:=jnS (jC wr 107 [.int .i64 st.kind,.string (B st.raw),.slice fa st.fields.length fc]);clear D d Z H o U hB;go_wp2_with (at_builtin;refine wpList_append_own _ rfl _ _ 92 rfl g.heap.size 107 i1 _ 3 48 underlying92 aq ax ay aA rfl (by decide) _ _ _ rfl (J.alloc _) ⟨wr.heap.size,0,none⟩ 1 1 _ rfl rfl HV.out ?c2 ?c3 ?c4 ?c5 ?_)
 case c2=>intro u P;simp at P;rcases P with rfl | rfl | rfl<;>rfl
 case c3=>unfold maxLen;omega
 case c4=>omega
 case c5=>simp;omega
 intro v' w3 c f _;have a7:=aN.out.snoc (it:=⟨st.kind,st.raw,st.fields⟩) bP.out c _ f
 obtain⟨g',ae,rfl⟩:=ownsRow_succ c;have aR:=aU.trans (a7.below.mono aH)
 go_wp2_with fail;refine bodyPost_ret (v:=.tuple #[.slice (some ⟨g',0,none⟩) (st.out.length+1) ae,.int .i64 (-9),.int .i64 0]) (by simp[results,results56,go_sem]) rfl ?_;exact X.out _ _ aR a7.its (a7.fresh aH)
end Go.Proofs.YtbapfpekklcicaaGreatDoor
