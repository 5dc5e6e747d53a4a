/- Texts put together:WM,FT,FU,QD,QE,QF. -/
import Derived.Test.YtbapfpekklcicaaGreatDoorBtx20
set_option linter.unusedVariables false
set_option maxRecDepth 100000
set_option maxHeartbeats 16000000
namespace Go.Proofs.YtbapfpekklcicaaGreatDoor
open Go.RowKit Go.Shelf Tryz
theorem jg6:∀(l:List UInt8) (k:Nat),l[k]?=some 10->(∀j,j<k->l[j]?≠some 10)->head l=l.take k/\nl l=true/\qK l=k+1
 | [],k,h,_=>by simp at h
 | a::t,0,h,_=>by
  have:a=10:=by simpa using h
  subst this;exact⟨rfl,rfl,rfl⟩
 | a::t,k+1,h,f=>by
  have d:a≠10:=fun e=>f 0 (by omega) (by rw[e];rfl);obtain⟨g,i,m⟩:=jg6 t k (by simpa using h) (fun j n=>by have:=f (j+1) (by omega);simpa using this);have b:head (a::t)=a::head t:=by simp[head,d]
  have c:nl (a::t)=nl t:=by simp[nl,Ne.symm d]
  refine⟨by rw[b,g];rfl,by rw[c,i],?_⟩;unfold qK at m ⊢;rw[b,c,joR];omega
theorem Jr:∀(l:List UInt8),(∀j:Nat,l[j]?≠some 10)->head l=l/\nl l=false/\qK l=l.length
 | [],_=>⟨rfl,rfl,rfl⟩
 | a::t,f=>by
  have d:a≠10:=fun e=>f 0 (by rw[e];rfl);obtain⟨g,h,i⟩:=Jr t (fun j=>by have:=f (j+1);simpa using this);have b:head (a::t)=a::head t:=by simp[head,d]
  have c:nl (a::t)=nl t:=by simp[nl,Ne.symm d]
  refine⟨by rw[b,g],by rw[c,h],?_⟩;unfold qK at i ⊢;rw[b,c,joR];simp only[joR];omega
def cellsOf(xs:List Ln):List Value:=xs.flatMap fun x=>(qi x).toList
theorem VU(xs:List Ln)(x:Ln):cellsOf (xs++[x])=cellsOf xs++(qi x).toList:=by unfold cellsOf;simp
theorem Xm(x:Ln):(qi x).toList.length=4:=rfl
theorem vA:∀(b:List Ln) (x:Ln) (a:List Ln) (j:Nat),j<4->(cellsOf (b++x::a))[b.length*4+j]?=(qi x).toList[j]?
 | [],x,a,j,c=>by show((qi x).toList++cellsOf a)[_]?=_;rw[jpf (by rw[Xm];simp;omega)];simp
 | y::b,x,a,j,c=>by show((qi y).toList++cellsOf (b++x::a))[_]?=_;rw[jo7 (by rw[Xm];simp;omega),Xm];rw[show(y::b).length*4+j-4=b.length*4+j by simp;omega];exact vA b x a j c
theorem jm8:(prog.info? 126).map (fun i=>(i.zero,i.size,i.bytes))=some (some (.agg #[.int .i64 0,.int .i64 0,.string ⟨#[]⟩,.bool false]),4,40):=by kernel_rfl
theorem jaZ(W:World)(x:Ln)(t:TypeId):∀j u,(qi x).toList[j]?=some u->(W.alloc (.cells (qi x) t)).cell? ((⟨W.heap.size,0,none⟩:Addr).add j)=some u:=by
 intro j u h;have a:(⟨W.heap.size,0,none⟩:Addr).add j=⟨W.heap.size,j,none⟩:=by unfold Addr.add;split<;>simp_all
 rw[a];have:=(ja.new W t (qi x)).cell j
 rw[this];simpa using h
theorem jfc(s:ByteArray)(a b:Nat):s.extract a b=⟨((s.data.toList.drop a).take (b-a)).toArray⟩:=by rw[<- jqU (s.extract a b),jpS]
structure jfI(l:List UInt8)(k at_:Nat)(pre:List Ln):Prop where
 split:jf l=pre++jR pre.length at_ (l.drop at_)
 le:at_<=k
 none:∀j,at_<=j->j<k->l[j]?≠some 10
 short:pre.length<=at_
theorem jfI.start(l:List UInt8):jfI l 0 0 []:=⟨rfl,joJ _,fun j _ h=>absurd h (jq6 j),joJ _⟩
theorem jfI.step{l:List UInt8}{k at_:Nat}{c:List Ln}(h:jfI l k at_ c)(d:l[k]?≠some 10):jfI l (k+1) at_ c :=
 ⟨h.split,Nat.le_succ_of_le h.le,fun j a b=>by
  by_cases e:j=k
  ·subst e;exact d
  exact h.none j a (by omega),h.short⟩
theorem jfI.line{l:List UInt8}{k at_:Nat}{d:List Ln}(h:jfI l k at_ d)(n:l[k]?=some 10):
  jfI l (k+1) (k+1) (d++[⟨d.length,at_,(l.drop at_).take (k-at_),true⟩]):=by
 have o:=h.le;have f:(l.drop at_)[k-at_]?=some 10:=by rw[jpq,show at_+(k-at_)=k by omega];exact n
 have m:∀j,j<k-at_->(l.drop at_)[j]?≠some 10:=fun j p=>by rw[jpq];exact h.none _ (by omega) (by omega)
 obtain⟨a,b,c⟩:=jg6 _ _ f m;have g:l.drop at_≠[]:=by intro e;rw[e]at f;simp at f
 have i:=h.split;rw[jC _ _ _ g,a,b,c,jp7,show at_+(k-at_+1)=k+1 by omega]at i;refine⟨?_,joJ _,fun j x y=>by omega,by rw[joK];have:=h.short;simp;omega⟩;rw[i,jo0,joK];rfl
theorem jfI.last{l:List UInt8}{k at_:Nat}{d:List Ln}(h:jfI l k at_ d)(n:k=l.length):
  jf l=if at_<l.length then d++[⟨d.length,at_,l.drop at_,false⟩] else d:=by
 have g:=h.split;by_cases f:at_<l.length
 ·rw[if_pos f];have i:l.drop at_≠[]:=by intro e;have:=congrArg List.length e;simp at this;omega
  have m:∀j:Nat,(l.drop at_)[j]?≠some 10:=fun j=>by
   rw[jpq];by_cases q:at_+j<k
   ·exact h.none _ (by omega) q
   rw[jpe (by omega)];simp
  obtain⟨a,b,c⟩:=Jr _ m;rw[jC _ _ _ i,a,b,c,jp0,jr]at g;exact g
 rw[if_neg f];rw[jpE (by omega),jr,jo9]at g;exact g
theorem yv(s:ByteArray)(hs:s.size<=1000000)(w:World):
  Calls prog 54 #[.string s] w fun e U=>∃v,e=.returned v/\U.ownsRow w.heap.size 126 4 v (jf s.data.toList).length (cellsOf (jf s.data.toList))/\Below w.heap.size w U:=by
 have I:=joI (jo2 s);obtain⟨P,O,y,z,A⟩:=info_parts jm8;go_enter func54,ntmps54;go_wp2;go_loopw [3,4,5] (fun v a i wr=>∃(k b:Nat) (h:List Ln),k<=s.size/\i=.int .i64 k/\a=.int .i64 b/\jfI s.data.toList k b h/\(∃C o,v=.slice C h.length o/\wr.ownsRow w.heap.size 126 4 (.slice C h.length o) h.length (cellsOf h))/\Below w.heap.size w wr)
  (fun _ _ i _=>s.size-(intOf i).toNat)
 case atStart=>exact⟨0,0,[],joT _,rfl,rfl,jfI.start _,⟨none,0,rfl,World.ownsRow_nil _ _ _ _⟩,joL _ _⟩
 case round =>
 obtain⟨k,b,h,Z,rfl,rfl,m,⟨C,o,rfl,f⟩,n⟩:=hrel;by_cases r:k<s.size
 ·have e:s.data.toList[k]?=some s[k]:=by rw[joM (by rw[<- jo2];exact r)];rfl
  have E:=joI e;clear e;have Q:=qW (c:=s[k]) (d:=10) 10 rfl
  cases D:(s[k]==10) with
  | false =>
   rw[D]at Q;have t:=m.step (k:=k) (by rw[E.out];simpa using D)
   go_wp2;go_roundw
   case rel=>exact⟨k+1,b,h,r,by go_num,rfl,t,⟨C,o,rfl,f⟩,n⟩
   case measure=>simp[intOf];omega
  | true =>
  rw[D]at Q;have t:=m.line (k:=k) (by rw[E.out];simpa using D)
  have W:=jfc s b k;generalize (s.data.toList.drop b).take (k-b)=K at *
  have X:=m.le;have Y:=m.short
  have q:=jaZ wr ⟨h.length,b,K,true⟩ 126;dsimp only[qi]at q;have G:=joI q
  clear q;go_wp2_with (at_builtin;refine wpList_append_own _ rfl _ _ 123 rfl w.heap.size 126 P _ 4 40 underlying123 O y z A rfl (by decide) _ _ _ rfl (f.alloc _) ⟨wr.heap.size,0,none⟩ 1 1 _ rfl rfl G.out ?c2 ?c3 ?c4 ?c5 ?_)
  case c2=>intro u m;simp at m;rcases m with rfl | rfl | rfl | rfl<;>rfl
  case c3=>unfold maxLen;omega
  case c4=>omega
  case c5=>have:=n.size;simp;omega
  intro R L g l _;obtain⟨V,x,rfl⟩:=ownsRow_succ g;have p:Below w.heap.size w L:=(n.alloc n.size _).grown l (by have:=n.size;simp;omega) (fun j J=>(f.lt j J).1)
  go_wp2;go_roundw
  case rel =>
   refine⟨k+1,k+1,_,r,by go_num,by go_num,t,⟨some ⟨V,0,none⟩,x,?_,?_⟩,p⟩
   ·rw[joK];rfl
   rw[joK,VU];exact g
  case measure=>simp[intOf];omega
 obtain rfl:k=s.size:=by omega
 have hl:=m.last I.out;have X:=m.le
 have Y:=m.short;by_cases N:b<s.size
 ·rw[if_pos (by rw[<- I.out];exact N)]at hl;have H:=joI hl
  have W:s.extract b s.size=⟨(s.data.toList.drop b).toArray⟩:=by rw[<- jqU (s.extract b s.size),jqB]
  clear hl m;generalize s.data.toList.drop b=K at *
  have q:=jaZ wr ⟨h.length,b,K,false⟩ 126;dsimp only[qi]at q;have G:=joI q
  clear q;go_wp2_with (at_builtin;refine wpList_append_own _ rfl _ _ 123 rfl w.heap.size 126 P _ 4 40 underlying123 O y z A rfl (by decide) _ _ _ rfl (f.alloc _) ⟨wr.heap.size,0,none⟩ 1 1 _ rfl rfl G.out ?d2 ?d3 ?d4 ?d5 ?_)
  case d2=>intro u m;simp at m;rcases m with rfl | rfl | rfl | rfl<;>rfl
  case d3=>unfold maxLen;omega
  case d4=>omega
  case d5=>have:=n.size;simp;omega
  intro R L g l _;have p:Below w.heap.size w L:=(n.alloc n.size _).grown l (by have:=n.size;simp;omega) (fun j J=>(f.lt j J).1)
  go_wp2;go_ret;refine⟨R,rfl,?_,p⟩;rw[H.out,joK,VU];exact g
 rw[if_neg (by rw[<- I.out];exact N)]at hl;have H:=joI hl
 clear hl m;go_wp2;go_ret;refine⟨_,rfl,?_,n⟩;rw[H.out];exact f
theorem VI:∀(a:List (List UInt8)) (y:List UInt8),a≠[]->zY (a++[y])=zY a++10::y
 | [],_,h=>absurd rfl h
 | [p],y,_=>rfl
 | p::q::r,y,_=>by show p++10::zY ((q::r)++[y])=(p++10::zY (q::r))++10::y;rw[VI (q::r) y (by simp)];simp
theorem Xq:∀(b a:List (List UInt8)),(zY b).length<=(zY (b++a)).length
 | [],a=>by simp[zY]
 | [p],[]=>by simp
 | [p],q::r=>by show p.length<=(p++10::zY (q::r)).length;simp
 | p::q::r,a=>by
  show(p++10::zY (q::r)).length<=(p++10::zY ((q::r)++a)).length;have:=Xq (q::r) a
  simp only[joK,joR]at this ⊢;omega
def YA(a:List UInt8)(r:List (List UInt8))(k:Nat):List UInt8:=zY (vu (qZ a)::(r.take k).map fun l=>zw l.tail)
theorem jii(a:List UInt8)(r:List (List UInt8))(k:Nat)(x:List UInt8)(hx:r[k]?=some x):YA a r (k+1)=YA a r k++10::zw x.tail:=by unfold YA;rw[jpd,hx,show(some x).toList=[x] from rfl,jpt,<- jo6];exact VI _ _ (by simp)
theorem jmt(a:List UInt8)(r:List (List UInt8))(k:Nat):(YA a r k).length<=(qI (a::r)).length:=by
 unfold YA qI YK;simp only[List.headD_cons,List.tail_cons];have:=Xq (vu (qZ a)::(r.take k).map fun l=>zw l.tail) ((r.drop k).map fun l=>zw l.tail)
 rw[jo6,<- jpt,jpb]at this;exact this
theorem jkj(a:List UInt8)(r:List (List UInt8)):YA a r r.length=qI (a::r):=by unfold YA qI YK;rw[jpa];rfl
theorem jie(r:List (List UInt8))(k:Nat)(x:List UInt8)(h:r[k]?=some x):Uj 3 (r.drop k)=((jm x==3)&&Uj 3 (r.drop (k+1))):=jau r k 3 x h
theorem jav{a:List UInt8}{r:List (List UInt8)}(h:jm a=4):jaf (a::r)=Uj 3 r:=by
 rw[jb1];show(decide (0<(a::r).length)&&((jm a==4)&&Uj 3 r))=_
 simp[h]
theorem Vz(ls:List (List UInt8))(v:Value)(w:World)(z:Strs w v (ls.map B))(hl:∀l∈ls,l.length<=100000)(I:ls.length<=100000)(q:ls=[]\/∃a r,ls=a::r/\jm a≠4):
  Calls prog 99 #[v] w fun e D=>e=.returned (.tuple #[.agg #[.string ⟨#[]⟩,.string ⟨#[]⟩],.int .i64 2])/\Below w.heap.size w D:=by
 obtain⟨A,p,rfl,x,m⟩:=z;have c:=jj8 m
 clear m;rcases q with rfl|⟨a,r,rfl,j⟩
 ·clear c;rw[jo8,jpm];go_enter func99,ntmps99;go_wp2_with fail;have f:=ja.new w 148 #[.string ⟨#[]⟩,.string ⟨#[]⟩]
  refine bodyPost_ret (Vu rfl _ _ w.heap.size _ rfl f rfl) rfl ?_;exact⟨rfl,(joL _ _).alloc (joJ _) _⟩
 obtain⟨b,C,rfl,t,i⟩:=c 0 a rfl;rw[jqk]at i;clear c;have s:=hl a (by simp)
 have k:=fun w=>vy (B a) (by rw[jg];omega) w;rw[jj]at k;have u:((jm a:Int) != 4)=true:=by simp;omega
 rw[jo8,joR]at *
 have y:((r.length:Int)+1==0)=false:=by rw[beq_eq_false_iff_ne];omega
 clear j;generalize jm a=J at *
 generalize B a=X at *
 go_enter func99,ntmps99;go_wp2_with fail;refine(k _).mono ?_;rintro e E ⟨rfl,g⟩;have d:=jb (ja.new w 148 #[.string ⟨#[]⟩,.string ⟨#[]⟩]) g (by simp)
 have n:=d.cell 0;have o:=d.cell 1
 have G:=d.frozen 0;have H:=d.frozen 1
 have h:Below w.heap.size w E:=((joL _ _).alloc (joJ _) _).trans (g.mono (by simp));simp only[joQ,joP,joO]at n o;have f:=(d.set 0 (.string ⟨#[]⟩)).set 1 (.string ⟨#[]⟩)
 rw[Qs]at f;clear g;go_wp2_with fail;refine bodyPost_ret (Vu rfl _ _ w.heap.size _ rfl f rfl) rfl ?_;exact⟨rfl,(h.setCell (joJ _) _).setCell (joJ _) _⟩
theorem xm(a:List UInt8)(r:List (List UInt8))(v:Value)(w:World)(hs:Strs w v ((a::r).map B))(hl:∀l∈a::r,l.length<=100000)(hn:(a::r).length<=100000)(hj:(qI (a::r)).length<=1000000)(L:jm a=4):
  Calls prog 99 #[v] w fun e w'=>e=.returned (.tuple #[zC (jW (a::r)) (jV (a::r)),.int .i64 (jy (a::r):Nat)])/\Below w.heap.size w w':=by
 obtain⟨A,aG,rfl,aK,R⟩:=hs;have k:=jj8 R
 clear R;obtain⟨b,D,rfl,K,aa⟩:=k 0 a rfl;have au:=joI (fun(j:Nat) x (hx:r[j]?=some x)=>(show w.cell? ⟨b,D+(j+1),none⟩=some (.string (B x)) by
  obtain⟨b',aF,e,_,h⟩:=k (j+1) x (by simpa using hx);cases e;exact h))
 rw[jqk]at aa;clear k;have ai:=hl a (by simp)
 have ay:∀x∈r,x.length<=100000:=fun x hx=>hl x (joU _ hx);have H:=fun w=>vy (B a) (by rw[jg];omega) w
 rw[jj,L]at H;obtain⟨k1,k2,k3⟩:=jlI L;have RC:=fun w=>KS (B a) (by rw[jg];omega) w (by rw[jj];exact k1) (by rw[jj];exact k2) (by rw[jj];exact k3)
 rw[jmR,jkC]at RC;rw[jo8,joR]at *
 have aM:((r.length:Int)+1==0)=false:=by rw[beq_eq_false_iff_ne];omega
 have a7:(qZ a).length<=a.length:=by unfold qZ;rw[joX];omega
 have f:B (YA a r 0)=B (vu (qZ a)):=by unfold YA;rfl
 unfold zC;clear k1 k2 k3 hl;generalize hX:B a=X at *
 clear hX;generalize hK:B (before a)=KB at *
 have HK:=joI hK;clear hK;go_enter func99,ntmps99;go_wp2_with fail;refine(H _).mono ?_;rintro e w1 ⟨rfl,b1⟩;have R1:=jb (ja.new w 148 #[.string ⟨#[]⟩,.string ⟨#[]⟩]) b1 (by simp)
 have a8:Below w.heap.size w w1:=((joL _ _).alloc (joJ _) _).trans (b1.mono (by simp));have aj:=(a8.cell (p:=⟨b,D,none⟩) K).trans aa
 have aA:=b1.size;simp only[joZ]at aA;clear b1 aa H;go_wp2_with fail;refine(RC _).mono ?_;rintro e w2 ⟨rfl,b2⟩;have R2:=jb R1 b2 (by omega)
 have BW:=joI (a8.trans (b2.mono (by omega)));clear b2 R1 a8 aj RC;rcases J:qZ a with _|⟨c,t⟩
 case' nil =>
  rw[J]at f;have U:Hid (B (YA a r 0)=⟨#[]⟩):=f
  rw[show B []=⟨#[]⟩ from rfl];clear f J;go_wp2_with fail
 case' cons =>
  rw[J]at f a7;have ar:=jg (c::t)
  have aB:t.length<=1000000:=by simp only[joR]at a7;omega
  have z1:(B (c::t)).size=t.length+1:=ar;have af:=jc7 c t
  rw[z1]at af;have aw:∀h:0<(B (c::t)).size,(B (c::t))[0]'h=c:=fun _=>rfl
  have ax:0<(B (c::t)).size:=by omega
  have q2:=qW (c:=c) (d:=32) 32 rfl;have av:(c=32/\B (YA a r 0)=B t)\/(c≠32/\B (YA a r 0)=B (c::t)):=by
   by_cases h:c=32
   ·exact .inl ⟨h,by rw[f];unfold vu;rw[h];rfl⟩
   exact .inr ⟨h,by rw[f];unfold vu;simp[h]⟩
  clear f J ar a7;have y1:=jg t
  generalize B (c::t)=Y0 at *
  generalize B t=Z0 at *
  rcases av with ⟨R,f⟩|⟨R,f⟩
 case' cons.inl =>
  have k:(c==32)=true:=by simp[R]
  rw[k]at q2;have U:=joI f
  clear f R;go_wp2_with fail
 case' cons.inr =>
  have k:(c==32)=false:=by simp[R]
  rw[k]at q2;have U:=joI f
  clear f R;go_wp2_with fail
 all_goals
  go_loopw [5,7] (fun s i wr=>∃n:Nat,n<=r.length/\i=.int .i64 ((n:Int)+1)/\s=.string (B (YA a r n))/\Uj 3 r=Uj 3 (r.drop n)/\ja wr w.heap.size 148 #[.string ⟨#[]⟩,.string ⟨#[]⟩]/\Below w.heap.size w wr) (fun _ i _=>r.length+1-(intOf i).toNat)
  case atStart=>exact⟨0,joT _,rfl,by rw[U.out],rfl,R2,BW.out⟩
  case round =>
  obtain⟨n,aL,rfl,rfl,I,q,E⟩:=hrel;have ai:=jmt a r n
  have C:=E.size;have aH:=q.lt
  by_cases ag:n<r.length
  ·obtain⟨x,hx⟩:∃x,r[n]?=some x:=⟨_,joM ag⟩
   have z:=(E.cell (p:=⟨b,D+(n+1),none⟩) K).trans (au.out n x hx);have aC:=ay x (joW hx)
   have aD:=jg x;have H:=fun w=>vy (B x) (by omega) w
   rw[jj]at H;have g:=jii a r n x hx
   rw[jie r n x hx]at I;by_cases u:jm x=3
   ·obtain⟨c,d,t,rfl⟩:=jm5 u;have G2:Hid (Uj 3 r=Uj 3 (r.drop (n+1))):=by show _=_;rw[I,u];simp
    rw[u]at H;rw[List.tail_cons]at g;have af:=jc7 c (d::t)
    have am:=jc7 d t;have z1:(B (c::d::t)).size=t.length+2:=by rw[jg];rfl
    have z2:(B (d::t)).size=t.length+1:=by rw[jg];rfl
    have z3:(B t).size=t.length:=jg t;have aB:t.length<=1000000:=by simp only[joR]at aC;omega
    rw[z1]at af;rw[z2]at am;have aw:∀h:0<(B (d::t)).size,(B (d::t))[0]'h=d:=fun _=>rfl
    have ax:0<(B (d::t)).size:=by omega
    have aI:0<(B (c::d::t)).size:=by omega
    have q2:=qW (c:=d) (d:=46) 46 rfl;have y1:=jg (YA a r n)
    have y2:(B (YA a r n) ++ ⟨#[10]⟩).size=(YA a r n).length+1:=by rw[show(⟨#[10]⟩:ByteArray)=B [10] from rfl,jn,jg];simp
    have aE:(YA a r n).length<=1000000:=by omega
    clear hx I u aD ai;by_cases hd:d=46
    ·have SB:Hid (B (YA a r (n+1))=(B (YA a r n) ++ ⟨#[10]⟩)++B t):=by show _=_;rw[g,show(⟨#[10]⟩:ByteArray)=B [10] from rfl,jn,jn];simp[zw,hd]
     have ae:(d==46)=true:=by simp[hd]
     rw[ae]at q2;clear g hd;generalize B (YA a r n)=ah at *
     generalize B (c::d::t)=X at *
     generalize B (d::t)=Y at *
     generalize B t=Z at *
     go_wp2_with fail;refine(H _).mono ?_;rintro e w4 ⟨rfl,o⟩;have ak:=(o.cell (p:=⟨b,D+(n+1),none⟩) (jo4 K C)).trans z
     have G:=jb q o (by omega);have y:=E.trans (o.mono C)
     clear q o z E;go_wp2_with fail;go_roundw
     case rel=>exact⟨n+1,ag,by go_num,by rw[SB.out],G2.out,G,y⟩
     case measure=>simp[intOf];omega
    have SB:Hid (B (YA a r (n+1))=(B (YA a r n) ++ ⟨#[10]⟩)++B (d::t)):=by show _=_;rw[g,show(⟨#[10]⟩:ByteArray)=B [10] from rfl,jn,jn];simp[zw,hd]
    have ae:(d==46)=false:=by simp[hd]
    rw[ae]at q2;clear g hd;generalize B (YA a r n)=ah at *
    generalize B (c::d::t)=X at *
    generalize B (d::t)=Y at *
    generalize B t=Z at *
    go_wp2_with fail;refine(H _).mono ?_;rintro e w4 ⟨rfl,o⟩;have ak:=(o.cell (p:=⟨b,D+(n+1),none⟩) (jo4 K C)).trans z
    have G:=jb q o (by omega);have y:=E.trans (o.mono C)
    clear q o z E;go_wp2_with fail;go_roundw
    case rel=>exact⟨n+1,ag,by go_num,by rw[SB.out],G2.out,G,y⟩
    case measure=>simp[intOf];omega
   have W:jaf (a::r)=false:=by rw[jav L,I];simp[u]
   obtain⟨O,P,Q⟩:=xX W;have ET:Hid (jy (a::r)=2/\jW (a::r)=[]/\jV (a::r)=[]):=⟨O,P,Q⟩
   have aJ:((jm x:Int) != 3)=true:=by simp;omega
   clear hx I u O P Q W g;generalize jm x=kx at *
   generalize B (YA a r n)=ah at *
   generalize B x=X at *
   go_wp2_with fail;refine(H _).mono ?_;rintro e w4 ⟨rfl,o⟩;have G:=jb q o (by omega)
   have y:=E.trans (o.mono C);have c0:=G.cell 0
   have c1:=G.cell 1;have f0:=G.frozen 0
   have f1:=G.frozen 1;simp only[joQ,joP,joO]at c0 c1;have N:=(G.set 0 (.string ⟨#[]⟩)).set 1 (.string ⟨#[]⟩)
   rw[Qs]at N;clear q o z E;go_wp2_with fail;refine bodyPost_ret (Vu rfl _ _ w.heap.size _ rfl N rfl) rfl ?_;obtain⟨O,P,Q⟩:=ET.out;exact⟨by rw[O,P,Q];rfl,(y.setCell (joJ _) _).setCell (joJ _) _⟩
  obtain rfl:n=r.length:=by omega
  rw[jkj]at *
  rw[jp0]at I;have W:jaf (a::r)=true:=by rw[jav L,I];rfl
  have c0:=q.cell 0;have c1:=q.cell 1
  have f0:=q.frozen 0;have f1:=q.frozen 1
  simp only[joQ,joP,joO]at c0 c1;have aq:=jg (qI (a::r))
  by_cases m:(qI (a::r)).length<=1000
  ·have ET:Hid _:=Qu W m;have N:=(q.set 0 (.string KB)).set 1 (.string (B (qI (a::r))))
   rw[Qs]at N;rw[<- aq]at m;clear W I;generalize hV:B (qI (a::r))=V at *
   have HV:=joI hV;clear hV;go_wp2_with fail;refine bodyPost_ret (Vu rfl _ _ w.heap.size _ rfl N rfl) rfl ?_;obtain⟨O,P,Q⟩:=ET.out;exact⟨by rw[O,P,Q,HV.out,HK.out];rfl,(E.setCell (joJ _) _).setCell (joJ _) _⟩
  have ET:Hid _:=Zg W m;have N:=(q.set 0 (.string ⟨#[]⟩)).set 1 (.string ⟨#[]⟩)
  rw[Qs]at N;rw[<- aq]at m;clear W I;generalize B (qI (a::r))=V at *
  go_wp2_with fail;refine bodyPost_ret (Vu rfl _ _ w.heap.size _ rfl N rfl) rfl ?_;obtain⟨O,P,Q⟩:=ET.out;exact⟨by rw[O,P,Q];rfl,(E.setCell (joJ _) _).setCell (joJ _) _⟩
def jmz(w:World)(v:Value)(xs:List Ln):Prop :=
 ∃A cap,v=.slice A xs.length cap/\xs.length<=cap/\∀(i:Nat) (x:Ln),xs[i]?=some x->∃b off,A=some ⟨b,off,none⟩/\b<w.heap.size/\w.cell? ⟨b,off+i*4+1+1,none⟩=some (.string (B x.text))/\w.cell? ⟨b,off+i*4+1+1+1,none⟩=some (.bool x.ended)
theorem jmz.below{w w':World}{v:Value}{xs:List Ln}{n:Nat}(h:jmz w v xs)(f:Below n w w')(q:w.heap.size<=n):jmz w' v xs:=by
 obtain⟨A,e,r,g,m⟩:=h;refine⟨A,e,r,g,fun i x o => ?_⟩;obtain⟨b,c,l,d,j,k⟩:=m i x o;have a:=jo4 d q
 exact⟨b,c,l,jo4 d f.size,(f.cell (p:=⟨b,c+i*4+1+1,none⟩) a).trans j,(f.cell (p:=⟨b,c+i*4+1+1+1,none⟩) a).trans k⟩
def jmw(w:World)(v:Value)(xs:List Ln):Prop :=
 ∃A cap,v=.slice A xs.length cap/\xs.length<=cap/\∀(i:Nat) (x:Ln),xs[i]?=some x->∃b off,A=some ⟨b,off,none⟩/\b<w.heap.size/\w.cell? ⟨b,off+i,none⟩=some (.int .i64 (jm x.text:Nat))
theorem jmw.below{w w':World}{v:Value}{xs:List Ln}{n:Nat}(h:jmw w v xs)(f:Below n w w')(m:w.heap.size<=n):jmw w' v xs:=by obtain⟨A,d,o,e,k⟩:=h;refine⟨A,d,o,e,fun i x l => ?_⟩;obtain⟨b,c,j,a,g⟩:=k i x l;exact⟨b,c,j,jo4 a f.size,(f.cell (p:=⟨b,c+i,none⟩) (jo4 a m)).trans g⟩
def vI(xs:List Ln):List Value:=xs.map fun x=>.int .i64 (jm x.text:Nat)
theorem jeQ {w : World} {base : Nat} {v : Value} {xs : List Ln} (h : w.ownsRow base 3 1 v xs.length (vI xs)) : jmw w v xs := by
  rcases jpH h with ⟨e, hn⟩ | ⟨g, cap, e⟩
  . have : xs = [] := List.length_eq_zero_iff.1 hn
    rw [e, this]
    exact ⟨none, 0, rfl, joJ _, fun i it hi => by simp at hi⟩
  refine ⟨some ⟨g, 0, none⟩, cap, e, (by rcases h.2 with ⟨q, _⟩ | ⟨g', cap', cur, q, _, _, q2, _⟩; · rw [e] at q; cases q
                                         rw [e] at q; cases q; exact q2), fun i x hi => ?_⟩
  have hlt : i < xs.length := by
    rcases jpc i xs.length with q | q
    . exact q
    rw [jpe q] at hi; cases hi
  rw [e] at h
  refine ⟨g, 0, rfl, (jpJ h g rfl).2, ?_⟩
  rw [jpl, jo1 h i (by omega)]
  unfold vI
  rw [jpx, hi]; rfl
theorem jeK {w : World} {base : Nat} {v : Value} {xs : List Ln} (h : w.ownsRow base 126 4 v xs.length (cellsOf xs)) : jmz w v xs := by
  rcases jpH h with ⟨e, hn⟩ | ⟨g, cap, e⟩
  . have : xs = [] := List.length_eq_zero_iff.1 hn
    rw [e, this]
    exact ⟨none, 0, rfl, joJ _, fun i it hi => by simp at hi⟩
  refine ⟨some ⟨g, 0, none⟩, cap, e, (by rcases h.2 with ⟨q, _⟩ | ⟨g', cap', cur, q, _, _, q2, _⟩; · rw [e] at q; cases q
                                         rw [e] at q; cases q; exact q2), fun i x hi => ?_⟩
  have hlt : i < xs.length := by
    rcases jpc i xs.length with q | q
    . exact q
    rw [jpe q] at hi; cases hi
  rw [e] at h
  have hx : xs = xs.take i ++ x :: xs.drop (i + 1) := by
    have e := jpp hlt
    rw [joM hlt] at hi
    rw [joN hi] at e
    rw [<- e, jpb]
  have hti : (xs.take i).length = i := by rw [joS]; omega
  have c2 : (cellsOf xs)[i * 4 + 2]? = some (.string ⟨x.text.toArray⟩) := by
    have := vA (xs.take i) x (xs.drop (i + 1)) 2 (by decide)
    rw [hti, <- hx] at this
    exact this
  have c3 : (cellsOf xs)[i * 4 + 3]? = some (.bool x.ended) := by
    have := vA (xs.take i) x (xs.drop (i + 1)) 3 (by decide)
    rw [hti, <- hx] at this
    exact this
  refine ⟨g, 0, rfl, (jpJ h g rfl).2, ?_, ?_⟩
  . rw [jpl, jo1 h (i * 4 + 1 + 1) (by omega)]; exact c2
  rw [jpl, jo1 h (i * 4 + 1 + 1 + 1) (by omega)]; exact c3
def yt(xs:List Ln)(i:Nat):Nat:=if i=0 then 0 else match xs[i-1]? with | some x=>jm x.text | none=>0
theorem Vh(xs:List Ln)(v:Value)(i:Nat)(w:World)(h:jmw w v xs)(t:i<xs.length)(u:xs.length<=1000000):
  Calls prog 157 #[v,.int .i64 i] w fun e p=>e=.returned (.bool (decide (yt xs i=4\/yt xs i=3)))/\w=p:=by
 obtain⟨A,k,rfl,n,c⟩:=h;by_cases l:i=0
 ·subst l;have e:decide (yt xs 0=4\/yt xs 0=3)=false:=rfl
  rw[e];clear c;go_enter func157,ntmps157;go_wp2;go_ret;exact⟨rfl,rfl⟩
 obtain⟨j,rfl⟩:∃j,i=j+1:=⟨i-1,by omega⟩
 obtain⟨y,d⟩:∃y,xs[j]?=some y:=⟨_,joM (by omega)⟩
 obtain⟨b,o,rfl,m,g⟩:=c j y d;have f:yt xs (j+1)=jm y.text:=by unfold yt;rw[if_neg (by omega),Nat.add_sub_cancel,d]
 rw[f];have q:IntKind.i64.wrap (((j+1:Nat):Int)-1)=(j:Int):=by rw[jph _ (by omega)];omega
 have r:(((j+1:Nat):Int)-1)=(j:Int):=by omega
 have s:(0:Int)<((j+1:Nat):Int):=by omega
 clear c f d;rcases ZU y.text with a|a|a|a|a
 all_goals
  rw[a]at g ⊢;go_enter func157,ntmps157;go_wp2;go_ret;exact⟨rfl,rfl⟩
theorem jgD{xs:List Ln}{k:Nat}{x:Ln}(h:xs[k]?=some x):zJ (xs.drop k)=if jm x.text=3 then x.text::zJ (xs.drop (k+1)) else []:=by
 have a:k<xs.length:=by
  rcases jpc k xs.length with q|q
  ·exact q
  rw[jpe q]at h;cases h
 have e:=jpp a;rw[joM a]at h;rw[joN h]at e;rw[e];rfl
theorem jiD(W:World)(x:List UInt8):∀(j:Nat) u,[Value.string (B x)][j]?=some u->(W.alloc (.cells #[.string (B x)] 9)).cell? ((⟨W.heap.size,0,none⟩:Addr).add j)=some u:=jp W _ [.string (B x)]
theorem jaA(xs:List Ln)(lv kv:Value)(i:Nat)(x:Ln)(w:World)(hL:jmz w lv xs)(hK:jmw w kv xs)(hx:xs[i]?=some x)(hn:xs.length<=100000):
  Calls prog 100 #[lv,kv,.int .i64 i] w fun e w'=>∃v,e=.returned v/\yq w' w.heap.size v ((x.text::zJ (xs.drop (i+1))).map B)/\Below w.heap.size w w':=by
 obtain⟨i0,hi,O,P,Q⟩:=info_parts Xs;have Y:i<xs.length:=by
  rcases jpc i xs.length with q|q
  ·exact q
  rw[jpe q]at hx;cases hx
 obtain⟨A,a8,rfl,af,N⟩:=hL;obtain⟨A',U,rfl,X,o⟩:=hK;have D:=joI N
 have l:=joI o;obtain⟨b,R,rfl,aa,G,_⟩:=N i x hx;clear N o;have C:yq (w.alloc (.cells #[.string (B x.text)] 9)) w.heap.size (.slice (some ⟨w.heap.size,0,none⟩) 1 1) [B x.text]:=yq.one w _ (joJ _) _
 go_enter func100,ntmps100;go_wp2_with fail;go_loopw [7,8] (fun u j wr=>∃(k:Nat) (d:List (List UInt8)),i<k/\k<=xs.length/\j=.int .i64 k/\yq wr w.heap.size u ((x.text::d).map B)/\d.length<=k/\d++zJ (xs.drop k)=zJ (xs.drop (i+1))/\Below w.heap.size w wr) (fun _ j _=>xs.length-(intOf j).toNat)
 case atStart=>exact⟨i+1,[],by omega,by omega,by go_num,C,by simp,rfl,(joL _ _).alloc (joJ _) _⟩
 case round =>
 obtain⟨k,d,ae,hk,rfl,c,ag,a,n⟩:=hrel;have ah:=n.size
 by_cases s:k<xs.length
 ·obtain⟨y,t⟩:∃y,xs[k]?=some y:=⟨_,joM s⟩
  obtain⟨b1,a7,e,J,W,_⟩:=D.out k y t;cases e;obtain⟨b2,z,rfl,K,H⟩:=l.out k y t;replace W:=(n.cell (p:=⟨b,R+k*4+1+1,none⟩) J).trans W;replace H:=(n.cell (p:=⟨b2,z+k,none⟩) K).trans H;rw[jgD t]at a;by_cases I:jm y.text=3
  ·rw[if_pos I]at a;rw[I]at H;have f:wr.ownsRow w.heap.size 9 1 u7 ((x.text::d).map B).length (((x.text::d).map B).map Value.string):=c
   have r:((x.text::d).map B).length=d.length+1:=by simp
   rw[r]at f;have HV:=joI (jiD wr y.text)
   have g:=joI a;clear c t a D l G;go_wp2_with (at_builtin;refine wpList_append_own _ rfl _ _ 158 rfl w.heap.size 9 i0 _ 1 16 underlying158 hi O P Q rfl (by decide) _ _ _ rfl (f.alloc _) ⟨wr.heap.size,0,none⟩ 1 1 _ rfl rfl HV.out ?c2 ?c3 ?c4 ?c5 ?_)
   case c2=>intro u Z;simp at Z;subst Z;rfl
   case c3=>unfold maxLen;omega
   case c4=>omega
   case c5=>simp;omega
   intro v' w3 h m _;obtain⟨g',V,rfl⟩:=ownsRow_succ h;have L:Below w.heap.size w w3:=(n.alloc (by omega) _).grown m (by simp;omega) (fun j ej=>(f.lt j ej).1)
   go_wp2_with fail;go_roundw
   case rel =>
    refine⟨k+1,d++[y.text],by omega,s,by go_num,?_,by simp;omega,by rw[jo0];exact g.out,L⟩;unfold yq;have e2:((x.text::(d++[y.text])).map B).length=d.length+1+1:=by simp
    have e3:((x.text::(d++[y.text])).map B).map Value.string=((x.text::d).map B).map Value.string++[.string (B y.text)]:=by simp
    rw[e2,e3,show((x.text::d).map B).map Value.string++[.string (B y.text)]=Value.string (B x.text)::(List.map (Value.string∘B) d++[Value.string (B y.text)]) by simp];exact h
   case measure=>simp[intOf];omega
  rw[if_neg I,jo9]at a;have d2:(((jm y.text:Nat):Int)==3)=false:=beq_eq_false_iff_ne.2 (by omega)
  have E:=joI c;have g:=joI a
  clear c t D l G a;go_wp2_with fail;go_ret;exact⟨_,rfl,by rw[<- g.out];exact E.out,n⟩
 obtain rfl:k=xs.length:=by omega
 rw[jpE (joJ _)]at a;have g:=joI (show d=zJ (xs.drop (i+1)) by rw[<- a];show d=d++[];simp)
 have E:=joI c;clear c D l G a;go_wp2_with fail;go_ret;exact⟨_,rfl,by rw[<- g.out];exact E.out,n⟩
def qG(prev fields records:Nat)(x:Ln)(xs:List Ln):Nat :=
 if jm x.text=5\/(jm x.text=3/\¬(prev=4\/prev=3))\/x.ended=false then 2
 else if jm x.text≠4 then 0
 else if jy (x.text::zJ xs)≠0 then jy (x.text::zJ xs)
 else if 40<=fields\/(fields=0/\400<=records) then 11 else 0
theorem jfL(s:RS)(x:Ln)(xs:List Ln):zv s x xs=qG s.prev s.fields.length s.records x xs:=rfl
theorem jfM(xs:List Ln)(X H:Value)(i:Nat)(x:Ln)(fields a:Nat)(w:World)(P:jmz w X xs)(G:jmw w H xs)(hx:xs[i]?=some x)(hn:xs.length<=100000)(hf:fields<=1000000)(hr:a<=1000000)
  (m:((x.text::zJ (xs.drop (i+1))).map List.length).sum<=90000) (U:(x.text::zJ (xs.drop (i+1))).length<=90000) :
  Calls prog 98 #[X,H,.int .i64 i,.int .i64 fields,.int .i64 a] w fun e I=>e=.returned (.int .i64 (qG (yt xs i) fields a x (xs.drop (i+1)):Nat))/\Below w.heap.size w I:=by
 have D:i<xs.length:=by
  rcases jpc i xs.length with q|q
  ·exact q
  rw[jpe q]at hx;cases hx
 have j:=joI (Vh xs H i w G D (by omega));have f:=joI (jaA xs X H i x w P G hx hn)
 have Q:=P;have O:=G
 obtain⟨A,af,rfl,ah,hc⟩:=P;obtain⟨A',Z,rfl,aa,C⟩:=G;obtain⟨b,aj,rfl,ag,c0,p⟩:=hc i x hx;obtain⟨b',ae,rfl,a8,v⟩:=C i x hx;clear hc C Q O;rcases ZU x.text with d|d|d|d|d;rw[d]at v;cases c:x.ended;have e:qG (yt xs i) fields a x (xs.drop (i+1))=2:=by unfold qG;rw[if_pos (.inr (.inr c))]
 rw[e];rw[c]at p;clear e j f m;rotate_left;have e:qG (yt xs i) fields a x (xs.drop (i+1))=0:=by unfold qG;rw[if_neg (by rw[d,c];simp),if_pos (by omega)]
 rw[e];rw[c]at p;clear e j f m;rotate_left;rw[d]at v;cases c:x.ended;have e:qG (yt xs i) fields a x (xs.drop (i+1))=2:=by unfold qG;rw[if_pos (.inr (.inr c))]
 rw[e];rw[c]at p;clear e j f m;rotate_left;have e:qG (yt xs i) fields a x (xs.drop (i+1))=0:=by unfold qG;rw[if_neg (by rw[d,c];simp),if_pos (by omega)]
 rw[e];rw[c]at p;clear e j f m;rotate_left;rw[d]at v;by_cases t:yt xs i=4\/yt xs i=3;rw[decide_eq_true t]at j;cases c:x.ended;have e:qG (yt xs i) fields a x (xs.drop (i+1))=2:=by unfold qG;rw[if_pos (.inr (.inr c))]
 rw[e];rw[c]at p;clear e f m t;rotate_left;have e:qG (yt xs i) fields a x (xs.drop (i+1))=0:=by unfold qG;rw[if_neg (by rintro(h | ⟨_,h⟩ | h);omega;exact h t;rw[c]at h;cases h),if_pos (by omega)]
 rw[e];rw[c]at p;clear e f m t;rotate_left;rw[decide_eq_false t]at j;have e:qG (yt xs i) fields a x (xs.drop (i+1))=2:=by unfold qG;rw[if_pos (.inr (.inl ⟨d,t⟩))]
 rw[e];clear e f m t;rotate_left;rw[d]at v;cases c:x.ended;have e:qG (yt xs i) fields a x (xs.drop (i+1))=2:=by unfold qG;rw[if_pos (.inr (.inr c))]
 rw[e];rw[c]at p;clear e j f m;rotate_left
 ·rw[c]at p;obtain⟨n,s⟩:∃n,x.text::zJ (xs.drop (i+1))=n:=⟨_,rfl⟩
  have e:qG (yt xs i) fields a x (xs.drop (i+1))=if jy n≠0 then jy n else if 40<=fields\/(fields=0/\400<=a) then 11 else 0:=by unfold qG;rw[if_neg (by rw[d,c];simp),if_neg (by omega),s]
  have E:=joI (fun I v' (h:Strs I v' ((x.text::zJ (xs.drop (i+1))).map B))=>xm x.text (zJ (xs.drop (i+1))) v' I h (fun l hl=>by have:=ja1 _ _ hl;omega) (by omega) (by have:=ZJ (x.text::zJ (xs.drop (i+1)));omega) d);rw[s]at f E m U;have ai:=Qv n
  rw[e];clear e j s;obtain⟨N,R⟩:∃N,(if jy n≠0 then jy n else if 40<=fields\/(fields=0/\400<=a) then 11 else 0)=N:=⟨_,rfl⟩
  rw[R];have k:=joI R
  clear R;unfold zC at E;generalize jy n=un at *
  generalize jW n=uk at *
  generalize jV n=uv at *
  go_enter func98,ntmps98;go_wp2_with fail;refine f.out.mono ?_;rintro e w1 ⟨sv,rfl,r,K⟩;have u:=r.strs
  obtain⟨Av,a7,rfl,_,_⟩:=id u;have J:=joI (E.out w1 _ u)
  rw[jo8]at J;have V:=K.size
  clear r u f E;go_wp2_with fail;refine J.out.mono ?_;rintro e w2 ⟨rfl,Y⟩;have z:=K.trans (Y.mono V)
  have W:=z.size;have g:=z.alloc W (.cells #[.string (B uk),.string (B uv)] 148)
  clear J K Y;by_cases hu:un=0
  ·subst hu;by_cases L:40<=fields
   ·have o:N=11:=by rw[<- k.out,if_neg (by simp),if_pos (.inl L)]
    subst o;clear k;go_wp2;go_ret;exact⟨rfl,g⟩
   by_cases h0:fields=0
   ·subst h0;by_cases y:400<=a
    ·have o:N=11:=by rw[<- k.out,if_neg (by simp),if_pos (.inr ⟨rfl,y⟩)]
     subst o;clear k;go_wp2;go_ret;exact⟨rfl,g⟩
    have o:N=0:=by rw[<- k.out,if_neg (by simp),if_neg (by omega)]
    subst o;clear k;go_wp2;go_ret;exact⟨rfl,g⟩
   have o:N=0:=by rw[<- k.out,if_neg (by simp),if_neg (by omega)]
   subst o;clear k;have z1:((fields:Int)==0)=false:=beq_eq_false_iff_ne.2 (by omega)
   go_wp2;go_ret;exact⟨rfl,g⟩
  have o:N=un:=by rw[<- k.out,if_pos hu]
  subst o;clear k;have z1:((N:Int) != 0)=true:=by simp;omega
  go_wp2;go_ret;exact⟨rfl,g⟩
 have e:qG (yt xs i) fields a x (xs.drop (i+1))=2:=by unfold qG;rw[if_pos (.inl d)]
 rw[e];rw[d]at v;clear e j f m;rotate_left
 all_goals
  go_enter func98,ntmps98;go_wp2_with fail
  try (refine j.out.mono ?_;rintro e w1 ⟨rfl,rfl⟩;go_wp2)
  go_ret;exact⟨rfl,joL _ _⟩
end Go.Proofs.YtbapfpekklcicaaGreatDoor
