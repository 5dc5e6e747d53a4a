/- Texts put together:DE,CB,CC,CD,DF. -/
import Derived.WideShapes
import Derived.Test.YtbapfpekklcicaaGreatDoorBbx20
set_option linter.unusedVariables false
set_option maxRecDepth 100000
set_option maxHeartbeats 16000000
namespace Go.Proofs.YtbapfpekklcicaaGreatDoor
open Go.RowKit Go.Shelf Tryz
abbrev joK:=@ByteArray.size_append
abbrev jpa:=@Go.Lib.decDigits_length
abbrev jpb:=@Go.Lib.itoa_nonneg
abbrev jpB:=@Go.Lib.decDigits_one
abbrev jpJ:=@Go.Lib.nDigits_le20
abbrev jpP:=@Array.getElem?_modify
abbrev jpS:=@Go.IntWalk.wrap64_in
abbrev jpW:=@Go.IntKind.wrap_u64
abbrev jp1:=@List.head?_eq_getElem?
abbrev jqv:=@Go.Sort.heap_grow_old
namespace Fr
attribute [local go_sem] jn9
theorem ye{P:Program}{w w':World}{N:Nat}{a:String}{c:Array Value}(h:w.var? P a=some c)(e:Below N w w')(i:w.heap.size<=N):w'.var? P a=some c:=by
 unfold World.var? at *
 cases d:P.globalNamed a with
 | none=>simp[d]at h
 | some g =>
 simp only[d,Option.bind_some]at h ⊢;have f:g<w.heap.size:=by
  rcases joo g w.heap.size with b|b
  ·exact b
  rw[joM b]at h;simp at h
 rw[e.block g (by omega)];exact h
structure TabsN(w:World):Prop where
 pow:Lib.TabIs prog w "internal/strconv.uint64pow10" .u64 Lib.pow10Tab
 syn:∃tp p,w.var? prog "strconv.ErrSyntax" = some #[.iface tp p]
 ran:∃tp p,w.var? prog "strconv.ErrRange" = some #[.iface tp p]
theorem TabsN.below{w w':World}{N:Nat}(h:TabsN w)(e:Below N w w')(b:w.heap.size<=N):TabsN w':=by obtain⟨a,⟨i,f,c⟩,⟨j,g,d⟩⟩:=h;exact⟨ye a e b,⟨i,f,ye c e b⟩,⟨j,g,ye d e b⟩⟩
theorem Jm{N:Nat}{w w':World}(h:Below N w w'){p:Addr}(c:N<=p.block)(k:Nat):Below N w (w'.freeze p k):=by
 unfold World.freeze;by_cases a:k=0
 ·rw[if_pos a];exact h
 rw[if_neg a];refine⟨h.os,h.tape,h.output,?_,fun j b => ?_⟩
 ·simp;exact h.size
 simp only[jpP];rw[if_neg (by omega)];exact h.block j b
theorem Zu(w:World)(e:TypeId)(s:ByteArray):Below w.heap.size w (Lib.bytesWorld w e s):=by unfold Lib.bytesWorld;exact Jm ((jnV _ w).drew.alloc (jnT _) _) (jnT _) _
theorem atoi_any(l:List UInt8)(hl:l.length<=1000000)(w:World)(f:TabsN w):
  Calls prog 137 #[.string (B l)] w fun e a=>(∃T q,e=.returned (.tuple #[.int .i64 (qt l),.nilIface])\/e=.returned (.tuple #[.int .i64 (qt l),.iface T q]))/\Below w.heap.size w a:=by
 cases h:Lib.atoiAll l with
 | ok v =>
  refine(Tryz.strconv_Atoi_ok (B l) (by rw[jg];omega) v (by rw[jj];exact h) w).mono ?_;rintro e a ⟨rfl,g⟩;refine⟨⟨0,undef,.inl (by unfold qt;rw[h])⟩,?_⟩;rcases g with rfl|⟨t,rfl⟩
  ·exact jnV _ _
  exact Zu _ _ _
 | range =>
  obtain⟨d,p,c⟩:=f.ran;refine(Tryz.strconv_Atoi_range_var (B l) (by rw[jg];omega) (by rw[jj];exact h) d p w c).mono ?_;rintro e a ⟨N,rfl,_,_,b⟩;exact⟨⟨_,_,.inr (by unfold qt;rw[h,jj])⟩,b⟩
 | _ =>
 obtain⟨d,p,c⟩:=f.syn;refine(Tryz.strconv_Atoi_syntax_var (B l) (by rw[jg];omega) (by rw[jj];exact h) d p w c).mono ?_;rintro e a ⟨N,rfl,_,_,b⟩;exact⟨⟨_,_,.inr (by unfold qt;rw[h])⟩,b⟩
theorem vB(u:Nat)(d:u<18446744073709551616)(w:World):Calls prog 197 #[.int .u64 u] w fun e f=>e=.returned (.string (B (Lib.decDigits u)))/\f=w:=by
 induction u using Nat.strongRecOn generalizing w with
 | _ u a =>
 by_cases h:u<10
 ·rw[jpB h];clear a d;obtain rfl|rfl|rfl|rfl|rfl|rfl|rfl|rfl|rfl|rfl:u=0\/u=1\/u=2\/u=3\/u=4\/u=5\/u=6\/u=7\/u=8\/u=9:=by omega
  all_goals
   go_enter func197,ntmps197;go_wp2_with fail;go_ret;exact⟨by kernel_rfl,rfl⟩
 have q:¬(u:Int)<10:=by omega
 have b:=jnS (a (u / 10) (by omega) (by omega));have c:=jnS (a (u % 10) (by omega) (by omega))
 rw[Int.natCast_ediv]at b;rw[Int.natCast_emod]at c;have E:Hid (B (Lib.decDigits (u / 10))++B (Lib.decDigits (u % 10))=B (Lib.decDigits u)):=by
  show _=_;rw[jn,jpB (i:=u % 10) (by omega)];congr 1
  conv=>rhs;rw[Lib.decDigits,dif_neg h]
 have j:(B (Lib.decDigits (u / 10))).size<=30:=by
  rw[jg,jpa];have:=jpJ (u / 10) (by omega)
  omega
 have k:(B (Lib.decDigits (u % 10))).size<=30:=by rw[jg,jpB (by omega)];exact(by decide:1<=30)
 clear a;generalize B (Lib.decDigits (u / 10))=x at *
 generalize B (Lib.decDigits (u % 10))=y at *
 go_enter func197,ntmps197;go_wp2_with fail;refine(b.out _).mono ?_;rintro e g ⟨rfl,rfl⟩;go_wp2_with fail;refine(c.out _).mono ?_;rintro e g ⟨rfl,rfl⟩;go_wp2_with fail;go_ret;exact⟨by rw[<- E.out];rfl,rfl⟩
theorem figures_any(n:Int)(c:I64 n)(w:World):Calls prog 154 #[.int .i64 n] w fun e d=>e=.returned (.string (B (Lib.itoa n)))/\d=w:=by
 obtain⟨i,j⟩:=c;by_cases h:n<0
 ·obtain⟨u,rfl⟩:∃u:Nat,n = -((u:Int)+1):=⟨(-n-1).toNat,by omega⟩
  have b:IntKind.i64.wrap (-((u:Int)+1)+1) = -(u:Int):=by rw[show -((u:Int)+1)+1 = -(u:Int) by omega];exact jos _ (by omega)
  have k:IntKind.i64.wrap (u:Int)=(u:Int):=jos _ (by omega);have f:IntKind.u64.wrap (u:Int)=(u:Int):=by rw[jpW];omega
  have l:IntKind.u64.wrap ((u:Int)+1)=(u:Int)+1:=by rw[jpW];omega
  have a:=jnS (vB (u+1) (by omega) w);rw[Int.natCast_add,show((1:Nat):Int)=1 from rfl]at a;have E:Hid ((⟨#[45]⟩:ByteArray)++B (Lib.decDigits (u+1))=B (Lib.itoa (-((u:Int)+1)))):=by show _=_;rw[show -((u:Int)+1) = -((u+1:Nat):Int) by omega,Lib.itoa_neg _ (by omega),show(⟨#[45]⟩:ByteArray)=B [45] from rfl,jn];rfl
  have g:(B (Lib.decDigits (u+1))).size<=30:=by
   rw[jg,jpa];have:=jpJ (u+1) (by omega)
   omega
  generalize B (Lib.decDigits (u+1))=x at *
  go_enter func154,ntmps154;go_wp2_with fail;refine a.out.mono ?_;rintro e b ⟨rfl,rfl⟩;go_wp2_with fail;go_ret;exact⟨by rw[<- E.out];rfl,rfl⟩
 obtain⟨u,rfl⟩:∃u:Nat,n=(u:Int):=⟨n.toNat,by omega⟩
 have f:IntKind.u64.wrap (u:Int)=(u:Int):=by rw[jpW];omega
 have a:=jnS (vB u (by omega) w);rw[jpb];generalize B (Lib.decDigits u)=x at *
 go_enter func154,ntmps154;go_wp2_with fail;refine a.out.mono ?_;rintro e b ⟨rfl,rfl⟩;go_wp2_with fail;go_ret;exact⟨rfl,rfl⟩
def numL(l:List UInt8):Option Int:=if -9223372036854775808<=qt l/\qt l<=9223372036854775807/\Lib.itoa (qt l)=l then some (qt l) else none
theorem numL_some{l:List UInt8}{i:Int}:numL l=some i↔I64 i/\Lib.itoa i=l:=by
 unfold numL;constructor
 ·intro h;split at h
  ·rename_i q;injection h with h;subst h;exact⟨⟨q.1,q.2.1⟩,q.2.2⟩
  cases h
 rintro⟨a,rfl⟩;rw[vy a,if_pos ⟨a.1,a.2,rfl⟩]
theorem YT{l:List UInt8}(h:∀i,I64 i->Lib.itoa i≠l):numL l=none:=by
 cases e:numL l with
 | none=>rfl
 | some i=>exact absurd (numL_some.1 e).2 (h i (numL_some.1 e).1)
def numEnd(l:List UInt8):Ending:=.returned (.tuple #[.int .i64 ((numL l).getD 0),.bool (numL l).isSome])
theorem qz{l:List UInt8}(h:∀i,I64 i->Lib.itoa i≠l):numEnd l=.returned (.tuple #[.int .i64 0,.bool false]):=by unfold numEnd;rw[YT h];rfl
theorem yK{l:List UInt8}{i:Int}(h:I64 i)(e:Lib.itoa i=l):numEnd l=.returned (.tuple #[.int .i64 i,.bool true]):=by unfold numEnd;rw[numL_some.2 ⟨h,e⟩];rfl
theorem Xx(u:Nat)(h:u<18446744073709551616):1<=(Lib.decDigits u).length/\(Lib.decDigits u).length<=20:=by
 refine⟨?_,by rw[jpa];exact jpJ u h⟩;rcases jpK (Lib.decDigits u).length with q|q
 ·exact absurd (List.length_eq_zero_iff.1 q) (Ws u)
 exact q
theorem Ut{i:Int}(h:I64 i):1<=(Lib.itoa i).length/\(Lib.itoa i).length<=20:=by
 obtain⟨d,e⟩:=h;have a:∀u:Nat,u<=9223372036854775808->(Lib.decDigits u).length<=19:=fun u f=>by
  rcases joo 19 (Lib.decDigits u).length with q|q
  ·exfalso;rw[jpa]at q;have:∀n u:Nat,n<Lib.nDigits u->10 ^ n<=u\/n=0:=by
    intro n
    induction n with
    | zero=>exact fun _ _=>.inr rfl
    | succ n c =>
    intro u b;rw[Lib.nDigits]at b;split at b
    ·omega
    rcases c (u / 10) (by omega) with z|z
    ·left;rw[jqk];omega
    subst z;left;omega
   rcases this 19 u q with z|z
   ·have:(10:Nat) ^ 19=10000000000000000000:=by decide
    omega
   omega
  exact q
 unfold Lib.itoa;split
 ·rw[jn1];have:=a i.natAbs (by omega)
  omega
 exact⟨(Xx _ (by omega)).1,(Xx _ (by omega)).2⟩
theorem jbz(z:Int):I64 (wrap64 z):=by unfold I64 wrap64;omega
theorem yM{i:Int}(f:I64 i){l:List UInt8}(h:Lib.itoa i=l)(a:Nat)(b:a=if l.head?=some 45 then 1 else 0):
  ∃u:Nat,u<=9223372036854775808/\l.drop a=Lib.decDigits u/\i=(if a=1 then -(u:Int) else u):=by
 obtain⟨g,j⟩:=f;subst h;by_cases c:i<0
 ·have e:Lib.itoa i=45::Lib.decDigits i.natAbs:=by unfold Lib.itoa;rw[if_pos c]
  rw[e]at b ⊢;rw[if_pos (by rfl)]at b;subst b;exact⟨i.natAbs,by omega,rfl,by simp;omega⟩
 have e:Lib.itoa i=Lib.decDigits i.toNat:=by unfold Lib.itoa;rw[if_neg c]
 have d:(Lib.decDigits i.toNat).head?≠some 45:=fun q=>by have:=jY i.toNat 45 (List.mem_of_mem_head? q);simp at this
 rw[e]at b ⊢;rw[if_neg d]at b;subst b;exact⟨i.toNat,by omega,rfl,by simp;omega⟩
theorem ZL{u:Nat}(i:u<=9223372036854775808){a:List UInt8}(d:a=Lib.decDigits u){j:Nat}{x:UInt8}(hx:a[j]?=some x):
  wrap64 (wrap64 (10*Jc 0 (a.take j))-((x.toNat:Int)-48))=Jc 0 (a.take (j+1)):=by
 subst d;have e:(Lib.decDigits u).take (j+1)=(Lib.decDigits u).take j++[x]:=by rw[jor,hx];rfl
 obtain⟨k,b,f⟩:=JE u (j+1);obtain⟨m,c,h⟩:=JE u j;have g:=jY u x (jn7 hx)
 rw[e,QP,c]at b ⊢;rw[jpS (10 * -(m:Int)) (by omega),jpS _ (by omega)]
theorem QO(s:ByteArray)(h1:1<=s.size)(U:s.size<=20)(Z:((s[0].toNat:Int)==45)=true)(w:World):
  Calls prog 95 #[.string s] w fun e I=>e=numEnd s.data.toList/\I=w:=by
 have h2:decide ((s.size:Int)<1)=false:=by simp;omega
 have h3:decide (20<(s.size:Int))=false:=by simp;omega
 have t:∀(k:Nat) (h:k<s.size),s.data.toList[k]?=some s[k]:=fun k h=>by rw[jnW (by rw[<- joa];exact h)];rfl
 have n:s.data.toList.head?=some s[0]:=by rw[jp1];exact t 0 (by omega)
 have J:1=if s.data.toList.head?=some 45 then 1 else 0:=by rw[n];rw[if_pos (by congr 1;apply UInt8.toNat_inj.1;have e3:(45:UInt8).toNat=45:=rfl;have:=eq_of_beq Z;omega)]
 have A:Hid (∀i,I64 i->Lib.itoa i=s.data.toList->∃u:Nat,u<=9223372036854775808/\s.data.toList.drop 1=Lib.decDigits u/\i=(if 1=1 then -(u:Int) else u)):=fun i c e=>yM c e 1 J;have x:=jnS t
 have p:s.data.toList.length=s.size:=(joa s).symm;clear t J n;go_enter func95,ntmps95;go_wp2_with fail;go_loop [5,6] (fun o i=>∃(j:Nat) (z:Int),1<=j/\j<=s.size/\i=.int .i64 j/\o=.int .i64 z/\I64 z/\((∃i,I64 i/\Lib.itoa i=s.data.toList)->z=Jc 0 ((s.data.toList.drop 1).take (j-1)))) (fun _ i=>s.size-(intOf i).toNat)
 case atStart=>exact⟨1,0,jnT _,by omega,rfl,rfl,⟨by decide,by decide⟩,fun _=>rfl⟩
 case round =>
 obtain⟨j,z,W,hj,rfl,rfl,P,a⟩:=hrel;by_cases q:j<s.size
 ·have hb:=s[j].toNat_lt;have hx:=x.out j q
  by_cases H:¬(48<=s[j].toNat/\s[j].toNat<=57)
  ·have r:=jnS (qz (l:=s.data.toList) (fun i c e=>by
    obtain⟨u,_,g,_⟩:=A.out i c e;have N:s[j]∈s.data.toList.drop 1:=jn7 (i:=j-1) (by rw[jox,show 1+(j-1)=j by omega];exact hx)
    rw[g]at N;exact H (jY u _ N)))
   clear a hx P;by_cases hc:s[j].toNat<48
   ·have Q:decide ((s[j].toNat:Int)<48)=true:=by simp;omega
    go_wp2_with fail;go_ret2;exact⟨by rw[r.out];rfl,rfl⟩
   have Q:decide ((s[j].toNat:Int)<48)=false:=by simp;omega
   have q2:decide (57<(s[j].toNat:Int))=true:=by simp;omega
   go_wp2_with fail;go_ret2;exact⟨by rw[r.out];rfl,rfl⟩
  replace H:=Classical.not_not.1 H;have Q:decide ((s[j].toNat:Int)<48)=false:=by simp;omega
  have q2:decide (57<(s[j].toNat:Int))=false:=by simp;omega
  have R:Hid ((∃i,I64 i/\Lib.itoa i=s.data.toList)->wrap64 (wrap64 (10*z)-((s[j].toNat:Int)-48))=Jc 0 ((s.data.toList.drop 1).take (j+1-1))):=fun m=>by obtain⟨i,c,e⟩:=_root_.id m;obtain⟨u,O,g,_⟩:=A.out i c e;rw[a m,show j+1-1=(j-1)+1 by omega];exact ZL O g (by rw[jox,show 1+(j-1)=j by omega];exact hx)
  clear a hx;go_wp2_with fail;go_round
  case rel=>exact⟨j+1,_,by omega,q,by go_num,rfl,jbz _,R.out⟩
  case measure=>simp[intOf];omega
 obtain rfl:j=s.size:=by omega
 obtain⟨d,b⟩:∃d,d=z:=⟨_,rfl⟩
 have L:I64 d:=by rw[b];exact P
 have C:∀i,I64 i->Lib.itoa i=s.data.toList->d=i:=fun i c e=>by
  obtain⟨u,O,g,E⟩:=A.out i c e;have X:=a ⟨i,c,e⟩
  rw[jol (by rw[jn6,p];exact jnT _),g,Jb]at X;simp at E;omega
 have v:=jnS (figures_any d L w);by_cases f:Lib.itoa d=s.data.toList
 ·have D:=jnS (yK L f);have K:B (Lib.itoa d)=s:=by rw[f];rfl
  rw[K]at v;clear a C f K;have y:=jnS b
  clear b;go_wp2_with fail;rw[<- y.out];refine v.out.mono ?_;rintro e I ⟨rfl,rfl⟩;go_wp2_with fail;go_ret2;exact⟨by rw[D.out];rfl,rfl⟩
 have r:=jnS (qz (l:=s.data.toList) (fun i c e=>f (by rw[C i c e];exact e)));have G:¬(B (Lib.itoa d)).toList=s.toList:=fun e=>f (by rw[jot,jot,jj]at e;exact e)
 have Y:((B (Lib.itoa d)).toList==s.toList)=false:=by simpa using G
 clear a C f;have y:=jnS b
 clear b;generalize B (Lib.itoa d)=V at *
 go_wp2_with fail;rw[<- y.out];refine v.out.mono ?_;rintro e I ⟨rfl,rfl⟩;go_wp2_with fail;go_ret2;exact⟨by rw[r.out];rfl,rfl⟩
theorem QN(s:ByteArray)(h1:1<=s.size)(W:s.size<=20)(O:((s[0].toNat:Int)==45)=false)(w:World):
  Calls prog 95 #[.string s] w fun e I=>e=numEnd s.data.toList/\I=w:=by
 have h2:decide ((s.size:Int)<1)=false:=by simp;omega
 have h3:decide (20<(s.size:Int))=false:=by simp;omega
 have t:∀(k:Nat) (h:k<s.size),s.data.toList[k]?=some s[k]:=fun k h=>by rw[jnW (by rw[<- joa];exact h)];rfl
 have n:s.data.toList.head?=some s[0]:=by rw[jp1];exact t 0 (by omega)
 have J:0=if s.data.toList.head?=some 45 then 1 else 0:=by rw[n];rw[if_neg (fun e=>by have U:=congrArg UInt8.toNat (jnY e);rw[U]at O;simp at O)]
 have A:Hid (∀i,I64 i->Lib.itoa i=s.data.toList->∃u:Nat,u<=9223372036854775808/\s.data.toList.drop 0=Lib.decDigits u/\i=(if 0=1 then -(u:Int) else u)):=fun i c e=>yM c e 0 J;have x:=jnS t
 have p:s.data.toList.length=s.size:=(joa s).symm;clear t J n;go_enter func95,ntmps95;go_wp2_with fail;go_loop [5,6] (fun o i=>∃(j:Nat) (z:Int),0<=j/\j<=s.size/\i=.int .i64 j/\o=.int .i64 z/\I64 z/\((∃i,I64 i/\Lib.itoa i=s.data.toList)->z=Jc 0 ((s.data.toList.drop 0).take (j-0)))) (fun _ i=>s.size-(intOf i).toNat)
 case atStart=>exact⟨0,0,jnT _,by omega,rfl,rfl,⟨by decide,by decide⟩,fun _=>rfl⟩
 case round =>
 obtain⟨j,z,X,hj,rfl,rfl,hz,a⟩:=hrel;by_cases q:j<s.size
 ·have hb:=s[j].toNat_lt;have hx:=x.out j q
  by_cases H:¬(48<=s[j].toNat/\s[j].toNat<=57)
  ·have r:=jnS (qz (l:=s.data.toList) (fun i c e=>by
    obtain⟨u,_,g,_⟩:=A.out i c e;have N:s[j]∈s.data.toList.drop 0:=jn7 (i:=j-0) (by rw[jox,show 0+(j-0)=j by omega];exact hx)
    rw[g]at N;exact H (jY u _ N)))
   clear a hx hz;by_cases hc:s[j].toNat<48
   ·have Q:decide ((s[j].toNat:Int)<48)=true:=by simp;omega
    go_wp2_with fail;go_ret2;exact⟨by rw[r.out];rfl,rfl⟩
   have Q:decide ((s[j].toNat:Int)<48)=false:=by simp;omega
   have q2:decide (57<(s[j].toNat:Int))=true:=by simp;omega
   go_wp2_with fail;go_ret2;exact⟨by rw[r.out];rfl,rfl⟩
  replace H:=Classical.not_not.1 H;have Q:decide ((s[j].toNat:Int)<48)=false:=by simp;omega
  have q2:decide (57<(s[j].toNat:Int))=false:=by simp;omega
  have R:Hid ((∃i,I64 i/\Lib.itoa i=s.data.toList)->wrap64 (wrap64 (10*z)-((s[j].toNat:Int)-48))=Jc 0 ((s.data.toList.drop 0).take (j+1-0))):=fun m=>by obtain⟨i,c,e⟩:=_root_.id m;obtain⟨u,P,g,_⟩:=A.out i c e;rw[a m,show j+1-0=(j-0)+1 by omega];exact ZL P g (by rw[jox,show 0+(j-0)=j by omega];exact hx)
  clear a hx;go_wp2_with fail;go_round
  case rel=>exact⟨j+1,_,by omega,q,by go_num,rfl,jbz _,R.out⟩
  case measure=>simp[intOf];omega
 obtain rfl:j=s.size:=by omega
 obtain⟨d,b⟩:∃d,d=wrap64 (-z):=⟨_,rfl⟩
 have L:I64 d:=by rw[b];exact jbz _
 have C:∀i,I64 i->Lib.itoa i=s.data.toList->d=i:=fun i c e=>by
  obtain⟨u,P,g,E⟩:=A.out i c e;have Y:=a ⟨i,c,e⟩
  rw[jol (by rw[jn6,p];exact jnT _),g,Jb]at Y;obtain⟨i0,i1⟩:=c;simp at E;rw[b,jpS _ (by omega)];omega
 have v:=jnS (figures_any d L w);by_cases f:Lib.itoa d=s.data.toList
 ·have D:=jnS (yK L f);have K:B (Lib.itoa d)=s:=by rw[f];rfl
  rw[K]at v;clear a C f K;have y:=jnS b
  clear b;go_wp2_with fail;rw[<- y.out];refine v.out.mono ?_;rintro e I ⟨rfl,rfl⟩;go_wp2_with fail;go_ret2;exact⟨by rw[D.out];rfl,rfl⟩
 have r:=jnS (qz (l:=s.data.toList) (fun i c e=>f (by rw[C i c e];exact e)));have G:¬(B (Lib.itoa d)).toList=s.toList:=fun e=>f (by rw[jot,jot,jj]at e;exact e)
 have Z:((B (Lib.itoa d)).toList==s.toList)=false:=by simpa using G
 clear a C f;have y:=jnS b
 clear b;generalize B (Lib.itoa d)=V at *
 go_wp2_with fail;rw[<- y.out];refine v.out.mono ?_;rintro e I ⟨rfl,rfl⟩;go_wp2_with fail;go_ret2;exact⟨by rw[r.out];rfl,rfl⟩
theorem number_any(l:List UInt8)(hl:l.length<=1000000)(w:World):
  Calls prog 95 #[.string (B l)] w fun e h=>e=numEnd l/\h=w:=by
 have d:=jg l;by_cases a:1<=(B l).size/\(B l).size<=20
 ·cases c:(((B l)[0]'(by omega)).toNat:Int)==45 with
  | true=>exact QO (B l) a.1 a.2 c w
  | false=>exact QN (B l) a.1 a.2 c w
 have b:=jnS (qz (l:=l) (fun i f e=>by
  apply a;rw[d,<- e];exact Ut f))
 generalize B l=s at *
 by_cases j:s.size<1
 ·have g:decide ((s.size:Int)<1)=true:=by simp;omega
  go_enter func95,ntmps95;go_wp2_with fail;go_ret2;exact⟨by rw[b.out];rfl,rfl⟩
 have g:decide ((s.size:Int)<1)=false:=by simp;omega
 have k:decide (20<(s.size:Int))=true:=by simp;omega
 go_enter func95,ntmps95;go_wp2_with fail;go_ret2;exact⟨by rw[b.out];rfl,rfl⟩
end Fr
namespace Sm
theorem take_snoc(s:ByteArray)(k:Nat)(h:k<s.size):s.data.toList.take (k+1)=s.data.toList.take k++[s[k]]:=by rw[jpx (by simpa using h)];rfl
theorem jny(x c:Nat)(hx:x<4294967296)(a:c<256):bits .xor .u32 (x:Int) ((c:Int)*16777216)=((x ^^^ c*16777216:Nat):Int):=by
 have h:=M.m24 c a;have e:((c:Int)*16777216)=((c*16777216:Nat):Int):=by omega
 rw[e];exact u32_xor_nat _ _ hx h
theorem jbK{k:IntKind}{a b:Int}(h:a=b):Ending.returned (.int k a)=.returned (.int k b):=by rw[h]
theorem jjW(z:Nat)(c:z<4294967296)(h:((z:Int) / 2147483648==1)=true):bits .xor .u32 ((z:Int)*2 % 4294967296) 79764919=((M.st z:Nat):Int):=by
 have b:(z:Int) / 2147483648=1:=by simpa using h
 have a:z / 2147483648=1:=by omega
 unfold M.st;rw[if_pos a];have e:((z:Int)*2 % 4294967296)=((z*2 % 4294967296:Nat):Int):=by omega
 rw[e];exact u32_xor_nat _ 79764919 (jqc _ (by decide)) (by decide)
theorem jl4(z:Nat)(h:((z:Int) / 2147483648==1)=false):((z:Int)*2 % 4294967296)=((M.st z:Nat):Int):=by
 have b:¬(z:Int) / 2147483648=1:=by simpa using h
 have a:¬z / 2147483648=1:=by omega
 unfold M.st;rw[if_neg a];omega
theorem jd7(a:Nat)(A:a<4294967296)(s:ByteArray)(w:World)(q:s.size<=maxLen):
  Calls prog 158 #[.int .u32 a,.string s] w fun e u=>e=.returned (.int .u32 ((4294967295-M.feed (4294967295-a) s.data.toList:Nat):Int))/\w=u:=by
 unfold maxLen at q;go_enter func158,ntmps158;go_wp2;go_loop [5,6] (fun x i=>∃k:Nat,k<=s.size/\i=.int .i64 k/\x=.int .u32 (M.feed (4294967295-a) (s.data.toList.take k):Nat)) (fun _ i=>s.size-(intOf i).toNat)
 case atStart=>exact⟨0,jn3 _,rfl,by simp[M.feed];omega⟩
 case round =>
 obtain⟨k,D,rfl,rfl⟩:=hrel;by_cases d:k<s.size
 ·have hx:=M.feed_lt (s.data.toList.take k) (4294967295-a) (by omega);have l:=s[k].toNat_lt
  have m:Hid (M.feed (4294967295-a) (s.data.toList.take (k+1))=M.stn 8 (M.feed (4294967295-a) (s.data.toList.take k) ^^^ s[k].toNat*16777216)):=by rw[take_snoc s k d,M.feed_snoc];rfl
  have r:M.feed (4294967295-a) (s.data.toList.take k) ^^^ s[k].toNat*16777216<4294967296:=jpM (n:=32) hx (M.m24 _ l);have X:=jny _ _ hx l
  go_wp2;clear X;generalize M.feed (4294967295-a) (s.data.toList.take k)=v at *
  generalize g:v ^^^ s[k].toNat*16777216=y at *
  clear g;go_loop [5,7] (fun x i=>∃j:Nat,j<=8/\i=.int .i64 j/\x=.int .u32 (M.stn j y:Nat)) (fun _ i=>8-(intOf i).toNat)
  case atStart=>exact⟨0,by omega,rfl,rfl⟩
  case round =>
  obtain⟨j,C,rfl,rfl⟩:=hrel;have t:=M.stn_lt j y r
  have b:=M.stn_succ j y;generalize c:M.stn j y=z at *
  have o:=jnS c;clear c;have h:=jnS b
  clear b;go_wp2
  ·have f:((z:Int) / 2147483648==1)=true:=by assumption
   go_round
   case rel=>exact⟨j+1,by omega,by go_num,by rw[h.out,jjW z t f]⟩
   case measure=>simp[intOf];omega
  ·have f:((z:Int) / 2147483648==1)=false:=by assumption
   go_round
   case rel=>exact⟨j+1,by omega,by go_num,by rw[h.out,jl4 z f]⟩
   case measure=>simp[intOf];omega
  have:j=8:=by omega
  go_round
  case rel=>exact⟨k+1,by omega,by go_num,by rw[m.out,<- o.out,this]⟩
  case measure=>simp[intOf];omega
 go_wp2;have:k=s.size:=by omega
 subst this;go_ret;have p:=M.feed_lt s.data.toList (4294967295-a) (by omega)
 exact⟨by rw[jol (by simp)];exact jbK (by omega),rfl⟩
def T(k j:Nat):Nat:=if j<k then M.stn 4 (j*268435456) else 0
def tab(k:Nat):Array Value:=#[.int .u32 (T k 0:Nat),.int .u32 (T k 1:Nat),.int .u32 (T k 2:Nat),.int .u32 (T k 3:Nat),.int .u32 (T k 4:Nat),.int .u32 (T k 5:Nat),.int .u32 (T k 6:Nat),.int .u32 (T k 7:Nat),.int .u32 (T k 8:Nat),.int .u32 (T k 9:Nat),.int .u32 (T k 10:Nat),.int .u32 (T k 11:Nat),.int .u32 (T k 12:Nat),.int .u32 (T k 13:Nat),.int .u32 (T k 14:Nat),.int .u32 (T k 15:Nat)]
theorem VZ(k:Nat):(tab k).size=16:=rfl
theorem WG(k j:Nat)(h:j<16):(tab k)[j]?=some (.int .u32 (T k j:Nat)):=by
 match j,h with
 | 0,_ | 1,_ | 2,_ | 3,_ | 4,_ | 5,_ | 6,_ | 7,_ | 8,_ | 9,_ | 10,_ | 11,_ | 12,_ | 13,_ | 14,_ | 15,_=>rfl
 | n+16,h=>omega
theorem jkr(k:Nat)(h:k<16):(tab k).setIfInBounds k (.int .u32 (M.stn 4 (k*268435456):Nat))=tab (k+1):=by
 apply jpZ;intro j;rw[joE];by_cases b:j<16
 ·rw[WG _ _ b,WG _ _ b,VZ];by_cases e:k=j
  ·subst e;simp[h,T]
  have:T (k+1) j=T k j:=by unfold T;by_cases a:j<k<;>simp[a]<;>omega
  rw[if_neg e,this]
 have:k≠j:=by omega
 rw[if_neg this,joM (by rw[VZ];omega),joM (by rw[VZ];omega)]
theorem jeA(w:World):
  Calls prog 171 #[] w fun e n=>e=.returned (.agg (tab 16))/\Below w.heap.size w n:=by
 go_enter func171,ntmps171;go_wp2;go_loopw [3,5] (fun r i wr=>∃k:Nat,k<=16/\i=.int .i64 k/\wr=(w.alloc (.cells #[Value.int IntKind.u32 0,Value.int IntKind.u32 0,Value.int IntKind.u32 0,Value.int IntKind.u32 0,Value.int IntKind.u32 0,Value.int IntKind.u32 0,Value.int IntKind.u32 0,Value.int IntKind.u32 0,Value.int IntKind.u32 0,Value.int IntKind.u32 0,Value.int IntKind.u32 0,Value.int IntKind.u32 0,Value.int IntKind.u32 0,Value.int IntKind.u32 0,Value.int IntKind.u32 0,Value.int IntKind.u32 0] 240)).alloc (.cells (tab k) 240)) (fun _ i _=>16-(intOf i).toNat)
 case atStart=>exact⟨0,by omega,rfl,rfl⟩
 case round =>
 obtain⟨k,p,rfl,rfl⟩:=hrel;by_cases b:k<16
 ·have hx:k*268435456<4294967296:=by omega
  go_wp2;go_loop [3,11] (fun x i=>∃j:Nat,j<=4/\i=.int .i64 j/\x=.int .u32 (M.stn j (k*268435456):Nat)) (fun _ i=>4-(intOf i).toNat)
  case atStart=>exact⟨0,by omega,rfl,by simp[M.stn]⟩
  case round =>
  obtain⟨j,o,rfl,rfl⟩:=hrel;have m:=M.stn_lt j _ hx
  have c:=M.stn_succ j (k*268435456);have f:=WG k k b
  have a:=jkr k b;generalize d:M.stn j (k*268435456)=z at *
  have l:=jnS d;have g:=jnS c
  have h:=jnS a;clear d c a;go_wp2
  ·have f:((z:Int) / 2147483648==1)=true:=by assumption
   go_round
   case rel=>exact⟨j+1,by omega,by go_num,by rw[g.out,jjW z m f]⟩
   case measure=>simp[intOf];omega
  ·have f:((z:Int) / 2147483648==1)=false:=by assumption
   go_round
   case rel=>exact⟨j+1,by omega,by go_num,by rw[g.out,jl4 z f]⟩
   case measure=>simp[intOf];omega
  have:j=4:=by omega
  go_roundw
  case rel=>exact⟨k+1,by omega,by go_num,by rw[<- h.out,<- l.out,this]⟩
  case measure=>simp[intOf];omega
 have:k=16:=by omega
 subst this;simp only[tab];go_wp2;exact bodyPost_ret (v:=.agg (tab 16)) (by simp[results,results171,go_sem,tab]) rfl ⟨rfl,by repeat (first | exact jnV _ _ | (refine Below.alloc ?_ (by simp) _) | (refine Below.setCell ?_ (by simp) _))⟩
theorem jmE(y:Nat)(a:y<4294967296):(tab 16)[y / 268435456]?=some (.int .u32 (M.stn 4 (y / 268435456*268435456):Nat)):=by
 have h:y / 268435456<16:=by omega
 rw[WG 16 _ h];unfold T;rw[if_pos h]
theorem jnB(y:Nat)(c:y<4294967296):bits .xor .u32 ((y:Int)*16 % 4294967296) (M.stn 4 (y / 268435456*268435456):Nat)=((M.stn 4 y:Nat):Int):=by
 have a:y / 268435456*268435456<4294967296:=by omega
 have b:=M.stn_lt 4 _ a;rw[M.four y c];have e:((y:Int)*16 % 4294967296)=((y*16 % 4294967296:Nat):Int):=by omega
 rw[e];exact u32_xor_nat _ _ (jqc _ (by decide)) b
theorem jjh(x:Nat)(hx:x<4294967296)(s:ByteArray)(w:World)(j:s.size<=maxLen):
  Calls prog 172 #[.int .u32 x,.agg (tab 16),.string s] w fun e l=>e=.returned (.int .u32 (M.feed x s.data.toList:Nat))/\Below w.heap.size w l:=by
 unfold maxLen at j;go_enter func172,ntmps172;go_wp2;go_loop [0,10] (fun r i=>∃k:Nat,k<=s.size/\i=.int .i64 k/\r=.int .u32 (M.feed x (s.data.toList.take k):Nat)) (fun _ i=>s.size-(intOf i).toNat)
 case atStart=>exact⟨0,by omega,rfl,rfl⟩
 case round =>
 obtain⟨k,p,rfl,rfl⟩:=hrel;by_cases b:k<s.size
 ·have a:=M.feed_lt (s.data.toList.take k) x hx;have d:=s[k].toNat_lt
  have h:Hid (M.feed x (s.data.toList.take (k+1))=M.stn 4 (M.stn 4 (M.feed x (s.data.toList.take k) ^^^ s[k].toNat*16777216))):=by rw[take_snoc s k b,M.feed_snoc];rfl
  generalize M.feed x (s.data.toList.take k)=g at *
  have X:=jny _ _ a d;have c:g ^^^ s[k].toNat*16777216<4294967296:=jpM (n:=32) a (M.m24 _ d)
  generalize g ^^^ s[k].toNat*16777216=y at *
  have f:=M.stn_lt 4 y c;have m:=jmE y c
  have q:=jnB y c;generalize M.stn 4 y=z at *
  have o:=jmE z f;have t:=jnB z f
  go_wp2;go_round
  case rel=>exact⟨k+1,by omega,by go_num,by rw[h.out]⟩
  case measure=>simp[intOf];omega
 go_wp2;have:k=s.size:=by omega
 subst this;go_ret;exact⟨by rw[jol (by simp)];rfl,(jnV _ _).alloc (jnT _) _⟩
def Strs(w:World)(v:Value)(ss:List ByteArray):Prop :=
 ∃A cap,v=.slice A ss.length cap/\(∀i s,ss[i]?=some s->∃b off,A=some ⟨b,off,none⟩/\b<w.heap.size/\w.cell? ⟨b,off+i,none⟩=some (.string s))
theorem jcJ:(prog.info? 240).map (·.size)=some (tab 16).size:=by kernel_rfl
theorem jks:(tab 16).all (·.oneCell')=true:=by kernel_rfl
theorem jno(x:Nat)(h:x<4294967296):bits .xor .u32 IntKind.u32.max (x:Int)=((4294967295-x:Nat):Int):=by
 have e:IntKind.u32.max=((4294967295:Nat):Int):=by decide
 rw[e,u32_xor_nat _ _ (by decide) h];congr 1;apply jqB;intro i;have b:(4294967295-x)=2 ^ 32-(x+1):=by omega
 have c:(4294967295:Nat)=2 ^ 32-1:=by decide
 rw[b,jqi,Nat.testBit_two_pow_sub_succ h,c,Nat.testBit_two_pow_sub_one];by_cases a:i<32
 ·simp[a]
 have d:2 ^ 32<=2 ^ i:=Nat.pow_le_pow_right (by decide) (by omega);have:x.testBit i=false:=Nat.testBit_lt_two_pow (jod h d)
 simp[a,this]
def jmT(w:World)(B:Nat):Prop:=w.heap[B]?=some (.cells (tab 16) 240 (0,0))
theorem sum_any(v:Value)(a:List ByteArray)(w:World)(J:Strs w v a)(hl:a.length<=maxLen)(E:∀(i:Nat) (s:ByteArray),a[i]?=some s->s.size<=maxLen):
  Calls prog 126 #[v] w fun e K=>e=.returned (.int .u32 (4294967295-M.feed 4294967295 (cat a):Nat))/\Below w.heap.size w K:=by
 obtain⟨A,H,rfl,C⟩:=J;unfold maxLen at hl;go_enter func126,ntmps126;go_wp2_with (go_at_call 171;refine(jeA _).mono ?_;rintro e g ⟨rfl,d⟩;have y:=run_storeCells_new (P:=prog) g 240 #[Value.int IntKind.u32 0,Value.int IntKind.u32 0,Value.int IntKind.u32 0,Value.int IntKind.u32 0,Value.int IntKind.u32 0,Value.int IntKind.u32 0,Value.int IntKind.u32 0,Value.int IntKind.u32 0,Value.int IntKind.u32 0,Value.int IntKind.u32 0,Value.int IntKind.u32 0,Value.int IntKind.u32 0,Value.int IntKind.u32 0,Value.int IntKind.u32 0,Value.int IntKind.u32 0,Value.int IntKind.u32 0] (tab 16) jcJ (by rfl) jks;have m:=VZ 16);clear y m;have j:jmT (g.alloc (.cells (tab 16) 240)) g.heap.size:=heap_alloc_last _ _
 have n:Below w.heap.size w (g.alloc (.cells (tab 16) 240)):=d.alloc d.size _;have o:w.heap.size<=g.heap.size:=d.size
 have h:g.heap.size<(g.alloc (.cells (tab 16) 240)).heap.size:=by simp
 generalize (g.alloc (.cells (tab 16) 240))=O at *
 generalize g.heap.size=L at *
 clear d;go_loopw [4,10] (fun r i wr=>∃k:Nat,k<=a.length/\i=.int .i64 k/\r=.int .u32 (M.feed 4294967295 (cat (a.take k)):Nat)/\Below w.heap.size w wr/\jmT wr L/\L<wr.heap.size) (fun _ i _=>a.length-(intOf i).toNat)
 case atStart=>exact⟨0,by omega,rfl,rfl,n,j,h⟩
 case round =>
 obtain⟨k,N,rfl,rfl,t,D,z⟩:=hrel;by_cases o:k<a.length
 ·obtain⟨s,f⟩:∃s,a[k]?=some s:=⟨_,jnW o⟩
  obtain⟨b,q,rfl,u,c⟩:=C k s f;have I:wr.cell? ⟨b,q+k,none⟩=some (.string s):=(t.cell (p:=⟨b,q+k,none⟩) u).trans c
  have hx:=M.feed_lt (cat (a.take k)) 4294967295 (by decide);have G:Hid (M.feed 4294967295 (cat (a.take (k+1)))=M.feed (M.feed 4294967295 (cat (a.take k))) s.data.toList):=by rw[jjD a k s f,M.feed_append];rfl
  have m:=E k s f;generalize M.feed 4294967295 (cat (a.take k))=R at *
  clear C c n j h E f;go_wp2_with (first | (refine wpList_load_row rfl 240 _ rfl L rfl 240 (tab 16) (0,0) _ D underlying240 rfl jcJ ?_) | (go_at_call 172;refine(jjh _ hx _ _ m).mono ?_;rintro e Q ⟨rfl,l⟩));go_roundw
  case rel=>exact⟨k+1,by omega,by go_num,by rw[G.out],t.trans (l.mono t.size),(l.block _ z).trans D,jod z l.size⟩
  case measure=>simp[intOf];omega
 have:k=a.length:=by omega
 subst this;have x:=M.feed_lt (cat a) 4294967295 (by decide)
 rw[jom];go_wp2;go_ret;exact⟨jbK (jno _ x),t⟩
theorem refSum_any(s:ByteArray)(w:World)(a:s.size<=maxLen):
  Calls prog 109 #[.string s] w fun e b=>e=.returned (.int .u32 (M.crc s.data.toList:Nat))/\w=b:=by
 go_enter func109,ntmps109;go_wp2_with (go_at_call 158;refine(jd7 0 (by omega) _ _ a).mono ?_;rintro e c ⟨rfl,rfl⟩);go_ret;exact⟨rfl,rfl⟩
def F(x k j:Nat):Nat:=if j<k then (dg (x / 16 ^ (7-j) % 16)).toNat else 0
def jlo(x k:Nat):Array Value:=#[.int .u8 (F x k 0:Nat),.int .u8 (F x k 1:Nat),.int .u8 (F x k 2:Nat),.int .u8 (F x k 3:Nat),.int .u8 (F x k 4:Nat),.int .u8 (F x k 5:Nat),.int .u8 (F x k 6:Nat),.int .u8 (F x k 7:Nat)]
theorem Yi(x k j:Nat)(h:j<8):(jlo x k)[j]?=some (.int .u8 (F x k j:Nat)):=by
 match j,h with
 | 0,_ | 1,_ | 2,_ | 3,_ | 4,_ | 5,_ | 6,_ | 7,_=>rfl
 | n+8,h=>omega
theorem Xq(x k:Nat):(jlo x k).size=8:=rfl
theorem ji6(x k:Nat)(h:k<8):(jlo x k).setIfInBounds k (.int .u8 ((dg (x / 16 ^ (7-k) % 16)).toNat:Nat))=jlo x (k+1):=by
 apply jpZ;intro j;rw[joE];by_cases b:j<8
 ·rw[Yi _ _ _ b,Yi _ _ _ b,Xq];by_cases e:k=j
  ·subst e;simp[h,F]
  have:F x (k+1) j=F x k j:=by unfold F;by_cases a:j<k<;>simp[a]<;>omega
  rw[if_neg e,this]
 have:k≠j:=by omega
 rw[if_neg this,joM (by rw[Xq];omega),joM (by rw[Xq];omega)]
theorem jhb(d:Nat)(h:d<16)(a:d<(⟨#[48,49,50,51,52,53,54,55,56,57,97,98,99,100,101,102]⟩:ByteArray).size):
  (⟨#[48,49,50,51,52,53,54,55,56,57,97,98,99,100,101,102]⟩:ByteArray)[d]=dg d:=by
 match d,h with
 | 0,_ | 1,_ | 2,_ | 3,_ | 4,_ | 5,_ | 6,_ | 7,_ | 8,_ | 9,_ | 10,_ | 11,_ | 12,_ | 13,_ | 14,_ | 15,_=>rfl
 | n+16,h=>omega
theorem nib(x k:Nat)(hx:x<4294967296)(h:k<8):x*16 ^ k % 4294967296 / 268435456=x / 16 ^ (7-k) % 16:=by
 match k,h with
 | 0,_ | 1,_ | 2,_ | 3,_ | 4,_ | 5,_ | 6,_ | 7,_=>simp only[Nat.reduceSub,Nat.reducePow];omega
 | n+8,h=>omega
theorem jnF(x k:Nat):((x*16 ^ k % 4294967296:Nat):Int)*16 % 4294967296=((x*16 ^ (k+1) % 4294967296:Nat):Int):=by rw[jqk,<- Nat.mul_assoc];omega
def ji8(x:Nat):List Int:=[(F x 8 0:Nat),(F x 8 1:Nat),(F x 8 2:Nat),(F x 8 3:Nat),(F x 8 4:Nat),(F x 8 5:Nat),(F x 8 6:Nat),(F x 8 7:Nat)]
theorem jgI(x i:Nat)(h:i<8):(ji8 x).getD i 0=(F x 8 i:Nat):=by
 match i,h with
 | 0,_ | 1,_ | 2,_ | 3,_ | 4,_ | 5,_ | 6,_ | 7,_=>rfl
 | n+8,h=>omega
theorem jgH(x:Nat):strOfNums (ji8 x)=figs x:=by simp[strOfNums,ji8,figs,F]
theorem figures_any(x:Nat)(hx:x<4294967296)(w:World):
  Calls prog 125 #[.int .u32 x] w fun e j=>e=.returned (.string (figs x))/\Below w.heap.size w j:=by
 go_enter func125,ntmps125;go_wp2;go_loopw [0,5] (fun r i wr=>∃k:Nat,k<=8/\i=.int .i64 k/\r=.int .u32 (x*16 ^ k % 4294967296:Nat)/\wr=w.alloc (.cells (jlo x k) 238)) (fun _ i _=>8-(intOf i).toNat)
 case atStart=>exact⟨0,by omega,rfl,by simp;omega,rfl⟩
 case round =>
 obtain⟨k,l,rfl,rfl,rfl⟩:=hrel;by_cases a:k<8
 ·have n:x*16 ^ k % 4294967296<4294967296:=jqc _ (by decide);have d:=nib x k hx a
  have f:=jnF x k;generalize x*16 ^ k % 4294967296=y at *
  have g:=jnS d;have h:=jnS f
  clear d f;have m:(jlo x k)[k]?=some (.int .u8 (F x k k:Nat)):=Yi x k k a
  go_wp2;go_round
  case rel =>
   refine⟨k+1,by omega,by go_num,by rw[h.out],?_⟩;rw[jhb _ (by omega),g.out,ji6 x k a]
  case measure=>simp[intOf];omega
 have:k=8:=by omega
 subst this;have b:=run_convert_bytes_arg (P:=prog) (w.alloc (.cells (jlo x 8) 238)) 189 5 underlying189 underlying5 w.heap.size 0 8 8 (ji8 x) rfl (fun i c=>by
  rw[jpq _ _ _ _ rfl,jov,Yi x 8 i c,jgI x i c]) 9 underlying9
 rw[jgH]at b;go_wp2;go_ret;exact⟨rfl,(jnV _ _).alloc (jnT _) _⟩
theorem jkG(y:Nat)(w:World):(Instr.slice 9 (.string ⟨#[48,49,50,51,52,53,54,55,56,57,97,98,99,100,101,102]⟩) (some (.int .u32 ((y:Int) % 16))) (some (.int .u32 ((y:Int) % 16+1))) none).run prog w=.ok (.string ⟨#[dg (y % 16)]⟩) w:=by
 have a:y % 16<16:=jqc _ (by decide);have e:(y:Int) % 16=((y % 16:Nat):Int):=by omega
 rw[e];generalize y % 16=d at *
 rw[run_slice_string _ _ _ _ _ _ _ underlying9 (by omega) (by omega) (by show(d:Int)+1<=(16:Nat);omega)]
 match d,a with
 | 0,_ | 1,_ | 2,_ | 3,_ | 4,_ | 5,_ | 6,_ | 7,_ | 8,_ | 9,_ | 10,_ | 11,_ | 12,_ | 13,_ | 14,_ | 15,_=>rfl
 | n+16,h=>omega
theorem jmn(c:UInt8)(l:List UInt8):(⟨#[c]⟩ ++ ⟨l.toArray⟩:ByteArray)=⟨(c::l).toArray⟩:=by apply jpf;simp
theorem jnm(x k:Nat):((x / 16 ^ k:Nat):Int) / 16=((x / 16 ^ (k+1):Nat):Int):=by rw[jqk,<- Nat.div_div_eq_div_mul];omega
theorem refFigures_any(x:Nat)(hx:x<4294967296)(w:World):
  Calls prog 108 #[.int .u32 x] w fun e g=>e=.returned (.string (figs x))/\w=g:=by
 go_enter func108,ntmps108;go_wp2;go_loop [0,3,4] (fun r s i=>∃k:Nat,k<=8/\i=.int .i64 k/\r=.int .u32 (x / 16 ^ k:Nat)/\s=.string ⟨((figs x).data.toList.drop (8-k)).toArray⟩) (fun _ _ i=>8-(intOf i).toNat)
 case atStart=>exact⟨0,by omega,rfl,by simp,rfl⟩
 case round =>
 obtain⟨k,h,rfl,rfl,rfl⟩:=hrel;by_cases a:k<8
 ·have j:x / 16 ^ k<4294967296:=Nat.lt_of_le_of_lt (Nat.div_le_self _ _) hx;have c:=jnS (jgT x k a)
  have b:=jnS (jnm x k);generalize x / 16 ^ k=y at *
  have f:=jkG y w;have d:(figs x).size<=8:=jnT 8
  go_wp2;go_round
  case rel=>exact⟨k+1,by omega,by go_num,by rw[b.out],by rw[c.out,jmn]⟩
  case measure=>simp[intOf];omega
 have:k=8:=by omega
 subst this;go_wp2;go_ret;exact⟨rfl,rfl⟩
theorem jlc:∀c:Fin 256,Lib.indexByte DIG (UInt8.ofNat c.val)=ix c.val:=by decide +kernel
theorem idx(c:UInt8):Lib.indexByte DIG c=ix c.toNat:=by have:=jlc ⟨c.toNat,c.toNat_lt⟩;simpa using this
def takeV(l:List UInt8):Value:=match takes l with
 | some n=>.tuple #[.int .u32 (n:Nat),.bool true]
 | none=>.tuple #[.int .u32 0,.bool false]
theorem jfu{l:List UInt8}(h:l.length≠8):takeV l=.tuple #[.int .u32 0,.bool false]:=by unfold takeV takes;rw[if_neg h]
theorem jdN{l:List UInt8}{n:Nat}(hl:l.length=8)(h:tk 0 l=some n):takeV l=.tuple #[.int .u32 (n:Nat),.bool true]:=by unfold takeV takes;rw[if_pos hl,h]
theorem jdO{l:List UInt8}(hl:l.length=8)(h:tk 0 l=none):takeV l=.tuple #[.int .u32 0,.bool false]:=by unfold takeV takes;rw[if_pos hl,h]
theorem or4(x d:Nat)(hx:x<4294967296)(a:d<16):bits .or .u32 ((x:Int)*16 % 4294967296) (d:Int)=((x*16 % 4294967296+d:Nat):Int):=by
 have e:((x:Int)*16 % 4294967296)=((x*16 % 4294967296:Nat):Int):=by omega
 rw[e,u32_or_nat _ _ (jqc _ (by decide)) (by omega),nat_join 4 _ _ (by omega) (by omega)]
theorem jaV(c:UInt8)(w:World):
  Calls prog 191 #[.string ⟨#[48,49,50,51,52,53,54,55,56,57,97,98,99,100,101,102]⟩,.int .u8 (c.toNat:Int)] w fun e d=>e=.returned (.int .i64 (ix c.toNat))/\w=d :=
 (Tryz.strings_IndexByte _ _ w).mono fun _ _ ⟨a,b⟩=>⟨by rw[a];exact jbK (by rw[<- idx c];simp[DIG]),b.symm⟩
theorem jet(c:UInt8)(h:val c.toNat=none)(w:World):
  Calls prog 191 #[.string ⟨#[48,49,50,51,52,53,54,55,56,57,97,98,99,100,101,102]⟩,.int .u8 (c.toNat:Int)] w fun e d=>e=.returned (.int .i64 (-1))/\w=d :=
 (jaV c w).mono fun _ _ ⟨a,b⟩=>⟨by rw[a,ix,h],b⟩
theorem jes(c:UInt8)(d:Nat)(h:val c.toNat=some d)(w:World):
  Calls prog 191 #[.string ⟨#[48,49,50,51,52,53,54,55,56,57,97,98,99,100,101,102]⟩,.int .u8 (c.toNat:Int)] w fun e f=>e=.returned (.int .i64 (d:Int))/\w=f :=
 (jaV c w).mono fun _ _ ⟨a,b⟩=>⟨by rw[a,ix,h],b⟩
theorem take_any(s:ByteArray)(w:World)(p:s.size<=maxLen):
  Calls prog 149 #[.string s] w fun e q=>e=.returned (takeV s.data.toList)/\w=q:=by
 unfold maxLen at p;by_cases g:s.size=8
 ·have j:((s.size:Int) != 8)=false:=by simp[g]
  have m:=jnS g;have o:s.size<=8:=by omega
  clear g;go_enter func149,ntmps149;go_wp2_with fail;go_loop [4,12] (fun r i=>∃k x:Nat,k<=s.size/\x<4294967296/\i=.int .i64 k/\r=.int .u32 (x:Nat)/\tk 0 s.data.toList=tk x (s.data.toList.drop k)) (fun _ i=>s.size-(intOf i).toNat)
  case atStart=>exact⟨0,0,by omega,by omega,rfl,rfl,rfl⟩
  case round =>
  obtain⟨k,x,v,hx,rfl,rfl,f⟩:=hrel;have h:=jnS f
  clear f;by_cases l:k<s.size
  ·have a:s.data.toList.drop k=s[k]::s.data.toList.drop (k+1):=by rw[jou (by simpa using l)];rfl
   cases b:val s[k].toNat with
   | none =>
    have c:Hid (tk 0 s.data.toList=none):=by show _=_;rw[h.out,a,tk,b]
    clear a;go_wp2_with fail;refine(jet _ b _).mono ?_;clear b;rintro e t ⟨rfl,rfl⟩;go_wp2_with fail;go_ret2;exact⟨by rw[jdO (by simpa using m.out) c.out];rfl,rfl⟩
   | some d =>
   have n:=jlX b;have c:Hid (tk 0 s.data.toList=tk (x*16 % 4294967296+d) (s.data.toList.drop (k+1))):=by show _=_;rw[h.out,a,tk,b]
   clear a;have y:=or4 x d hx n
   go_wp2_with fail;refine(jes _ _ b _).mono ?_;clear b;rintro e t ⟨rfl,rfl⟩;go_wp2_with fail;go_round
   case rel=>exact⟨k+1,x*16 % 4294967296+d,by omega,by omega,by go_num,rfl,c.out⟩
   case measure=>simp[intOf];omega
  have c:Hid (tk 0 s.data.toList=some x):=by show _=_;rw[h.out,joO (by simp;omega)];rfl
  go_wp2;go_ret2;exact⟨by rw[jdN (by simpa using m.out) c.out];rfl,rfl⟩
 have u:(!((s.size:Int)==8))=true:=by simp;omega
 have j:((s.size:Int) != 8)=true:=by simp;omega
 go_enter func149,ntmps149;go_wp2_with fail;go_ret2;exact⟨by rw[jfu (by simpa using g)];rfl,rfl⟩
theorem takeV_of{l:List UInt8}{n:Nat}(h:takes l=some n):takeV l=.tuple #[.int .u32 (n:Nat),.bool true]:=by unfold takeV;rw[h]
theorem takeV_not{l:List UInt8}(h:takes l=none):takeV l=.tuple #[.int .u32 0,.bool false]:=by unfold takeV;rw[h]
theorem jfs(s:ByteArray)(h:takes s.data.toList=none)(w:World)(b:s.size<=maxLen):
  Calls prog 149 #[.string s] w fun e d=>e=.returned (.tuple #[.int .u32 0,.bool false])/\w=d :=
 (take_any s w b).mono fun _ _ ⟨a,c⟩=>⟨by rw[a,takeV_not h],c⟩
end Sm
namespace Fr
attribute [local go_sem] jn9
theorem mkB(l:List UInt8):(⟨l.toArray⟩:ByteArray)=B l:=rfl
theorem fits_any(n:Int)(w:World):Calls prog 150 #[.int .i64 n] w fun e c=>e=.returned (.bool (decide (2<=n/\n<=50000)))/\c=w:=by
 by_cases a:2<=n
 ·by_cases b:n<=50000
  ·have e:decide (2<=n/\n<=50000)=true:=by simp[a,b]
   rw[e];go_enter func150,ntmps150;go_wp2_with fail;go_ret;exact⟨rfl,rfl⟩
  have e:decide (2<=n/\n<=50000)=false:=by simp[b]
  rw[e];go_enter func150,ntmps150;go_wp2_with fail;go_ret;exact⟨rfl,rfl⟩
 have e:decide (2<=n/\n<=50000)=false:=by simp[a]
 rw[e];go_enter func150,ntmps150;go_wp2_with fail;go_ret;exact⟨rfl,rfl⟩
theorem QL(w:World):Calls prog 87 #[.bool true] w fun e a=>e=.returned (.tuple #[.int .i64 2,.string (B []),.int .i64 0])/\a=w:=by go_enter func87,ntmps87;go_wp2_with fail;go_ret3;exact⟨rfl,rfl⟩
theorem ZH(w:World):Calls prog 87 #[.bool false] w fun e a=>e=.returned (.tuple #[.int .i64 3,.string (B []),.int .i64 0])/\a=w:=by go_enter func87,ntmps87;go_wp2_with fail;go_ret3;exact⟨rfl,rfl⟩
theorem yN{w:World}(n:Nat)(b:Array Obj):Below w.heap.size w (Go.Sort.grow (w.drewN n) b) :=
 ⟨rfl,rfl,rfl,by rw[Go.Sort.size_grow];exact Nat.le_add_right _ _,fun k a=>jqv _ _ a⟩
theorem Yg(n:Nat)(g:n<=9223372036854775807)(w:World)(c:TabsN w):Calls prog 167 #[.int .i64 (n:Int)] w fun e a=>e=.returned (.string (B (Lib.decDigits n)))/\Below w.heap.size w a :=
 (Tryz.strconv_Itoa n (by omega) (by omega) w c.pow).mono fun e a ⟨b,k,f,d⟩=>⟨by rw[b,jpb];rfl,by rw[d];exact yN k f⟩
theorem Gj(n:Nat)(a:n<=9223372036854775807):(B (Lib.decDigits n)).size<=20:=by rw[jg,jpa];exact jpJ n (by omega)
theorem Ux(n:Nat)(a:n<=9223372036854775807)(f:List UInt8)(i:f.length<=1000000)(w:World)(b:TabsN w):
  Calls prog 124 #[.int .i64 (n:Int),.string (B f)] w fun e k=>e=.returned (.string (B (jN n f)))/\Below w.heap.size w k:=by
 have c:=jnS (Yg n a w b);have E:Hid ((⟨#[37,97,109,101,110,100,32]⟩:ByteArray)++B (Lib.decDigits n) ++ ⟨#[32]⟩++B f=B (jN n f)):=by show _=_;rw[show(⟨#[37,97,109,101,110,100,32]⟩:ByteArray)=B AMD from rfl,show(⟨#[32]⟩:ByteArray)=B [32] from rfl,jn,jn,jn];unfold jN;simp
 have l:=Gj n a;have j:(B f).size<=1000000:=by rw[jg];exact i
 generalize B (Lib.decDigits n)=d at *
 generalize B f=g at *
 have m:((⟨#[37,97,109,101,110,100,32]⟩:ByteArray)++d).size<=27:=by rw[joK];show 7+_<=_;omega
 have o:((⟨#[37,97,109,101,110,100,32]⟩:ByteArray)++d ++ ⟨#[32]⟩).size<=28:=by rw[joK];show _+1<=_;omega
 clear b;go_enter func124,ntmps124;go_wp2_with fail;refine c.out.mono ?_;rintro e p ⟨rfl,h⟩;go_wp2_with fail;go_ret;exact⟨by rw[<- E.out];rfl,h⟩
theorem jdp(n:Nat)(a:n<=9223372036854775807)(w:World)(b:TabsN w):
  Calls prog 127 #[.int .i64 (n:Int)] w fun e g=>e=.returned (.string (B (zi n)))/\Below w.heap.size w g:=by
 have c:=jnS (Yg n a w b);have E:Hid ((⟨#[37,101,110,100,32]⟩:ByteArray)++B (Lib.decDigits n) ++ ⟨#[10]⟩=B (zi n)):=by show _=_;rw[show(⟨#[37,101,110,100,32]⟩:ByteArray)=B END from rfl,show(⟨#[10]⟩:ByteArray)=B [10] from rfl,jn,jn];unfold zi;simp
 have h:=Gj n a;generalize B (Lib.decDigits n)=d at *
 have i:((⟨#[37,101,110,100,32]⟩:ByteArray)++d).size<=25:=by rw[joK];show 5+_<=_;omega
 clear b;go_enter func127,ntmps127;go_wp2_with fail;refine c.out.mono ?_;rintro e j ⟨rfl,f⟩;go_wp2_with fail;go_ret;exact⟨by rw[<- E.out];rfl,f⟩
end Fr
end Go.Proofs.YtbapfpekklcicaaGreatDoor
