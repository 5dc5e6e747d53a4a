/- Texts put together:FB,FC,FD,FE,FF,FG,FH. -/
import Derived.Lib.IndexBytes
import Derived.StillTailTactics
import Derived.Laws.ResultCell
import Derived.Laws.Rows
import Derived.Test.YtbapfpekklcicaaGreatDoorBbx4
set_option linter.unusedVariables false
set_option maxRecDepth 100000
set_option maxHeartbeats 16000000
namespace Go.Proofs.YtbapfpekklcicaaGreatDoor
open Go.RowKit Go.Shelf Tryz
abbrev jnW:=@List.getElem?_eq_getElem
abbrev jn7:=@List.mem_of_getElem?
abbrev jor:=@List.take_add_one
abbrev jou:=@List.drop_eq_getElem_cons
abbrev joB:=@List.map_append
abbrev joI:=@List.getElem?_map
abbrev joN:=@List.length_singleton
abbrev jpc:=@List.drop_length
abbrev jpq:=@Go.World.cell?_alloc_at
abbrev jpv:=@Nat.add_zero
abbrev jpx:=@List.take_succ_eq_append_getElem
abbrev jpy:=@Nat.pos_of_ne_zero
abbrev jpA:=@Int.toNat_natCast
abbrev jpN:=@Ne.symm
abbrev jpX:=@List.take_succ_cons
abbrev jp5:=@Go.World.cell?_alloc_old
abbrev jp6:=@Nat.ne_of_lt
abbrev jqg:=@Nat.not_lt_zero
section
theorem zV(c:UInt8)(w:World):
  Calls prog 155 #[.int .u8 (c.toNat:Nat)] w fun e f=>e=.returned (.bool (zY c))/\w=f:=by
 have h:=c.toNat_lt;by_cases b:c=32
 ·subst b;go_enter func155,ntmps155;go_wp2;go_ret;exact⟨rfl,rfl⟩
 have g:((c.toNat:Int)==32)=false:=by rw[beq_eq_false_iff_ne];intro e;apply b;apply UInt8.toNat_inj.1;have:(32:UInt8).toNat=32:=rfl;omega
 have d:zY c=((c.toNat:Int)==9):=by
  unfold zY;by_cases a:c=9
  ·subst a;rfl
  have:((c.toNat:Int)==9)=false:=by rw[beq_eq_false_iff_ne];intro e;apply a;apply UInt8.toNat_inj.1;have:(9:UInt8).toNat=9:=rfl;omega
  rw[this];simp[b,a]
 rw[d];clear d;go_enter func155,ntmps155;go_wp2;go_ret;exact⟨rfl,rfl⟩
theorem qQ{c d:UInt8}(n:Int)(a:(d.toNat:Int)=n):((c.toNat:Int)==n)=(c==d):=by
 by_cases h:c=d
 ·subst h;simp[a]
 have:(c.toNat:Int)≠n:=by intro e;apply h;apply UInt8.toNat_inj.1;omega
 rw[beq_eq_false_iff_ne.2 this];simp[h]
theorem jdk(l:List UInt8)(c:UInt8)(k:Nat)(h:∀i,i<k->l[i]?≠some c)(f:l.length<=k):qH l c=false:=by
 unfold qH;cases b:l.contains c with
 | false=>rfl
 | true =>
 exfalso;have a:c∈l:=by simpa using b
 obtain⟨i,d,e⟩:=List.mem_iff_getElem.1 a;exact h i (by omega) (by rw[jnW d,e])
theorem Xk(l:List UInt8)(c:UInt8)(i:Nat)(h:l[i]?=some c):qH l c=true:=by
 unfold qH;have:c∈l:=jn7 h
 simpa using this
theorem Qy(s:ByteArray)(W:s.size<=4294967295)(w:World):
  Calls prog 198 #[.string s] w fun e O=>e=.returned (.bool (jF s.data.toList))/\w=O:=by
 cases h:s.data.toList with
 | nil =>
  rw[Gh h];go_enter func198,ntmps198;go_wp2;go_ret;exact⟨rfl,rfl⟩
 | cons c t =>
 have P:1<=s.size:=by rw[joa,h];simp
 have Q:s[0]=c:=by
  have:s.data.toList[0]?=some c:=by rw[h];rfl
  rw[jnW (by rw[<- joa];omega)]at this;exact jnY this
 have u:vh s.data.toList=zY c:=by rw[h];rfl
 have A:Zi s.data.toList=(c==35):=by rw[h];rfl
 rw[<- h];clear h;have v:1<=s.data.toList.length:=by rw[<- joa];exact P
 have f:=joa s;by_cases J:s.size<=32
 ·have b:=J;rw[f]at b;have l:jF s.data.toList=(!zY c && !(c==35) && !qH s.data.toList 58 && !qH s.data.toList 10):=by unfold jF;rw[decide_eq_true v,decide_eq_true b,u,A];simp
  rw[l];clear l u A b v;cases C:zY c with
  | true =>
   clear f;go_enter func198,ntmps198;go_wp2_with (first | (go_at_call 155;refine(zV _ _).mono ?_;rw[C];rintro e G ⟨rfl,rfl⟩));go_ret;exact⟨rfl,rfl⟩
  | false =>
  have z:=qQ (c:=c) (d:=35) 35 rfl;cases H:(c==35) with
  | true =>
   rw[H]at z;clear f;go_enter func198,ntmps198;go_wp2_with (first | (go_at_call 155;refine(zV _ _).mono ?_;rw[C];rintro e G ⟨rfl,rfl⟩));go_ret;exact⟨rfl,rfl⟩
  | false =>
  rw[H]at z;have K:=jnS f
  clear f;go_enter func198,ntmps198;go_wp2_with (first | (go_at_call 155;refine(zV _ _).mono ?_;rw[C];rintro e G ⟨rfl,rfl⟩));clear z Q;go_loop [3] (fun i=>∃k:Nat,k<=s.size/\i=.int .i64 k/\∀j,j<k->s.data.toList[j]?≠some 58/\s.data.toList[j]?≠some 10) (fun i=>s.size-(intOf i).toNat)
  case atStart=>exact⟨0,jn3 _,rfl,fun j N=>absurd N (jqg j)⟩
  case round =>
  obtain⟨k,X,rfl,a⟩:=hrel;by_cases m:k<s.size
  ·have e:s.data.toList[k]?=some s[k]:=by rw[jnW (by rw[<- joa];exact m)];rfl
   have E:=jnS e;have R:=jnS a
   clear e a;have I:=qQ (c:=s[k]) (d:=58) 58 rfl
   have q:=qQ (c:=s[k]) (d:=10) 10 rfl;cases p:(s[k]==58) with
   | true =>
    rw[p]at I;have g:qH s.data.toList 58=true:=Xk _ _ k (by rw[E.out];simpa using p)
    have V:=jnS g;clear q g;go_wp2;go_ret;exact⟨by rw[V.out];rfl,rfl⟩
   | false =>
   rw[p]at I;cases g:(s[k]==10) with
   | true =>
    rw[g]at q;have L:qH s.data.toList 10=true:=Xk _ _ k (by rw[E.out];simpa using g)
    have U:=jnS L;clear L;go_wp2;go_ret;exact⟨by rw[U.out,Bool.not_true,Bool.and_false];rfl,rfl⟩
   | false =>
   rw[g]at q;go_wp2;go_round
   case rel =>
    refine⟨k+1,m,by go_num,fun j N => ?_⟩;by_cases y:j=k
    ·subst y;rw[E.out];exact⟨by simpa using p,by simpa using g⟩
    exact R.out j (by omega)
   case measure=>simp[intOf];omega
  have n:=jdk s.data.toList 58 k (fun i D=>(a i D).1) (by rw[<- K.out];omega);have o:=jdk s.data.toList 10 k (fun i D=>(a i D).2) (by rw[<- K.out];omega)
  have x:=jnS n;have r:=jnS o
  clear a n o;go_wp2;go_ret;exact⟨by rw[x.out,r.out];rfl,rfl⟩
 have l:jF s.data.toList=false:=by unfold jF;rw[<- f,decide_eq_false J];simp
 rw[l];have b:32<s.size:=by omega
 clear f v l u A;go_enter func198,ntmps198;go_wp2;go_ret;exact⟨rfl,rfl⟩
theorem jco(l:List UInt8):∀(k:Nat),l[k]?=some 58->(∀j,j<k->l[j]?≠some 58)->(before l).length=k:=by
 induction l with
 | nil=>intro k h;simp at h
 | cons a t b =>
 intro k h c;unfold before at b ⊢;cases k with
 | zero =>
  have:a=58:=by simpa using h
  subst this;rfl
 | succ k =>
 have d:a≠58:=fun e=>c 0 (by omega) (by rw[e];rfl);rw[joG,if_pos (by simpa using d),jn1,b k (by simpa using h) (fun j f=>by have:=c (j+1) (by omega);simpa using this)]
theorem jfN(s:ByteArray)(C:s.size<=4294967295)(w:World)(h:qH s.data.toList 10=true\/qH s.data.toList 58=false\/jF (before s.data.toList)=false):
  Calls prog 156 #[.string s] w fun e z=>e=.returned (.tuple #[.string ⟨#[]⟩,.string ⟨#[]⟩,.bool false])/\Below w.heap.size w z:=by
 have u:=joa s;have D:=jnS u
 clear u;have t:=jnS h
 clear h;go_enter func156,ntmps156;go_wp2_with fail;go_loop [5] (fun i=>∃k:Nat,k<=s.size/\i=.int .i64 k/\∀j,j<k->s.data.toList[j]?≠some 10) (fun i=>s.size-(intOf i).toNat)
 case atStart=>exact⟨0,jn3 _,rfl,fun j q=>absurd q (jqg j)⟩
 case round =>
 obtain⟨k,I,rfl,a⟩:=hrel;by_cases o:k<s.size
 ·have e:s.data.toList[k]?=some s[k]:=by rw[jnW (by rw[<- joa];exact o)];rfl
  have E:=jnS e;have r:=jnS a
  clear e a;have n:=qQ (c:=s[k]) (d:=10) 10 rfl
  cases b:(s[k]==10) with
  | true =>
   rw[b]at n;go_wp2;go_ret3;exact⟨rfl,jnV _ _⟩
  | false =>
  rw[b]at n;go_wp2;go_round
  case rel =>
   refine⟨k+1,o,by go_num,fun j q => ?_⟩;by_cases g:j=k
   ·subst g;rw[E.out];simpa using b
   exact r.out j (by omega)
  case measure=>simp[intOf];omega
 have p:=jdk s.data.toList 10 k a (by rw[<- D.out];omega);have y:qH s.data.toList 58=false\/jF (before s.data.toList)=false:=by
  rcases t.out with h|h
  ·rw[p]at h;cases h
  exact h
 have A:=jnS y;clear a p y t;go_wp2_with fail;go_loop [6] (fun i=>∃k:Nat,k<=s.size/\i=.int .i64 k/\∀j,j<k->s.data.toList[j]?≠some 58) (fun i=>s.size-(intOf i).toNat)
 case atStart=>exact⟨0,jn3 _,rfl,fun j q=>absurd q (jqg j)⟩
 case round =>
 obtain⟨m,H,rfl,a⟩:=hrel;by_cases f:m<s.size
 ·have e:s.data.toList[m]?=some s[m]:=by rw[jnW (by rw[<- joa];exact f)];rfl
  have n:=qQ (c:=s[m]) (d:=58) 58 rfl;cases b:(s[m]==58) with
  | true =>
   rw[b]at n;have l:s.data.toList[m]?=some 58:=by rw[e];simpa using b
   have x:=jco s.data.toList m l a;have v:jF (before s.data.toList)=false:=by
    rcases A.out with h|h
    ·rw[Xk _ _ m l]at h;cases h
    exact h
   have K:=fun w=>Qy (jbN s) (jop (YI s) C) w;rw[xY,v]at K;unfold jbN at K;rw[x]at K;clear e a l x v;go_wp2_with (first | (go_at_call 198;refine(K _).mono ?_;rintro e G ⟨rfl,rfl⟩));go_ret3;exact⟨rfl,jnV _ _⟩
  | false =>
  rw[b]at n;have E:=jnS e
  have r:=jnS a;clear e a;go_wp2;go_round
  case rel =>
   refine⟨m+1,f,by go_num,fun j q => ?_⟩;by_cases g:j=m
   ·subst g;rw[E.out];simpa using b
   exact r.out j (by omega)
  case measure=>simp[intOf];omega
 clear a;go_wp2;go_ret3;exact⟨rfl,jnV _ _⟩
theorem jhr(l:List UInt8)(h:qH l 58=true):l[(before l).length]?=some 58/\∀j,j<(before l).length->l[j]?≠some 58:=by
 unfold qH at h;have d:(58:UInt8)∈l:=by simpa using h
 clear h;unfold before
 induction l with
 | nil=>cases d
 | cons a t g =>
 by_cases b:a=58
 ·subst b;refine⟨rfl,fun j e => ?_⟩;simp at e
 have c:(58:UInt8)∈t:=by
  rcases List.mem_cons.1 d with h|h
  ·exact absurd h.symm b
  exact h
 obtain⟨i,f⟩:=g c;rw[joG,if_pos (by simpa using b),jn1];refine⟨by simpa using i,fun j e => ?_⟩;cases j with
 | zero=>simpa using b
 | succ j=>have:=f j (by omega);simpa using this
theorem Ky(s:ByteArray)(A:s.size<=4294967295)(w:World)(q:qH s.data.toList 10=false)(r:qH s.data.toList 58=true)(o:jF (before s.data.toList)=true):
  Calls prog 156 #[.string s] w fun e t=>e=.returned (.tuple #[.string (jbN s),.string (jbO s),.bool true])/\Below w.heap.size w t:=by
 have x:=joa s;clear x;have z:=jnS q
 obtain⟨j,p⟩:=jhr _ r;have u:(before s.data.toList).length<s.size:=by
  rcases joo (before s.data.toList).length s.size with h|h
  ·exact h
  rw[jon (by rw[<- joa];exact h)]at j;cases j
 have D:=jnS j;have y:=jnS p
 have K:=fun w=>Qy (jbN s) (jop (YI s) A) w;rw[xY,o]at K;have v:Hid (jbN s=s.extract 0 (before s.data.toList).length):=rfl
 have C:Hid (jbO s=s.extract ((before s.data.toList).length+1) s.size):=rfl;unfold jbN at K;clear q r o j p;generalize (before s.data.toList).length=n at *
 go_enter func156,ntmps156;go_wp2_with fail;go_loop [5] (fun i=>∃k:Nat,k<=s.size/\i=.int .i64 k) (fun i=>s.size-(intOf i).toNat)
 case atStart=>exact⟨0,jn3 _,rfl⟩
 case round =>
 obtain⟨k,H,rfl⟩:=hrel;by_cases b:k<s.size
 ·have g:=qQ (c:=s[k]) (d:=10) 10 rfl;have a:(s[k]==10)=false:=by
   cases a:(s[k]==10) with
   | false=>rfl
   | true =>
   exfalso;have:=Xk s.data.toList 10 k (by rw[jnW (by rw[<- joa];exact b)];exact congrArg some (eq_of_beq a))
   rw[z.out]at this;cases this
  rw[a]at g;clear a;go_wp2;go_round
  case rel=>exact⟨k+1,b,by go_num⟩
  case measure=>simp[intOf];omega
 go_wp2_with fail;go_loop [6] (fun i=>∃k:Nat,k<=n/\i=.int .i64 k) (fun i=>s.size-(intOf i).toNat)
 case atStart=>exact⟨0,jn3 _,rfl⟩
 case round =>
 obtain⟨m,G,rfl⟩:=hrel;have f:m<s.size:=by omega
 have e:s.data.toList[m]?=some s[m]:=by rw[jnW (by rw[<- joa];exact f)];rfl
 have g:=qQ (c:=s[m]) (d:=58) 58 rfl;by_cases l:m<n
 ·have a:(s[m]==58)=false:=by have:=y.out m l;rw[e]at this;simpa using this
  rw[a]at g;clear e a;go_wp2;go_round
  case rel=>exact⟨m+1,by omega,by go_num⟩
  case measure=>simp[intOf];omega
 obtain rfl:m=n:=by omega
 have a:(s[m]==58)=true:=by have:=D.out;rw[e]at this;simpa using this
 rw[a]at g;clear e a;have I:IntKind.i64.wrap ((m:Int)+1)=(m:Int)+1:=jos _ (by omega)
 go_wp2_with (first | (go_at_call 198;refine(K _).mono ?_;rintro e E ⟨rfl,rfl⟩));go_quiet (fail);go_wp2;go_ret3;exact⟨by rw[v.out,C.out];rfl,Below.drewN (jnV _ _) _⟩
theorem jbn(s:ByteArray)(k:Nat)(h:k<s.size):jR (s.data.toList.take (k+1))=(jR (s.data.toList.take k)&&zY s[k]):=by unfold jR;rw[jpx (by simpa using h),jpt];simp;rfl
theorem jd6(s:ByteArray)(z:s.size<=4294967295)(w:World)(n:qH s.data.toList 10=true):
  Calls prog 97 #[.string s] w fun e q=>e=.returned (.int .i64 5)/\Below w.heap.size w q:=by
 have m:=joa s;have v:=jnS m
 clear m;have t:=jnS n
 clear n;go_enter func97,ntmps97;go_wp2_with fail;go_loop [3,4] (fun b i=>∃(k:Nat) (x:Bool),k<=s.size/\i=.int .i64 k/\b=.bool x/\∀j,j<k->s.data.toList[j]?≠some 10) (fun _ i=>s.size-(intOf i).toNat)
 case atStart=>exact⟨0,true,jn3 _,rfl,rfl,fun j p=>absurd p (jqg j)⟩
 case round =>
 obtain⟨k,x,A,rfl,rfl,a⟩:=hrel;by_cases f:k<s.size
 ·have e:s.data.toList[k]?=some s[k]:=by rw[jnW (by rw[<- joa];exact f)];rfl
  have E:=jnS e;have u:=jnS a
  clear e a;have l:=qQ (c:=s[k]) (d:=10) 10 rfl
  cases g:(s[k]==10) with
  | true =>
   rw[g]at l;go_wp2;go_ret;exact⟨rfl,jnV _ _⟩
  | false =>
  rw[g]at l;have o:∀j,j<k+1->s.data.toList[j]?≠some 10:=fun j p=>by
   by_cases h:j=k
   ·subst h;rw[E.out];simpa using g
   exact u.out j (by omega)
  have r:=jnS o;clear o;cases x
  all_goals
   go_wp2_with (first | (go_at_call 155;refine(zV _ _).mono ?_;rintro e y ⟨rfl,rfl⟩));go_round
   case rel=>exact⟨k+1,_,f,by go_num,rfl,r.out⟩
   case measure=>simp[intOf];omega
 exfalso;have:=jdk s.data.toList 10 k a (by rw[<- v.out];omega)
 rw[t.out]at this;cases this
theorem jax(s:ByteArray)(H:s.size<=4294967295)(w:World)(G:qH s.data.toList 10=false):
  Calls prog 97 #[.string s] w fun e I=>e=.returned (.int .i64 (jm s.data.toList:Nat))/\Below w.heap.size w I:=by
 have A:=joa s;have L:=jnS A
 clear A;have p:=jnS G
 clear G;go_enter func97,ntmps97;go_wp2_with fail;go_loop [3,4] (fun b i=>∃(k:Nat),k<=s.size/\i=.int .i64 k/\b=.bool (jR (s.data.toList.take k))) (fun _ i=>s.size-(intOf i).toNat)
 case atStart=>exact⟨0,jn3 _,rfl,rfl⟩
 case round =>
 obtain⟨k,f,rfl,rfl⟩:=hrel;by_cases h:k<s.size
 ·have J:=qQ (c:=s[k]) (d:=10) 10 rfl;have v:(s[k]==10)=false:=by
   cases v:(s[k]==10) with
   | false=>rfl
   | true =>
   exfalso;have:=Xk s.data.toList 10 k (by rw[jnW (by rw[<- joa];exact h)];exact congrArg some (eq_of_beq v))
   rw[p.out]at this;cases this
  rw[v]at J;clear v;have K:=jnS (jbn s k h)
  generalize jR (s.data.toList.take k)=x at *
  cases x
  all_goals
   go_wp2_with (first | (go_at_call 155;refine(zV _ _).mono ?_;rintro e q ⟨rfl,rfl⟩));go_round
   case rel=>exact⟨k+1,h,by go_num,by rw[K.out];rfl⟩
   case measure=>simp[intOf];omega
 obtain rfl:k=s.size:=by omega
 have z:s.data.toList.take s.size=s.data.toList:=by rw[joa];exact jom
 rw[z];clear z h f;cases j:jR s.data.toList with
 | true =>
  have f:jm s.data.toList=1:=by unfold jm;rw[p.out,if_neg (by decide),if_pos j]
  have l:=jnS f;clear f;go_wp2;go_ret;exact⟨by rw[l.out];rfl,jnV _ _⟩
 | false =>
 obtain⟨c,t,r⟩:=JW j;have N:1<=s.size:=by rw[L.out,r];simp
 have O:s[0]=c:=by
  have:s.data.toList[0]?=some c:=by rw[r];rfl
  rw[jnW (by rw[<- joa];omega)]at this;exact jnY this
 have o:vh s.data.toList=zY c:=by rw[r];rfl
 have m:Zi s.data.toList=(c==35):=by rw[r];rfl
 clear r;have D:=qQ (c:=c) (d:=35) 35 rfl
 cases g:(c==35) with
 | true =>
  have f:jm s.data.toList=2:=by unfold jm;rw[p.out,if_neg (by decide),j,if_neg (by decide),m,if_pos g]
  have l:=jnS f;rw[g]at D;clear f g o m j;go_wp2;go_ret;exact⟨by rw[l.out];rfl,jnV _ _⟩
 | false =>
 rw[g]at D;cases u:zY c with
 | true =>
  have f:jm s.data.toList=3:=by unfold jm;rw[p.out,if_neg (by decide),j,if_neg (by decide),m,g,if_neg (by decide),o,if_pos u]
  have l:=jnS f;clear f g o m j;go_wp2_with (first | (go_at_call 155;refine(zV _ _).mono ?_;rw[u];rintro e q ⟨rfl,rfl⟩));go_ret;exact⟨by rw[l.out];rfl,jnV _ _⟩
 | false =>
 have f:jm s.data.toList=if qH s.data.toList 58=true/\jF (before s.data.toList)=true then 4 else 5:=by unfold jm;rw[p.out,if_neg (by decide),j,if_neg (by decide),m,g,if_neg (by decide),o,u,if_neg (by decide)]
 by_cases n:qH s.data.toList 58=true/\jF (before s.data.toList)=true
 ·rw[if_pos n]at f;have l:=jnS f
  have C:=fun w=>Ky s H w p.out n.1 n.2;clear f g o m j n;go_wp2_with (first | (go_at_call 155;refine(zV _ _).mono ?_;rw[u];rintro e q ⟨rfl,rfl⟩) | (go_at_call 156;refine(C _).mono ?_;rintro e q ⟨rfl,y⟩));go_ret;exact⟨by rw[l.out];rfl,y⟩
 rw[if_neg n]at f;have l:=jnS f
 have E:qH s.data.toList 58=false\/jF (before s.data.toList)=false:=by
  cases a:qH s.data.toList 58
  ·exact .inl rfl
  cases b:jF (before s.data.toList)
  ·exact .inr rfl
  exact absurd ⟨a,b⟩ n
 have C:=fun w=>jfN s H w (.inr E);clear f g o m j n E;go_wp2_with (first | (go_at_call 155;refine(zV _ _).mono ?_;rw[u];rintro e q ⟨rfl,rfl⟩) | (go_at_call 156;refine(C _).mono ?_;rintro e q ⟨rfl,y⟩));go_ret;exact⟨by rw[l.out];rfl,y⟩
theorem vr(s:ByteArray)(b:s.size<=4294967295)(w:World):
  Calls prog 97 #[.string s] w fun e c=>e=.returned (.int .i64 (jm s.data.toList:Nat))/\Below w.heap.size w c:=by
 cases a:qH s.data.toList 10 with
 | true =>
  have d:jm s.data.toList=5:=by unfold jm;rw[if_pos a]
  rw[d];exact jd6 s b w a
 | false=>exact jax s b w a
theorem jk4{l:List UInt8}(h:jm l=4):qH l 10=false/\qH l 58=true/\jF (before l)=true:=by
 unfold jm at h
 split at h;· cases h
 rename_i h10
 split at h;· cases h
 split at h;· cases h
 split at h;· cases h
 split at h
 ·rename_i q;exact⟨by simpa using h10,q.1,q.2⟩
 cases h
theorem jhL{l:List UInt8}(h:l≠[]):(B l).toList.isEmpty=false/\¬(B l).toList=[]:=by rw[jot,jj];exact⟨by simpa using h,h⟩
theorem mkB(l:List UInt8):(⟨l.toArray⟩:ByteArray)=B l:=rfl
theorem jgK(k l:List UInt8)(f:k.length<=100000)(hl:l.length<=100000)(w:World):
  Calls prog 205 #[.string (B k),.string (B l)] w fun e a=>e=.returned (.string (B (zM k l)))/\w=a:=by
 by_cases h:l=[]
 ·have e:B (zM k l)=B k ++ ⟨#[58]⟩:=by unfold zM;rw[if_pos h];exact(jn k [58]).symm
  rw[e];subst h;have c:=jg k
  generalize B k=s at *
  rw[show B []=⟨#[]⟩ from rfl];go_enter func205,ntmps205;go_wp2;go_ret;exact⟨rfl,rfl⟩
 have e:B (zM k l)=((B k ++ ⟨#[58]⟩) ++ ⟨#[32]⟩)++B l:=by unfold zM;rw[if_neg h];rw[show(⟨#[58]⟩:ByteArray)=B [58] from rfl,show(⟨#[32]⟩:ByteArray)=B [32] from rfl,jn,jn,jn];simp
 rw[e];obtain⟨g,d⟩:=jhL h;have c:=jg k
 have b:=jg l;generalize B k=s at *
 generalize B l=t at *
 clear e;go_enter func205,ntmps205;go_wp2;go_ret;exact⟨rfl,rfl⟩
theorem jkO(l:List UInt8):Lib.hasPrefix l [46]=(l.head?==some 46):=by
 unfold Lib.hasPrefix;cases l with
 | nil=>rfl
 | cons a t=>simp[List.isPrefixOf,Bool.beq_comm]
theorem jlx(l:List UInt8)(w:World):
  Calls prog 91 #[.string (B l),.string ⟨#[46]⟩] w fun e a=>e=.returned (.bool (l.head?==some 46))/\w=a:=by
 refine(Tryz.strings_HasPrefix (B l) ⟨#[46]⟩ _).mono ?_;rw[show(⟨#[46]⟩:ByteArray).data.toList=[46] from rfl,jkO,jj];rintro e a ⟨rfl,rfl⟩;exact⟨rfl,rfl⟩
theorem jb6(l:List UInt8)(hl:l.length<=100000)(w:World):
  Calls prog 206 #[.string (B l)] w fun e f=>e=.returned (.string (B (js l)))/\Below w.heap.size w f:=by
 have i:=jg l;cases a:jR l with
 | true =>
  have e:B (js l)=⟨#[32,46]⟩++B l:=by unfold js Jp;rw[a];exact(jn [32,46] l).symm
  rw[e];have T:=fun w=>jcy (B l) (by omega) (by rw[jj];exact a) w
  clear e a;generalize B l=s at *
  go_enter func206,ntmps206;go_wp2_with (go_at_call 184;refine(T _).mono ?_;rintro e d ⟨rfl,c⟩);go_ret;exact⟨rfl,c⟩
 | false =>
 have T:=fun w=>Yv (B l) (by omega) w;obtain⟨j,h⟩:=Kn (B l) (by rw[jj];exact a);have D:=jlx l
 generalize Yu (B l)=k at *
 cases b:(l.head?==some 46) with
 | true =>
  have e:B (js l)=⟨#[32,46]⟩++B l:=by unfold js Jp;rw[a,b];exact(jn [32,46] l).symm
  rw[e];rw[b]at D;clear e a b;generalize B l=s at *
  go_enter func206,ntmps206;go_wp2_with (first | (go_at_call 184;refine(T _).mono ?_;rintro e d ⟨rfl,c⟩) | (go_at_call 91;refine(D _).mono ?_;rintro e g ⟨rfl,rfl⟩));go_ret;exact⟨rfl,c⟩
 | false =>
 have e:B (js l)=⟨#[32]⟩++B l:=by unfold js Jp;rw[a,b];exact(jn [32] l).symm
 rw[e];rw[b]at D;clear e a b;generalize B l=s at *
 go_enter func206,ntmps206;go_wp2_with (first | (go_at_call 184;refine(T _).mono ?_;rintro e d ⟨rfl,c⟩) | (go_at_call 91;refine(D _).mono ?_;rintro e g ⟨rfl,rfl⟩));go_ret;exact⟨rfl,c⟩
def zC(k v:List UInt8):Value:=.agg #[.string (B k),.string (B v)]
attribute [local go_sem] qS jmC jkc
theorem Qf(k v:List UInt8)(f:k.length<=1000000)(g:v.length<=1000000)(w:World):
  Calls prog 189 #[zC k v] w fun e d=>e=.returned (Zv (ze k v))/\Below w.heap.size w d:=by
 have K:=fun w=>jgn (B k) (by rw[jg];unfold maxLen;omega) w;rw[jj]at K;have c:=jg v
 unfold ze zC;generalize B k=s at *
 cases b:jF k with
 | false =>
  rw[b]at K;generalize B v=t at *
  go_enter func189,ntmps189;go_wp2_with (go_at_call 186;refine(K _).mono ?_;rintro e a ⟨rfl,rfl⟩);go_ret;exact⟨rfl,(jnV _ _).alloc (jnT _) _⟩
 | true =>
 rw[b]at K;by_cases h:v.length<=1000
 ·rw[if_pos rfl,if_pos h];rw[<- c]at h;generalize B v=t at *
  go_enter func189,ntmps189;go_wp2_with (go_at_call 186;refine(K _).mono ?_;rintro e a ⟨rfl,rfl⟩);go_ret;exact⟨rfl,(jnV _ _).alloc (jnT _) _⟩
 rw[if_pos rfl,if_neg h];rw[<- c]at h;generalize B v=t at *
 go_enter func189,ntmps189;go_wp2_with (go_at_call 186;refine(K _).mono ?_;rintro e a ⟨rfl,rfl⟩);go_ret;exact⟨rfl,(jnV _ _).alloc (jnT _) _⟩
theorem jay(k v:List UInt8)(f:k.length<=1000000)(g:v.length<=1000000)(w:World):
  Calls prog 207 #[zC k v] w fun e d=>e=.returned (.int .i64 (ze k v:Nat))/\Below w.heap.size w d:=by
 have K:=fun w=>Qy (B k) (by rw[jg];omega) w;rw[jj]at K;have c:=jg v
 unfold ze zC;generalize B k=s at *
 cases b:jF k with
 | false =>
  rw[b]at K;generalize B v=t at *
  go_enter func207,ntmps207;go_wp2_with (go_at_call 198;refine(K _).mono ?_;rintro e a ⟨rfl,rfl⟩);go_ret;exact⟨rfl,(jnV _ _).alloc (jnT _) _⟩
 | true =>
 rw[b]at K;by_cases h:v.length<=1000
 ·rw[if_pos rfl,if_pos h];rw[<- c]at h;generalize B v=t at *
  go_enter func207,ntmps207;go_wp2_with (go_at_call 198;refine(K _).mono ?_;rintro e a ⟨rfl,rfl⟩);go_ret;exact⟨rfl,(jnV _ _).alloc (jnT _) _⟩
 rw[if_pos rfl,if_neg h];rw[<- c]at h;generalize B v=t at *
 go_enter func207,ntmps207;go_wp2_with (go_at_call 198;refine(K _).mono ?_;rintro e a ⟨rfl,rfl⟩);go_ret;exact⟨rfl,(jnV _ _).alloc (jnT _) _⟩
theorem jbP(l:List UInt8)(h:(10:UInt8)∈l):jr l=l.take (l.takeWhile (· != 10)).length::jr (l.drop ((l.takeWhile (· != 10)).length+1)):=by
 have e:l=l.takeWhile (· != 10)++10::l.drop ((l.takeWhile (· != 10)).length+1):=by
  have a:=zp l;unfold head nl qF at a;have b:l.contains 10=true:=by simpa using h
  unfold head nl at a;rw[if_pos b,if_pos b]at a;simpa using a
 have d:(10:UInt8)∉l.takeWhile (· != 10):=fun c=>by have:=List.all_eq_true.1 (jpm (l:=l) (p:=(· != 10))) _ c;simp at this
 have f:l.take (l.takeWhile (· != 10)).length=l.takeWhile (· != 10):=(List.prefix_iff_eq_take.1 (jpj _)).symm;rw[f]
 conv=>lhs;rw[e]
 exact KF _ _ d
theorem Vn:∀(k:Nat) (l:List UInt8),l.count 10=k->Lib.splitK [10] 0 k l=jr l
 | 0,l,h=>by have:(10:UInt8)∉l:=List.count_eq_zero.1 h;rw[KG l this];rfl
 | k+1,l,h=>by
  have a:(10:UInt8)∈l:=List.count_pos_iff.1 (by omega);have b:=jbP l a
  have hl:=yJ l;rcases ve l 10 with ⟨_,c⟩|⟨e,_⟩
  ·exact absurd a c
  unfold Lib.splitK;rw[Lib.index_one,e];rw[b]at hl;have d:=yJ (l.drop ((l.takeWhile (· != 10)).length+1))
  rw[if_neg (by simp<;>omega),b];simp only[jpA,jpv,joN];rw[Vn k _ (by simp only[jn1]at hl;omega)]
theorem jai(l:List UInt8):Lib.splitB ⟨#[10]⟩ 0 (Lib.countB (B l) ⟨#[10]⟩) (B l)=(jr l).map B/\Lib.countB (B l) ⟨#[10]⟩+1=(jr l).length:=by
 have a:Lib.countB (B l) ⟨#[10]⟩=l.count 10:=by show Lib.count (B l).data.toList [10]=_;rw[Lib.count_one,jj]
 have h:=Lib.splitB_data ⟨#[10]⟩ 0 (Lib.countB (B l) ⟨#[10]⟩) (B l);rw[jj,a]at h;rw[a];refine⟨?_,(yJ l).symm⟩;have b:Lib.splitK (⟨#[10]⟩:ByteArray).data.toList 0 (l.count 10) l=jr l:=Vn _ l rfl
 rw[b]at h;rw[<- h,jp3]
 conv=>lhs;rw[<- List.map_id (Lib.splitB ⟨#[10]⟩ 0 (l.count 10) (B l))]
 exact jqe fun s _=>(je8 s).symm
theorem ja3:(prog.info? 9).map (fun i=>(i.zero,i.size,i.bytes))=some (some (.string ByteArray.empty),1,16):=by kernel_rfl
theorem jdT(l:List UInt8)(hl:l.length<=1000000)(w:World):
  Calls prog 204 #[.string (B l),.string ⟨#[10]⟩] w fun e a =>
   e=.returned (.slice (some ⟨w.heap.size,0,none⟩) (jr l).length (jr l).length)/\a=w.alloc (.cells (((jr l).map B).map Value.string).toArray 9):=by
 obtain⟨h,f⟩:=jai l;have j:=jg l
 have c:=Any.strings_genSplit_core Tryz.lays221 ja3 (B l) ⟨#[10]⟩ 0 (-1) (Lib.countB (B l) ⟨#[10]⟩+1) w (by omega) (by decide) (jn3 _)
  (fun x i hx=>(Tryz.strings_Index_one x 10 _).mono (fun e a ⟨d,b⟩=>⟨by rw[d];show _=Ending.returned (Value.int .i64 (Lib.index x.data.toList [10]));rw[Lib.index_one],b⟩))
  ((Tryz.strings_Count_one (B l) 10 w).mono (fun e a ⟨d,b⟩=>⟨by rw[d];show _=Ending.returned (Value.int .i64 ((Lib.count (B l).data.toList [10]:Nat):Int));rw[Lib.count_one];rfl,b⟩))
  (by decide) (by decide) (by
   have:=Lib.countB_le ⟨#[10]⟩ (by decide) (B l).size (B l) (jnT _);rw[if_pos (by decide)];omega)
 rw[Nat.add_sub_cancel,h]at c;have g:Lib.cellsOf ((jr l).map B) (Lib.countB (B l) ⟨#[10]⟩+1)=(((jr l).map B).map Value.string).toArray:=by rw[f,show(jr l).length=((jr l).map B).length by simp];exact Lib.cellsOf_full _
 rw[g,joi,f]at c;generalize (jr l).length=n at *
 generalize (((jr l).map B).map Value.string).toArray=k at *
 clear h f g;generalize B l=s at *
 go_enter func204,ntmps204;go_wp2_with (go_at_call 240;refine c.mono ?_;rintro e a ⟨rfl,rfl⟩);go_ret;exact⟨rfl,rfl⟩
end
section
theorem zf{w w':World}{base N:Nat}{e:TypeId}{size:Nat}{v:Value}{n:Nat}{xs:List Value}(h:w.ownsRow base e size v n xs)(k:Below N w w')(l:w.heap.size<=N):w'.ownsRow base e size v n xs:=by
 refine⟨h.1,?_⟩;rcases h.2 with f|⟨g,c,b,i,j,d,a⟩
 ·exact .inl f
 refine .inr ⟨g,c,b,i,j,?_,a⟩;have:g<w.heap.size:=(Array.getElem?_eq_some_iff.1 d).1
 exact(k.block g (by omega)).trans d
def ym(w:World)(base:Nat)(v:Value)(ss:List ByteArray):Prop:=w.ownsRow base 9 1 v ss.length (ss.map Value.string)
theorem ym.kept{w w':World}{base N:Nat}{v:Value}{a:List ByteArray}(h:ym w base v a)(c:Below N w w')(b:w.heap.size<=N):ym w' base v a:=zf h c b
theorem ym.strs{w:World}{base:Nat}{v:Value}{a:List ByteArray}(h:ym w base v a):Strs w v a:=by
 rcases joQ h with ⟨rfl,j⟩|⟨g,c,rfl⟩
 ·have:a=[]:=by cases a with | nil=>rfl | cons _ _=>simp at j
  subst this;exact Strs.none _ _
 refine⟨_,c,rfl,(by rcases h.2 with ⟨q,_⟩ | ⟨k,d,f,q,_,_,e,_⟩;cases q;cases q;exact e),fun i s b=>⟨g,0,rfl,(joV h g rfl).2,?_⟩⟩;have l:i<a.length:=by
  rcases joo i a.length with q|q
  ·exact q
  rw[jon q]at b;cases b
 rw[jov,job h i (by omega),joI,b];rfl
theorem ym.one(w:World)(base:Nat)(a:base<=w.heap.size)(s:ByteArray):ym (w.alloc (.cells #[.string s] 9)) base (.slice (some ⟨w.heap.size,0,none⟩) 1 1) [s] :=
 World.ownsRow_lit w #[.string s] 1 a (by decide) rfl
theorem WK(W:World)(x:ByteArray)(t:TypeId):∀(j:Nat) u,[Value.string x][j]?=some u->(W.alloc (.cells #[.string x] t)).cell? ((⟨W.heap.size,0,none⟩:Addr).add j)=some u:=by
 intro j u h;have a:(⟨W.heap.size,0,none⟩:Addr).add j=⟨W.heap.size,j,none⟩:=by unfold Addr.add;split<;>simp_all
 rw[a,jpq _ _ _ _ rfl]
 match j,h with
 | 0,h=>simpa using h
theorem jdc{k v:List UInt8}{p:List UInt8}{r:List (List UInt8)}(h:jr v=p::r):jW k v=zM k p::r.map js:=by unfold jW;rw[h];rfl
theorem jaP:∀(r:List (List UInt8)) (q:List UInt8),q∈r->q.length<=(r.map List.length).sum
 | [],q,h=>by simp at h
 | a::r,q,h=>by
  rcases List.mem_cons.1 h with rfl|h
  ·simp
  have:=jaP r q h;simp;omega
theorem jc1{v p:List UInt8}{r:List (List UInt8)}(h:jr v=p::r):p.length<=v.length/\(∀q∈r,q.length<=v.length)/\r.length<=v.length:=by
 have a:=Yd v;rw[h]at a;simp only[joy,jo2,jn1]at a;refine⟨by omega,fun q b => ?_,by omega⟩;have:q.length<=(r.map List.length).sum:=jaP _ _ b
 omega
attribute [local go_sem] qS
theorem jf9(k v:List UInt8)(g:k.length<=100000)(i:v.length<=100000)(w:World)(h:ze k v≠0):
  Calls prog 168 #[zC k v] w fun e b=>e=.returned (.tuple #[.slice none 0 0,Zv (ze k v)])/\Below w.heap.size w b:=by
 have C:=fun w=>Qf k v (by omega) (by omega) w;rw[zn _ (jpy h)]at C ⊢;generalize ze k v=n at *
 unfold zC at *
 generalize B k=s at *
 generalize B v=t at *
 go_enter func168,ntmps168;go_wp2_with (go_at_call 189;refine(C _).mono ?_;rintro e c ⟨rfl,a⟩;have d:=a.cell (p:=⟨w.heap.size,0,none⟩) (by simp);have f:=a.cell (p:=⟨w.heap.size,1,none⟩) (by simp));go_ret2;exact⟨rfl,((jnV _ _).alloc (jnT _) _).trans (a.mono (by simp))⟩
theorem jcc(k l:List UInt8)(d:k.length<=100000)(hl:l.length<=100000)(w:World):
  Calls prog 205 #[.string (B k),.string (B l)] w fun e c=>e=.returned (.string (B (zM k l)))/\c=w :=
 (jgK k l d hl w).mono fun e c ⟨a,b⟩=>⟨a,b.symm⟩
theorem Xf:(prog.info? 9).map (fun i=>(i.zero,i.size,i.bytes))=some (some (.string ⟨#[]⟩),1,16):=by kernel_rfl
theorem jf8(k v:List UInt8)(hk:k.length<=100000)(hv:v.length<=100000)(w:World)(h:ze k v=0):
  Calls prog 168 #[zC k v] w fun e w'=>∃sv E,e=.returned (.tuple #[sv,.nilIface])/\ym w' E sv ((jW k v).map B)/\Below w.heap.size w w':=by
 have C:=fun w=>Qf k v (by omega) (by omega) w;rw[h]at C;clear h;obtain⟨p,r,O⟩:∃p r,jr v=p::r:=⟨_,_,zj v⟩
 have V:=fun w=>jdT v (by omega) w;rw[O]at V;obtain⟨z1,z2,z3⟩:=jc1 O;have HL:=jnS (jdc (k:=k) O)
 clear O;have F1:=fun w=>jcc k p (by omega) (by omega) w
 unfold zC at *
 generalize R:zM k p=fl at *
 clear R;generalize B k=s at *
 generalize B v=t at *
 obtain⟨i0,hi,X,ae,Q⟩:=info_parts Xf;go_enter func168,ntmps168;go_wp2_with fail;refine(C _).mono ?_;rintro e z ⟨rfl,K⟩;have c0:=K.cell (p:=⟨w.heap.size,0,none⟩) (by simp)
 have c1:=K.cell (p:=⟨w.heap.size,1,none⟩) (by simp);have l:=K.size
 go_wp2_with fail;refine(V _).mono ?_;rintro e g ⟨rfl,f⟩;have q0:g.cell? ⟨w.heap.size,0,none⟩=some (.string s):=by rw[f,jp5 _ _ _ (jp6 (show w.heap.size<z.heap.size by have:=l;simp at this;omega)),c0,jpq _ _ _ _ rfl];rfl
 have U:∀(j:Nat) x,(p::r)[j]?=some x->g.cell? ⟨z.heap.size,j,none⟩=some (.string (B x)):=by intro j x hx;rw[f,jpq _ _ _ _ rfl];simp only[jp3,jn0,joI,hx];rfl
 have m:Below w.heap.size w g:=by rw[f];exact(((jnV _ _).alloc (jnT _) _).trans (K.mono (by simp))).alloc (by simp at l;omega) _
 have o:z.heap.size<g.heap.size:=by rw[f];simp
 have e0:=U 0 p rfl;have ag:w.heap.size<z.heap.size:=by simp at l;omega
 have H:=jnS m;have q:=jnS (fun(j:Nat) x (hx:r[j]?=some x)=>U (j+1) x (by simpa using hx))
 clear f c0 c1 K l U m;generalize z.heap.size=b0 at *
 clear z;rw[jn1];go_wp2_with fail;refine wp_region_still_tail 6 (by kernel_rfl) (by kernel_rfl) ?_;simp only[jpX,List.take_zero,jqd,jpe]
 still_step
 still_step
 still_step
 still_step
 still_step
 still_call (F1 _)
 refine wpStill_nil ?_;change wpList _ _ _ _ _ g.drew;replace o:b0<g.drew.heap.size:=o;replace H:Hid (Below w.heap.size w g.drew):=H.out.drew;replace q:Hid (∀(j:Nat) x,r[j]?=some x->g.drew.cell? ⟨b0,j+1,none⟩=some (.string (B x))):=q;clear q0 e0 V C F1;generalize g.drew=b at *
 have L:=H.out.size;go_wp2_with fail
 ·subst h;go_loopw [6,27] (fun W i D=>i=.int .i64 0/\ym D b.heap.size W [B fl]/\Below b.heap.size b D) (fun _ i _=>0)
  case atStart=>exact⟨rfl,ym.one b _ (jnT _) _,(jnV _ _).alloc (jnT _) _⟩
  case round =>
  obtain⟨rfl,a,A⟩:=hrel;go_wp2_with fail;go_ret2;exact⟨_,_,rfl,by rw[HL.out];exact a,H.out.trans (A.mono L)⟩
 go_loopw [6,27] (fun W i D=>∃(k:Nat),k<=r.length/\i=.int .i64 k/\ym D b.heap.size W ((fl::(r.take k).map js).map B)/\Below b.heap.size b D) (fun _ i _=>r.length-(intOf i).toNat)
 case atStart=>exact⟨0,jn3 _,rfl,ym.one b _ (jnT _) _,(jnV _ _).alloc (jnT _) _⟩
 case round =>
 obtain⟨k,aj,rfl,a,A⟩:=hrel;by_cases J:k<r.length
 ·obtain⟨x,hx⟩:∃x,r[k]?=some x:=⟨_,jnW J⟩
  have G:=q.out k x hx;have I:=(A.cell (p:=⟨b0,k+1,none⟩) o).trans G
  rw[Nat.add_comm k 1]at I;have ah:=z2 x (jn7 hx)
  have TK:Hid ((fl::(r.take (k+1)).map js).map B=(fl::(r.take k).map js).map B++[B (js x)]):=by show _=_;rw[jor,hx];simp
  have FT:=fun w=>jb6 x (by omega) w;have Z:((fl::(r.take k).map js).map B).length=k+1:=by simp;omega
  have a7:=jnS Z;clear hx G;generalize (fl::(r.take k).map js).map B=ls at *
  go_wp2_with fail;refine(FT _).mono ?_;rintro e N ⟨rfl,P⟩;have c:N.ownsRow b.heap.size 9 1 u6 ls.length (ls.map Value.string):=a.kept P (jnT _)
  have ai:=P.size;have Y:=A.size
  have HC:=jnS (WK N (B (js x)) 9);have aa:Below b.heap.size b N:=A.trans (P.mono Y)
  clear a P;generalize js x=y at *
  go_wp2_with (at_builtin;refine wpList_append_own _ rfl _ _ 158 rfl b.heap.size 9 i0 _ 1 16 underlying158 hi X ae Q rfl (by decide) _ _ _ rfl (c.alloc _) ⟨N.heap.size,0,none⟩ 1 1 _ rfl rfl HC.out ?c2 ?c3 ?c4 ?c5 ?_)
  case c2=>intro u hu;simp at hu;subst hu;rfl
  case c3=>unfold maxLen;omega
  case c4=>omega
  case c5=>simp;omega
  intro v' w5 d n _;obtain⟨g',af,rfl⟩:=ownsRow_succ d;have a8:Below b.heap.size b w5:=(aa.alloc (by omega) _).grown n (by simp;omega) (fun j ej=>(c.lt j ej).1)
  go_wp2_with fail;go_roundw
  case rel =>
   refine⟨k+1,J,by go_num,?_,a8⟩;rw[TK.out];unfold ym;rw[jnU,joB,a7.out];exact d
  case measure=>simp[intOf];omega
 obtain rfl:k=r.length:=by omega
 rw[jom]at a;go_wp2_with fail;go_ret2;exact⟨_,_,rfl,by rw[HL.out];exact a,H.out.trans (A.mono L)⟩
end
def WT(want:Nat):List (List UInt8)->Bool
 | []=>true
 | a::r=>(jm a==want)&&WT 3 r
theorem jcQ:∀r:List (List UInt8),WT 3 r=r.all (fun l=>jm l==3)
 | []=>rfl
 | a::r=>by unfold WT;rw[jcQ r,jpQ]
theorem jbI(ls:List (List UInt8)):GA ls=(decide (0<ls.length)&&WT 4 ls):=by
 cases ls with
 | nil=>rfl
 | cons a r=>unfold GA WT;rw[jcQ];simp
theorem jak(ls:List (List UInt8))(k a:Nat)(x:List UInt8)(h:ls[k]?=some x):WT a (ls.drop k)=((jm x==a)&&WT 3 (ls.drop (k+1))):=by
 have b:k<ls.length:=by
  rcases joo k ls.length with q|q
  ·exact q
  rw[jon q]at h;cases h
 rw[jou b];rw[jnW b]at h;rw[jnY h];rfl
theorem jiF(l:List UInt8):jm l<=5:=by
 unfold jm
 split;· decide
 split;· decide
 split;· decide
 split;· decide
 split<;>decide
theorem jjC{w:World}{A:Option Addr}{ls:List (List UInt8)}(c:∀(i:Nat) (s:ByteArray),(ls.map B)[i]?=some s->∃b a,A=some ⟨b,a,none⟩/\b<w.heap.size/\w.cell? ⟨b,a+i,none⟩=some (.string s)):
  ∀(i:Nat) (x:List UInt8),ls[i]?=some x->∃b a,A=some ⟨b,a,none⟩/\b<w.heap.size/\w.cell? ⟨b,a+i,none⟩=some (.string (B x)) :=
 fun i x hx=>c i (B x) (by rw[joI,hx];rfl)
theorem jfE(ls:List (List UInt8))(v:Value)(w:World)(J:Strs w v (ls.map B))(hl:∀l∈ls,l.length<=100000)(P:ls.length<=100000):
  Calls prog 187 #[v] w fun e z=>e=.returned (.bool (GA ls))/\Below w.heap.size w z:=by
 obtain⟨A,N,rfl,C,t⟩:=J;have m:=jjC t
 have I:=jnS m;have u:=jnS (jbI ls)
 clear t m;rw[joi];go_enter func187,ntmps187;go_wp2_with fail;go_loopw [3,8] (fun v3 i L=>∃k a:Nat,k<=ls.length/\a<=5/\i=.int .i64 k/\v3=.int .i64 a/\WT 4 ls=WT a (ls.drop k)/\Below w.heap.size w L) (fun _ i _=>ls.length-(intOf i).toNat)
 case atStart=>exact⟨0,4,jn3 _,by decide,rfl,rfl,rfl,jnV _ _⟩
 case round =>
 obtain⟨k,a,R,E,rfl,rfl,f,g⟩:=hrel;by_cases j:k<ls.length
 ·obtain⟨x,hx⟩:∃x,ls[k]?=some x:=⟨_,jnW j⟩
  obtain⟨b,q,rfl,o,c⟩:=I.out k x hx;have G:=(g.cell (p:=⟨b,q+k,none⟩) o).trans c
  have K:=hl x (jn7 hx);have r:=fun w=>ZN (B x) (by rw[jg];unfold maxLen;omega) w
  rw[jj]at r;rw[jak ls k a x hx]at f;have h:=jnS f
  have H:=jiF x;clear hx c f;generalize jm x=n at *
  go_wp2_with fail;refine(r _).mono ?_;rintro e O ⟨rfl,s⟩;by_cases d:n=a
  ·subst d;go_wp2_with fail;go_roundw
   case rel=>exact⟨k+1,3,j,by decide,by go_num,rfl,by rw[h.out];simp,g.trans (s.mono g.size)⟩
   case measure=>simp[intOf];omega
  have D:((n:Int)==(a:Int))=false:=by rw[beq_eq_false_iff_ne];omega
  have Q:((n:Int) != (a:Int))=true:=by rw[bne,D];rfl
  have y:(n==a)=false:=by rw[beq_eq_false_iff_ne];exact d
  rw[y]at h;clear d y;go_wp2_with fail;go_ret;exact⟨by rw[u.out,h.out];simp,g.trans (s.mono g.size)⟩
 obtain rfl:k=ls.length:=by omega
 rw[jpc]at f;have h:=jnS f
 clear f;go_wp2_with fail;go_ret;exact⟨by rw[u.out,h.out];simp[WT],g⟩
theorem jkn(l:List UInt8)(w:World):
  Calls prog 136 #[.string (B l),.string ⟨#[32]⟩] w fun e b=>e=.returned (.string (B (vo l)))/\w=b:=by
 refine(Tryz.strings_TrimPrefix (B l) ⟨#[32]⟩ _).mono ?_;rintro e b ⟨rfl,rfl⟩;refine⟨?_,rfl⟩;rw[jj,show(⟨#[32]⟩:ByteArray).data.toList=[32] from rfl];unfold Lib.trimPrefix Lib.hasPrefix vo B;cases l with
 | nil=>rfl
 | cons a t =>
 by_cases h:a=32
 ·subst h;simp[List.isPrefixOf]
 have c:((32:UInt8)==a)=false:=by rw[beq_eq_false_iff_ne];exact jpN h
 simp[List.isPrefixOf,c,h]
theorem jhW(l:List UInt8)(w:World):
  Calls prog 136 #[.string (B l),.string ⟨#[46]⟩] w fun e b=>e=.returned (.string (B (zw l)))/\w=b:=by
 refine(Tryz.strings_TrimPrefix (B l) ⟨#[46]⟩ _).mono ?_;rintro e b ⟨rfl,rfl⟩;refine⟨?_,rfl⟩;rw[jj,show(⟨#[46]⟩:ByteArray).data.toList=[46] from rfl];unfold Lib.trimPrefix Lib.hasPrefix zw B;cases l with
 | nil=>rfl
 | cons a t =>
 by_cases h:a=46
 ·subst h;simp[List.isPrefixOf]
 have c:((46:UInt8)==a)=false:=by rw[beq_eq_false_iff_ne];exact jpN h
 simp[List.isPrefixOf,c,h]
theorem jaR:∀b:List (List UInt8),Lib.join b [10]=zX b
 | []=>rfl
 | [p]=>by simp[Lib.join,List.intercalate,zX]
 | p::q::r=>by
  have a:=jaR (q::r);unfold Lib.join at a ⊢;show _=p++10::zX (q::r)
  rw[<- a];simp[List.intercalate,List.intersperse]
theorem jma(a:List UInt8):jbN (B a)=B (before a):=by rw[<- je8 (jbN (B a)),xY,jj]
theorem jj6(a:List UInt8):jbO (B a)=B (qU a):=by rw[<- je8 (jbO (B a))];unfold jbO qU;rw[jpL,jj]
theorem jmm{x:List UInt8}(h:jm x=3):∃c d t,x=c::d::t:=by
 unfold jm at h
 split at h;· cases h
 split at h;· cases h
 rename_i hb
 split at h;· cases h
 split at h
 ·rename_i hg
  cases x with
  | nil=>cases hg
  | cons c t =>
  cases t with
  | nil =>
   exfalso;apply hb
   have:zY c=true:=hg
   simp[jR,this]
  | cons d t=>exact⟨c,d,t,rfl⟩
 split at h<;>cases h
theorem jcI(c:UInt8)(t:List UInt8):(B (c::t)).extract 1 (B (c::t)).size=B t:=by rw[<- je8 ((B (c::t)).extract 1 _),jpL,jj];rfl
end Go.Proofs.YtbapfpekklcicaaGreatDoor
