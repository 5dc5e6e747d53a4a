/- Texts put together:FB,FC,FD,FE,FF,FG,FH. -/
import Derived.Lib.IndexBytes
import Derived.StillTailTactics
import Derived.Laws.ResultCell
import Derived.Laws.Rows
import Derived.Test.YtbapfpekklcicaaGreatDoorBtx4
set_option linter.unusedVariables false
set_option maxRecDepth 100000
set_option maxHeartbeats 16000000
namespace Go.Proofs.YtbapfpekklcicaaGreatDoor
open Go.RowKit Go.Shelf Tryz
abbrev joM:=@List.getElem?_eq_getElem
abbrev joW:=@List.mem_of_getElem?
abbrev jpd:=@List.take_add_one
abbrev jpp:=@List.drop_eq_getElem_cons
abbrev jpt:=@List.map_append
abbrev jpx:=@List.getElem?_map
abbrev jpA:=@List.length_singleton
abbrev jp0:=@List.drop_length
abbrev jqg:=@Go.World.cell?_alloc_at
abbrev jqk:=@Nat.add_zero
abbrev jqo:=@List.take_succ_eq_append_getElem
abbrev jqp:=@Nat.pos_of_ne_zero
abbrev jqr:=@Ne.symm
abbrev jqs:=@Int.toNat_natCast
abbrev jqP:=@List.take_succ_cons
abbrev jqX:=@Go.World.cell?_alloc_old
abbrev jqY:=@Nat.ne_of_lt
abbrev jq6:=@Nat.not_lt_zero
section
theorem zX(c:UInt8)(w:World):
  Calls prog 155 #[.int .u8 (c.toNat:Nat)] w fun e f=>e=.returned (.bool (zZ c))/\w=f:=by
 have h:=c.toNat_lt;by_cases a:c=32
 ·subst a;go_enter func155,ntmps155;go_wp2;go_ret;exact⟨rfl,rfl⟩
 have g:((c.toNat:Int)==32)=false:=by rw[beq_eq_false_iff_ne];intro e;apply a;apply UInt8.toNat_inj.1;have:(32:UInt8).toNat=32:=rfl;omega
 have d:zZ c=((c.toNat:Int)==9):=by
  unfold zZ;by_cases b:c=9
  ·subst b;rfl
  have:((c.toNat:Int)==9)=false:=by rw[beq_eq_false_iff_ne];intro e;apply b;apply UInt8.toNat_inj.1;have:(9:UInt8).toNat=9:=rfl;omega
  rw[this];simp[a,b]
 rw[d];clear d;go_enter func155,ntmps155;go_wp2;go_ret;exact⟨rfl,rfl⟩
theorem qW{c d:UInt8}(n:Int)(a:(d.toNat:Int)=n):((c.toNat:Int)==n)=(c==d):=by
 by_cases h:c=d
 ·subst h;simp[a]
 have:(c.toNat:Int)≠n:=by intro e;apply h;apply UInt8.toNat_inj.1;omega
 rw[beq_eq_false_iff_ne.2 this];simp[h]
theorem jdH(l:List UInt8)(c:UInt8)(k:Nat)(h:∀i,i<k->l[i]?≠some c)(f:l.length<=k):qM l c=false:=by
 unfold qM;cases a:l.contains c with
 | false=>rfl
 | true =>
 exfalso;have d:c∈l:=by simpa using a
 obtain⟨i,b,e⟩:=List.mem_iff_getElem.1 d;exact h i (by omega) (by rw[joM b,e])
theorem Xx(l:List UInt8)(c:UInt8)(i:Nat)(h:l[i]?=some c):qM l c=true:=by
 unfold qM;have:c∈l:=joW h
 simpa using this
theorem QN(s:ByteArray)(X:s.size<=4294967295)(w:World):
  Calls prog 198 #[.string s] w fun e V=>e=.returned (.bool (jF s.data.toList))/\w=V:=by
 cases h:s.data.toList with
 | nil =>
  rw[GC h];go_enter func198,ntmps198;go_wp2;go_ret;exact⟨rfl,rfl⟩
 | cons c t =>
 have U:1<=s.size:=by rw[jo2,h];simp
 have R:s[0]=c:=by
  have:s.data.toList[0]?=some c:=by rw[h];rfl
  rw[joM (by rw[<- jo2];omega)]at this;exact joN this
 have u:vn s.data.toList=zZ c:=by rw[h];rfl
 have v:Zp s.data.toList=(c==35):=by rw[h];rfl
 rw[<- h];clear h;have C:1<=s.data.toList.length:=by rw[<- jo2];exact U
 have g:=jo2 s;by_cases H:s.size<=32
 ·have b:=H;rw[g]at b;have l:jF s.data.toList=(!zZ c && !(c==35) && !qM s.data.toList 58 && !qM s.data.toList 10):=by unfold jF;rw[decide_eq_true C,decide_eq_true b,u,v];simp
  rw[l];clear l u v b C;cases x:zZ c with
  | true =>
   clear g;go_enter func198,ntmps198;go_wp2_with (first | (go_at_call 155;refine(zX _ _).mono ?_;rw[x];rintro e N ⟨rfl,rfl⟩));go_ret;exact⟨rfl,rfl⟩
  | false =>
  have A:=qW (c:=c) (d:=35) 35 rfl;cases I:(c==35) with
  | true =>
   rw[I]at A;clear g;go_enter func198,ntmps198;go_wp2_with (first | (go_at_call 155;refine(zX _ _).mono ?_;rw[x];rintro e N ⟨rfl,rfl⟩));go_ret;exact⟨rfl,rfl⟩
  | false =>
  rw[I]at A;have G:=joI g
  clear g;go_enter func198,ntmps198;go_wp2_with (first | (go_at_call 155;refine(zX _ _).mono ?_;rw[x];rintro e N ⟨rfl,rfl⟩));clear A R;go_loop [3] (fun i=>∃k:Nat,k<=s.size/\i=.int .i64 k/\∀j,j<k->s.data.toList[j]?≠some 58/\s.data.toList[j]?≠some 10) (fun i=>s.size-(intOf i).toNat)
  case atStart=>exact⟨0,joT _,rfl,fun j K=>absurd K (jq6 j)⟩
  case round =>
  obtain⟨k,W,rfl,a⟩:=hrel;by_cases o:k<s.size
  ·have e:s.data.toList[k]?=some s[k]:=by rw[joM (by rw[<- jo2];exact o)];rfl
   have E:=joI e;have Q:=joI a
   clear e a;have L:=qW (c:=s[k]) (d:=58) 58 rfl
   have D:=qW (c:=s[k]) (d:=10) 10 rfl;cases p:(s[k]==58) with
   | true =>
    rw[p]at L;have f:qM s.data.toList 58=true:=Xx _ _ k (by rw[E.out];simpa using p)
    have O:=joI f;clear D f;go_wp2;go_ret;exact⟨by rw[O.out];rfl,rfl⟩
   | false =>
   rw[p]at L;cases f:(s[k]==10) with
   | true =>
    rw[f]at D;have J:qM s.data.toList 10=true:=Xx _ _ k (by rw[E.out];simpa using f)
    have P:=joI J;clear J;go_wp2;go_ret;exact⟨by rw[P.out,Bool.not_true,Bool.and_false];rfl,rfl⟩
   | false =>
   rw[f]at D;go_wp2;go_round
   case rel =>
    refine⟨k+1,o,by go_num,fun j K => ?_⟩;by_cases z:j=k
    ·subst z;rw[E.out];exact⟨by simpa using p,by simpa using f⟩
    exact Q.out j (by omega)
   case measure=>simp[intOf];omega
  have n:=jdH s.data.toList 58 k (fun i y=>(a i y).1) (by rw[<- G.out];omega);have m:=jdH s.data.toList 10 k (fun i y=>(a i y).2) (by rw[<- G.out];omega)
  have r:=joI n;have q:=joI m
  clear a n m;go_wp2;go_ret;exact⟨by rw[r.out,q.out];rfl,rfl⟩
 have l:jF s.data.toList=false:=by unfold jF;rw[<- g,decide_eq_false H];simp
 rw[l];have b:32<s.size:=by omega
 clear g C l u v;go_enter func198,ntmps198;go_wp2;go_ret;exact⟨rfl,rfl⟩
theorem jcL(l:List UInt8):∀(k:Nat),l[k]?=some 58->(∀j,j<k->l[j]?≠some 58)->(before l).length=k:=by
 induction l with
 | nil=>intro k h;simp at h
 | cons a t c =>
 intro k h b;unfold before at c ⊢;cases k with
 | zero =>
  have:a=58:=by simpa using h
  subst this;rfl
 | succ k =>
 have d:a≠58:=fun e=>b 0 (by omega) (by rw[e];rfl);rw[jpy,if_pos (by simpa using d),joR,c k (by simpa using h) (fun j f=>by have:=b (j+1) (by omega);simpa using this)]
theorem jgi(s:ByteArray)(C:s.size<=4294967295)(w:World)(h:qM s.data.toList 10=true\/qM s.data.toList 58=false\/jF (before s.data.toList)=false):
  Calls prog 156 #[.string s] w fun e D=>e=.returned (.tuple #[.string ⟨#[]⟩,.string ⟨#[]⟩,.bool false])/\Below w.heap.size w D:=by
 have y:=jo2 s;have A:=joI y
 clear y;have t:=joI h
 clear h;go_enter func156,ntmps156;go_wp2_with fail;go_loop [5] (fun i=>∃k:Nat,k<=s.size/\i=.int .i64 k/\∀j,j<k->s.data.toList[j]?≠some 10) (fun i=>s.size-(intOf i).toNat)
 case atStart=>exact⟨0,joT _,rfl,fun j o=>absurd o (jq6 j)⟩
 case round =>
 obtain⟨k,G,rfl,a⟩:=hrel;by_cases p:k<s.size
 ·have e:s.data.toList[k]?=some s[k]:=by rw[joM (by rw[<- jo2];exact p)];rfl
  have E:=joI e;have r:=joI a
  clear e a;have q:=qW (c:=s[k]) (d:=10) 10 rfl
  cases b:(s[k]==10) with
  | true =>
   rw[b]at q;go_wp2;go_ret3;exact⟨rfl,joL _ _⟩
  | false =>
  rw[b]at q;go_wp2;go_round
  case rel =>
   refine⟨k+1,p,by go_num,fun j o => ?_⟩;by_cases l:j=k
   ·subst l;rw[E.out];simpa using b
   exact r.out j (by omega)
  case measure=>simp[intOf];omega
 have n:=jdH s.data.toList 10 k a (by rw[<- A.out];omega);have u:qM s.data.toList 58=false\/jF (before s.data.toList)=false:=by
  rcases t.out with h|h
  ·rw[n]at h;cases h
  exact h
 have z:=joI u;clear a n u t;go_wp2_with fail;go_loop [6] (fun i=>∃k:Nat,k<=s.size/\i=.int .i64 k/\∀j,j<k->s.data.toList[j]?≠some 58) (fun i=>s.size-(intOf i).toNat)
 case atStart=>exact⟨0,joT _,rfl,fun j o=>absurd o (jq6 j)⟩
 case round =>
 obtain⟨m,H,rfl,a⟩:=hrel;by_cases f:m<s.size
 ·have e:s.data.toList[m]?=some s[m]:=by rw[joM (by rw[<- jo2];exact f)];rfl
  have q:=qW (c:=s[m]) (d:=58) 58 rfl;cases b:(s[m]==58) with
  | true =>
   rw[b]at q;have g:s.data.toList[m]?=some 58:=by rw[e];simpa using b
   have v:=jcL s.data.toList m g a;have x:jF (before s.data.toList)=false:=by
    rcases z.out with h|h
    ·rw[Xx _ _ m g]at h;cases h
    exact h
   have K:=fun w=>QN (jb7 s) (jpg (YT s) C) w;rw[Jg,x]at K;unfold jb7 at K;rw[v]at K;clear e a g v x;go_wp2_with (first | (go_at_call 198;refine(K _).mono ?_;rintro e I ⟨rfl,rfl⟩));go_ret3;exact⟨rfl,joL _ _⟩
  | false =>
  rw[b]at q;have E:=joI e
  have r:=joI a;clear e a;go_wp2;go_round
  case rel =>
   refine⟨m+1,f,by go_num,fun j o => ?_⟩;by_cases l:j=m
   ·subst l;rw[E.out];simpa using b
   exact r.out j (by omega)
  case measure=>simp[intOf];omega
 clear a;go_wp2;go_ret3;exact⟨rfl,joL _ _⟩
theorem jh1(l:List UInt8)(h:qM l 58=true):l[(before l).length]?=some 58/\∀j,j<(before l).length->l[j]?≠some 58:=by
 unfold qM at h;have e:(58:UInt8)∈l:=by simpa using h
 clear h;unfold before
 induction l with
 | nil=>cases e
 | cons a t i =>
 by_cases b:a=58
 ·subst b;refine⟨rfl,fun j d => ?_⟩;simp at d
 have c:(58:UInt8)∈t:=by
  rcases List.mem_cons.1 e with h|h
  ·exact absurd h.symm b
  exact h
 obtain⟨f,g⟩:=i c;rw[jpy,if_pos (by simpa using b),joR];refine⟨by simpa using f,fun j d => ?_⟩;cases j with
 | zero=>simpa using b
 | succ j=>have:=g j (by omega);simpa using this
theorem KS(s:ByteArray)(A:s.size<=4294967295)(w:World)(p:qM s.data.toList 10=false)(q:qM s.data.toList 58=true)(r:jF (before s.data.toList)=true):
  Calls prog 156 #[.string s] w fun e D=>e=.returned (.tuple #[.string (jb7 s),.string (jb8 s),.bool true])/\Below w.heap.size w D:=by
 have C:=jo2 s;clear C;have v:=joI p
 obtain⟨g,o⟩:=jh1 _ q;have z:(before s.data.toList).length<s.size:=by
  rcases jpc (before s.data.toList).length s.size with h|h
  ·exact h
  rw[jpe (by rw[<- jo2];exact h)]at g;cases g
 have t:=joI g;have u:=joI o
 have K:=fun w=>QN (jb7 s) (jpg (YT s) A) w;rw[Jg,r]at K;have x:Hid (jb7 s=s.extract 0 (before s.data.toList).length):=rfl
 have y:Hid (jb8 s=s.extract ((before s.data.toList).length+1) s.size):=rfl;unfold jb7 at K;clear p q r g o;generalize (before s.data.toList).length=n at *
 go_enter func156,ntmps156;go_wp2_with fail;go_loop [5] (fun i=>∃k:Nat,k<=s.size/\i=.int .i64 k) (fun i=>s.size-(intOf i).toNat)
 case atStart=>exact⟨0,joT _,rfl⟩
 case round =>
 obtain⟨k,G,rfl⟩:=hrel;by_cases b:k<s.size
 ·have j:=qW (c:=s[k]) (d:=10) 10 rfl;have a:(s[k]==10)=false:=by
   cases a:(s[k]==10) with
   | false=>rfl
   | true =>
   exfalso;have:=Xx s.data.toList 10 k (by rw[joM (by rw[<- jo2];exact b)];exact congrArg some (eq_of_beq a))
   rw[v.out]at this;cases this
  rw[a]at j;clear a;go_wp2;go_round
  case rel=>exact⟨k+1,b,by go_num⟩
  case measure=>simp[intOf];omega
 go_wp2_with fail;go_loop [6] (fun i=>∃k:Nat,k<=n/\i=.int .i64 k) (fun i=>s.size-(intOf i).toNat)
 case atStart=>exact⟨0,joT _,rfl⟩
 case round =>
 obtain⟨m,H,rfl⟩:=hrel;have f:m<s.size:=by omega
 have e:s.data.toList[m]?=some s[m]:=by rw[joM (by rw[<- jo2];exact f)];rfl
 have j:=qW (c:=s[m]) (d:=58) 58 rfl;by_cases l:m<n
 ·have a:(s[m]==58)=false:=by have:=u.out m l;rw[e]at this;simpa using this
  rw[a]at j;clear e a;go_wp2;go_round
  case rel=>exact⟨m+1,by omega,by go_num⟩
  case measure=>simp[intOf];omega
 obtain rfl:m=n:=by omega
 have a:(s[m]==58)=true:=by have:=t.out;rw[e]at this;simpa using this
 rw[a]at j;clear e a;have E:IntKind.i64.wrap ((m:Int)+1)=(m:Int)+1:=jph _ (by omega)
 go_wp2_with (first | (go_at_call 198;refine(K _).mono ?_;rintro e I ⟨rfl,rfl⟩));go_quiet (fail);go_wp2;go_ret3;exact⟨by rw[x.out,y.out];rfl,Below.drewN (joL _ _) _⟩
theorem jbB(s:ByteArray)(k:Nat)(h:k<s.size):jS (s.data.toList.take (k+1))=(jS (s.data.toList.take k)&&zZ s[k]):=by unfold jS;rw[jqo (by simpa using h),jqi];simp;rfl
theorem jez(s:ByteArray)(z:s.size<=4294967295)(w:World)(l:qM s.data.toList 10=true):
  Calls prog 97 #[.string s] w fun e v=>e=.returned (.int .i64 5)/\Below w.heap.size w v:=by
 have o:=jo2 s;have t:=joI o
 clear o;have q:=joI l
 clear l;go_enter func97,ntmps97;go_wp2_with fail;go_loop [3,4] (fun b i=>∃(k:Nat) (x:Bool),k<=s.size/\i=.int .i64 k/\b=.bool x/\∀j,j<k->s.data.toList[j]?≠some 10) (fun _ i=>s.size-(intOf i).toNat)
 case atStart=>exact⟨0,true,joT _,rfl,rfl,fun j n=>absurd n (jq6 j)⟩
 case round =>
 obtain⟨k,x,y,rfl,rfl,a⟩:=hrel;by_cases f:k<s.size
 ·have e:s.data.toList[k]?=some s[k]:=by rw[joM (by rw[<- jo2];exact f)];rfl
  have E:=joI e;have u:=joI a
  clear e a;have p:=qW (c:=s[k]) (d:=10) 10 rfl
  cases g:(s[k]==10) with
  | true =>
   rw[g]at p;go_wp2;go_ret;exact⟨rfl,joL _ _⟩
  | false =>
  rw[g]at p;have m:∀j,j<k+1->s.data.toList[j]?≠some 10:=fun j n=>by
   by_cases h:j=k
   ·subst h;rw[E.out];simpa using g
   exact u.out j (by omega)
  have r:=joI m;clear m;cases x
  all_goals
   go_wp2_with (first | (go_at_call 155;refine(zX _ _).mono ?_;rintro e A ⟨rfl,rfl⟩));go_round
   case rel=>exact⟨k+1,_,f,by go_num,rfl,r.out⟩
   case measure=>simp[intOf];omega
 exfalso;have:=jdH s.data.toList 10 k a (by rw[<- t.out];omega)
 rw[q.out]at this;cases this
theorem jaH(s:ByteArray)(D:s.size<=4294967295)(w:World)(z:qM s.data.toList 10=false):
  Calls prog 97 #[.string s] w fun e L=>e=.returned (.int .i64 (jm s.data.toList:Nat))/\Below w.heap.size w L:=by
 have G:=jo2 s;have J:=joI G
 clear G;have o:=joI z
 clear z;go_enter func97,ntmps97;go_wp2_with fail;go_loop [3,4] (fun b i=>∃(k:Nat),k<=s.size/\i=.int .i64 k/\b=.bool (jS (s.data.toList.take k))) (fun _ i=>s.size-(intOf i).toNat)
 case atStart=>exact⟨0,joT _,rfl,rfl⟩
 case round =>
 obtain⟨k,f,rfl,rfl⟩:=hrel;by_cases l:k<s.size
 ·have K:=qW (c:=s[k]) (d:=10) 10 rfl;have v:(s[k]==10)=false:=by
   cases v:(s[k]==10) with
   | false=>rfl
   | true =>
   exfalso;have:=Xx s.data.toList 10 k (by rw[joM (by rw[<- jo2];exact l)];exact congrArg some (eq_of_beq v))
   rw[o.out]at this;cases this
  rw[v]at K;clear v;have I:=joI (jbB s k l)
  generalize jS (s.data.toList.take k)=x at *
  cases x
  all_goals
   go_wp2_with (first | (go_at_call 155;refine(zX _ _).mono ?_;rintro e u ⟨rfl,rfl⟩));go_round
   case rel=>exact⟨k+1,l,by go_num,by rw[I.out];rfl⟩
   case measure=>simp[intOf];omega
 obtain rfl:k=s.size:=by omega
 have E:s.data.toList.take s.size=s.data.toList:=by rw[jo2];exact jpa
 rw[E];clear E l f;cases h:jS s.data.toList with
 | true =>
  have f:jm s.data.toList=1:=by unfold jm;rw[o.out,if_neg (by decide),if_pos h]
  have g:=joI f;clear f;go_wp2;go_ret;exact⟨by rw[g.out];rfl,joL _ _⟩
 | false =>
 obtain⟨c,t,r⟩:=Ze h;have O:1<=s.size:=by rw[J.out,r];simp
 have N:s[0]=c:=by
  have:s.data.toList[0]?=some c:=by rw[r];rfl
  rw[joM (by rw[<- jo2];omega)]at this;exact joN this
 have p:vn s.data.toList=zZ c:=by rw[r];rfl
 have m:Zp s.data.toList=(c==35):=by rw[r];rfl
 clear r;have H:=qW (c:=c) (d:=35) 35 rfl
 cases j:(c==35) with
 | true =>
  have f:jm s.data.toList=2:=by unfold jm;rw[o.out,if_neg (by decide),h,if_neg (by decide),m,if_pos j]
  have g:=joI f;rw[j]at H;clear f j p m h;go_wp2;go_ret;exact⟨by rw[g.out];rfl,joL _ _⟩
 | false =>
 rw[j]at H;cases q:zZ c with
 | true =>
  have f:jm s.data.toList=3:=by unfold jm;rw[o.out,if_neg (by decide),h,if_neg (by decide),m,j,if_neg (by decide),p,if_pos q]
  have g:=joI f;clear f j p m h;go_wp2_with (first | (go_at_call 155;refine(zX _ _).mono ?_;rw[q];rintro e u ⟨rfl,rfl⟩));go_ret;exact⟨by rw[g.out];rfl,joL _ _⟩
 | false =>
 have f:jm s.data.toList=if qM s.data.toList 58=true/\jF (before s.data.toList)=true then 4 else 5:=by unfold jm;rw[o.out,if_neg (by decide),h,if_neg (by decide),m,j,if_neg (by decide),p,q,if_neg (by decide)]
 by_cases n:qM s.data.toList 58=true/\jF (before s.data.toList)=true
 ·rw[if_pos n]at f;have g:=joI f
  have C:=fun w=>KS s D w o.out n.1 n.2;clear f j p m h n;go_wp2_with (first | (go_at_call 155;refine(zX _ _).mono ?_;rw[q];rintro e u ⟨rfl,rfl⟩) | (go_at_call 156;refine(C _).mono ?_;rintro e u ⟨rfl,y⟩));go_ret;exact⟨by rw[g.out];rfl,y⟩
 rw[if_neg n]at f;have g:=joI f
 have A:qM s.data.toList 58=false\/jF (before s.data.toList)=false:=by
  cases a:qM s.data.toList 58
  ·exact .inl rfl
  cases b:jF (before s.data.toList)
  ·exact .inr rfl
  exact absurd ⟨a,b⟩ n
 have C:=fun w=>jgi s D w (.inr A);clear f j p m h n A;go_wp2_with (first | (go_at_call 155;refine(zX _ _).mono ?_;rw[q];rintro e u ⟨rfl,rfl⟩) | (go_at_call 156;refine(C _).mono ?_;rintro e u ⟨rfl,y⟩));go_ret;exact⟨by rw[g.out];rfl,y⟩
theorem vy(s:ByteArray)(b:s.size<=4294967295)(w:World):
  Calls prog 97 #[.string s] w fun e d=>e=.returned (.int .i64 (jm s.data.toList:Nat))/\Below w.heap.size w d:=by
 cases a:qM s.data.toList 10 with
 | true =>
  have c:jm s.data.toList=5:=by unfold jm;rw[if_pos a]
  rw[c];exact jez s b w a
 | false=>exact jaH s b w a
theorem jlI{l:List UInt8}(h:jm l=4):qM l 10=false/\qM l 58=true/\jF (before l)=true:=by
 unfold jm at h;split at h;· cases h
 rename_i a;split at h;· cases h
 split at h;· cases h
 split at h;· cases h
 split at h
 ·rename_i q;exact⟨by simpa using a,q.1,q.2⟩
 cases h
theorem jin{l:List UInt8}(h:l≠[]):(B l).toList.isEmpty=false/\¬(B l).toList=[]:=by rw[jpn,jj];exact⟨by simpa using h,h⟩
theorem mkB(l:List UInt8):(⟨l.toArray⟩:ByteArray)=B l:=rfl
theorem jhk(k l:List UInt8)(d:k.length<=100000)(hl:l.length<=100000)(w:World):
  Calls prog 205 #[.string (B k),.string (B l)] w fun e c=>e=.returned (.string (B (zP k l)))/\w=c:=by
 by_cases h:l=[]
 ·have e:B (zP k l)=B k ++ ⟨#[58]⟩:=by unfold zP;rw[if_pos h];exact(jn k [58]).symm
  rw[e];subst h;have a:=jg k
  generalize B k=s at *
  rw[show B []=⟨#[]⟩ from rfl];go_enter func205,ntmps205;go_wp2;go_ret;exact⟨rfl,rfl⟩
 have e:B (zP k l)=((B k ++ ⟨#[58]⟩) ++ ⟨#[32]⟩)++B l:=by unfold zP;rw[if_neg h];rw[show(⟨#[58]⟩:ByteArray)=B [58] from rfl,show(⟨#[32]⟩:ByteArray)=B [32] from rfl,jn,jn,jn];simp
 rw[e];obtain⟨f,g⟩:=jin h;have a:=jg k
 have b:=jg l;generalize B k=s at *
 generalize B l=t at *
 clear e;go_enter func205,ntmps205;go_wp2;go_ret;exact⟨rfl,rfl⟩
theorem jln(l:List UInt8):Lib.hasPrefix l [46]=(l.head?==some 46):=by
 unfold Lib.hasPrefix;cases l with
 | nil=>rfl
 | cons a t=>simp[List.isPrefixOf,Bool.beq_comm]
theorem jmb(l:List UInt8)(w:World):
  Calls prog 91 #[.string (B l),.string ⟨#[46]⟩] w fun e a=>e=.returned (.bool (l.head?==some 46))/\w=a:=by
 refine(Tryz.strings_HasPrefix (B l) ⟨#[46]⟩ _).mono ?_;rw[show(⟨#[46]⟩:ByteArray).data.toList=[46] from rfl,jln,jj];rintro e a ⟨rfl,rfl⟩;exact⟨rfl,rfl⟩
theorem jcs(l:List UInt8)(hl:l.length<=100000)(w:World):
  Calls prog 206 #[.string (B l)] w fun e f=>e=.returned (.string (B (jx l)))/\Below w.heap.size w f:=by
 have h:=jg l;cases a:jS l with
 | true =>
  have e:B (jx l)=⟨#[32,46]⟩++B l:=by unfold jx Jz;rw[a];exact(jn [32,46] l).symm
  rw[e];have T:=fun w=>jcX (B l) (by omega) (by rw[jj];exact a) w
  clear e a;generalize B l=s at *
  go_enter func206,ntmps206;go_wp2_with (go_at_call 184;refine(T _).mono ?_;rintro e d ⟨rfl,c⟩);go_ret;exact⟨rfl,c⟩
 | false =>
 have T:=fun w=>YF (B l) (by omega) w;obtain⟨i,j⟩:=KF (B l) (by rw[jj];exact a);have D:=jmb l
 generalize YE (B l)=k at *
 cases b:(l.head?==some 46) with
 | true =>
  have e:B (jx l)=⟨#[32,46]⟩++B l:=by unfold jx Jz;rw[a,b];exact(jn [32,46] l).symm
  rw[e];rw[b]at D;clear e a b;generalize B l=s at *
  go_enter func206,ntmps206;go_wp2_with (first | (go_at_call 184;refine(T _).mono ?_;rintro e d ⟨rfl,c⟩) | (go_at_call 91;refine(D _).mono ?_;rintro e g ⟨rfl,rfl⟩));go_ret;exact⟨rfl,c⟩
 | false =>
 have e:B (jx l)=⟨#[32]⟩++B l:=by unfold jx Jz;rw[a,b];exact(jn [32] l).symm
 rw[e];rw[b]at D;clear e a b;generalize B l=s at *
 go_enter func206,ntmps206;go_wp2_with (first | (go_at_call 184;refine(T _).mono ?_;rintro e d ⟨rfl,c⟩) | (go_at_call 91;refine(D _).mono ?_;rintro e g ⟨rfl,rfl⟩));go_ret;exact⟨rfl,c⟩
def zC(k v:List UInt8):Value:=.agg #[.string (B k),.string (B v)]
attribute [local go_sem] qN jnl jkI
theorem Qh(k v:List UInt8)(f:k.length<=1000000)(g:v.length<=1000000)(w:World):
  Calls prog 189 #[zC k v] w fun e d=>e=.returned (Zc (zh k v))/\Below w.heap.size w d:=by
 have K:=fun w=>jgW (B k) (by rw[jg];unfold maxLen;omega) w;rw[jj]at K;have b:=jg v
 unfold zh zC;generalize B k=s at *
 cases a:jF k with
 | false =>
  rw[a]at K;generalize B v=t at *
  go_enter func189,ntmps189;go_wp2_with (go_at_call 186;refine(K _).mono ?_;rintro e c ⟨rfl,rfl⟩);go_ret;exact⟨rfl,(joL _ _).alloc (joJ _) _⟩
 | true =>
 rw[a]at K;by_cases h:v.length<=1000
 ·rw[if_pos rfl,if_pos h];rw[<- b]at h;generalize B v=t at *
  go_enter func189,ntmps189;go_wp2_with (go_at_call 186;refine(K _).mono ?_;rintro e c ⟨rfl,rfl⟩);go_ret;exact⟨rfl,(joL _ _).alloc (joJ _) _⟩
 rw[if_pos rfl,if_neg h];rw[<- b]at h;generalize B v=t at *
 go_enter func189,ntmps189;go_wp2_with (go_at_call 186;refine(K _).mono ?_;rintro e c ⟨rfl,rfl⟩);go_ret;exact⟨rfl,(joL _ _).alloc (joJ _) _⟩
theorem jaI(k v:List UInt8)(f:k.length<=1000000)(g:v.length<=1000000)(w:World):
  Calls prog 207 #[zC k v] w fun e d=>e=.returned (.int .i64 (zh k v:Nat))/\Below w.heap.size w d:=by
 have K:=fun w=>QN (B k) (by rw[jg];omega) w;rw[jj]at K;have b:=jg v
 unfold zh zC;generalize B k=s at *
 cases a:jF k with
 | false =>
  rw[a]at K;generalize B v=t at *
  go_enter func207,ntmps207;go_wp2_with (go_at_call 198;refine(K _).mono ?_;rintro e c ⟨rfl,rfl⟩);go_ret;exact⟨rfl,(joL _ _).alloc (joJ _) _⟩
 | true =>
 rw[a]at K;by_cases h:v.length<=1000
 ·rw[if_pos rfl,if_pos h];rw[<- b]at h;generalize B v=t at *
  go_enter func207,ntmps207;go_wp2_with (go_at_call 198;refine(K _).mono ?_;rintro e c ⟨rfl,rfl⟩);go_ret;exact⟨rfl,(joL _ _).alloc (joJ _) _⟩
 rw[if_pos rfl,if_neg h];rw[<- b]at h;generalize B v=t at *
 go_enter func207,ntmps207;go_wp2_with (go_at_call 198;refine(K _).mono ?_;rintro e c ⟨rfl,rfl⟩);go_ret;exact⟨rfl,(joL _ _).alloc (joJ _) _⟩
theorem jb9(l:List UInt8)(h:(10:UInt8)∈l):jv l=l.take (l.takeWhile (· != 10)).length::jv (l.drop ((l.takeWhile (· != 10)).length+1)):=by
 have e:l=l.takeWhile (· != 10)++10::l.drop ((l.takeWhile (· != 10)).length+1):=by
  have a:=zu l;unfold head nl qK at a;have b:l.contains 10=true:=by simpa using h
  unfold head nl at a;rw[if_pos b,if_pos b]at a;simpa using a
 have d:(10:UInt8)∉l.takeWhile (· != 10):=fun c=>by have:=List.all_eq_true.1 (jqd (l:=l) (p:=(· != 10))) _ c;simp at this
 have f:l.take (l.takeWhile (· != 10)).length=l.takeWhile (· != 10):=(List.prefix_iff_eq_take.1 (jqa _)).symm;rw[f]
 conv=>lhs;rw[e]
 exact KW _ _ d
theorem Vr:∀(k:Nat) (l:List UInt8),l.count 10=k->Lib.splitK [10] 0 k l=jv l
 | 0,l,h=>by have:(10:UInt8)∉l:=List.count_eq_zero.1 h;rw[KY l this];rfl
 | k+1,l,h=>by
  have a:(10:UInt8)∈l:=List.count_pos_iff.1 (by omega);have b:=jb9 l a
  have hl:=yP l;rcases vj l 10 with ⟨_,d⟩|⟨c,_⟩
  ·exact absurd a d
  unfold Lib.splitK;rw[Lib.index_one,c];rw[b]at hl;have e:=yP (l.drop ((l.takeWhile (· != 10)).length+1))
  rw[if_neg (by simp<;>omega),b];simp only[jqs,jqk,jpA];rw[Vr k _ (by simp only[joR]at hl;omega)]
theorem jas(l:List UInt8):Lib.splitB ⟨#[10]⟩ 0 (Lib.countB (B l) ⟨#[10]⟩) (B l)=(jv l).map B/\Lib.countB (B l) ⟨#[10]⟩+1=(jv l).length:=by
 have a:Lib.countB (B l) ⟨#[10]⟩=l.count 10:=by show Lib.count (B l).data.toList [10]=_;rw[Lib.count_one,jj]
 have h:=Lib.splitB_data ⟨#[10]⟩ 0 (Lib.countB (B l) ⟨#[10]⟩) (B l);rw[jj,a]at h;rw[a];refine⟨?_,(yP l).symm⟩;have b:Lib.splitK (⟨#[10]⟩:ByteArray).data.toList 0 (l.count 10) l=jv l:=Vr _ l rfl
 rw[b]at h;rw[<- h,jqj]
 conv=>lhs;rw[<- List.map_id (Lib.splitB ⟨#[10]⟩ 0 (l.count 10) (B l))]
 exact jq4 fun s _=>(jfB s).symm
theorem jbg:(prog.info? 9).map (fun i=>(i.zero,i.size,i.bytes))=some (some (.string ByteArray.empty),1,16):=by kernel_rfl
theorem jej(l:List UInt8)(hl:l.length<=1000000)(w:World):
  Calls prog 204 #[.string (B l),.string ⟨#[10]⟩] w fun e a =>
   e=.returned (.slice (some ⟨w.heap.size,0,none⟩) (jv l).length (jv l).length)/\a=w.alloc (.cells (((jv l).map B).map Value.string).toArray 9):=by
 obtain⟨h,f⟩:=jas l;have k:=jg l
 have c:=Any.strings_genSplit_core Tryz.lays221 jbg (B l) ⟨#[10]⟩ 0 (-1) (Lib.countB (B l) ⟨#[10]⟩+1) w (by omega) (by decide) (joT _)
  (fun x i hx=>(Tryz.strings_Index_one x 10 _).mono (fun e a ⟨b,d⟩=>⟨by rw[b];show _=Ending.returned (Value.int .i64 (Lib.index x.data.toList [10]));rw[Lib.index_one],d⟩))
  ((Tryz.strings_Count_one (B l) 10 w).mono (fun e a ⟨b,d⟩=>⟨by rw[b];show _=Ending.returned (Value.int .i64 ((Lib.count (B l).data.toList [10]:Nat):Int));rw[Lib.count_one];rfl,d⟩))
  (by decide) (by decide) (by
   have:=Lib.countB_le ⟨#[10]⟩ (by decide) (B l).size (B l) (joJ _);rw[if_pos (by decide)];omega)
 rw[Nat.add_sub_cancel,h]at c;have g:Lib.cellsOf ((jv l).map B) (Lib.countB (B l) ⟨#[10]⟩+1)=(((jv l).map B).map Value.string).toArray:=by rw[f,show(jv l).length=((jv l).map B).length by simp];exact Lib.cellsOf_full _
 rw[g,jo8,f]at c;generalize (jv l).length=n at *
 generalize (((jv l).map B).map Value.string).toArray=j at *
 clear h f g;generalize B l=s at *
 go_enter func204,ntmps204;go_wp2_with (go_at_call 240;refine c.mono ?_;rintro e a ⟨rfl,rfl⟩);go_ret;exact⟨rfl,rfl⟩
end
section
theorem jX{w w':World}{base N:Nat}{e:TypeId}{size:Nat}{v:Value}{n:Nat}{xs:List Value}(h:w.ownsRow base e size v n xs)(f:Below N w w')(l:w.heap.size<=N):w'.ownsRow base e size v n xs:=by
 refine⟨h.1,?_⟩;rcases h.2 with j|⟨g,b,c,k,i,d,a⟩
 ·exact .inl j
 refine .inr ⟨g,b,c,k,i,?_,a⟩;have:g<w.heap.size:=(Array.getElem?_eq_some_iff.1 d).1
 exact(f.block g (by omega)).trans d
def yq(w:World)(base:Nat)(v:Value)(ss:List ByteArray):Prop:=w.ownsRow base 9 1 v ss.length (ss.map Value.string)
theorem yq.kept{w w':World}{base N:Nat}{v:Value}{a:List ByteArray}(h:yq w base v a)(c:Below N w w')(b:w.heap.size<=N):yq w' base v a:=jX h c b
theorem yq.strs{w:World}{base:Nat}{v:Value}{a:List ByteArray}(h:yq w base v a):Strs w v a:=by
 rcases jpH h with ⟨rfl,f⟩|⟨g,b,rfl⟩
 ·have:a=[]:=by cases a with | nil=>rfl | cons _ _=>simp at f
  subst this;exact Strs.none _ _
 refine⟨_,b,rfl,(by rcases h.2 with ⟨q,_⟩ | ⟨k,d,e,q,_,_,j,_⟩;cases q;cases q;exact j),fun i s c=>⟨g,0,rfl,(jpJ h g rfl).2,?_⟩⟩;have l:i<a.length:=by
  rcases jpc i a.length with q|q
  ·exact q
  rw[jpe q]at c;cases c
 rw[jpl,jo1 h i (by omega),jpx,c];rfl
theorem yq.one(w:World)(base:Nat)(a:base<=w.heap.size)(s:ByteArray):yq (w.alloc (.cells #[.string s] 9)) base (.slice (some ⟨w.heap.size,0,none⟩) 1 1) [s] :=
 World.ownsRow_lit w #[.string s] 1 a (by decide) rfl
theorem Ue(W:World)(x:ByteArray)(t:TypeId):∀(j:Nat) u,[Value.string x][j]?=some u->(W.alloc (.cells #[.string x] t)).cell? ((⟨W.heap.size,0,none⟩:Addr).add j)=some u:=by
 intro j u h;have a:(⟨W.heap.size,0,none⟩:Addr).add j=⟨W.heap.size,j,none⟩:=by unfold Addr.add;split<;>simp_all
 rw[a,jqg _ _ _ _ rfl]
 match j,h with
 | 0,h=>simpa using h
theorem jdx{k v:List UInt8}{p:List UInt8}{r:List (List UInt8)}(h:jv v=p::r):jY k v=zP k p::r.map jx:=by unfold jY;rw[h];rfl
theorem ja1:∀(r:List (List UInt8)) (q:List UInt8),q∈r->q.length<=(r.map List.length).sum
 | [],q,h=>by simp at h
 | a::r,q,h=>by
  rcases List.mem_cons.1 h with rfl|h
  ·simp
  have:=ja1 r q h;simp;omega
theorem jdp{v p:List UInt8}{r:List (List UInt8)}(h:jv v=p::r):p.length<=v.length/\(∀q∈r,q.length<=v.length)/\r.length<=v.length:=by
 have a:=Yn v;rw[h]at a;simp only[jpr,jpR,joR]at a;refine⟨by omega,fun q b => ?_,by omega⟩;have:q.length<=(r.map List.length).sum:=ja1 _ _ b
 omega
attribute [local go_sem] qN
theorem jgI(k v:List UInt8)(f:k.length<=100000)(g:v.length<=100000)(w:World)(h:zh k v≠0):
  Calls prog 168 #[zC k v] w fun e b=>e=.returned (.tuple #[.slice none 0 0,Zc (zh k v)])/\Below w.heap.size w b:=by
 have C:=fun w=>Qh k v (by omega) (by omega) w;rw[zf _ (jqp h)]at C ⊢;generalize zh k v=n at *
 unfold zC at *
 generalize B k=s at *
 generalize B v=t at *
 go_enter func168,ntmps168;go_wp2_with (go_at_call 189;refine(C _).mono ?_;rintro e i ⟨rfl,a⟩;have c:=a.cell (p:=⟨w.heap.size,0,none⟩) (by simp);have d:=a.cell (p:=⟨w.heap.size,1,none⟩) (by simp));go_ret2;exact⟨rfl,((joL _ _).alloc (joJ _) _).trans (a.mono (by simp))⟩
theorem jcx(k l:List UInt8)(d:k.length<=100000)(hl:l.length<=100000)(w:World):
  Calls prog 205 #[.string (B k),.string (B l)] w fun e c=>e=.returned (.string (B (zP k l)))/\c=w :=
 (jhk k l d hl w).mono fun e c ⟨a,b⟩=>⟨a,b.symm⟩
theorem Xs:(prog.info? 9).map (fun i=>(i.zero,i.size,i.bytes))=some (some (.string ⟨#[]⟩),1,16):=by kernel_rfl
theorem jgH(k v:List UInt8)(hk:k.length<=100000)(hv:v.length<=100000)(w:World)(h:zh k v=0):
  Calls prog 168 #[zC k v] w fun e w'=>∃sv G,e=.returned (.tuple #[sv,.nilIface])/\yq w' G sv ((jY k v).map B)/\Below w.heap.size w w':=by
 have C:=fun w=>Qh k v (by omega) (by omega) w;rw[h]at C;clear h;obtain⟨p,r,N⟩:∃p r,jv v=p::r:=⟨_,_,zk v⟩
 have R:=fun w=>jej v (by omega) w;rw[N]at R;obtain⟨z1,z2,z3⟩:=jdp N;have HL:=joI (jdx (k:=k) N)
 clear N;have F1:=fun w=>jcx k p (by omega) (by omega) w
 unfold zC at *
 generalize X:zP k p=fl at *
 clear X;generalize B k=s at *
 generalize B v=t at *
 obtain⟨i0,hi,a7,a8,aa⟩:=info_parts Xs;go_enter func168,ntmps168;go_wp2_with fail;refine(C _).mono ?_;rintro e A ⟨rfl,E⟩;have c0:=E.cell (p:=⟨w.heap.size,0,none⟩) (by simp)
 have c1:=E.cell (p:=⟨w.heap.size,1,none⟩) (by simp);have g:=E.size
 go_wp2_with fail;refine(R _).mono ?_;rintro e l ⟨rfl,f⟩;have q0:l.cell? ⟨w.heap.size,0,none⟩=some (.string s):=by rw[f,jqX _ _ _ (jqY (show w.heap.size<A.heap.size by have:=g;simp at this;omega)),c0,jqg _ _ _ _ rfl];rfl
 have Q:∀(j:Nat) x,(p::r)[j]?=some x->l.cell? ⟨A.heap.size,j,none⟩=some (.string (B x)):=by intro j x hx;rw[f,jqg _ _ _ _ rfl];simp only[jqj,joQ,jpx,hx];rfl
 have m:Below w.heap.size w l:=by rw[f];exact(((joL _ _).alloc (joJ _) _).trans (E.mono (by simp))).alloc (by simp at g;omega) _
 have q:A.heap.size<l.heap.size:=by rw[f];simp
 have e0:=Q 0 p rfl;have ai:w.heap.size<A.heap.size:=by simp at g;omega
 have D:=joI m;have n:=joI (fun(j:Nat) x (hx:r[j]?=some x)=>Q (j+1) x (by simpa using hx))
 clear f c0 c1 E g Q m;generalize A.heap.size=U at *
 clear A;rw[joR];go_wp2_with fail;refine wp_region_still_tail 6 (by kernel_rfl) (by kernel_rfl) ?_;simp only[jqP,List.take_zero,jq3,jp2]
 still_step
 still_step
 still_step
 still_step
 still_step
 still_call (F1 _)
 refine wpStill_nil ?_;change wpList _ _ _ _ _ l.drew;replace q:U<l.drew.heap.size:=q;replace D:Hid (Below w.heap.size w l.drew):=D.out.drew;replace n:Hid (∀(j:Nat) x,r[j]?=some x->l.drew.cell? ⟨U,j+1,none⟩=some (.string (B x))):=n;clear q0 e0 R C F1;generalize l.drew=b at *
 have K:=D.out.size;go_wp2_with fail
 ·subst h;go_loopw [6,27] (fun v6 i wr=>i=.int .i64 0/\yq wr b.heap.size v6 [B fl]/\Below b.heap.size b wr) (fun _ i _=>0)
  case atStart=>exact⟨rfl,yq.one b _ (joJ _) _,(joL _ _).alloc (joJ _) _⟩
  case round =>
  obtain⟨rfl,a,z⟩:=hrel;go_wp2_with fail;go_ret2;exact⟨_,_,rfl,by rw[HL.out];exact a,D.out.trans (z.mono K)⟩
 go_loopw [6,27] (fun v6 i wr=>∃(k:Nat),k<=r.length/\i=.int .i64 k/\yq wr b.heap.size v6 ((fl::(r.take k).map jx).map B)/\Below b.heap.size b wr) (fun _ i _=>r.length-(intOf i).toNat)
 case atStart=>exact⟨0,joT _,rfl,yq.one b _ (joJ _) _,(joL _ _).alloc (joJ _) _⟩
 case round =>
 obtain⟨k,af,rfl,a,z⟩:=hrel;by_cases J:k<r.length
 ·obtain⟨x,hx⟩:∃x,r[k]?=some x:=⟨_,joM J⟩
  have H:=n.out k x hx;have I:=(z.cell (p:=⟨U,k+1,none⟩) q).trans H
  rw[Nat.add_comm k 1]at I;have ah:=z2 x (joW hx)
  have TK:Hid ((fl::(r.take (k+1)).map jx).map B=(fl::(r.take k).map jx).map B++[B (jx x)]):=by show _=_;rw[jpd,hx];simp
  have FT:=fun w=>jcs x (by omega) w;have Y:((fl::(r.take k).map jx).map B).length=k+1:=by simp;omega
  have P:=joI Y;clear hx H;generalize (fl::(r.take k).map jx).map B=ls at *
  go_wp2_with fail;refine(FT _).mono ?_;rintro e O ⟨rfl,L⟩;have d:O.ownsRow b.heap.size 9 1 u6 ls.length (ls.map Value.string):=a.kept L (joJ _)
  have ag:=L.size;have Z:=z.size
  have HC:=joI (Ue O (B (jx x)) 9);have V:Below b.heap.size b O:=z.trans (L.mono Z)
  clear a L;generalize jx x=y at *
  go_wp2_with (at_builtin;refine wpList_append_own _ rfl _ _ 158 rfl b.heap.size 9 i0 _ 1 16 underlying158 hi a7 a8 aa rfl (by decide) _ _ _ rfl (d.alloc _) ⟨O.heap.size,0,none⟩ 1 1 _ rfl rfl HC.out ?c2 ?c3 ?c4 ?c5 ?_)
  case c2=>intro u hu;simp at hu;subst hu;rfl
  case c3=>unfold maxLen;omega
  case c4=>omega
  case c5=>simp;omega
  intro v' w5 c o _;obtain⟨g',ae,rfl⟩:=ownsRow_succ c;have W:Below b.heap.size b w5:=(V.alloc (by omega) _).grown o (by simp;omega) (fun j ej=>(d.lt j ej).1)
  go_wp2_with fail;go_roundw
  case rel =>
   refine⟨k+1,J,by go_num,?_,W⟩;rw[TK.out];unfold yq;rw[joK,jpt,P.out];exact c
  case measure=>simp[intOf];omega
 obtain rfl:k=r.length:=by omega
 rw[jpa]at a;go_wp2_with fail;go_ret2;exact⟨_,_,rfl,by rw[HL.out];exact a,D.out.trans (z.mono K)⟩
end
def Uj(want:Nat):List (List UInt8)->Bool
 | []=>true
 | a::r=>(jm a==want)&&Uj 3 r
theorem jdd:∀r:List (List UInt8),Uj 3 r=r.all (fun l=>jm l==3)
 | []=>rfl
 | a::r=>by unfold Uj;rw[jdd r,jqG]
theorem jb1(ls:List (List UInt8)):jaf ls=(decide (0<ls.length)&&Uj 4 ls):=by
 cases ls with
 | nil=>rfl
 | cons a r=>unfold jaf Uj;rw[jdd];simp
theorem jau(ls:List (List UInt8))(k a:Nat)(x:List UInt8)(h:ls[k]?=some x):Uj a (ls.drop k)=((jm x==a)&&Uj 3 (ls.drop (k+1))):=by
 have b:k<ls.length:=by
  rcases jpc k ls.length with q|q
  ·exact q
  rw[jpe q]at h;cases h
 rw[jpp b];rw[joM b]at h;rw[joN h];rfl
theorem jjg(l:List UInt8):jm l<=5:=by
 unfold jm;split;· decide
 split;· decide
 split;· decide
 split;· decide
 split<;>decide
theorem jj8{w:World}{A:Option Addr}{ls:List (List UInt8)}(c:∀(i:Nat) (s:ByteArray),(ls.map B)[i]?=some s->∃b a,A=some ⟨b,a,none⟩/\b<w.heap.size/\w.cell? ⟨b,a+i,none⟩=some (.string s)):
  ∀(i:Nat) (x:List UInt8),ls[i]?=some x->∃b a,A=some ⟨b,a,none⟩/\b<w.heap.size/\w.cell? ⟨b,a+i,none⟩=some (.string (B x)) :=
 fun i x hx=>c i (B x) (by rw[jpx,hx];rfl)
theorem jf9(ls:List (List UInt8))(v:Value)(w:World)(I:Strs w v (ls.map B))(hl:∀l∈ls,l.length<=100000)(P:ls.length<=100000):
  Calls prog 187 #[v] w fun e L=>e=.returned (.bool (jaf ls))/\Below w.heap.size w L:=by
 obtain⟨A,C,rfl,H,y⟩:=I;have j:=jj8 y
 have z:=joI j;have r:=joI (jb1 ls)
 clear y j;rw[jo8];go_enter func187,ntmps187;go_wp2_with fail;go_loopw [3,8] (fun v3 i wr=>∃k a:Nat,k<=ls.length/\a<=5/\i=.int .i64 k/\v3=.int .i64 a/\Uj 4 ls=Uj a (ls.drop k)/\Below w.heap.size w wr) (fun _ i _=>ls.length-(intOf i).toNat)
 case atStart=>exact⟨0,4,joT _,by decide,rfl,rfl,rfl,joL _ _⟩
 case round =>
 obtain⟨k,a,O,J,rfl,rfl,f,g⟩:=hrel;by_cases m:k<ls.length
 ·obtain⟨x,hx⟩:∃x,ls[k]?=some x:=⟨_,joM m⟩
  obtain⟨b,q,rfl,o,c⟩:=z.out k x hx;have E:=(g.cell (p:=⟨b,q+k,none⟩) o).trans c
  have K:=hl x (joW hx);have s:=fun w=>ZT (B x) (by rw[jg];unfold maxLen;omega) w
  rw[jj]at s;rw[jau ls k a x hx]at f;have h:=joI f
  have G:=jjg x;clear hx c f;generalize jm x=n at *
  go_wp2_with fail;refine(s _).mono ?_;rintro e Q ⟨rfl,t⟩;by_cases d:n=a
  ·subst d;go_wp2_with fail;go_roundw
   case rel=>exact⟨k+1,3,m,by decide,by go_num,rfl,by rw[h.out];simp,g.trans (t.mono g.size)⟩
   case measure=>simp[intOf];omega
  have D:((n:Int)==(a:Int))=false:=by rw[beq_eq_false_iff_ne];omega
  have N:((n:Int) != (a:Int))=true:=by rw[bne,D];rfl
  have u:(n==a)=false:=by rw[beq_eq_false_iff_ne];exact d
  rw[u]at h;clear d u;go_wp2_with fail;go_ret;exact⟨by rw[r.out,h.out];simp,g.trans (t.mono g.size)⟩
 obtain rfl:k=ls.length:=by omega
 rw[jp0]at f;have h:=joI f
 clear f;go_wp2_with fail;go_ret;exact⟨by rw[r.out,h.out];simp[Uj],g⟩
theorem jkU(l:List UInt8)(w:World):
  Calls prog 136 #[.string (B l),.string ⟨#[32]⟩] w fun e b=>e=.returned (.string (B (vu l)))/\w=b:=by
 refine(Tryz.strings_TrimPrefix (B l) ⟨#[32]⟩ _).mono ?_;rintro e b ⟨rfl,rfl⟩;refine⟨?_,rfl⟩;rw[jj,show(⟨#[32]⟩:ByteArray).data.toList=[32] from rfl];unfold Lib.trimPrefix Lib.hasPrefix vu B;cases l with
 | nil=>rfl
 | cons a t =>
 by_cases h:a=32
 ·subst h;simp[List.isPrefixOf]
 have c:((32:UInt8)==a)=false:=by rw[beq_eq_false_iff_ne];exact jqr h
 simp[List.isPrefixOf,c,h]
theorem jiu(l:List UInt8)(w:World):
  Calls prog 136 #[.string (B l),.string ⟨#[46]⟩] w fun e b=>e=.returned (.string (B (zw l)))/\w=b:=by
 refine(Tryz.strings_TrimPrefix (B l) ⟨#[46]⟩ _).mono ?_;rintro e b ⟨rfl,rfl⟩;refine⟨?_,rfl⟩;rw[jj,show(⟨#[46]⟩:ByteArray).data.toList=[46] from rfl];unfold Lib.trimPrefix Lib.hasPrefix zw B;cases l with
 | nil=>rfl
 | cons a t =>
 by_cases h:a=46
 ·subst h;simp[List.isPrefixOf]
 have c:((46:UInt8)==a)=false:=by rw[beq_eq_false_iff_ne];exact jqr h
 simp[List.isPrefixOf,c,h]
theorem ja2:∀b:List (List UInt8),Lib.join b [10]=zY b
 | []=>rfl
 | [p]=>by simp[Lib.join,List.intercalate,zY]
 | p::q::r=>by
  have a:=ja2 (q::r);unfold Lib.join at a ⊢;show _=p++10::zY (q::r)
  rw[<- a];simp[List.intercalate,List.intersperse]
theorem jmR(a:List UInt8):jb7 (B a)=B (before a):=by rw[<- jfB (jb7 (B a)),Jg,jj]
theorem jkC(a:List UInt8):jb8 (B a)=B (qZ a):=by rw[<- jfB (jb8 (B a))];unfold jb8 qZ;rw[jqB,jj]
theorem jm5{x:List UInt8}(h:jm x=3):∃c d t,x=c::d::t:=by
 unfold jm at h;split at h;· cases h
 split at h;· cases h
 rename_i b;split at h;· cases h
 split at h
 ·rename_i a;cases x with
  | nil=>cases a
  | cons c t =>
  cases t with
  | nil =>
   exfalso;apply b;have:zZ c=true:=a
   simp[jS,this]
  | cons d t=>exact⟨c,d,t,rfl⟩
 split at h<;>cases h
theorem jc7(c:UInt8)(t:List UInt8):(B (c::t)).extract 1 (B (c::t)).size=B t:=by rw[<- jfB ((B (c::t)).extract 1 _),jqB,jj];rfl
end Go.Proofs.YtbapfpekklcicaaGreatDoor
