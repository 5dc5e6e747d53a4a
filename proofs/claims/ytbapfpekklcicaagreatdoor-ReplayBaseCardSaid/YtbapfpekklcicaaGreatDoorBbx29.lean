/- Texts put together:BD,BE,BF,WQ,BI. -/
import Derived.Test.YtbapfpekklcicaaGreatDoorBbx28
set_option linter.unusedVariables false
set_option maxRecDepth 100000
set_option maxHeartbeats 16000000
namespace Go.Proofs.YtbapfpekklcicaaGreatDoor
open Go.RowKit Go.Shelf Tryz
abbrev jqw:=@List.mem_append_right
section
attribute [local go_sem] jn9
def numL(l:List UInt8):Option Int:=if -9223372036854775808<=qt l/\qt l<=9223372036854775807/\Lib.itoa (qt l)=l then some (qt l) else none
theorem numL_some{l:List UInt8}{i:Int}:numL l=some i↔I64 i/\Lib.itoa i=l:=by
 unfold numL;constructor
 ·intro h;split at h
  ·rename_i q;injection h with h;subst h;exact⟨⟨q.1,q.2.1⟩,q.2.2⟩
  cases h
 rintro⟨a,rfl⟩;rw[vy a,if_pos ⟨a.1,a.2,rfl⟩]
theorem YT{l:List UInt8}(h:∀i,I64 i->Lib.itoa i≠l):numL l=none:=by
 cases e:numL l with
 | none=>rfl
 | some i=>exact absurd (numL_some.1 e).2 (h i (numL_some.1 e).1)
def numEnd(l:List UInt8):Ending:=.returned (.tuple #[.int .i64 ((numL l).getD 0),.bool (numL l).isSome])
theorem qz{l:List UInt8}(h:∀i,I64 i->Lib.itoa i≠l):numEnd l=.returned (.tuple #[.int .i64 0,.bool false]):=by unfold numEnd;rw[YT h];rfl
theorem yK{l:List UInt8}{i:Int}(h:I64 i)(e:Lib.itoa i=l):numEnd l=.returned (.tuple #[.int .i64 i,.bool true]):=by unfold numEnd;rw[numL_some.2 ⟨h,e⟩];rfl
theorem Xx(u:Nat)(h:u<18446744073709551616):1<=(Lib.decDigits u).length/\(Lib.decDigits u).length<=20:=by
 refine⟨?_,by rw[jpa];exact jpJ u h⟩;rcases jpK (Lib.decDigits u).length with q|q
 ·exact absurd (List.length_eq_zero_iff.1 q) (Ws u)
 exact q
theorem Ut{i:Int}(h:I64 i):1<=(Lib.itoa i).length/\(Lib.itoa i).length<=20:=by
 obtain⟨d,e⟩:=h;have a:∀u:Nat,u<=9223372036854775808->(Lib.decDigits u).length<=19:=fun u f=>by
  rcases joo 19 (Lib.decDigits u).length with q|q
  ·exfalso;rw[jpa]at q;have:∀n u:Nat,n<Lib.nDigits u->10 ^ n<=u\/n=0:=by
    intro n
    induction n with
    | zero=>exact fun _ _=>.inr rfl
    | succ n c =>
    intro u b;rw[Lib.nDigits]at b;split at b
    ·omega
    rcases c (u / 10) (by omega) with z|z
    ·left;rw[jqk];omega
    subst z;left;omega
   rcases this 19 u q with z|z
   ·have:(10:Nat) ^ 19=10000000000000000000:=by decide
    omega
   omega
  exact q
 unfold Lib.itoa;split
 ·rw[jn1];have:=a i.natAbs (by omega)
  omega
 exact⟨(Xx _ (by omega)).1,(Xx _ (by omega)).2⟩
theorem jbz(z:Int):I64 (wrap64 z):=by unfold I64 wrap64;omega
theorem yM{i:Int}(f:I64 i){l:List UInt8}(h:Lib.itoa i=l)(a:Nat)(b:a=if l.head?=some 45 then 1 else 0):
  ∃u:Nat,u<=9223372036854775808/\l.drop a=Lib.decDigits u/\i=(if a=1 then -(u:Int) else u):=by
 obtain⟨g,j⟩:=f;subst h;by_cases c:i<0
 ·have e:Lib.itoa i=45::Lib.decDigits i.natAbs:=by unfold Lib.itoa;rw[if_pos c]
  rw[e]at b ⊢;rw[if_pos (by rfl)]at b;subst b;exact⟨i.natAbs,by omega,rfl,by simp;omega⟩
 have e:Lib.itoa i=Lib.decDigits i.toNat:=by unfold Lib.itoa;rw[if_neg c]
 have d:(Lib.decDigits i.toNat).head?≠some 45:=fun q=>by have:=jY i.toNat 45 (List.mem_of_mem_head? q);simp at this
 rw[e]at b ⊢;rw[if_neg d]at b;subst b;exact⟨i.toNat,by omega,rfl,by simp;omega⟩
theorem ZL{u:Nat}(i:u<=9223372036854775808){a:List UInt8}(d:a=Lib.decDigits u){j:Nat}{x:UInt8}(hx:a[j]?=some x):
  wrap64 (wrap64 (10*Jc 0 (a.take j))-((x.toNat:Int)-48))=Jc 0 (a.take (j+1)):=by
 subst d;have e:(Lib.decDigits u).take (j+1)=(Lib.decDigits u).take j++[x]:=by rw[jor,hx];rfl
 obtain⟨k,b,f⟩:=JE u (j+1);obtain⟨m,c,h⟩:=JE u j;have g:=jY u x (jn7 hx)
 rw[e,QP,c]at b ⊢;rw[jpS (10 * -(m:Int)) (by omega),jpS _ (by omega)]
theorem QO(s:ByteArray)(h1:1<=s.size)(U:s.size<=20)(Z:((s[0].toNat:Int)==45)=true)(w:World):
  Calls prog 95 #[.string s] w fun e I=>e=numEnd s.data.toList/\I=w:=by
 have h2:decide ((s.size:Int)<1)=false:=by simp;omega
 have h3:decide (20<(s.size:Int))=false:=by simp;omega
 have t:∀(k:Nat) (h:k<s.size),s.data.toList[k]?=some s[k]:=fun k h=>by rw[jnW (by rw[<- joa];exact h)];rfl
 have n:s.data.toList.head?=some s[0]:=by rw[jp1];exact t 0 (by omega)
 have J:1=if s.data.toList.head?=some 45 then 1 else 0:=by rw[n];rw[if_pos (by congr 1;apply UInt8.toNat_inj.1;have e3:(45:UInt8).toNat=45:=rfl;have:=eq_of_beq Z;omega)]
 have A:Hid (∀i,I64 i->Lib.itoa i=s.data.toList->∃u:Nat,u<=9223372036854775808/\s.data.toList.drop 1=Lib.decDigits u/\i=(if 1=1 then -(u:Int) else u)):=fun i c e=>yM c e 1 J;have x:=jnS t
 have p:s.data.toList.length=s.size:=(joa s).symm;clear t J n;go_enter func95,ntmps95;go_wp2_with fail;go_loop [5,6] (fun o i=>∃(j:Nat) (z:Int),1<=j/\j<=s.size/\i=.int .i64 j/\o=.int .i64 z/\I64 z/\((∃i,I64 i/\Lib.itoa i=s.data.toList)->z=Jc 0 ((s.data.toList.drop 1).take (j-1)))) (fun _ i=>s.size-(intOf i).toNat)
 case atStart=>exact⟨1,0,jnT _,by omega,rfl,rfl,⟨by decide,by decide⟩,fun _=>rfl⟩
 case round =>
 obtain⟨j,z,W,hj,rfl,rfl,P,a⟩:=hrel;by_cases q:j<s.size
 ·have hb:=s[j].toNat_lt;have hx:=x.out j q
  by_cases H:¬(48<=s[j].toNat/\s[j].toNat<=57)
  ·have r:=jnS (qz (l:=s.data.toList) (fun i c e=>by
    obtain⟨u,_,g,_⟩:=A.out i c e;have N:s[j]∈s.data.toList.drop 1:=jn7 (i:=j-1) (by rw[jox,show 1+(j-1)=j by omega];exact hx)
    rw[g]at N;exact H (jY u _ N)))
   clear a hx P;by_cases hc:s[j].toNat<48
   ·have Q:decide ((s[j].toNat:Int)<48)=true:=by simp;omega
    go_wp2_with fail;go_ret2;exact⟨by rw[r.out];rfl,rfl⟩
   have Q:decide ((s[j].toNat:Int)<48)=false:=by simp;omega
   have q2:decide (57<(s[j].toNat:Int))=true:=by simp;omega
   go_wp2_with fail;go_ret2;exact⟨by rw[r.out];rfl,rfl⟩
  replace H:=Classical.not_not.1 H;have Q:decide ((s[j].toNat:Int)<48)=false:=by simp;omega
  have q2:decide (57<(s[j].toNat:Int))=false:=by simp;omega
  have R:Hid ((∃i,I64 i/\Lib.itoa i=s.data.toList)->wrap64 (wrap64 (10*z)-((s[j].toNat:Int)-48))=Jc 0 ((s.data.toList.drop 1).take (j+1-1))):=fun m=>by obtain⟨i,c,e⟩:=_root_.id m;obtain⟨u,O,g,_⟩:=A.out i c e;rw[a m,show j+1-1=(j-1)+1 by omega];exact ZL O g (by rw[jox,show 1+(j-1)=j by omega];exact hx)
  clear a hx;go_wp2_with fail;go_round
  case rel=>exact⟨j+1,_,by omega,q,by go_num,rfl,jbz _,R.out⟩
  case measure=>simp[intOf];omega
 obtain rfl:j=s.size:=by omega
 obtain⟨d,b⟩:∃d,d=z:=⟨_,rfl⟩
 have L:I64 d:=by rw[b];exact P
 have C:∀i,I64 i->Lib.itoa i=s.data.toList->d=i:=fun i c e=>by
  obtain⟨u,O,g,E⟩:=A.out i c e;have X:=a ⟨i,c,e⟩
  rw[jol (by rw[jn6,p];exact jnT _),g,Jb]at X;simp at E;omega
 have v:=jnS (figures_any d L w);by_cases f:Lib.itoa d=s.data.toList
 ·have D:=jnS (yK L f);have K:B (Lib.itoa d)=s:=by rw[f];rfl
  rw[K]at v;clear a C f K;have y:=jnS b
  clear b;go_wp2_with fail;rw[<- y.out];refine v.out.mono ?_;rintro e I ⟨rfl,rfl⟩;go_wp2_with fail;go_ret2;exact⟨by rw[D.out];rfl,rfl⟩
 have r:=jnS (qz (l:=s.data.toList) (fun i c e=>f (by rw[C i c e];exact e)));have G:¬(B (Lib.itoa d)).toList=s.toList:=fun e=>f (by rw[jot,jot,jj]at e;exact e)
 have Y:((B (Lib.itoa d)).toList==s.toList)=false:=by simpa using G
 clear a C f;have y:=jnS b
 clear b;generalize B (Lib.itoa d)=V at *
 go_wp2_with fail;rw[<- y.out];refine v.out.mono ?_;rintro e I ⟨rfl,rfl⟩;go_wp2_with fail;go_ret2;exact⟨by rw[r.out];rfl,rfl⟩
theorem QN(s:ByteArray)(h1:1<=s.size)(W:s.size<=20)(O:((s[0].toNat:Int)==45)=false)(w:World):
  Calls prog 95 #[.string s] w fun e I=>e=numEnd s.data.toList/\I=w:=by
 have h2:decide ((s.size:Int)<1)=false:=by simp;omega
 have h3:decide (20<(s.size:Int))=false:=by simp;omega
 have t:∀(k:Nat) (h:k<s.size),s.data.toList[k]?=some s[k]:=fun k h=>by rw[jnW (by rw[<- joa];exact h)];rfl
 have n:s.data.toList.head?=some s[0]:=by rw[jp1];exact t 0 (by omega)
 have J:0=if s.data.toList.head?=some 45 then 1 else 0:=by rw[n];rw[if_neg (fun e=>by have U:=congrArg UInt8.toNat (jnY e);rw[U]at O;simp at O)]
 have A:Hid (∀i,I64 i->Lib.itoa i=s.data.toList->∃u:Nat,u<=9223372036854775808/\s.data.toList.drop 0=Lib.decDigits u/\i=(if 0=1 then -(u:Int) else u)):=fun i c e=>yM c e 0 J;have x:=jnS t
 have p:s.data.toList.length=s.size:=(joa s).symm;clear t J n;go_enter func95,ntmps95;go_wp2_with fail;go_loop [5,6] (fun o i=>∃(j:Nat) (z:Int),0<=j/\j<=s.size/\i=.int .i64 j/\o=.int .i64 z/\I64 z/\((∃i,I64 i/\Lib.itoa i=s.data.toList)->z=Jc 0 ((s.data.toList.drop 0).take (j-0)))) (fun _ i=>s.size-(intOf i).toNat)
 case atStart=>exact⟨0,0,jnT _,by omega,rfl,rfl,⟨by decide,by decide⟩,fun _=>rfl⟩
 case round =>
 obtain⟨j,z,X,hj,rfl,rfl,hz,a⟩:=hrel;by_cases q:j<s.size
 ·have hb:=s[j].toNat_lt;have hx:=x.out j q
  by_cases H:¬(48<=s[j].toNat/\s[j].toNat<=57)
  ·have r:=jnS (qz (l:=s.data.toList) (fun i c e=>by
    obtain⟨u,_,g,_⟩:=A.out i c e;have N:s[j]∈s.data.toList.drop 0:=jn7 (i:=j-0) (by rw[jox,show 0+(j-0)=j by omega];exact hx)
    rw[g]at N;exact H (jY u _ N)))
   clear a hx hz;by_cases hc:s[j].toNat<48
   ·have Q:decide ((s[j].toNat:Int)<48)=true:=by simp;omega
    go_wp2_with fail;go_ret2;exact⟨by rw[r.out];rfl,rfl⟩
   have Q:decide ((s[j].toNat:Int)<48)=false:=by simp;omega
   have q2:decide (57<(s[j].toNat:Int))=true:=by simp;omega
   go_wp2_with fail;go_ret2;exact⟨by rw[r.out];rfl,rfl⟩
  replace H:=Classical.not_not.1 H;have Q:decide ((s[j].toNat:Int)<48)=false:=by simp;omega
  have q2:decide (57<(s[j].toNat:Int))=false:=by simp;omega
  have R:Hid ((∃i,I64 i/\Lib.itoa i=s.data.toList)->wrap64 (wrap64 (10*z)-((s[j].toNat:Int)-48))=Jc 0 ((s.data.toList.drop 0).take (j+1-0))):=fun m=>by obtain⟨i,c,e⟩:=_root_.id m;obtain⟨u,P,g,_⟩:=A.out i c e;rw[a m,show j+1-0=(j-0)+1 by omega];exact ZL P g (by rw[jox,show 0+(j-0)=j by omega];exact hx)
  clear a hx;go_wp2_with fail;go_round
  case rel=>exact⟨j+1,_,by omega,q,by go_num,rfl,jbz _,R.out⟩
  case measure=>simp[intOf];omega
 obtain rfl:j=s.size:=by omega
 obtain⟨d,b⟩:∃d,d=wrap64 (-z):=⟨_,rfl⟩
 have L:I64 d:=by rw[b];exact jbz _
 have C:∀i,I64 i->Lib.itoa i=s.data.toList->d=i:=fun i c e=>by
  obtain⟨u,P,g,E⟩:=A.out i c e;have Y:=a ⟨i,c,e⟩
  rw[jol (by rw[jn6,p];exact jnT _),g,Jb]at Y;obtain⟨i0,i1⟩:=c;simp at E;rw[b,jpS _ (by omega)];omega
 have v:=jnS (figures_any d L w);by_cases f:Lib.itoa d=s.data.toList
 ·have D:=jnS (yK L f);have K:B (Lib.itoa d)=s:=by rw[f];rfl
  rw[K]at v;clear a C f K;have y:=jnS b
  clear b;go_wp2_with fail;rw[<- y.out];refine v.out.mono ?_;rintro e I ⟨rfl,rfl⟩;go_wp2_with fail;go_ret2;exact⟨by rw[D.out];rfl,rfl⟩
 have r:=jnS (qz (l:=s.data.toList) (fun i c e=>f (by rw[C i c e];exact e)));have G:¬(B (Lib.itoa d)).toList=s.toList:=fun e=>f (by rw[jot,jot,jj]at e;exact e)
 have Z:((B (Lib.itoa d)).toList==s.toList)=false:=by simpa using G
 clear a C f;have y:=jnS b
 clear b;generalize B (Lib.itoa d)=V at *
 go_wp2_with fail;rw[<- y.out];refine v.out.mono ?_;rintro e I ⟨rfl,rfl⟩;go_wp2_with fail;go_ret2;exact⟨by rw[r.out];rfl,rfl⟩
theorem number_any(l:List UInt8)(hl:l.length<=1000000)(w:World):
  Calls prog 95 #[.string (B l)] w fun e h=>e=numEnd l/\h=w:=by
 have d:=jg l;by_cases a:1<=(B l).size/\(B l).size<=20
 ·cases c:(((B l)[0]'(by omega)).toNat:Int)==45 with
  | true=>exact QO (B l) a.1 a.2 c w
  | false=>exact QN (B l) a.1 a.2 c w
 have b:=jnS (qz (l:=l) (fun i f e=>by
  apply a;rw[d,<- e];exact Ut f))
 generalize B l=s at *
 by_cases j:s.size<1
 ·have g:decide ((s.size:Int)<1)=true:=by simp;omega
  go_enter func95,ntmps95;go_wp2_with fail;go_ret2;exact⟨by rw[b.out];rfl,rfl⟩
 have g:decide ((s.size:Int)<1)=false:=by simp;omega
 have k:decide (20<(s.size:Int))=true:=by simp;omega
 go_enter func95,ntmps95;go_wp2_with fail;go_ret2;exact⟨by rw[b.out];rfl,rfl⟩
theorem Ju(l p:List UInt8)(hl:l.length<=1000000)(h:p.length<=1000)(w:World):
  Calls prog 111 #[.string (B l),.string (B p)] w fun e f=>e=.returned (.bool (Lib.hasPrefix l p))/\f=w:=by
 have g:=jg l;have b:=jg p
 have hx:(B l).extract 0 (B p).size=B (l.take p.length):=by apply jpf;apply Array.toList_inj.1;rw[jo3,jpe,Nat.sub_zero,jj,jj,b]
 by_cases c:p.length<=l.length
 ·have d:decide (((B p).size:Int)<=((B l).size:Int))=true:=by simp;omega
  have a:((B (l.take p.length)).toList==(B p).toList)=Lib.hasPrefix l p:=by rw[joS];unfold Lib.hasPrefix;rw[jo7,List.prefix_iff_eq_take,beq_iff_eq,jot,jot,jj,jj];exact eq_comm
  generalize Lib.hasPrefix l p=q at *
  generalize B (l.take p.length)=V at *
  generalize B l=X at *
  generalize B p=Y at *
  go_enter func111,ntmps111;go_wp2_with fail;go_ret;exact⟨by rw[<- a,<- hx,b];rfl,rfl⟩
 have d:decide (((B p).size:Int)<=((B l).size:Int))=false:=by simp;omega
 have a:Lib.hasPrefix l p=false:=by
  cases q:Lib.hasPrefix l p with
  | false=>rfl
  | true =>
  unfold Lib.hasPrefix at q;have:=(List.isPrefixOf_iff_prefix.1 q).length_le
  omega
 rw[a];generalize B l=X at *
 generalize B p=Y at *
 go_enter func111,ntmps111;go_wp2_with fail;go_ret;exact⟨rfl,rfl⟩
end
def jjM(eds:List Ed)(f:Fld):List Ed:=match eds.getLast? with | none=>eds | some e=>eds.dropLast++[⟨e.kind,e.id,e.fields++[f]⟩]
theorem Qk(p:List Ed)(e:Ed)(f:Fld):jjM (p++[e]) f=p++[⟨e.kind,e.id,e.fields++[f]⟩]:=by unfold jjM;simp
abbrev StD:=List Ed×List (List UInt8)
def zJ(s:StD):Option StD:=if s.2=[] then some s else if jt s.2=0 then some (jjM s.1 (jU s.2,jT s.2),[]) else none
def XZ(k:Int):List UInt8:=32::(qw k++[32])
def jbD(s:List UInt8)(k:Int)(x:Ed):Ed:=if Lib.hasPrefix s (XZ k) then (match numL (s.drop (XZ k).length) with | some n=>⟨k,n,[]⟩ | none=>x) else x
def headD(s:List UInt8):Ed:=jbD s 3 (jbD s 2 (jbD s 1 ⟨0,0,[]⟩))
def xo(s:StD)(x:List UInt8):Option StD :=
 if Lib.hasPrefix x [32,32] then (if s.1=[] then none else some (s.1,s.2++[x.drop 2]))
 else if (headD x).kind=0\/40<=s.1.length then none else some (s.1++[headD x],s.2)
def vl(s:StD)(x:List UInt8):Option StD:=(if Lib.hasPrefix x [32,32,32] then some s else zJ s).bind fun s=>xo s x
def xX:List (List UInt8)->StD->Option StD
 | [],s=>some s
 | x::r,s=>(vl s x).bind (xX r)
theorem yY(a b:List (List UInt8))(s:StD):xX (a++b) s=(xX a s).bind (xX b):=by
 induction a generalizing s with
 | nil=>rfl
 | cons x a c =>
 show(vl s x).bind (xX (a++b))=((vl s x).bind (xX a)).bind (xX b);cases vl s x with
 | none=>rfl
 | some t=>exact c t
theorem jez{k i:Int}(d:k=1\/k=2\/k=3)(h:I64 i):headD (zg k i)=⟨k,i,[]⟩:=by
 have j:numL (Lib.itoa i)=some i:=numL_some.2 ⟨h,rfl⟩;have b:∀x,jbD (zg k i) k x=⟨k,i,[]⟩:=fun x=>by
  unfold jbD;have e:zg k i=XZ k++Lib.itoa i:=by unfold zg XZ;rw[if_pos d];simp
  have l:Lib.hasPrefix (zg k i) (XZ k)=true:=by unfold Lib.hasPrefix;rw[e];simp
  rw[if_pos l,e,jph,j]
 have a:∀c x,(c=1\/c=2\/c=3)->c≠k->jbD (zg k i) c x=x:=fun c x f g=>by unfold jbD;rw[if_neg];unfold Lib.hasPrefix zg XZ;rw[if_pos d];rcases d with rfl|rfl|rfl<;>rcases f with rfl|rfl|rfl<;>first|exact absurd rfl g|simp[qw,List.isPrefixOf]
 unfold headD;rcases d with rfl|rfl|rfl
 ·rw[a 3 _ (by decide) (by decide),a 2 _ (by decide) (by decide),b]
 ·rw[a 3 _ (by decide) (by decide),b]
 rw[b]
def jhH(p:List Ed)(s:StD):Prop:=zJ s=some (p,[])
theorem jfx{p:List Ed}{s:StD}(h:jhH p s){k i:Int}(a:k=1\/k=2\/k=3)(d:I64 i)(hl:p.length<40):vl s (zg k i)=some (p++[⟨k,i,[]⟩],[]):=by
 unfold vl;have b:=jaO (id:=i) a
 have c:Lib.hasPrefix (zg k i) [32,32,32]=false:=by unfold zg Lib.hasPrefix;rw[if_pos a];rcases a with rfl|rfl|rfl<;>simp[qw,List.isPrefixOf]
 rw[c];show(zJ s).bind _=_
 rw[h];show xo _ _=_
 unfold xo;rw[b,jez a d,if_neg (by simp),if_neg];simp only;omega
theorem jdR{p:List Ed}{s:StD}(h:jhH p s){x:List UInt8}(hx:x.head?≠some 32)(d:p≠[]):vl s (yp x)=some (p,[x]):=by
 unfold vl;have b:Lib.hasPrefix (yp x) [32,32,32]=false:=by
  unfold yp Lib.hasPrefix;cases x with
  | nil=>rfl
  | cons c r =>
  have:c≠32:=fun e=>hx (by rw[e];rfl);simp[List.isPrefixOf,Ne.symm this]
 have a:Lib.hasPrefix (yp x) [32,32]=true:=by unfold yp Lib.hasPrefix;simp[List.isPrefixOf]
 rw[b];show(zJ s).bind _=_
 rw[h];show xo _ _=_
 unfold xo;rw[a,if_pos rfl,if_neg d];rfl
theorem jfw{s:StD}{x:List UInt8}(hx:x.head?=some 32)(d:s.1≠[]):vl s (yp x)=some (s.1,s.2++[x]):=by
 unfold vl;obtain⟨r,rfl⟩:∃r,x=32::r:=by
  cases x with
  | nil=>cases hx
  | cons c r=>cases hx;exact⟨r,rfl⟩
 have b:Lib.hasPrefix (yp (32::r)) [32,32,32]=true:=by unfold yp Lib.hasPrefix;simp[List.isPrefixOf]
 have a:Lib.hasPrefix (yp (32::r)) [32,32]=true:=by unfold yp Lib.hasPrefix;simp[List.isPrefixOf]
 rw[b];show xo _ _=_
 unfold xo;rw[a,if_pos rfl,if_neg d];rfl
theorem Ku:∀(r:List (List UInt8)) (s:StD),(∀x∈r,x.head?=some 32)->s.1≠[]->xX (r.map yp) s=some (s.1,s.2++r)
 | [],s,_,_=>by simp[xX]
 | x::r,s,h,a=>by
  rw[joy,xX,jfw (h x jn5) a];show xX _ _=_
  rw[Ku r (s.1,s.2++[x]) (fun y b=>h y (jn4 _ b)) a];simp
theorem ja0(l:List UInt8):(js l).head?=some 32:=by unfold js;split<;>rfl
theorem jeI{k l:List UInt8}(a:jF k=true):(zM k l).head?≠some 32:=by
 unfold jF at a;cases k with
 | nil=>simp at a
 | cons c r =>
 simp only[joC]at a;obtain⟨⟨⟨⟨⟨_,_⟩,b⟩,_⟩,_⟩,_⟩:=a;have d:c≠32:=fun e=>by subst e;simp[vh,zY]at b
 unfold zM;split<;>simp[d]
theorem jbJ{p:List Ed}{e:Ed}{s:StD}(h:jhH (p++[e]) s){f:Fld}(b:jF f.1=true)(g:f.2.length<=1000):
  ∃d,xX ((jW f.1 f.2).map yp) s=some d/\jhH (p++[⟨e.kind,e.id,e.fields++[f]⟩]) d:=by
 have c:p++[e]≠[]:=by simp
 have a:jW f.1 f.2=zM f.1 ((jr f.2).headD [])::(jr f.2).tail.map js:=rfl;refine⟨(p++[e],jW f.1 f.2),?_,?_⟩
 ·rw[a,joy,xX,jdR h (jeI b) c];show xX _ _=_
  rw[Ku _ (p++[e],[zM f.1 ((jr f.2).headD [])]) (fun x hx=>by obtain⟨y,_,rfl⟩:=List.mem_map.1 hx;exact ja0 y) c];rfl
 obtain⟨i,j,k⟩:=VA b g;unfold jhH zJ;rw[if_neg (by rw[a];simp),if_pos i,j,k,Qk]
theorem Vp:∀(a:List Fld) {p:List Ed} {e:Ed} {s:StD},jhH (p++[e]) s->(∀f∈a,jF f.1=true/\f.2.length<=1000) ->
  ∃c,xX ((jD a).map yp) s=some c/\jhH (p++[⟨e.kind,e.id,e.fields++a⟩]) c
 | [],p,e,s,h,_=>⟨s,rfl,by rw[jok];exact h⟩
 | f::a,p,e,s,h,b=>by
  obtain⟨g,i⟩:=b f jn5;obtain⟨o,l,j⟩:=jbJ h g i;obtain⟨n,m,k⟩:=Vp a j (fun x hx=>b x (jn4 _ hx));refine⟨n,?_,?_⟩
  ·have d:jD (f::a)=jW f.1 f.2++jD a:=by unfold jD;rw[joc]
   rw[d,joB,yY,l];exact m
  simpa using k
theorem jan:∀(b p:List Ed) (s:StD),jhH p s->(∀a∈b,zG a=0/\I64 a.id)->p.length+b.length<=40->∃d,xX (zl b) s=some d/\jhH (p++b) d
 | [],p,s,h,_,_=>⟨s,rfl,by rw[jok];exact h⟩
 | a::r,p,s,h,c,hl=>by
  obtain⟨g,i⟩:=c a jn5;rw[jn1]at hl;have j:=jfx h (yO g) i (by omega)
  have gf:=Zk g;obtain⟨o,m,k⟩:=Vp a.fields (p:=p) (e:=⟨a.kind,a.id,[]⟩) (s:=(p++[⟨a.kind,a.id,[]⟩],[])) (by unfold jhH zJ;rw[if_pos rfl]) gf.each;obtain⟨q,n,l⟩:=jan r (p++[a]) o (by simpa using k) (fun x hx=>c x (jn4 _ hx)) (by rw[List.length_append];simp;omega);refine⟨q,?_,by simpa using l⟩;have f:zl (a::r)=zg a.kind a.id::((jD a.fields).map yp++zl r):=by unfold zl;rw[joc];rfl
  rw[f,xX,j];show xX _ _=_
  rw[yY,m];exact n
def je9(ls:List (List UInt8)):Option (List Ed):=((xX ls ([],[])).bind zJ).map Prod.fst
theorem jeQ{eds:List Ed}(b:∀a∈eds,zG a=0/\I64 a.id)(hl:eds.length<=40):je9 (zl eds)=some eds:=by
 obtain⟨s,r,p⟩:=jan eds [] ([],[]) (by unfold jhH zJ;rw[if_pos rfl]) b (by simpa using hl);unfold je9;rw[r];show(zJ s).map _=_
 rw[p];rfl
def wL(ls:List (List UInt8)):Nat:=(ls.map fun x=>x.length+3).sum
def XS(xs:List (List UInt8)):Nat:=(xs.map fun x=>x.length+1).sum
theorem jfk(ls:List (List UInt8))(x:List UInt8):wL (ls++[x])=wL ls+(x.length+3):=by simp[wL]
structure OkD(t:Nat)(s:StD):Prop where
 cnt:∀ed∈s.1,5*ed.fields.length+wL s.2<=t
 fin:∀ed∈s.1,∀f∈ed.fields,f.1.length<=32/\f.2.length<=1000
 ids:∀ed∈s.1,I64 ed.id
 len:s.1.length<=40
 wt:wL s.2<=t
theorem OkD.mono{t t':Nat}{s:StD}(h:OkD t s)(a:t<=t'):OkD t' s :=
 ⟨fun b c=>jop (h.cnt b c) a,h.fin,h.ids,h.len,jop h.wt a⟩
theorem jfm{ls:List (List UInt8)}(h:jt ls=0):5<=wL ls:=by
 unfold jt at h;split at h
 ·rename_i m;obtain⟨a,r,rfl,d,_⟩:=Qt m;have:2<=a.length:=by
   unfold jm at d;split at d
   ·omega
   split at d
   ·omega
   split at d
   ·omega
   split at d
   ·omega
   split at d
   ·rename_i q;obtain⟨i,j⟩:=q;unfold jF at j;simp only[joC,decide_eq_true_eq]at j;have p:(before a).length<a.length:=by
     rcases joo (before a).length a.length with z|z
     ·exact z
     exfalso;have e:before a=a:=List.Sublist.eq_of_length_le (jpd _) z
     have g:(58:UInt8)∈a:=by unfold qH at i;simpa using i
     rw[<- e]at g;have k:∀(l:List UInt8),∀c∈l.takeWhile (· != 58),c≠58:=fun l=>by
      induction l with
      | nil=>intro c b;cases b
      | cons y r o =>
      intro c b;rw[joG]at b;split at b
      ·rename_i n;rcases List.mem_cons.1 b with f|f
       ·rw[f];simpa using n
       exact o c f
      cases b
     exact k a 58 g rfl
    omega
   omega
  unfold wL;rw[joy,jo2];omega
 cases h
theorem jds{t:Nat}{s s':StD}(h:OkD t s)(c:zJ s=some s'):OkD t s'/\s'.2=[]:=by
 unfold zJ at c;split at c
 ·rename_i q;injection c with c;subst c;exact⟨h,q⟩
 split at c
 ·rename_i q;injection c with c;subst c;refine⟨?_,rfl⟩;have r:=jfm q
  obtain⟨_,n,o⟩:=Yt q;rcases jpk s.1 with i|⟨p,e,i⟩
  ·rw[i];exact⟨fun d a=>by simp[jjM]at a,fun d a=>by simp[jjM]at a,fun d a=>by simp[jjM]at a,by simp[jjM],jn3 _⟩
  rw[jpl]at i;have j:=h.cnt
  have g:=h.fin;have l:=h.ids
  have hl:=h.len;rw[i]at j g l hl ⊢;rw[Qk];refine⟨fun d a => ?_,fun d a => ?_,fun d a => ?_,by simpa using hl,jn3 _⟩
  ·rcases List.mem_append.1 a with b|b
   ·have:=j d (jpz _ b);show 5*d.fields.length+0<=t
    omega
   rw[List.mem_singleton.1 b];have:=j e (jqw _ jn5)
   show 5*(e.fields++[_]).length+0<=t;rw[jnU,joN];omega
  ·rcases List.mem_append.1 a with b|b
   ·exact g d (jpz _ b)
   rw[List.mem_singleton.1 b];intro f k;rcases List.mem_append.1 k with m|m
   ·exact g e (jqw _ jn5) f m
   rw[List.mem_singleton.1 m];exact⟨n,o⟩
  rcases List.mem_append.1 a with b|b
  ·exact l d (jpz _ b)
  rw[List.mem_singleton.1 b];exact l e (jqw _ jn5)
 cases c
theorem jbC{s:List UInt8}{k:Int}{x:Ed}(h:I64 x.id/\x.fields=[]):I64 (jbD s k x).id/\(jbD s k x).fields=[]:=by
 unfold jbD;split
 ·split
  ·rename_i n a;exact⟨(numL_some.1 a).1,rfl⟩
  exact h
 exact h
theorem jiV(s:List UInt8):I64 (headD s).id/\(headD s).fields=[]:=jbC (jbC (jbC ⟨⟨by decide,by decide⟩,rfl⟩))
theorem jga{t:Nat}{s s':StD}{x:List UInt8}(h:OkD t s)(k:Lib.hasPrefix x [32,32]=false->s.2=[])(a:xo s x=some s'):OkD (t+(x.length+1)) s':=by
 unfold xo at a;split at a
 ·rename_i q;split at a
  ·cases a
  injection a with a;subst a;have hx:2<=x.length:=by unfold Lib.hasPrefix at q;exact(List.isPrefixOf_iff_prefix.1 q).length_le
  have l:(x.drop 2).length+3=x.length+1:=by rw[jn6];omega
  refine⟨fun c d => ?_,h.fin,h.ids,h.len,?_⟩
  ·have:=h.cnt c d;show 5*c.fields.length+wL (s.2++[x.drop 2])<=_
   rw[jfk];omega
  have:=h.wt;show wL (s.2++[x.drop 2])<=_
  rw[jfk];omega
 rename_i q;split at a
 ·cases a
 rename_i m;injection a with a;subst a;have i:=k (by simpa using q)
 obtain⟨j,e⟩:=jiV x;refine⟨fun c d => ?_,fun c d => ?_,fun c d => ?_,?_,?_⟩
 ·rcases List.mem_append.1 d with b|b
  ·have:=h.cnt c b;show 5*c.fields.length+wL s.2<=_
   omega
  rw[List.mem_singleton.1 b,e];show 0+wL s.2<=_
  rw[i];simp[wL]
 ·rcases List.mem_append.1 d with b|b
  ·exact h.fin c b
  rw[List.mem_singleton.1 b,e];intro f g;cases g
 ·rcases List.mem_append.1 d with b|b
  ·exact h.ids c b
  rw[List.mem_singleton.1 b];exact j
 ·show(s.1++[headD x]).length<=40;rw[jnU,joN];omega
 have:=h.wt;show wL s.2<=_
 omega
theorem jkw{t:Nat}{s s':StD}{x:List UInt8}(h:OkD t s)(a:vl s x=some s'):OkD (t+(x.length+1)) s':=by
 unfold vl at a;split at a
 ·rename_i q;refine jga h (fun c => ?_) a;unfold Lib.hasPrefix at q c;have d:=List.isPrefixOf_iff_prefix.1 q
  have e:([32,32]:List UInt8) <+: x:=List.IsPrefix.trans ⟨[32],rfl⟩ d;rw[List.isPrefixOf_iff_prefix.2 e]at c;cases c
 cases b:zJ s with
 | none=>rw[b]at a;cases a
 | some i =>
 rw[b]at a;obtain⟨f,g⟩:=jds h b;exact jga f (fun _=>g) a
theorem jjX:∀(d:List (List UInt8)) {t:Nat} {s b:StD},OkD t s->xX d s=some b->OkD (t+XS d) b
 | [],t,s,b,h,a=>by injection a with a;subst a;exact h
 | x::r,t,s,b,h,a=>by
  rw[xX]at a;cases c:vl s x with
  | none=>rw[c]at a;cases a
  | some f =>
  rw[c]at a;have:=jjX r (jkw h c) a
  have e:XS (x::r)=x.length+1+XS r:=by unfold XS;rw[joy,jo2]
  rw[e,<- jpC];exact this
theorem jfX:OkD 0 ([],[]):=⟨(fun b a=>by cases a),(fun b a=>by cases a),(fun b a=>by cases a),jn3 _,jnT _⟩
theorem jmh(a b:List UInt8)(j:ByteArray):(⟨a.toArray⟩:ByteArray)++j ++ ⟨b.toArray⟩=⟨(a++j.data.toList++b).toArray⟩:=by rw[<- Up,<- Up,jp0 j]
theorem jka(a:List Ln)(x:Ln):Value.int .i64 ((a.length:Int)+1)=Value.int .i64 ((a++[x]).length:Nat):=by rw[jnU];rfl
theorem jjE(l:List UInt8):∀x∈jf l,x.bytes.length<=l.length:=by
 intro x hx;have e:=jJ l
 obtain⟨a,b,c⟩:=jpY hx;rw[c,jow,joc]at e;have:=congrArg List.length e
 simp only[jnU]at this;omega
theorem jh9{W:World}{base g cap:Nat}{xs a d:List Ln}{x:Ln}(h:W.ownsRow base 126 4 (.slice (some ⟨g,0,none⟩) xs.length cap) xs.length (cellsOf xs))(hx:xs=a++x::d):
  W.cell? ⟨g,a.length*4,none⟩=some (.int .i64 x.no)/\W.cell? ⟨g,a.length*4+1,none⟩=some (.int .i64 x.at_)/\W.cell? ⟨g,a.length*4+1+1,none⟩=some (.string ⟨x.text.toArray⟩)/\W.cell? ⟨g,a.length*4+1+1+1,none⟩=some (.bool x.ended):=by
 have b:∀j u,j<4->(qg x).toList[j]?=some u->W.cell? ⟨g,a.length*4+j,none⟩=some u:=fun j u e f=>by
  have:=h.cells (g:=g) rfl (a.length*4+j) u (by rw[hx,vx _ _ _ _ e];exact f);have c:(⟨g,0,none⟩:Addr).add (a.length*4+j)=⟨g,a.length*4+j,none⟩:=by unfold Addr.add;split<;>simp_all
  rwa [c]at this
 exact⟨b 0 _ (by omega) rfl,b 1 _ (by omega) rfl,b 2 _ (by omega) rfl,b 3 _ (by omega) rfl⟩
theorem Uc(s j:ByteArray)(J:s.size<=1000000)(N:j.size<=1000000)(w:World):
  Calls prog 159 #[.string s,.string j] w fun e U=>e=.returned (.string ⟨(Jh j.data.toList (jf s.data.toList)).toArray⟩)/\Below w.heap.size w U:=by
 obtain⟨k,l⟩:∃k,jf s.data.toList=k:=⟨_,rfl⟩
 have r:=zL s.data.toList;rw[<- joa]at r;have c:=jjE s.data.toList
 rw[<- joa]at c;rw[l]at r c ⊢;have n:=jnS c
 have E:=jnS l;clear l c;go_enter func159,ntmps159;go_wp2_with fail;refine(yr s J w).mono ?_;rintro e Z ⟨v,rfl,f,a2⟩;rw[E.out]at f;obtain⟨I,p,rfl⟩:=jkJ f;go_wp2_with fail;go_loopw [5,11] (fun o i wr=>∃(a b:List Ln),k=a++b/\o=.string ⟨(Jh j.data.toList a).toArray⟩/\i=.int .i64 (a.length:Nat)/\wr.ownsRow w.heap.size 126 4 (.slice I k.length p) k.length (cellsOf k)/\Below w.heap.size w wr)
  (fun _ i _=>k.length-(intOf i).toNat)
 case atStart=>exact⟨[],k,rfl,rfl,rfl,f,a2⟩
 case round =>
 obtain⟨a,b,hx,rfl,rfl,C,q⟩:=hrel;cases b with
 | nil =>
  have e:a.length=k.length:=by rw[hx];simp
  have z:=jnS hx;clear hx;go_wp2;go_ret;refine⟨?_,q⟩;rw[z.out,jok];rfl
 | cons x b =>
 have P:a.length<k.length:=by rw[hx];simp
 obtain⟨g,rfl⟩:∃g,I=some ⟨g,0,none⟩:=by
  rcases C.2 with ⟨_,V⟩|⟨g,p,L,Q,_⟩
  ·omega
  exact⟨g,by cases Q;rfl⟩
 obtain⟨W,X,Y,K⟩:=jh9 C hx;have d:(Jh j.data.toList (a++[x])).length<=1000000*(2*1000000):=by
  refine Uv _ 1000000 1000000 _ (fun y R=>jop (n.out y ?_) J) ?_ (by rw[<- joa];exact N)
  ·rw[hx];rcases List.mem_append.1 R with h|h
   ·exact jpz _ h
   rw[List.mem_singleton.1 h];simp
  simp;omega
 rw[ZQ]at d;simp only[jnU,<- joa]at d;have G:(Xu x.ended).size<=1:=by unfold Xu;cases x.ended<;>decide
 have O:(Jh j.data.toList a).length+j.size+x.text.length+1<=2000000000001:=by omega
 clear d G;have z:=jnS hx
 clear hx;have H:=jnS (ZQ j.data.toList a x)
 have t:=jmh (Jh j.data.toList a) x.text j;have m:=jnS t
 clear t;cases A:x.ended
 ·rw[A]at K;have u:Jh j.data.toList (a++[x])=Jh j.data.toList a++j.data.toList++x.text:=by rw[H.out,A];simp[Xu]
  have D:=jnS u;clear u;go_wp2;go_roundw
  case rel =>
   refine⟨a++[x],b,z.out.trans (by simp),?_,jka a x,C.alloc _,q.alloc q.size _⟩;rw[m.out,D.out]
  case measure=>simp[intOf]<;>omega
 rw[A]at K;have u:Jh j.data.toList (a++[x])=(Jh j.data.toList a++j.data.toList++x.text)++[10]:=by rw[H.out,A];simp[Xu]
 have D:=jnS u;clear u;go_wp2;go_roundw
 case rel =>
  refine⟨a++[x],b,z.out.trans (by simp),?_,jka a x,C.alloc _,q.alloc q.size _⟩;rw[m.out,D.out];exact congrArg Value.string (Up _ [10])
 case measure=>simp[intOf]<;>omega
def zQ(l:List UInt8):List (List UInt8):=(jf l).map Ln.text
theorem jjU:∀(a:List Ln),wf a->XS (a.map Ln.text)<=(a.flatMap Ln.bytes).length+1
 | [],_=>by simp[XS]
 | x::a,h=>by
  obtain⟨_,b,c⟩:=h;have d:=jjU a c
  have e:XS ((x::a).map Ln.text)=x.text.length+1+XS (a.map Ln.text):=by unfold XS;rw[joy,joy,jo2]
  rw[e,joc,jnU];rcases b with q|⟨rfl,_⟩
  ·have:x.bytes.length=x.text.length+1:=by unfold Ln.bytes;rw[q];simp
   omega
  have:x.text.length<=x.bytes.length:=by unfold Ln.bytes;simp
  have:XS (([]:List Ln).map Ln.text)=0:=rfl;omega
theorem KY(l:List UInt8):XS (zQ l)<=l.length+1:=by have:=jjU _ (Km l);rw[jJ]at this;exact this
theorem jc5:∀(b:List (List UInt8)) (a c:Nat),(num a c b).map Ln.text=b
 | [],_,_=>rfl
 | l::r,a,c=>by show l::(num (a+1) (c+l.length+1) r).map Ln.text=l::r;rw[jc5 r]
theorem jbU{ls:List (List UInt8)}(h:∀l∈ls,(10:UInt8)∉l):zQ (jp ls)=ls:=by
 unfold zQ;show(jP 0 0 (jp ls)).map _=_
 rw[xm ls 0 0 h,jc5]
theorem jhX(xs:List (List UInt8))(k:Nat):XS (xs.take k)<=XS xs:=by
 have e:XS xs=XS (xs.take k)+XS (xs.drop k):=by
  conv=>lhs;rw[<- joj k xs]
  unfold XS;rw[joB,List.sum_append]
 omega
theorem jap{xs:List (List UInt8)}{k:Nat}{x:List UInt8}{s:StD}(hx:xs[k]?=some x)(h:xX (xs.take k) ([],[])=some s):xX (xs.take (k+1)) ([],[])=vl s x:=by
 rw[jor,hx];show xX (xs.take k++[x]) _=_
 rw[yY,h];show(vl s x).bind (xX [])=_
 cases vl s x<;>rfl
theorem WU{xs:List (List UInt8)}{k:Nat}{x:List UInt8}{s:StD}(hx:xs[k]?=some x)(h:xX (xs.take k) ([],[])=some s)(a:vl s x=none):je9 xs=none:=by
 have e:xX xs ([],[])=none:=by
  conv=>lhs;rw[<- joj (k+1) xs]
  rw[yY,jap hx h,a];rfl
 unfold je9;rw[e];rfl
theorem jlJ{l:List UInt8}{k:Nat}{s:StD}(h:xX ((zQ l).take k) ([],[])=some s):OkD (l.length+1) s:=by
 have a:=jjX _ jfX h;have b:=jhX (zQ l) k
 have c:=KY l;exact a.mono (by omega)
theorem jgZ{l:List UInt8}{eds:List Ed}(h:je9 (zQ l)=some eds):OkD (l.length+1) (eds,[]):=by
 unfold je9 at h;cases c:xX (zQ l) ([],[]) with
 | none=>rw[c]at h;cases h
 | some s =>
 rw[c]at h;have e:OkD (l.length+1) s:=jlJ (k:=(zQ l).length) (by rw[jom];exact c)
 cases b:zJ s with
 | none =>
  have a:(zJ s).map Prod.fst=some eds:=h;rw[b]at a;cases a
 | some t =>
 have a:(zJ s).map Prod.fst=some eds:=h;rw[b]at a;obtain⟨f,d⟩:=jds e b;obtain⟨g,i⟩:=t;cases a;simp only at d;subst d;exact f
theorem jg0{l:List UInt8}{eds:List Ed}(h:Qd l=some eds):je9 (zQ l)=some eds:=by
 obtain⟨_,f,g,rfl⟩:=xE.1 h;obtain⟨⟨_,a⟩,c⟩:=vg f;have e:zQ (jo eds)=zl eds:=jbU (xG c)
 rw[e];exact jeQ (fun b d=>⟨c b d,g b d⟩) a
theorem Xy{l:List UInt8}(h:je9 (zQ l)=none):Qd l=none:=by
 cases b:Qd l with
 | none=>rfl
 | some a=>rw[jg0 b]at h;cases h
theorem jjp{l:List UInt8}{eds:List Ed}(hl:l.length<=50000)(h:je9 (zQ l)=some eds):Qd l=if (qu eds).2=0/\jo eds=l then some eds else none:=by
 by_cases a:(qu eds).2=0/\jo eds=l
 ·rw[if_pos a];exact xE.2 ⟨hl,a.1,(jgZ h).ids,a.2⟩
 rw[if_neg a];cases b:Qd l with
 | none=>rfl
 | some x =>
 have e:=jg0 b;rw[h]at e;cases e;obtain⟨_,c,_,d⟩:=xE.1 b;exact absurd ⟨c,d⟩ a
theorem jeh{l:List UInt8}(hl:l.length<=1000000){s:StD}(h:OkD (l.length+1) s):VQ s.1:=fun a b =>
 ⟨by have:=h.cnt a b;omega,fun f c=>by have:=h.fin a b f c;omega⟩
end Go.Proofs.YtbapfpekklcicaaGreatDoor
