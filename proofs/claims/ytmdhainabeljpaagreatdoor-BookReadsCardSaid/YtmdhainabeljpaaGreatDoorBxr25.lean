/- Texts put together:AM,BD,BE,BF,WQ,BI. -/
import Derived.Test.YtmdhainabeljpaaGreatDoorBxr18
set_option linter.unusedVariables false
set_option maxRecDepth 100000
set_option maxHeartbeats 16000000
namespace Go.Proofs.YtmdhainabeljpaaGreatDoor
abbrev jko:=@List.mem_append_right
end Go.Proofs.YtmdhainabeljpaaGreatDoor
namespace Go.Proofs.YtmdhainabeljpaaGreatDoor
open Go.RowKit Go.Shelf
attribute [local go_sem] jil
theorem qZ(u:Nat)(hu:u<18446744073709551616)(w:World):Calls Tryz.prog 129 #[.int .u64 u] w fun e w'=>e=.returned (.string (B (Lib.decDigits u)))/\w'=w:=by
 induction u using Nat.strongRecOn generalizing w with
 | _ u ih =>
 by_cases h:u<10
 ·rw[jjv h]
  clear ih hu
  obtain rfl|rfl|rfl|rfl|rfl|rfl|rfl|rfl|rfl|rfl:u=0\/u=1\/u=2\/u=3\/u=4\/u=5\/u=6\/u=7\/u=8\/u=9:=by omega
  all_goals
   go_enter Tryz.func129,Tryz.ntmps129
   go_wp2_with fail
   go_ret
   exact⟨by kernel_rfl,rfl⟩
 have q:¬(u:Int)<10:=by omega
 have I1:=jh5 (ih (u / 10) (by omega) (by omega))
 have I2:=jh5 (ih (u % 10) (by omega) (by omega))
 rw[Int.natCast_ediv]at I1
 rw[Int.natCast_emod]at I2
 have E:Hid (B (Lib.decDigits (u / 10))++B (Lib.decDigits (u % 10))=B (Lib.decDigits u)):=by
  show _=_
  rw[jj,jjv (i:=u % 10) (by omega)]
  congr 1
  conv=>rhs;rw[Lib.decDigits,dif_neg h]
 have S1:(B (Lib.decDigits (u / 10))).size<=30:=by
  rw[je,jjb]
  have:=jjD (u / 10) (by omega)
  omega
 have S2:(B (Lib.decDigits (u % 10))).size<=30:=by rw[je,jjv (by omega)];exact(by decide:1<=30)
 clear ih
 generalize B (Lib.decDigits (u / 10))=x at *
 generalize B (Lib.decDigits (u % 10))=y at *
 go_enter Tryz.func129,Tryz.ntmps129
 go_wp2_with fail
 refine(I1.out _).mono ?_
 rintro e w1 ⟨rfl,rfl⟩
 go_wp2_with fail
 refine(I2.out _).mono ?_
 rintro e w1 ⟨rfl,rfl⟩
 go_wp2_with fail
 go_ret
 exact⟨by rw[<- E.out];rfl,rfl⟩
theorem figures_any(n:Int)(hn:I64 n)(w:World):Calls Tryz.prog 93 #[.int .i64 n] w fun e w'=>e=.returned (.string (B (Lib.itoa n)))/\w'=w:=by
 obtain⟨h0,h1⟩:=hn
 by_cases h:n<0
 ·obtain⟨u,rfl⟩:∃u:Nat,n = -((u:Int)+1):=⟨(-n-1).toNat,by omega⟩
  have q : -((u:Int)+1)<0:=by omega
  have w1:IntKind.i64.wrap (-((u:Int)+1)+1) = -(u:Int):=by rw[show -((u:Int)+1)+1 = -(u:Int) by omega];exact jiz _ (by omega)
  have w2:IntKind.i64.wrap (u:Int)=(u:Int):=jiz _ (by omega)
  have w3:IntKind.u64.wrap (u:Int)=(u:Int):=by rw[jjP];omega
  have w4:IntKind.u64.wrap ((u:Int)+1)=(u:Int)+1:=by rw[jjP];omega
  have I1:=jh5 (qZ (u+1) (by omega) w)
  rw[Int.natCast_add,show((1:Nat):Int)=1 from rfl]at I1
  have E:Hid ((⟨#[45]⟩:ByteArray)++B (Lib.decDigits (u+1))=B (Lib.itoa (-((u:Int)+1)))):=by
   show _=_
   rw[show -((u:Int)+1) = -((u+1:Nat):Int) by omega,Lib.itoa_neg _ (by omega),show(⟨#[45]⟩:ByteArray)=B [45] from rfl,jj];rfl
  have S1:(B (Lib.decDigits (u+1))).size<=30:=by
   rw[je,jjb]
   have:=jjD (u+1) (by omega)
   omega
  generalize B (Lib.decDigits (u+1))=x at *
  go_enter Tryz.func93,Tryz.ntmps93
  go_wp2_with fail
  refine I1.out.mono ?_
  rintro e w1 ⟨rfl,rfl⟩
  go_wp2_with fail
  go_ret
  exact⟨by rw[<- E.out];rfl,rfl⟩
 obtain⟨u,rfl⟩:∃u:Nat,n=(u:Int):=⟨n.toNat,by omega⟩
 have w3:IntKind.u64.wrap (u:Int)=(u:Int):=by rw[jjP];omega
 have I1:=jh5 (qZ u (by omega) w)
 rw[jjc]
 generalize B (Lib.decDigits u)=x at *
 go_enter Tryz.func93,Tryz.ntmps93
 go_wp2_with fail
 refine I1.out.mono ?_
 rintro e w1 ⟨rfl,rfl⟩
 go_wp2_with fail
 go_ret
 exact⟨rfl,rfl⟩
theorem ZN(k i:Int)(fv:Value)(hi:I64 i)(w:World):
  Calls Tryz.prog 61 #[.agg #[.int .i64 k,.int .i64 i,fv]] w fun e w'=>e=.returned (.string (B (jV k i)))/\Below w.heap.size w w':=by
 have HB:=jh5 (show Below w.heap.size w (w.alloc (.cells #[.int .i64 k,.int .i64 i,fv] 40)) from(jh8 _ w).alloc (jh6 _) _)
 have FG:=jh5 (fun W=>figures_any i hi W)
 have hil:=Lib.itoa_length_le i hi.1 hi.2
 have S1:(B (Lib.itoa i)).size<=21:=by rw[je];exact hil
 have E:Hid (∀kk:Int,(kk=1\/kk=2\/kk=3)->B (32::(zZ kk++[32]))++B (Lib.itoa i)=B (jV kk i)):=by
  intro kk hk
  rw[jj];unfold jV;rw[if_pos hk];congr 1;simp
 generalize B (Lib.itoa i)=x at *
 by_cases h1:k=1
 ·subst h1
  have E1:=jh5 (E.out 1 (.inl rfl))
  clear E
  go_enter Tryz.func61,Tryz.ntmps61
  go_wp2_with fail
  refine(FG.out _).mono ?_
  rintro e w1 ⟨rfl,rfl⟩
  go_wp2_with fail
  go_ret
  exact⟨by rw[<- E1.out];rfl,HB.out⟩
 have q1:(k==1)=false:=by simpa using h1
 by_cases h2:k=2
 ·subst h2
  have E1:=jh5 (E.out 2 (.inr (.inl rfl)))
  clear E
  go_enter Tryz.func61,Tryz.ntmps61
  go_wp2_with fail
  refine(FG.out _).mono ?_
  rintro e w1 ⟨rfl,rfl⟩
  go_wp2_with fail
  go_ret
  exact⟨by rw[<- E1.out];rfl,HB.out⟩
 have q2:(k==2)=false:=by simpa using h2
 by_cases h3:k=3
 ·subst h3
  have E1:=jh5 (E.out 3 (.inr (.inr rfl)))
  clear E
  go_enter Tryz.func61,Tryz.ntmps61
  go_wp2_with fail
  refine(FG.out _).mono ?_
  rintro e w1 ⟨rfl,rfl⟩
  go_wp2_with fail
  go_ret
  exact⟨by rw[<- E1.out];rfl,HB.out⟩
 have q3:(k==3)=false:=by simpa using h3
 have E1:jV k i=[]:=by unfold jV;rw[if_neg (by omega)]
 rw[E1]
 clear E E1
 go_enter Tryz.func61,Tryz.ntmps61
 go_wp2_with fail
 go_ret
 exact⟨rfl,HB.out⟩
def numL(l:List UInt8):Option Int:=if -9223372036854775808<=zX l/\zX l<=9223372036854775807/\Lib.itoa (zX l)=l then some (zX l) else none
theorem numL_some{l:List UInt8}{i:Int}:numL l=some i↔I64 i/\Lib.itoa i=l:=by
 unfold numL
 constructor
 ·intro h
  split at h
  ·rename_i q
   injection h with h
   subst h
   exact⟨⟨q.1,q.2.1⟩,q.2.2⟩
  cases h
 rintro⟨h1,rfl⟩
 rw[qW h1,if_pos ⟨h1.1,h1.2,rfl⟩]
theorem QQ{l:List UInt8}(h:∀i,I64 i->Lib.itoa i≠l):numL l=none:=by
 cases e:numL l with
 | none=>rfl
 | some i=>exact absurd (numL_some.1 e).2 (h i (numL_some.1 e).1)
def numEnd(l:List UInt8):Ending:=.returned (.tuple #[.int .i64 ((numL l).getD 0),.bool (numL l).isSome])
theorem ql{l:List UInt8}(h:∀i,I64 i->Lib.itoa i≠l):numEnd l=.returned (.tuple #[.int .i64 0,.bool false]):=by unfold numEnd;rw[QQ h];rfl
theorem yo{l:List UInt8}{i:Int}(h:I64 i)(e:Lib.itoa i=l):numEnd l=.returned (.tuple #[.int .i64 i,.bool true]):=by unfold numEnd;rw[numL_some.2 ⟨h,e⟩];rfl
theorem Vl(u:Nat)(h:u<18446744073709551616):1<=(Lib.decDigits u).length/\(Lib.decDigits u).length<=20:=by
 refine⟨?_,by rw[jjb];exact jjD u h⟩
 rcases jjF (Lib.decDigits u).length with q|q
 ·exact absurd (List.length_eq_zero_iff.1 q) (YI u)
 exact q
theorem Xn{i:Int}(h:I64 i):1<=(Lib.itoa i).length/\(Lib.itoa i).length<=20:=by
 obtain⟨h0,h1⟩:=h
 have hnd:∀u:Nat,u<=9223372036854775808->(Lib.decDigits u).length<=19:=fun u hu=>by
  rcases jir 19 (Lib.decDigits u).length with q|q
  ·exfalso
   rw[jjb]at q
   have:∀n u:Nat,n<Lib.nDigits u->10 ^ n<=u\/n=0:=by
    intro n
    induction n with
    | zero=>exact fun _ _=>.inr rfl
    | succ n ih =>
    intro u hq
    rw[Lib.nDigits]at hq
    split at hq
    ·omega
    rcases ih (u / 10) (by omega) with z|z
    ·left;rw[jkc];omega
    subst z;left;omega
   rcases this 19 u q with z|z
   ·have:(10:Nat) ^ 19=10000000000000000000:=by decide
    omega
   omega
  exact q
 unfold Lib.itoa
 split
 ·rw[jic]
  have:=hnd i.natAbs (by omega)
  omega
 exact⟨(Vl _ (by omega)).1,(Vl _ (by omega)).2⟩
theorem Wq(z:Int):I64 (wrap64 z):=by unfold I64 wrap64;omega
theorem yq{i:Int}(hi:I64 i){l:List UInt8}(h:Lib.itoa i=l)(a:Nat)(ha:a=if l.head?=some 45 then 1 else 0):
  ∃u:Nat,u<=9223372036854775808/\l.drop a=Lib.decDigits u/\i=(if a=1 then -(u:Int) else u):=by
 obtain⟨h0,h1⟩:=hi
 subst h
 by_cases hn:i<0
 ·have e:Lib.itoa i=45::Lib.decDigits i.natAbs:=by unfold Lib.itoa;rw[if_pos hn]
  rw[e]at ha ⊢
  rw[if_pos (by rfl)]at ha
  subst ha
  exact⟨i.natAbs,by omega,rfl,by simp;omega⟩
 have e:Lib.itoa i=Lib.decDigits i.toNat:=by unfold Lib.itoa;rw[if_neg hn]
 have hd:(Lib.decDigits i.toNat).head?≠some 45:=fun q=>by
  have:=jZ i.toNat 45 (List.mem_of_mem_head? q)
  simp at this
 rw[e]at ha ⊢
 rw[if_neg hd]at ha
 subst ha
 exact⟨i.toNat,by omega,rfl,by simp;omega⟩
theorem JI{u:Nat}(hu:u<=9223372036854775808){ds:List UInt8}(hd:ds=Lib.decDigits u){j:Nat}{x:UInt8}(hx:ds[j]?=some x):
  wrap64 (wrap64 (10*xj 0 (ds.take j))-((x.toNat:Int)-48))=xj 0 (ds.take (j+1)):=by
 subst hd
 have e:(Lib.decDigits u).take (j+1)=(Lib.decDigits u).take j++[x]:=by rw[jiK,hx];rfl
 obtain⟨m',e',hm'⟩:=xJ u (j+1)
 obtain⟨m,e1,hm⟩:=xJ u j
 have hxd:=jZ u x (jim hx)
 rw[e,Zs,e1]at e' ⊢
 rw[jjM (10 * -(m:Int)) (by omega),jjM _ (by omega)]
theorem Zr(s:ByteArray)(h1:1<=s.size)(h20:s.size<=20)(hq:((s[0].toNat:Int)==45)=true)(w:World):
  Calls Tryz.prog 44 #[.string s] w fun e w'=>e=numEnd s.data.toList/\w'=w:=by
 have h2:decide ((s.size:Int)<1)=false:=by simp;omega
 have h3:decide (20<(s.size:Int))=false:=by simp;omega
 have AT:∀(k:Nat) (h:k<s.size),s.data.toList[k]?=some s[k]:=fun k h=>by
  rw[jia (by rw[<- jij];exact h)];rfl
 have hhd:s.data.toList.head?=some s[0]:=by rw[jjW];exact AT 0 (by omega)
 have hA:1=if s.data.toList.head?=some 45 then 1 else 0:=by
  rw[hhd]
  rw[if_pos (by congr 1;apply UInt8.toNat_inj.1;have e3:(45:UInt8).toNat=45:=rfl;have:=eq_of_beq hq;omega)]
 have PT:Hid (∀i,I64 i->Lib.itoa i=s.data.toList->∃u:Nat,u<=9223372036854775808/\s.data.toList.drop 1=Lib.decDigits u/\i=(if 1=1 then -(u:Int) else u)):=fun i hi e=>yq hi e 1 hA
 have HAT:=jh5 AT
 have hlen:s.data.toList.length=s.size:=(jij s).symm
 clear AT hA hhd
 go_enter Tryz.func44,Tryz.ntmps44
 go_wp2_with fail
 go_loop [5,6] (fun o i=>∃(j:Nat) (z:Int),1<=j/\j<=s.size/\i=.int .i64 j/\o=.int .i64 z/\I64 z/\((∃i,I64 i/\Lib.itoa i=s.data.toList)->z=xj 0 ((s.data.toList.drop 1).take (j-1)))) (fun _ i=>s.size-(intOf i).toNat)
 case atStart=>exact⟨1,0,jh6 _,by omega,rfl,rfl,⟨by decide,by decide⟩,fun _=>rfl⟩
 case round =>
 obtain⟨j,z,hj1,hj,rfl,rfl,hz,hnum⟩:=hrel
 obtain⟨z0,z1⟩:=_root_.id hz
 by_cases hlt:j<s.size
 ·have hb:=s[j].toNat_lt
  have hx:=HAT.out j hlt
  by_cases hr:¬(48<=s[j].toNat/\s[j].toNat<=57)
  ·have NO:=jh5 (ql (l:=s.data.toList) (fun i hi e=>by
    obtain⟨u,_,hd,_⟩:=PT.out i hi e
    have hm:s[j]∈s.data.toList.drop 1:=jim (i:=j-1) (by rw[jiZ,show 1+(j-1)=j by omega];exact hx)
    rw[hd]at hm
    exact hr (jZ u _ hm)))
   clear hnum hx hz
   by_cases hc:s[j].toNat<48
   ·have q1:decide ((s[j].toNat:Int)<48)=true:=by simp;omega
    go_wp2_with fail
    go_ret2
    exact⟨by rw[NO.out];rfl,rfl⟩
   have q1:decide ((s[j].toNat:Int)<48)=false:=by simp;omega
   have q2:decide (57<(s[j].toNat:Int))=true:=by simp;omega
   go_wp2_with fail
   go_ret2
   exact⟨by rw[NO.out];rfl,rfl⟩
  replace hr:=Classical.not_not.1 hr
  have q1:decide ((s[j].toNat:Int)<48)=false:=by simp;omega
  have q2:decide (57<(s[j].toNat:Int))=false:=by simp;omega
  have ST:Hid ((∃i,I64 i/\Lib.itoa i=s.data.toList)->wrap64 (wrap64 (10*z)-((s[j].toNat:Int)-48))=xj 0 ((s.data.toList.drop 1).take (j+1-1))):=fun hex=>by
   obtain⟨i,hi,e⟩:=_root_.id hex
   obtain⟨u,hu,hd,_⟩:=PT.out i hi e
   rw[hnum hex,show j+1-1=(j-1)+1 by omega]
   exact JI hu hd (by rw[jiZ,show 1+(j-1)=j by omega];exact hx)
  clear hnum hx
  go_wp2_with fail
  go_round
  case rel=>exact⟨j+1,_,by omega,hlt,by go_num,rfl,Wq _,ST.out⟩
  case measure=>simp[intOf];omega
 obtain rfl:j=s.size:=by omega
 obtain⟨z2,hz2⟩:∃z2,z2=z:=⟨_,rfl⟩
 have hI:I64 z2:=by rw[hz2];exact hz
 have UN:∀i,I64 i->Lib.itoa i=s.data.toList->z2=i:=fun i hi e=>by
  obtain⟨u,hu,hd,hiu⟩:=PT.out i hi e
  have hn:=hnum ⟨i,hi,e⟩
  rw[jiC (by rw[jik,hlen];exact jh6 _),hd,xi]at hn
  obtain⟨i0,i1⟩:=hi
  simp at hiu
  omega
 have FG:=jh5 (figures_any z2 hI w)
 by_cases he:Lib.itoa z2=s.data.toList
 ·have YES:=jh5 (yo hI he)
  have hB:B (Lib.itoa z2)=s:=by rw[he];rfl
  rw[hB]at FG
  clear hnum UN he hB
  have HZ:=jh5 hz2
  clear hz2
  go_wp2_with fail
  rw[<- HZ.out]
  refine FG.out.mono ?_
  rintro e w' ⟨rfl,rfl⟩
  go_wp2_with fail
  go_ret2
  exact⟨by rw[YES.out];rfl,rfl⟩
 have NO:=jh5 (ql (l:=s.data.toList) (fun i hi e=>he (by rw[UN i hi e];exact e)))
 have hne:¬(B (Lib.itoa z2)).toList=s.toList:=fun e=>he (by rw[jiu,jiu,ji]at e;exact e)
 have hnb:((B (Lib.itoa z2)).toList==s.toList)=false:=by simpa using hne
 clear hnum UN he
 have HZ:=jh5 hz2
 clear hz2
 generalize B (Lib.itoa z2)=V at *
 go_wp2_with fail
 rw[<- HZ.out]
 refine FG.out.mono ?_
 rintro e w' ⟨rfl,rfl⟩
 go_wp2_with fail
 go_ret2
 exact⟨by rw[NO.out];rfl,rfl⟩
theorem Zq(s:ByteArray)(h1:1<=s.size)(h20:s.size<=20)(hq:((s[0].toNat:Int)==45)=false)(w:World):
  Calls Tryz.prog 44 #[.string s] w fun e w'=>e=numEnd s.data.toList/\w'=w:=by
 have h2:decide ((s.size:Int)<1)=false:=by simp;omega
 have h3:decide (20<(s.size:Int))=false:=by simp;omega
 have AT:∀(k:Nat) (h:k<s.size),s.data.toList[k]?=some s[k]:=fun k h=>by
  rw[jia (by rw[<- jij];exact h)];rfl
 have hhd:s.data.toList.head?=some s[0]:=by rw[jjW];exact AT 0 (by omega)
 have hA:0=if s.data.toList.head?=some 45 then 1 else 0:=by
  rw[hhd]
  rw[if_neg (fun e=>by have e2:=congrArg UInt8.toNat (jh9 e);rw[e2]at hq;simp at hq)]
 have PT:Hid (∀i,I64 i->Lib.itoa i=s.data.toList->∃u:Nat,u<=9223372036854775808/\s.data.toList.drop 0=Lib.decDigits u/\i=(if 0=1 then -(u:Int) else u)):=fun i hi e=>yq hi e 0 hA
 have HAT:=jh5 AT
 have hlen:s.data.toList.length=s.size:=(jij s).symm
 clear AT hA hhd
 go_enter Tryz.func44,Tryz.ntmps44
 go_wp2_with fail
 go_loop [5,6] (fun o i=>∃(j:Nat) (z:Int),0<=j/\j<=s.size/\i=.int .i64 j/\o=.int .i64 z/\I64 z/\((∃i,I64 i/\Lib.itoa i=s.data.toList)->z=xj 0 ((s.data.toList.drop 0).take (j-0)))) (fun _ i=>s.size-(intOf i).toNat)
 case atStart=>exact⟨0,0,jh6 _,by omega,rfl,rfl,⟨by decide,by decide⟩,fun _=>rfl⟩
 case round =>
 obtain⟨j,z,hj1,hj,rfl,rfl,hz,hnum⟩:=hrel
 obtain⟨z0,z1⟩:=_root_.id hz
 by_cases hlt:j<s.size
 ·have hb:=s[j].toNat_lt
  have hx:=HAT.out j hlt
  by_cases hr:¬(48<=s[j].toNat/\s[j].toNat<=57)
  ·have NO:=jh5 (ql (l:=s.data.toList) (fun i hi e=>by
    obtain⟨u,_,hd,_⟩:=PT.out i hi e
    have hm:s[j]∈s.data.toList.drop 0:=jim (i:=j-0) (by rw[jiZ,show 0+(j-0)=j by omega];exact hx)
    rw[hd]at hm
    exact hr (jZ u _ hm)))
   clear hnum hx hz
   by_cases hc:s[j].toNat<48
   ·have q1:decide ((s[j].toNat:Int)<48)=true:=by simp;omega
    go_wp2_with fail
    go_ret2
    exact⟨by rw[NO.out];rfl,rfl⟩
   have q1:decide ((s[j].toNat:Int)<48)=false:=by simp;omega
   have q2:decide (57<(s[j].toNat:Int))=true:=by simp;omega
   go_wp2_with fail
   go_ret2
   exact⟨by rw[NO.out];rfl,rfl⟩
  replace hr:=Classical.not_not.1 hr
  have q1:decide ((s[j].toNat:Int)<48)=false:=by simp;omega
  have q2:decide (57<(s[j].toNat:Int))=false:=by simp;omega
  have ST:Hid ((∃i,I64 i/\Lib.itoa i=s.data.toList)->wrap64 (wrap64 (10*z)-((s[j].toNat:Int)-48))=xj 0 ((s.data.toList.drop 0).take (j+1-0))):=fun hex=>by
   obtain⟨i,hi,e⟩:=_root_.id hex
   obtain⟨u,hu,hd,_⟩:=PT.out i hi e
   rw[hnum hex,show j+1-0=(j-0)+1 by omega]
   exact JI hu hd (by rw[jiZ,show 0+(j-0)=j by omega];exact hx)
  clear hnum hx
  go_wp2_with fail
  go_round
  case rel=>exact⟨j+1,_,by omega,hlt,by go_num,rfl,Wq _,ST.out⟩
  case measure=>simp[intOf];omega
 obtain rfl:j=s.size:=by omega
 obtain⟨z2,hz2⟩:∃z2,z2=wrap64 (-z):=⟨_,rfl⟩
 have hI:I64 z2:=by rw[hz2];exact Wq _
 have UN:∀i,I64 i->Lib.itoa i=s.data.toList->z2=i:=fun i hi e=>by
  obtain⟨u,hu,hd,hiu⟩:=PT.out i hi e
  have hn:=hnum ⟨i,hi,e⟩
  rw[jiC (by rw[jik,hlen];exact jh6 _),hd,xi]at hn
  obtain⟨i0,i1⟩:=hi
  simp at hiu
  rw[hz2,jjM _ (by omega)];omega
 have FG:=jh5 (figures_any z2 hI w)
 by_cases he:Lib.itoa z2=s.data.toList
 ·have YES:=jh5 (yo hI he)
  have hB:B (Lib.itoa z2)=s:=by rw[he];rfl
  rw[hB]at FG
  clear hnum UN he hB
  have HZ:=jh5 hz2
  clear hz2
  go_wp2_with fail
  rw[<- HZ.out]
  refine FG.out.mono ?_
  rintro e w' ⟨rfl,rfl⟩
  go_wp2_with fail
  go_ret2
  exact⟨by rw[YES.out];rfl,rfl⟩
 have NO:=jh5 (ql (l:=s.data.toList) (fun i hi e=>he (by rw[UN i hi e];exact e)))
 have hne:¬(B (Lib.itoa z2)).toList=s.toList:=fun e=>he (by rw[jiu,jiu,ji]at e;exact e)
 have hnb:((B (Lib.itoa z2)).toList==s.toList)=false:=by simpa using hne
 clear hnum UN he
 have HZ:=jh5 hz2
 clear hz2
 generalize B (Lib.itoa z2)=V at *
 go_wp2_with fail
 rw[<- HZ.out]
 refine FG.out.mono ?_
 rintro e w' ⟨rfl,rfl⟩
 go_wp2_with fail
 go_ret2
 exact⟨by rw[NO.out];rfl,rfl⟩
theorem number_any(l:List UInt8)(hl:l.length<=1000000)(w:World):
  Calls Tryz.prog 44 #[.string (B l)] w fun e w'=>e=numEnd l/\w'=w:=by
 have bs:=je l
 by_cases h1:1<=(B l).size/\(B l).size<=20
 ·cases hq:(((B l)[0]'(by omega)).toNat:Int)==45 with
  | true=>exact Zr (B l) h1.1 h1.2 hq w
  | false=>exact Zq (B l) h1.1 h1.2 hq w
 have NO:=jh5 (ql (l:=l) (fun i hi e=>by
  apply h1
  rw[bs,<- e]
  exact Xn hi))
 generalize B l=s at *
 by_cases h0:s.size<1
 ·have q1:decide ((s.size:Int)<1)=true:=by simp;omega
  go_enter Tryz.func44,Tryz.ntmps44
  go_wp2_with fail
  go_ret2
  exact⟨by rw[NO.out];rfl,rfl⟩
 have q1:decide ((s.size:Int)<1)=false:=by simp;omega
 have q2:decide (20<(s.size:Int))=true:=by simp;omega
 go_enter Tryz.func44,Tryz.ntmps44
 go_wp2_with fail
 go_ret2
 exact⟨by rw[NO.out];rfl,rfl⟩
theorem xA(l p:List UInt8)(hl:l.length<=1000000)(hp:p.length<=1000)(w:World):
  Calls Tryz.prog 60 #[.string (B l),.string (B p)] w fun e w'=>e=.returned (.bool (Lib.hasPrefix l p))/\w'=w:=by
 have bl:=je l
 have bp:=je p
 have hx:(B l).extract 0 (B p).size=B (l.take p.length):=by
  apply jjf
  apply Array.toList_inj.1
  rw[ji7,jjl,Nat.sub_zero,ji,ji,bp]
 by_cases hle:p.length<=l.length
 ·have q0:decide (((B p).size:Int)<=((B l).size:Int))=true:=by simp;omega
  have hb:((B (l.take p.length)).toList==(B p).toList)=Lib.hasPrefix l p:=by
   rw[jiX]
   unfold Lib.hasPrefix
   rw[jja,List.prefix_iff_eq_take,beq_iff_eq,jiu,jiu,ji,ji]
   exact eq_comm
  generalize Lib.hasPrefix l p=q at *
  generalize B (l.take p.length)=V at *
  generalize B l=X at *
  generalize B p=Y at *
  go_enter Tryz.func60,Tryz.ntmps60
  go_wp2_with fail
  go_ret
  exact⟨by rw[<- hb,<- hx,bp];rfl,rfl⟩
 have q0:decide (((B p).size:Int)<=((B l).size:Int))=false:=by simp;omega
 have hb:Lib.hasPrefix l p=false:=by
  cases q:Lib.hasPrefix l p with
  | false=>rfl
  | true =>
  unfold Lib.hasPrefix at q
  have:=(List.isPrefixOf_iff_prefix.1 q).length_le
  omega
 rw[hb]
 generalize B l=X at *
 generalize B p=Y at *
 go_enter Tryz.func60,Tryz.ntmps60
 go_wp2_with fail
 go_ret
 exact⟨rfl,rfl⟩
end Go.Proofs.YtmdhainabeljpaaGreatDoor
namespace Go.Proofs.YtmdhainabeljpaaGreatDoor
def jeL(eds:List Ed)(f:Fld):List Ed:=match eds.getLast? with | none=>eds | some e=>eds.dropLast++[⟨e.kind,e.id,e.fields++[f]⟩]
theorem Zb(p:List Ed)(e:Ed)(f:Fld):jeL (p++[e]) f=p++[⟨e.kind,e.id,e.fields++[f]⟩]:=by unfold jeL;simp
abbrev StD:=List Ed×List (List UInt8)
def zx(s:StD):Option StD:=if s.2=[] then some s else if jo s.2=0 then some (jeL s.1 (jF s.2,jE s.2),[]) else none
def VL(k:Int):List UInt8:=32::(zZ k++[32])
def Wu(s:List UInt8)(k:Int)(x:Ed):Ed:=if Lib.hasPrefix s (VL k) then (match numL (s.drop (VL k).length) with | some n=>⟨k,n,[]⟩ | none=>x) else x
def headD(s:List UInt8):Ed:=Wu s 3 (Wu s 2 (Wu s 1 ⟨0,0,[]⟩))
def yF(s:StD)(x:List UInt8):Option StD :=
 if Lib.hasPrefix x [32,32] then (if s.1=[] then none else some (s.1,s.2++[x.drop 2]))
 else if (headD x).kind=0\/40<=s.1.length then none else some (s.1++[headD x],s.2)
def qN(s:StD)(x:List UInt8):Option StD:=(if Lib.hasPrefix x [32,32,32] then some s else zx s).bind fun s=>yF s x
def xg:List (List UInt8)->StD->Option StD
 | [],s=>some s
 | x::r,s=>(qN s x).bind (xg r)
theorem yz(a b:List (List UInt8))(s:StD):xg (a++b) s=(xg a s).bind (xg b):=by
 induction a generalizing s with
 | nil=>rfl
 | cons x a ih =>
 show(qN s x).bind (xg (a++b))=((qN s x).bind (xg a)).bind (xg b)
 cases qN s x with
 | none=>rfl
 | some t=>exact ih t
theorem jaS{k i:Int}(hk:k=1\/k=2\/k=3)(hi:I64 i):headD (jV k i)=⟨k,i,[]⟩:=by
 have hn:numL (Lib.itoa i)=some i:=numL_some.2 ⟨hi,rfl⟩
 have own:∀x,Wu (jV k i) k x=⟨k,i,[]⟩:=fun x=>by
  unfold Wu
  have e:jV k i=VL k++Lib.itoa i:=by unfold jV VL;rw[if_pos hk];simp
  have hp:Lib.hasPrefix (jV k i) (VL k)=true:=by unfold Lib.hasPrefix;rw[e];simp
  rw[if_pos hp,e,jjj,hn]
 have oth:∀k' x,(k'=1\/k'=2\/k'=3)->k'≠k->Wu (jV k i) k' x=x:=fun k' x hk' hne=>by
  unfold Wu
  rw[if_neg]
  unfold Lib.hasPrefix jV VL
  rw[if_pos hk]
  rcases hk with rfl|rfl|rfl<;>rcases hk' with rfl|rfl|rfl<;>first|exact absurd rfl hne|simp[zZ,List.isPrefixOf]
 unfold headD
 rcases hk with rfl|rfl|rfl
 ·rw[oth 3 _ (by decide) (by decide),oth 2 _ (by decide) (by decide),own]
 ·rw[oth 3 _ (by decide) (by decide),own]
 rw[own]
def jdi(p:List Ed)(s:StD):Prop:=zx s=some (p,[])
theorem jbK{p:List Ed}{s:StD}(h:jdi p s){k i:Int}(hk:k=1\/k=2\/k=3)(hi:I64 i)(hl:p.length<40):qN s (jV k i)=some (p++[⟨k,i,[]⟩],[]):=by
 unfold qN
 have h2:=KE (id:=i) hk
 have h3:Lib.hasPrefix (jV k i) [32,32,32]=false:=by
  unfold jV Lib.hasPrefix
  rw[if_pos hk]
  rcases hk with rfl|rfl|rfl<;>simp[zZ,List.isPrefixOf]
 rw[h3]
 show(zx s).bind _=_
 rw[h]
 show yF _ _=_
 unfold yF
 rw[h2,jaS hk hi,if_neg (by simp),if_neg]
 simp only
 omega
theorem jak{p:List Ed}{s:StD}(h:jdi p s){x:List UInt8}(hx:x.head?≠some 32)(hp:p≠[]):qN s (yG x)=some (p,[x]):=by
 unfold qN
 have h3:Lib.hasPrefix (yG x) [32,32,32]=false:=by
  unfold yG Lib.hasPrefix
  cases x with
  | nil=>rfl
  | cons c r =>
  have:c≠32:=fun e=>hx (by rw[e];rfl)
  simp[List.isPrefixOf,Ne.symm this]
 have h2:Lib.hasPrefix (yG x) [32,32]=true:=by unfold yG Lib.hasPrefix;simp[List.isPrefixOf]
 rw[h3]
 show(zx s).bind _=_
 rw[h]
 show yF _ _=_
 unfold yF
 rw[h2,if_pos rfl,if_neg hp]
 rfl
theorem jbJ{s:StD}{x:List UInt8}(hx:x.head?=some 32)(hp:s.1≠[]):qN s (yG x)=some (s.1,s.2++[x]):=by
 unfold qN
 obtain⟨r,rfl⟩:∃r,x=32::r:=by
  cases x with
  | nil=>cases hx
  | cons c r=>cases hx;exact⟨r,rfl⟩
 have h3:Lib.hasPrefix (yG (32::r)) [32,32,32]=true:=by unfold yG Lib.hasPrefix;simp[List.isPrefixOf]
 have h2:Lib.hasPrefix (yG (32::r)) [32,32]=true:=by unfold yG Lib.hasPrefix;simp[List.isPrefixOf]
 rw[h3]
 show yF _ _=_
 unfold yF
 rw[h2,if_pos rfl,if_neg hp]
 rfl
theorem Yb:∀(r:List (List UInt8)) (s:StD),(∀x∈r,x.head?=some 32)->s.1≠[]->xg (r.map yG) s=some (s.1,s.2++r)
 | [],s,_,_=>by simp[xg]
 | x::r,s,h,hp=>by
  rw[jiP,xg,jbJ (h x jig) hp]
  show xg _ _=_
  rw[Yb r (s.1,s.2++[x]) (fun y hy=>h y (jif _ hy)) hp]
  simp
theorem KL(l:List UInt8):(jl l).head?=some 32:=by
 unfold jl
 split<;>rfl
theorem jaZ{k l:List UInt8}(hk:ju k=true):(zE k l).head?≠some 32:=by
 unfold ju at hk
 cases k with
 | nil=>simp at hk
 | cons c r =>
 simp only[jiL]at hk
 obtain⟨⟨⟨⟨⟨_,_⟩,hb⟩,_⟩,_⟩,_⟩:=hk
 have hc:c≠32:=fun e=>by subst e;simp[qV,zJ]at hb
 unfold zE
 split<;>simp[hc]
theorem Wx{p:List Ed}{e:Ed}{s:StD}(h:jdi (p++[e]) s){f:Fld}(hk:ju f.1=true)(hv:f.2.length<=1000):
  ∃s',xg ((jO f.1 f.2).map yG) s=some s'/\jdi (p++[⟨e.kind,e.id,e.fields++[f]⟩]) s':=by
 have hp:p++[e]≠[]:=by simp
 have e0:jO f.1 f.2=zE f.1 ((jp f.2).headD [])::(jp f.2).tail.map jl:=rfl
 refine⟨(p++[e],jO f.1 f.2),?_,?_⟩
 ·rw[e0,jiP,xg,jak h (jaZ hk) hp]
  show xg _ _=_
  rw[Yb _ (p++[e],[zE f.1 ((jp f.2).headD [])]) (fun x hx=>by obtain⟨y,_,rfl⟩:=List.mem_map.1 hx;exact KL y) hp]
  rfl
 obtain⟨u1,u2,u3⟩:=ZO hk hv
 unfold jdi zx
 rw[if_neg (by rw[e0];simp),if_pos u1,u2,u3,Zb]
theorem ZK:∀(fs:List Fld) {p:List Ed} {e:Ed} {s:StD},jdi (p++[e]) s->(∀f∈fs,ju f.1=true/\f.2.length<=1000) ->
  ∃s',xg ((jy fs).map yG) s=some s'/\jdi (p++[⟨e.kind,e.id,e.fields++fs⟩]) s'
 | [],p,e,s,h,_=>⟨s,rfl,by rw[jix];exact h⟩
 | f::fs,p,e,s,h,hg=>by
  obtain⟨hk,hv⟩:=hg f jig
  obtain⟨s1,r1,p1⟩:=Wx h hk hv
  obtain⟨s2,r2,p2⟩:=ZK fs p1 (fun x hx=>hg x (jif _ hx))
  refine⟨s2,?_,?_⟩
  ·have el:jy (f::fs)=jO f.1 f.2++jy fs:=by unfold jy;rw[jio]
   rw[el,ji1,yz,r1]
   exact r2
  simpa using p2
theorem Kc:∀(eds p:List Ed) (s:StD),jdi p s->(∀ed∈eds,zw ed=0/\I64 ed.id)->p.length+eds.length<=40->∃s',xg (zp eds) s=some s'/\jdi (p++eds) s'
 | [],p,s,h,_,_=>⟨s,rfl,by rw[jix];exact h⟩
 | ed::r,p,s,h,hg,hl=>by
  obtain⟨g,i⟩:=hg ed jig
  rw[jic]at hl
  have h1:=jbK h (Zu g) i (by omega)
  have gf:=Jd g
  obtain⟨s2,r2,p2⟩:=ZK ed.fields (p:=p) (e:=⟨ed.kind,ed.id,[]⟩) (s:=(p++[⟨ed.kind,ed.id,[]⟩],[])) (by unfold jdi zx;rw[if_pos rfl]) gf.each
  obtain⟨s3,r3,p3⟩:=Kc r (p++[ed]) s2 (by simpa using p2) (fun x hx=>hg x (jif _ hx)) (by rw[List.length_append];simp;omega)
  refine⟨s3,?_,by simpa using p3⟩
  have el:zp (ed::r)=jV ed.kind ed.id::((jy ed.fields).map yG++zp r):=by unfold zp;rw[jio];rfl
  rw[el,xg,h1]
  show xg _ _=_
  rw[yz,r2]
  exact r3
def jbi(ls:List (List UInt8)):Option (List Ed):=((xg ls ([],[])).bind zx).map Prod.fst
theorem ja2{eds:List Ed}(hg:∀ed∈eds,zw ed=0/\I64 ed.id)(hl:eds.length<=40):jbi (zp eds)=some eds:=by
 obtain⟨s,r,p⟩:=Kc eds [] ([],[]) (by unfold jdi zx;rw[if_pos rfl]) hg (by simpa using hl)
 unfold jbi
 rw[r]
 show(zx s).map _=_
 rw[p]
 rfl
def wL(ls:List (List UInt8)):Nat:=(ls.map fun x=>x.length+3).sum
def VD(xs:List (List UInt8)):Nat:=(xs.map fun x=>x.length+1).sum
theorem jbs(ls:List (List UInt8))(x:List UInt8):wL (ls++[x])=wL ls+(x.length+3):=by simp[wL]
structure OkD(t:Nat)(s:StD):Prop where
 cnt:∀ed∈s.1,5*ed.fields.length+wL s.2<=t
 fin:∀ed∈s.1,∀f∈ed.fields,f.1.length<=32/\f.2.length<=1000
 ids:∀ed∈s.1,I64 ed.id
 len:s.1.length<=40
 wt:wL s.2<=t
theorem OkD.mono{t t':Nat}{s:StD}(h:OkD t s)(ht:t<=t'):OkD t' s :=
 ⟨fun ed hm=>jiv (h.cnt ed hm) ht,h.fin,h.ids,h.len,jiv h.wt ht⟩
theorem jbu{ls:List (List UInt8)}(h:jo ls=0):5<=wL ls:=by
 unfold jo at h
 split at h
 ·rename_i hs
  obtain⟨a,r,rfl,hk,_⟩:=Zi hs
  have:2<=a.length:=by
   unfold jk at hk
   split at hk
   ·omega
   split at hk
   ·omega
   split at hk
   ·omega
   split at hk
   ·omega
   split at hk
   ·rename_i q
    obtain⟨q1,q2⟩:=q
    unfold ju at q2
    simp only[jiL,decide_eq_true_eq]at q2
    have hb:(before a).length<a.length:=by
     have h1:(before a).length<=a.length:=(ji9 _).length_le
     rcases jir (before a).length a.length with z|z
     ·exact z
     exfalso
     have e:before a=a:=List.Sublist.eq_of_length_le (ji9 _) z
     have hm:(58:UInt8)∈a:=by unfold qC at q1;simpa using q1
     rw[<- e]at hm
     have h2:∀(l:List UInt8),∀c∈l.takeWhile (· != 58),c≠58:=fun l=>by
      induction l with
      | nil=>intro c hc;cases hc
      | cons y r ih =>
      intro c hc
      rw[jiR]at hc
      split at hc
      ·rename_i hy
       rcases List.mem_cons.1 hc with z1|z1
       ·rw[z1];simpa using hy
       exact ih c z1
      cases hc
     exact h2 a 58 hm rfl
    omega
   omega
  unfold wL;rw[jiP,ji5];omega
 cases h
theorem GL{t:Nat}{s s':StD}(h:OkD t s)(hf:zx s=some s'):OkD t s'/\s'.2=[]:=by
 unfold zx at hf
 split at hf
 ·rename_i q
  injection hf with hf
  subst hf
  exact⟨h,q⟩
 split at hf
 ·rename_i q
  injection hf with hf
  subst hf
  refine⟨?_,rfl⟩
  have hw:=jbu q
  obtain⟨_,k1,k2⟩:=Qu q
  rcases jjH s.1 with h0|⟨p,e,h0⟩
  ·rw[h0]
   exact⟨fun ed hm=>by simp[jeL]at hm,fun ed hm=>by simp[jeL]at hm,fun ed hm=>by simp[jeL]at hm,by simp[jeL],jii _⟩
  rw[jjI]at h0
  have hc:=h.cnt
  have hfi:=h.fin
  have hi:=h.ids
  have hl:=h.len
  rw[h0]at hc hfi hi hl ⊢
  rw[Zb]
  refine⟨fun ed hm => ?_,fun ed hm => ?_,fun ed hm => ?_,by simpa using hl,jii _⟩
  ·rcases List.mem_append.1 hm with q1|q1
   ·have:=hc ed (jjt _ q1)
    show 5*ed.fields.length+0<=t
    omega
   rw[List.mem_singleton.1 q1]
   have:=hc e (jko _ jig)
   show 5*(e.fields++[_]).length+0<=t
   rw[jh7,jiS]
   omega
  ·rcases List.mem_append.1 hm with q1|q1
   ·exact hfi ed (jjt _ q1)
   rw[List.mem_singleton.1 q1]
   intro f hfm
   rcases List.mem_append.1 hfm with q2|q2
   ·exact hfi e (jko _ jig) f q2
   rw[List.mem_singleton.1 q2];exact⟨k1,k2⟩
  rcases List.mem_append.1 hm with q1|q1
  ·exact hi ed (jjt _ q1)
  rw[List.mem_singleton.1 q1];exact hi e (jko _ jig)
 cases hf
theorem Wt{s:List UInt8}{k:Int}{x:Ed}(h:I64 x.id/\x.fields=[]):I64 (Wu s k x).id/\(Wu s k x).fields=[]:=by
 unfold Wu
 split
 ·split
  ·rename_i n hn
   exact⟨(numL_some.1 hn).1,rfl⟩
  exact h
 exact h
theorem jd6(s:List UInt8):I64 (headD s).id/\(headD s).fields=[]:=Wt (Wt (Wt ⟨⟨by decide,by decide⟩,rfl⟩))
theorem jce{t:Nat}{s s':StD}{x:List UInt8}(h:OkD t s)(hs:Lib.hasPrefix x [32,32]=false->s.2=[])(hf:yF s x=some s'):OkD (t+(x.length+1)) s':=by
 unfold yF at hf
 split at hf
 ·rename_i q
  split at hf
  ·cases hf
  injection hf with hf
  subst hf
  have hx:2<=x.length:=by
   unfold Lib.hasPrefix at q
   exact(List.isPrefixOf_iff_prefix.1 q).length_le
  have hd:(x.drop 2).length+3=x.length+1:=by rw[jik];omega
  refine⟨fun ed hm => ?_,h.fin,h.ids,h.len,?_⟩
  ·have:=h.cnt ed hm
   show 5*ed.fields.length+wL (s.2++[x.drop 2])<=_
   rw[jbs];omega
  have:=h.wt
  show wL (s.2++[x.drop 2])<=_
  rw[jbs];omega
 rename_i q
 split at hf
 ·cases hf
 rename_i q2
 injection hf with hf
 subst hf
 have h0:=hs (by simpa using q)
 obtain⟨hi,hfl⟩:=jd6 x
 refine⟨fun ed hm => ?_,fun ed hm => ?_,fun ed hm => ?_,?_,?_⟩
 ·rcases List.mem_append.1 hm with q1|q1
  ·have:=h.cnt ed q1
   show 5*ed.fields.length+wL s.2<=_
   omega
  rw[List.mem_singleton.1 q1,hfl]
  show 0+wL s.2<=_
  rw[h0];simp[wL]
 ·rcases List.mem_append.1 hm with q1|q1
  ·exact h.fin ed q1
  rw[List.mem_singleton.1 q1,hfl];intro f hfm;cases hfm
 ·rcases List.mem_append.1 hm with q1|q1
  ·exact h.ids ed q1
  rw[List.mem_singleton.1 q1];exact hi
 ·show(s.1++[headD x]).length<=40
  rw[jh7,jiS];omega
 have:=h.wt
 show wL s.2<=_
 omega
theorem jfp{t:Nat}{s s':StD}{x:List UInt8}(h:OkD t s)(hf:qN s x=some s'):OkD (t+(x.length+1)) s':=by
 unfold qN at hf
 split at hf
 ·rename_i q
  refine jce h (fun q2 => ?_) hf
  unfold Lib.hasPrefix at q q2
  have h1:=List.isPrefixOf_iff_prefix.1 q
  have h2:([32,32]:List UInt8) <+: x:=List.IsPrefix.trans ⟨[32],rfl⟩ h1
  rw[List.isPrefixOf_iff_prefix.2 h2]at q2
  cases q2
 cases hs:zx s with
 | none=>rw[hs]at hf;cases hf
 | some s1 =>
 rw[hs]at hf
 obtain⟨o1,o2⟩:=GL h hs
 exact jce o1 (fun _=>o2) hf
theorem jeX:∀(xs:List (List UInt8)) {t:Nat} {s s':StD},OkD t s->xg xs s=some s'->OkD (t+VD xs) s'
 | [],t,s,s',h,hr=>by
  injection hr with hr
  subst hr
  exact h
 | x::r,t,s,s',h,hr=>by
  rw[xg]at hr
  cases hs:qN s x with
  | none=>rw[hs]at hr;cases hr
  | some s1 =>
  rw[hs]at hr
  have:=jeX r (jfp h hs) hr
  have e:VD (x::r)=x.length+1+VD r:=by unfold VD;rw[jiP,ji5]
  rw[e,<- jjL]
  exact this
theorem jb1:OkD 0 ([],[]):=⟨(fun ed hm=>by cases hm),(fun ed hm=>by cases hm),(fun ed hm=>by cases hm),jii _,jh6 _⟩
end Go.Proofs.YtmdhainabeljpaaGreatDoor
namespace Go.Proofs.YtmdhainabeljpaaGreatDoor
open Go.RowKit Go.Shelf
theorem jgS(a b:List UInt8)(j:ByteArray):(⟨a.toArray⟩:ByteArray)++j ++ ⟨b.toArray⟩=⟨(a++j.data.toList++b).toArray⟩:=by
 rw[<- Xl,<- Xl,jjX j]
theorem je6(pre:List Ln)(x:Ln):Value.int .i64 ((pre.length:Int)+1)=Value.int .i64 ((pre++[x]).length:Nat):=by rw[jh7];rfl
theorem jeE(l:List UInt8):∀x∈jf l,x.bytes.length<=l.length:=by
 intro x hx
 have e:=jB l
 obtain⟨a,b,hab⟩:=jjT hx
 rw[hab,jiG,jio]at e
 have:=congrArg List.length e
 simp only[jh7]at this
 omega
theorem jdx{W:World}{base g cap:Nat}{xs pre post:List Ln}{x:Ln}(h:W.ownsRow base 60 4 (.slice (some ⟨g,0,none⟩) xs.length cap) xs.length (cellsOf xs))(hx:xs=pre++x::post):
  W.cell? ⟨g,pre.length*4,none⟩=some (.int .i64 x.no)/\W.cell? ⟨g,pre.length*4+1,none⟩=some (.int .i64 x.at_)/\W.cell? ⟨g,pre.length*4+1+1,none⟩=some (.string ⟨x.text.toArray⟩)/\W.cell? ⟨g,pre.length*4+1+1+1,none⟩=some (.bool x.ended):=by
 have hrow:∀j u,j<4->(zO x).toList[j]?=some u->W.cell? ⟨g,pre.length*4+j,none⟩=some u:=fun j u hj hu=>by
  have:=h.cells (g:=g) rfl (pre.length*4+j) u (by rw[hx,qU _ _ _ _ hj];exact hu)
  have hadd:(⟨g,0,none⟩:Addr).add (pre.length*4+j)=⟨g,pre.length*4+j,none⟩:=by unfold Addr.add;split<;>simp_all
  rwa [hadd]at this
 exact⟨hrow 0 _ (by omega) rfl,hrow 1 _ (by omega) rfl,hrow 2 _ (by omega) rfl,hrow 3 _ (by omega) rfl⟩
theorem Xd(s j:ByteArray)(hs:s.size<=1000000)(hj:j.size<=1000000)(w:World):
  Calls Tryz.prog 99 #[.string s,.string j] w fun e w'=>e=.returned (.string ⟨(xn j.data.toList (jf s.data.toList)).toArray⟩)/\Below w.heap.size w w':=by
 obtain⟨xs,hxs⟩:∃xs,jf s.data.toList=xs:=⟨_,rfl⟩
 have hll:=zD s.data.toList
 rw[<- jij]at hll
 have hpos:=jeE s.data.toList
 rw[<- jij]at hpos
 rw[hxs]at hll hpos ⊢
 have HPOS:=jh5 hpos
 have HXS:=jh5 hxs
 clear hxs hpos
 go_enter Tryz.func99,Tryz.ntmps99
 go_wp2_with fail
 refine(vR s hs w).mono ?_
 rintro e w2 ⟨v,rfl,hown,a2⟩
 rw[HXS.out]at hown
 obtain⟨ao,cap,rfl⟩:=jfy hown
 go_wp2_with fail
 go_loopw [5,11] (fun o i wr=>∃(pre post:List Ln),xs=pre++post/\o=.string ⟨(xn j.data.toList pre).toArray⟩/\i=.int .i64 (pre.length:Nat)/\wr.ownsRow w.heap.size 60 4 (.slice ao xs.length cap) xs.length (cellsOf xs)/\Below w.heap.size w wr)
  (fun _ i _=>xs.length-(intOf i).toNat)
 case atStart=>exact⟨[],xs,rfl,rfl,rfl,hown,a2⟩
 case round =>
 obtain⟨pre,post,hx,rfl,rfl,hw,hb⟩:=hrel
 cases post with
 | nil =>
  have e:pre.length=xs.length:=by rw[hx];simp
  have HX:=jh5 hx
  clear hx
  go_wp2
  go_ret
  refine⟨?_,hb⟩
  rw[HX.out,jix]
  rfl
 | cons x post =>
 have hlt:pre.length<xs.length:=by rw[hx];simp
 obtain⟨g,rfl⟩:∃g,ao=some ⟨g,0,none⟩:=by
  rcases hw.2 with ⟨_,h0⟩|⟨g,cap,cur,hv,_⟩
  ·omega
  exact⟨g,by cases hv;rfl⟩
 obtain⟨r0,r1,r2,r3⟩:=jdx hw hx
 have hlen:(xn j.data.toList (pre++[x])).length<=1000000*(2*1000000):=by
  refine Xp _ 1000000 1000000 _ (fun y hy=>jiv (HPOS.out y ?_) hs) ?_ (by rw[<- jij];exact hj)
  ·rw[hx]
   rcases List.mem_append.1 hy with h|h
   ·exact jjt _ h
   rw[List.mem_singleton.1 h];simp
  simp;omega
 rw[JM]at hlen
 simp only[jh7,<- jij]at hlen
 have hen:(Vj x.ended).size<=1:=by unfold Vj;cases x.ended<;>decide
 have hjn:(xn j.data.toList pre).length+j.size+x.text.length+1<=2000000000001:=by omega
 clear hlen hen
 have HX:=jh5 hx
 clear hx
 have HS:=jh5 (JM j.data.toList pre x)
 have hmt:=jgS (xn j.data.toList pre) x.text j
 have HMT:=jh5 hmt
 clear hmt
 cases he:x.ended
 ·rw[he]at r3
  have hn:xn j.data.toList (pre++[x])=xn j.data.toList pre++j.data.toList++x.text:=by rw[HS.out,he];simp[Vj]
  have HN:=jh5 hn
  clear hn
  go_wp2
  go_roundw
  case rel =>
   refine⟨pre++[x],post,HX.out.trans (by simp),?_,je6 pre x,hw.alloc _,hb.alloc hb.size _⟩
   rw[HMT.out,HN.out]
  case measure=>simp[intOf]<;>omega
 rw[he]at r3
 have hn:xn j.data.toList (pre++[x])=(xn j.data.toList pre++j.data.toList++x.text)++[10]:=by rw[HS.out,he];simp[Vj]
 have HN:=jh5 hn
 clear hn
 go_wp2
 go_roundw
 case rel =>
  refine⟨pre++[x],post,HX.out.trans (by simp),?_,je6 pre x,hw.alloc _,hb.alloc hb.size _⟩
  rw[HMT.out,HN.out]
  exact congrArg Value.string (Xl _ [10])
 case measure=>simp[intOf]<;>omega
end Go.Proofs.YtmdhainabeljpaaGreatDoor
namespace Go.Proofs.YtmdhainabeljpaaGreatDoor
def zG(l:List UInt8):List (List UInt8):=(jf l).map Ln.text
theorem jeU:∀(xs:List Ln),wf xs->VD (xs.map Ln.text)<=(xs.flatMap Ln.bytes).length+1
 | [],_=>by simp[VD]
 | x::xs,h=>by
  obtain⟨_,h2,h3⟩:=h
  have ih:=jeU xs h3
  have e:VD ((x::xs).map Ln.text)=x.text.length+1+VD (xs.map Ln.text):=by unfold VD;rw[jiP,jiP,ji5]
  rw[e,jio,jh7]
  rcases h2 with q|⟨rfl,_⟩
  ·have:x.bytes.length=x.text.length+1:=by unfold Ln.bytes;rw[q];simp
   omega
  have:x.text.length<=x.bytes.length:=by unfold Ln.bytes;simp
  have:VD (([]:List Ln).map Ln.text)=0:=rfl
  omega
theorem Yv(l:List UInt8):VD (zG l)<=l.length+1:=by
 have:=jeU _ (VW l)
 rw[jB]at this
 exact this
theorem Gr:∀(ls:List (List UInt8)) (no c:Nat),(num no c ls).map Ln.text=ls
 | [],_,_=>rfl
 | l::r,no,c=>by
  show l::(num (no+1) (c+l.length+1) r).map Ln.text=l::r
  rw[Gr r]
theorem WV{ls:List (List UInt8)}(h:∀l∈ls,(10:UInt8)∉l):zG (jr ls)=ls:=by
 unfold zG
 show(jS 0 0 (jr ls)).map _=_
 rw[yE ls 0 0 h,Gr]
theorem jdr(xs:List (List UInt8))(k:Nat):VD (xs.take k)<=VD xs:=by
 have e:VD xs=VD (xs.take k)+VD (xs.drop k):=by
  conv=>lhs;rw[<- jiy k xs]
  unfold VD;rw[ji1,List.sum_append]
 omega
theorem Ke{xs:List (List UInt8)}{k:Nat}{x:List UInt8}{s:StD}(hx:xs[k]?=some x)(h:xg (xs.take k) ([],[])=some s):xg (xs.take (k+1)) ([],[])=qN s x:=by
 rw[jiK,hx]
 show xg (xs.take k++[x]) _=_
 rw[yz,h]
 show(qN s x).bind (xg [])=_
 cases qN s x<;>rfl
theorem YW{xs:List (List UInt8)}{k:Nat}{x:List UInt8}{s:StD}(hx:xs[k]?=some x)(h:xg (xs.take k) ([],[])=some s)(hs:qN s x=none):jbi xs=none:=by
 have e:xg xs ([],[])=none:=by
  conv=>lhs;rw[<- jiy (k+1) xs]
  rw[yz,Ke hx h,hs]
  rfl
 unfold jbi
 rw[e];rfl
theorem jgr{l:List UInt8}{k:Nat}{s:StD}(h:xg ((zG l).take k) ([],[])=some s):OkD (l.length+1) s:=by
 have h1:=jeX _ jb1 h
 have h2:=jdr (zG l) k
 have h3:=Yv l
 exact h1.mono (by omega)
theorem jcN{l:List UInt8}{eds:List Ed}(h:jbi (zG l)=some eds):OkD (l.length+1) (eds,[]):=by
 unfold jbi at h
 cases hr:xg (zG l) ([],[]) with
 | none=>rw[hr]at h;cases h
 | some s =>
 rw[hr]at h
 have h1:OkD (l.length+1) s:=jgr (k:=(zG l).length) (by rw[jiF];exact hr)
 cases hf:zx s with
 | none =>
  have h':(zx s).map Prod.fst=some eds:=h
  rw[hf]at h';cases h'
 | some t =>
 have h':(zx s).map Prod.fst=some eds:=h
 rw[hf]at h'
 obtain⟨o1,o2⟩:=GL h1 hf
 obtain⟨t1,t2⟩:=t
 cases h'
 simp only at o2
 subst o2
 exact o1
theorem jcO{l:List UInt8}{eds:List Ed}(h:Jt l=some eds):jbi (zG l)=some eds:=by
 obtain⟨_,hb,hi,rfl⟩:=JU.1 h
 obtain⟨⟨_,n40⟩,hg⟩:=xy hb
 have e:zG (jC eds)=zp eds:=WV (JY hg)
 rw[e]
 exact ja2 (fun ed hm=>⟨hg ed hm,hi ed hm⟩) n40
theorem Vm{l:List UInt8}(h:jbi (zG l)=none):Jt l=none:=by
 cases hd:Jt l with
 | none=>rfl
 | some eds=>rw[jcO hd]at h;cases h
theorem jes{l:List UInt8}{eds:List Ed}(hl:l.length<=50000)(h:jbi (zG l)=some eds):Jt l=if (yx eds).2=0/\jC eds=l then some eds else none:=by
 by_cases hq:(yx eds).2=0/\jC eds=l
 ·rw[if_pos hq]
  exact JU.2 ⟨hl,hq.1,(jcN h).ids,hq.2⟩
 rw[if_neg hq]
 cases hd:Jt l with
 | none=>rfl
 | some x =>
 have e:=jcO hd
 rw[h]at e
 cases e
 obtain⟨_,h1,_,h2⟩:=JU.1 hd
 exact absurd ⟨h1,h2⟩ hq
theorem jaC{l:List UInt8}(hl:l.length<=1000000){s:StD}(h:OkD (l.length+1) s):Wp s.1:=fun ed hm =>
 ⟨by have:=h.cnt ed hm;omega,fun f hf=>by have:=h.fin ed hm f hf;omega⟩
end Go.Proofs.YtmdhainabeljpaaGreatDoor
