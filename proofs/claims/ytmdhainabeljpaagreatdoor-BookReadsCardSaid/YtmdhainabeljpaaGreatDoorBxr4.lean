/- Texts put together:DE,CB,CC,CD,DF. -/
import Derived.WideShapes
import Derived.Deep.WholeRow
import Derived.Test.YtmdhainabeljpaaGreatDoorBxr2
import Derived.Test.YtmdhainabeljpaaGreatDoorBxr3
set_option linter.unusedVariables false
set_option maxRecDepth 100000
set_option maxHeartbeats 16000000
namespace Go.Proofs.YtmdhainabeljpaaGreatDoor
abbrev jh5:=@Go.Lib.hid
abbrev jh9:=@Option.some.inj
abbrev jij:=@Go.Lib.size_eq
abbrev jil:=@Go.Oper.semAt_some
abbrev jim:=@List.mem_of_getElem?
abbrev jiu:=@Go.Lib.toList_data
abbrev jiz:=@Go.IntWalk.i64_in
abbrev jiI:=@Array.getElem?_eq_none
abbrev jiK:=@List.take_add_one
abbrev jiM:=@Array.getElem?_setIfInBounds
abbrev jiN:=@ByteArray.size_append
abbrev jiZ:=@List.getElem?_drop
abbrev ji0:=@List.drop_of_length_le
abbrev jjb:=@Go.Lib.decDigits_length
abbrev jjc:=@Go.Lib.itoa_nonneg
abbrev jjk:=@Go.World.cell?_alloc_at
abbrev jjv:=@Go.Lib.decDigits_one
abbrev jjD:=@Go.Lib.nDigits_le20
abbrev jjF:=@Nat.eq_zero_or_pos
abbrev jjJ:=@Array.getElem?_modify
abbrev jjM:=@Go.IntWalk.wrap64_in
abbrev jjP:=@Go.IntKind.wrap_u64
abbrev jjU:=@Array.ext_getElem?
abbrev jjW:=@List.head?_eq_getElem?
abbrev jkn:=@Go.Sort.heap_grow_old
end Go.Proofs.YtmdhainabeljpaaGreatDoor
namespace Go.Proofs.YtmdhainabeljpaaGreatDoor.Fr
open Go.RowKit Go.Shelf
attribute [local go_sem] jil
theorem vD{P:Program}{w w':World}{N:Nat}{name:String}{cs:Array Value}(h:w.var? P name=some cs)(hb:Below N w w')(hN:w.heap.size<=N):w'.var? P name=some cs:=by
 unfold World.var? at *
 cases hg:P.globalNamed name with
 | none=>simp[hg]at h
 | some g =>
 simp only[hg,Option.bind_some]at h ⊢
 have hlt:g<w.heap.size:=by
  rcases jir g w.heap.size with h'|h'
  ·exact h'
  rw[jiI h']at h;simp at h
 rw[hb.block g (by omega)]
 exact h
structure TabsN(w:World):Prop where
 pow:Lib.TabIs Tryz.prog w "internal/strconv.uint64pow10" .u64 Lib.pow10Tab
 syn:∃tp p,w.var? Tryz.prog "strconv.ErrSyntax" = some #[.iface tp p]
 ran:∃tp p,w.var? Tryz.prog "strconv.ErrRange" = some #[.iface tp p]
theorem TabsN.below{w w':World}{N:Nat}(h:TabsN w)(hb:Below N w w')(hN:w.heap.size<=N):TabsN w':=by
 obtain⟨a,⟨t1,p1,c⟩,⟨t2,p2,d⟩⟩:=h
 exact⟨vD a hb hN,⟨t1,p1,vD c hb hN⟩,⟨t2,p2,vD d hb hN⟩⟩
theorem xw{N:Nat}{w w':World}(h:Below N w w'){p:Addr}(hp:N<=p.block)(k:Nat):Below N w (w'.freeze p k):=by
 unfold World.freeze
 by_cases hk:k=0
 ·rw[if_pos hk];exact h
 rw[if_neg hk]
 refine⟨h.os,h.tape,h.output,?_,fun j hj => ?_⟩
 ·simp;exact h.size
 simp only[jjJ]
 rw[if_neg (by omega)]
 exact h.block j hj
theorem Jq(w:World)(e:TypeId)(s:ByteArray):Below w.heap.size w (Lib.bytesWorld w e s):=by
 unfold Lib.bytesWorld
 exact xw ((jh8 _ w).drew.alloc (jh6 _) _) (jh6 _) _
theorem atoi_any(l:List UInt8)(hl:l.length<=1000000)(w:World)(ht:TabsN w):
  Calls Tryz.prog 67 #[.string (B l)] w fun e w'=>(∃T q,e=.returned (.tuple #[.int .i64 (zX l),.nilIface])\/e=.returned (.tuple #[.int .i64 (zX l),.iface T q]))/\Below w.heap.size w w':=by
 cases h:Lib.atoiAll l with
 | ok v =>
  refine(Tryz.strconv_Atoi_ok (B l) (by rw[je];omega) v (by rw[ji];exact h) w).mono ?_
  rintro e w' ⟨rfl,hw⟩
  refine⟨⟨0,undef,.inl (by unfold zX;rw[h])⟩,?_⟩
  rcases hw with rfl|⟨t,rfl⟩
  ·exact jh8 _ _
  exact Jq _ _ _
 | range =>
  obtain⟨tp,p,hv⟩:=ht.ran
  refine(Tryz.strconv_Atoi_range_var (B l) (by rw[je];omega) (by rw[ji];exact h) tp p w hv).mono ?_
  rintro e w' ⟨N,rfl,_,_,hb⟩
  exact⟨⟨_,_,.inr (by unfold zX;rw[h,ji])⟩,hb⟩
 | _ =>
 obtain⟨tp,p,hv⟩:=ht.syn
 refine(Tryz.strconv_Atoi_syntax_var (B l) (by rw[je];omega) (by rw[ji];exact h) tp p w hv).mono ?_
 rintro e w' ⟨N,rfl,_,_,hb⟩
 exact⟨⟨_,_,.inr (by unfold zX;rw[h])⟩,hb⟩
theorem qZ(u:Nat)(hu:u<18446744073709551616)(w:World):Calls Tryz.prog 129 #[.int .u64 u] w fun e w'=>e=.returned (.string (B (Lib.decDigits u)))/\w'=w:=by
 induction u using Nat.strongRecOn generalizing w with
 | _ u ih =>
 by_cases h:u<10
 ·rw[jjv h]
  clear ih hu
  obtain rfl|rfl|rfl|rfl|rfl|rfl|rfl|rfl|rfl|rfl:u=0\/u=1\/u=2\/u=3\/u=4\/u=5\/u=6\/u=7\/u=8\/u=9:=by omega
  all_goals
   go_enter Tryz.func129,Tryz.ntmps129
   go_wp2_with fail
   go_ret
   exact⟨by kernel_rfl,rfl⟩
 have q:¬(u:Int)<10:=by omega
 have I1:=jh5 (ih (u / 10) (by omega) (by omega))
 have I2:=jh5 (ih (u % 10) (by omega) (by omega))
 rw[Int.natCast_ediv]at I1
 rw[Int.natCast_emod]at I2
 have E:Hid (B (Lib.decDigits (u / 10))++B (Lib.decDigits (u % 10))=B (Lib.decDigits u)):=by
  show _=_
  rw[jj,jjv (i:=u % 10) (by omega)]
  congr 1
  conv=>rhs;rw[Lib.decDigits,dif_neg h]
 have S1:(B (Lib.decDigits (u / 10))).size<=30:=by
  rw[je,jjb]
  have:=jjD (u / 10) (by omega)
  omega
 have S2:(B (Lib.decDigits (u % 10))).size<=30:=by rw[je,jjv (by omega)];exact(by decide:1<=30)
 clear ih
 generalize B (Lib.decDigits (u / 10))=x at *
 generalize B (Lib.decDigits (u % 10))=y at *
 go_enter Tryz.func129,Tryz.ntmps129
 go_wp2_with fail
 refine(I1.out _).mono ?_
 rintro e w1 ⟨rfl,rfl⟩
 go_wp2_with fail
 refine(I2.out _).mono ?_
 rintro e w1 ⟨rfl,rfl⟩
 go_wp2_with fail
 go_ret
 exact⟨by rw[<- E.out];rfl,rfl⟩
theorem figures_any(n:Int)(hn:I64 n)(w:World):Calls Tryz.prog 93 #[.int .i64 n] w fun e w'=>e=.returned (.string (B (Lib.itoa n)))/\w'=w:=by
 obtain⟨h0,h1⟩:=hn
 by_cases h:n<0
 ·obtain⟨u,rfl⟩:∃u:Nat,n = -((u:Int)+1):=⟨(-n-1).toNat,by omega⟩
  have q : -((u:Int)+1)<0:=by omega
  have w1:IntKind.i64.wrap (-((u:Int)+1)+1) = -(u:Int):=by rw[show -((u:Int)+1)+1 = -(u:Int) by omega];exact jiz _ (by omega)
  have w2:IntKind.i64.wrap (u:Int)=(u:Int):=jiz _ (by omega)
  have w3:IntKind.u64.wrap (u:Int)=(u:Int):=by rw[jjP];omega
  have w4:IntKind.u64.wrap ((u:Int)+1)=(u:Int)+1:=by rw[jjP];omega
  have I1:=jh5 (qZ (u+1) (by omega) w)
  rw[Int.natCast_add,show((1:Nat):Int)=1 from rfl]at I1
  have E:Hid ((⟨#[45]⟩:ByteArray)++B (Lib.decDigits (u+1))=B (Lib.itoa (-((u:Int)+1)))):=by
   show _=_
   rw[show -((u:Int)+1) = -((u+1:Nat):Int) by omega,Lib.itoa_neg _ (by omega),show(⟨#[45]⟩:ByteArray)=B [45] from rfl,jj];rfl
  have S1:(B (Lib.decDigits (u+1))).size<=30:=by
   rw[je,jjb]
   have:=jjD (u+1) (by omega)
   omega
  generalize B (Lib.decDigits (u+1))=x at *
  go_enter Tryz.func93,Tryz.ntmps93
  go_wp2_with fail
  refine I1.out.mono ?_
  rintro e w1 ⟨rfl,rfl⟩
  go_wp2_with fail
  go_ret
  exact⟨by rw[<- E.out];rfl,rfl⟩
 obtain⟨u,rfl⟩:∃u:Nat,n=(u:Int):=⟨n.toNat,by omega⟩
 have w3:IntKind.u64.wrap (u:Int)=(u:Int):=by rw[jjP];omega
 have I1:=jh5 (qZ u (by omega) w)
 rw[jjc]
 generalize B (Lib.decDigits u)=x at *
 go_enter Tryz.func93,Tryz.ntmps93
 go_wp2_with fail
 refine I1.out.mono ?_
 rintro e w1 ⟨rfl,rfl⟩
 go_wp2_with fail
 go_ret
 exact⟨rfl,rfl⟩
def numL(l:List UInt8):Option Int:=if -9223372036854775808<=zX l/\zX l<=9223372036854775807/\Lib.itoa (zX l)=l then some (zX l) else none
theorem numL_some{l:List UInt8}{i:Int}:numL l=some i↔I64 i/\Lib.itoa i=l:=by
 unfold numL
 constructor
 ·intro h
  split at h
  ·rename_i q
   injection h with h
   subst h
   exact⟨⟨q.1,q.2.1⟩,q.2.2⟩
  cases h
 rintro⟨h1,rfl⟩
 rw[qW h1,if_pos ⟨h1.1,h1.2,rfl⟩]
theorem QQ{l:List UInt8}(h:∀i,I64 i->Lib.itoa i≠l):numL l=none:=by
 cases e:numL l with
 | none=>rfl
 | some i=>exact absurd (numL_some.1 e).2 (h i (numL_some.1 e).1)
def numEnd(l:List UInt8):Ending:=.returned (.tuple #[.int .i64 ((numL l).getD 0),.bool (numL l).isSome])
theorem ql{l:List UInt8}(h:∀i,I64 i->Lib.itoa i≠l):numEnd l=.returned (.tuple #[.int .i64 0,.bool false]):=by unfold numEnd;rw[QQ h];rfl
theorem yo{l:List UInt8}{i:Int}(h:I64 i)(e:Lib.itoa i=l):numEnd l=.returned (.tuple #[.int .i64 i,.bool true]):=by unfold numEnd;rw[numL_some.2 ⟨h,e⟩];rfl
theorem Vl(u:Nat)(h:u<18446744073709551616):1<=(Lib.decDigits u).length/\(Lib.decDigits u).length<=20:=by
 refine⟨?_,by rw[jjb];exact jjD u h⟩
 rcases jjF (Lib.decDigits u).length with q|q
 ·exact absurd (List.length_eq_zero_iff.1 q) (YI u)
 exact q
theorem Xn{i:Int}(h:I64 i):1<=(Lib.itoa i).length/\(Lib.itoa i).length<=20:=by
 obtain⟨h0,h1⟩:=h
 have hnd:∀u:Nat,u<=9223372036854775808->(Lib.decDigits u).length<=19:=fun u hu=>by
  rcases jir 19 (Lib.decDigits u).length with q|q
  ·exfalso
   rw[jjb]at q
   have:∀n u:Nat,n<Lib.nDigits u->10 ^ n<=u\/n=0:=by
    intro n
    induction n with
    | zero=>exact fun _ _=>.inr rfl
    | succ n ih =>
    intro u hq
    rw[Lib.nDigits]at hq
    split at hq
    ·omega
    rcases ih (u / 10) (by omega) with z|z
    ·left;rw[jkc];omega
    subst z;left;omega
   rcases this 19 u q with z|z
   ·have:(10:Nat) ^ 19=10000000000000000000:=by decide
    omega
   omega
  exact q
 unfold Lib.itoa
 split
 ·rw[jic]
  have:=hnd i.natAbs (by omega)
  omega
 exact⟨(Vl _ (by omega)).1,(Vl _ (by omega)).2⟩
theorem Wq(z:Int):I64 (wrap64 z):=by unfold I64 wrap64;omega
theorem yq{i:Int}(hi:I64 i){l:List UInt8}(h:Lib.itoa i=l)(a:Nat)(ha:a=if l.head?=some 45 then 1 else 0):
  ∃u:Nat,u<=9223372036854775808/\l.drop a=Lib.decDigits u/\i=(if a=1 then -(u:Int) else u):=by
 obtain⟨h0,h1⟩:=hi
 subst h
 by_cases hn:i<0
 ·have e:Lib.itoa i=45::Lib.decDigits i.natAbs:=by unfold Lib.itoa;rw[if_pos hn]
  rw[e]at ha ⊢
  rw[if_pos (by rfl)]at ha
  subst ha
  exact⟨i.natAbs,by omega,rfl,by simp;omega⟩
 have e:Lib.itoa i=Lib.decDigits i.toNat:=by unfold Lib.itoa;rw[if_neg hn]
 have hd:(Lib.decDigits i.toNat).head?≠some 45:=fun q=>by
  have:=jZ i.toNat 45 (List.mem_of_mem_head? q)
  simp at this
 rw[e]at ha ⊢
 rw[if_neg hd]at ha
 subst ha
 exact⟨i.toNat,by omega,rfl,by simp;omega⟩
theorem JI{u:Nat}(hu:u<=9223372036854775808){ds:List UInt8}(hd:ds=Lib.decDigits u){j:Nat}{x:UInt8}(hx:ds[j]?=some x):
  wrap64 (wrap64 (10*xj 0 (ds.take j))-((x.toNat:Int)-48))=xj 0 (ds.take (j+1)):=by
 subst hd
 have e:(Lib.decDigits u).take (j+1)=(Lib.decDigits u).take j++[x]:=by rw[jiK,hx];rfl
 obtain⟨m',e',hm'⟩:=xJ u (j+1)
 obtain⟨m,e1,hm⟩:=xJ u j
 have hxd:=jZ u x (jim hx)
 rw[e,Zs,e1]at e' ⊢
 rw[jjM (10 * -(m:Int)) (by omega),jjM _ (by omega)]
theorem Zr(s:ByteArray)(h1:1<=s.size)(h20:s.size<=20)(hq:((s[0].toNat:Int)==45)=true)(w:World):
  Calls Tryz.prog 44 #[.string s] w fun e w'=>e=numEnd s.data.toList/\w'=w:=by
 have h2:decide ((s.size:Int)<1)=false:=by simp;omega
 have h3:decide (20<(s.size:Int))=false:=by simp;omega
 have AT:∀(k:Nat) (h:k<s.size),s.data.toList[k]?=some s[k]:=fun k h=>by
  rw[jia (by rw[<- jij];exact h)];rfl
 have hhd:s.data.toList.head?=some s[0]:=by rw[jjW];exact AT 0 (by omega)
 have hA:1=if s.data.toList.head?=some 45 then 1 else 0:=by
  rw[hhd]
  rw[if_pos (by congr 1;apply UInt8.toNat_inj.1;have e3:(45:UInt8).toNat=45:=rfl;have:=eq_of_beq hq;omega)]
 have PT:Hid (∀i,I64 i->Lib.itoa i=s.data.toList->∃u:Nat,u<=9223372036854775808/\s.data.toList.drop 1=Lib.decDigits u/\i=(if 1=1 then -(u:Int) else u)):=fun i hi e=>yq hi e 1 hA
 have HAT:=jh5 AT
 have hlen:s.data.toList.length=s.size:=(jij s).symm
 clear AT hA hhd
 go_enter Tryz.func44,Tryz.ntmps44
 go_wp2_with fail
 go_loop [5,6] (fun o i=>∃(j:Nat) (z:Int),1<=j/\j<=s.size/\i=.int .i64 j/\o=.int .i64 z/\I64 z/\((∃i,I64 i/\Lib.itoa i=s.data.toList)->z=xj 0 ((s.data.toList.drop 1).take (j-1)))) (fun _ i=>s.size-(intOf i).toNat)
 case atStart=>exact⟨1,0,jh6 _,by omega,rfl,rfl,⟨by decide,by decide⟩,fun _=>rfl⟩
 case round =>
 obtain⟨j,z,hj1,hj,rfl,rfl,hz,hnum⟩:=hrel
 obtain⟨z0,z1⟩:=_root_.id hz
 by_cases hlt:j<s.size
 ·have hb:=s[j].toNat_lt
  have hx:=HAT.out j hlt
  by_cases hr:¬(48<=s[j].toNat/\s[j].toNat<=57)
  ·have NO:=jh5 (ql (l:=s.data.toList) (fun i hi e=>by
    obtain⟨u,_,hd,_⟩:=PT.out i hi e
    have hm:s[j]∈s.data.toList.drop 1:=jim (i:=j-1) (by rw[jiZ,show 1+(j-1)=j by omega];exact hx)
    rw[hd]at hm
    exact hr (jZ u _ hm)))
   clear hnum hx hz
   by_cases hc:s[j].toNat<48
   ·have q1:decide ((s[j].toNat:Int)<48)=true:=by simp;omega
    go_wp2_with fail
    go_ret2
    exact⟨by rw[NO.out];rfl,rfl⟩
   have q1:decide ((s[j].toNat:Int)<48)=false:=by simp;omega
   have q2:decide (57<(s[j].toNat:Int))=true:=by simp;omega
   go_wp2_with fail
   go_ret2
   exact⟨by rw[NO.out];rfl,rfl⟩
  replace hr:=Classical.not_not.1 hr
  have q1:decide ((s[j].toNat:Int)<48)=false:=by simp;omega
  have q2:decide (57<(s[j].toNat:Int))=false:=by simp;omega
  have ST:Hid ((∃i,I64 i/\Lib.itoa i=s.data.toList)->wrap64 (wrap64 (10*z)-((s[j].toNat:Int)-48))=xj 0 ((s.data.toList.drop 1).take (j+1-1))):=fun hex=>by
   obtain⟨i,hi,e⟩:=_root_.id hex
   obtain⟨u,hu,hd,_⟩:=PT.out i hi e
   rw[hnum hex,show j+1-1=(j-1)+1 by omega]
   exact JI hu hd (by rw[jiZ,show 1+(j-1)=j by omega];exact hx)
  clear hnum hx
  go_wp2_with fail
  go_round
  case rel=>exact⟨j+1,_,by omega,hlt,by go_num,rfl,Wq _,ST.out⟩
  case measure=>simp[intOf];omega
 obtain rfl:j=s.size:=by omega
 obtain⟨z2,hz2⟩:∃z2,z2=z:=⟨_,rfl⟩
 have hI:I64 z2:=by rw[hz2];exact hz
 have UN:∀i,I64 i->Lib.itoa i=s.data.toList->z2=i:=fun i hi e=>by
  obtain⟨u,hu,hd,hiu⟩:=PT.out i hi e
  have hn:=hnum ⟨i,hi,e⟩
  rw[jiC (by rw[jik,hlen];exact jh6 _),hd,xi]at hn
  obtain⟨i0,i1⟩:=hi
  simp at hiu
  omega
 have FG:=jh5 (figures_any z2 hI w)
 by_cases he:Lib.itoa z2=s.data.toList
 ·have YES:=jh5 (yo hI he)
  have hB:B (Lib.itoa z2)=s:=by rw[he];rfl
  rw[hB]at FG
  clear hnum UN he hB
  have HZ:=jh5 hz2
  clear hz2
  go_wp2_with fail
  rw[<- HZ.out]
  refine FG.out.mono ?_
  rintro e w' ⟨rfl,rfl⟩
  go_wp2_with fail
  go_ret2
  exact⟨by rw[YES.out];rfl,rfl⟩
 have NO:=jh5 (ql (l:=s.data.toList) (fun i hi e=>he (by rw[UN i hi e];exact e)))
 have hne:¬(B (Lib.itoa z2)).toList=s.toList:=fun e=>he (by rw[jiu,jiu,ji]at e;exact e)
 have hnb:((B (Lib.itoa z2)).toList==s.toList)=false:=by simpa using hne
 clear hnum UN he
 have HZ:=jh5 hz2
 clear hz2
 generalize B (Lib.itoa z2)=V at *
 go_wp2_with fail
 rw[<- HZ.out]
 refine FG.out.mono ?_
 rintro e w' ⟨rfl,rfl⟩
 go_wp2_with fail
 go_ret2
 exact⟨by rw[NO.out];rfl,rfl⟩
theorem Zq(s:ByteArray)(h1:1<=s.size)(h20:s.size<=20)(hq:((s[0].toNat:Int)==45)=false)(w:World):
  Calls Tryz.prog 44 #[.string s] w fun e w'=>e=numEnd s.data.toList/\w'=w:=by
 have h2:decide ((s.size:Int)<1)=false:=by simp;omega
 have h3:decide (20<(s.size:Int))=false:=by simp;omega
 have AT:∀(k:Nat) (h:k<s.size),s.data.toList[k]?=some s[k]:=fun k h=>by
  rw[jia (by rw[<- jij];exact h)];rfl
 have hhd:s.data.toList.head?=some s[0]:=by rw[jjW];exact AT 0 (by omega)
 have hA:0=if s.data.toList.head?=some 45 then 1 else 0:=by
  rw[hhd]
  rw[if_neg (fun e=>by have e2:=congrArg UInt8.toNat (jh9 e);rw[e2]at hq;simp at hq)]
 have PT:Hid (∀i,I64 i->Lib.itoa i=s.data.toList->∃u:Nat,u<=9223372036854775808/\s.data.toList.drop 0=Lib.decDigits u/\i=(if 0=1 then -(u:Int) else u)):=fun i hi e=>yq hi e 0 hA
 have HAT:=jh5 AT
 have hlen:s.data.toList.length=s.size:=(jij s).symm
 clear AT hA hhd
 go_enter Tryz.func44,Tryz.ntmps44
 go_wp2_with fail
 go_loop [5,6] (fun o i=>∃(j:Nat) (z:Int),0<=j/\j<=s.size/\i=.int .i64 j/\o=.int .i64 z/\I64 z/\((∃i,I64 i/\Lib.itoa i=s.data.toList)->z=xj 0 ((s.data.toList.drop 0).take (j-0)))) (fun _ i=>s.size-(intOf i).toNat)
 case atStart=>exact⟨0,0,jh6 _,by omega,rfl,rfl,⟨by decide,by decide⟩,fun _=>rfl⟩
 case round =>
 obtain⟨j,z,hj1,hj,rfl,rfl,hz,hnum⟩:=hrel
 obtain⟨z0,z1⟩:=_root_.id hz
 by_cases hlt:j<s.size
 ·have hb:=s[j].toNat_lt
  have hx:=HAT.out j hlt
  by_cases hr:¬(48<=s[j].toNat/\s[j].toNat<=57)
  ·have NO:=jh5 (ql (l:=s.data.toList) (fun i hi e=>by
    obtain⟨u,_,hd,_⟩:=PT.out i hi e
    have hm:s[j]∈s.data.toList.drop 0:=jim (i:=j-0) (by rw[jiZ,show 0+(j-0)=j by omega];exact hx)
    rw[hd]at hm
    exact hr (jZ u _ hm)))
   clear hnum hx hz
   by_cases hc:s[j].toNat<48
   ·have q1:decide ((s[j].toNat:Int)<48)=true:=by simp;omega
    go_wp2_with fail
    go_ret2
    exact⟨by rw[NO.out];rfl,rfl⟩
   have q1:decide ((s[j].toNat:Int)<48)=false:=by simp;omega
   have q2:decide (57<(s[j].toNat:Int))=true:=by simp;omega
   go_wp2_with fail
   go_ret2
   exact⟨by rw[NO.out];rfl,rfl⟩
  replace hr:=Classical.not_not.1 hr
  have q1:decide ((s[j].toNat:Int)<48)=false:=by simp;omega
  have q2:decide (57<(s[j].toNat:Int))=false:=by simp;omega
  have ST:Hid ((∃i,I64 i/\Lib.itoa i=s.data.toList)->wrap64 (wrap64 (10*z)-((s[j].toNat:Int)-48))=xj 0 ((s.data.toList.drop 0).take (j+1-0))):=fun hex=>by
   obtain⟨i,hi,e⟩:=_root_.id hex
   obtain⟨u,hu,hd,_⟩:=PT.out i hi e
   rw[hnum hex,show j+1-0=(j-0)+1 by omega]
   exact JI hu hd (by rw[jiZ,show 0+(j-0)=j by omega];exact hx)
  clear hnum hx
  go_wp2_with fail
  go_round
  case rel=>exact⟨j+1,_,by omega,hlt,by go_num,rfl,Wq _,ST.out⟩
  case measure=>simp[intOf];omega
 obtain rfl:j=s.size:=by omega
 obtain⟨z2,hz2⟩:∃z2,z2=wrap64 (-z):=⟨_,rfl⟩
 have hI:I64 z2:=by rw[hz2];exact Wq _
 have UN:∀i,I64 i->Lib.itoa i=s.data.toList->z2=i:=fun i hi e=>by
  obtain⟨u,hu,hd,hiu⟩:=PT.out i hi e
  have hn:=hnum ⟨i,hi,e⟩
  rw[jiC (by rw[jik,hlen];exact jh6 _),hd,xi]at hn
  obtain⟨i0,i1⟩:=hi
  simp at hiu
  rw[hz2,jjM _ (by omega)];omega
 have FG:=jh5 (figures_any z2 hI w)
 by_cases he:Lib.itoa z2=s.data.toList
 ·have YES:=jh5 (yo hI he)
  have hB:B (Lib.itoa z2)=s:=by rw[he];rfl
  rw[hB]at FG
  clear hnum UN he hB
  have HZ:=jh5 hz2
  clear hz2
  go_wp2_with fail
  rw[<- HZ.out]
  refine FG.out.mono ?_
  rintro e w' ⟨rfl,rfl⟩
  go_wp2_with fail
  go_ret2
  exact⟨by rw[YES.out];rfl,rfl⟩
 have NO:=jh5 (ql (l:=s.data.toList) (fun i hi e=>he (by rw[UN i hi e];exact e)))
 have hne:¬(B (Lib.itoa z2)).toList=s.toList:=fun e=>he (by rw[jiu,jiu,ji]at e;exact e)
 have hnb:((B (Lib.itoa z2)).toList==s.toList)=false:=by simpa using hne
 clear hnum UN he
 have HZ:=jh5 hz2
 clear hz2
 generalize B (Lib.itoa z2)=V at *
 go_wp2_with fail
 rw[<- HZ.out]
 refine FG.out.mono ?_
 rintro e w' ⟨rfl,rfl⟩
 go_wp2_with fail
 go_ret2
 exact⟨by rw[NO.out];rfl,rfl⟩
theorem number_any(l:List UInt8)(hl:l.length<=1000000)(w:World):
  Calls Tryz.prog 44 #[.string (B l)] w fun e w'=>e=numEnd l/\w'=w:=by
 have bs:=je l
 by_cases h1:1<=(B l).size/\(B l).size<=20
 ·cases hq:(((B l)[0]'(by omega)).toNat:Int)==45 with
  | true=>exact Zr (B l) h1.1 h1.2 hq w
  | false=>exact Zq (B l) h1.1 h1.2 hq w
 have NO:=jh5 (ql (l:=l) (fun i hi e=>by
  apply h1
  rw[bs,<- e]
  exact Xn hi))
 generalize B l=s at *
 by_cases h0:s.size<1
 ·have q1:decide ((s.size:Int)<1)=true:=by simp;omega
  go_enter Tryz.func44,Tryz.ntmps44
  go_wp2_with fail
  go_ret2
  exact⟨by rw[NO.out];rfl,rfl⟩
 have q1:decide ((s.size:Int)<1)=false:=by simp;omega
 have q2:decide (20<(s.size:Int))=true:=by simp;omega
 go_enter Tryz.func44,Tryz.ntmps44
 go_wp2_with fail
 go_ret2
 exact⟨by rw[NO.out];rfl,rfl⟩
end Go.Proofs.YtmdhainabeljpaaGreatDoor.Fr
namespace Go.Proofs.YtmdhainabeljpaaGreatDoor.Sm
open Go.RowKit
theorem take_snoc(s:ByteArray)(k:Nat)(h:k<s.size):s.data.toList.take (k+1)=s.data.toList.take k++[s[k]]:=by
 rw[jjq (by simpa using h)];rfl
theorem jhR(x c:Nat)(hx:x<4294967296)(hc:c<256):bits .xor .u32 (x:Int) ((c:Int)*16777216)=((x ^^^ c*16777216:Nat):Int):=by
 have h:=M.m24 c hc
 have e:((c:Int)*16777216)=((c*16777216:Nat):Int):=by omega
 rw[e]
 exact u32_xor_nat _ _ hx h
theorem Wy{k:IntKind}{a b:Int}(h:a=b):Ending.returned (.int k a)=.returned (.int k b):=by rw[h]
theorem jeW(z:Nat)(hz:z<4294967296)(h:((z:Int) / 2147483648==1)=true):bits .xor .u32 ((z:Int)*2 % 4294967296) 79764919=((M.st z:Nat):Int):=by
 have h1:(z:Int) / 2147483648=1:=by simpa using h
 have h2:z / 2147483648=1:=by omega
 unfold M.st
 rw[if_pos h2]
 have e:((z:Int)*2 % 4294967296)=((z*2 % 4294967296:Nat):Int):=by omega
 rw[e]
 exact u32_xor_nat _ 79764919 (jj5 _ (by decide)) (by decide)
theorem jgE(z:Nat)(h:((z:Int) / 2147483648==1)=false):((z:Int)*2 % 4294967296)=((M.st z:Nat):Int):=by
 have h1:¬(z:Int) / 2147483648=1:=by simpa using h
 have h2:¬z / 2147483648=1:=by omega
 unfold M.st
 rw[if_neg h2]
 omega
theorem jav(a:Nat)(ha:a<4294967296)(s:ByteArray)(w:World)(hs:s.size<=maxLen):
  Calls Tryz.prog 97 #[.int .u32 a,.string s] w fun e w'=>e=.returned (.int .u32 ((4294967295-M.feed (4294967295-a) s.data.toList:Nat):Int))/\w=w':=by
 unfold maxLen at hs
 go_enter Tryz.func97,Tryz.ntmps97
 go_wp2
 go_loop [5,6] (fun x i=>∃k:Nat,k<=s.size/\i=.int .i64 k/\x=.int .u32 (M.feed (4294967295-a) (s.data.toList.take k):Nat)) (fun _ i=>s.size-(intOf i).toNat)
 case atStart=>exact⟨0,jii _,rfl,by simp[M.feed];omega⟩
 case round =>
 obtain⟨k,hk,rfl,rfl⟩:=hrel
 by_cases hlt:k<s.size
 ·have hx:=M.feed_lt (s.data.toList.take k) (4294967295-a) (by omega)
  have hc:=s[k].toNat_lt
  have HS:Hid (M.feed (4294967295-a) (s.data.toList.take (k+1))=M.stn 8 (M.feed (4294967295-a) (s.data.toList.take k) ^^^ s[k].toNat*16777216)):=by
   rw[take_snoc s k hlt,M.feed_snoc];rfl
  have hy:M.feed (4294967295-a) (s.data.toList.take k) ^^^ s[k].toNat*16777216<4294967296:=jjE (n:=32) hx (M.m24 _ hc)
  have X:=jhR _ _ hx hc
  go_wp2
  clear X
  generalize M.feed (4294967295-a) (s.data.toList.take k)=x0 at *
  generalize hyy:x0 ^^^ s[k].toNat*16777216=y at *
  clear hyy
  go_loop [5,7] (fun x i=>∃j:Nat,j<=8/\i=.int .i64 j/\x=.int .u32 (M.stn j y:Nat)) (fun _ i=>8-(intOf i).toNat)
  case atStart=>exact⟨0,by omega,rfl,rfl⟩
  case round =>
  obtain⟨j,hj,rfl,rfl⟩:=hrel
  have hz:=M.stn_lt j y hy
  have hst:=M.stn_succ j y
  generalize hzz:M.stn j y=z at *
  have HZ:=jh5 hzz
  clear hzz
  have HQ:=jh5 hst
  clear hst
  go_wp2
  ·have ht:((z:Int) / 2147483648==1)=true:=by assumption
   go_round
   case rel=>exact⟨j+1,by omega,by go_num,by rw[HQ.out,jeW z hz ht]⟩
   case measure=>simp[intOf];omega
  ·have ht:((z:Int) / 2147483648==1)=false:=by assumption
   go_round
   case rel=>exact⟨j+1,by omega,by go_num,by rw[HQ.out,jgE z ht]⟩
   case measure=>simp[intOf];omega
  have:j=8:=by omega
  go_round
  case rel=>exact⟨k+1,by omega,by go_num,by rw[HS.out,<- HZ.out,this]⟩
  case measure=>simp[intOf];omega
 go_wp2
 have:k=s.size:=by omega
 subst this
 go_ret
 have hfl:=M.feed_lt s.data.toList (4294967295-a) (by omega)
 exact⟨by rw[jiC (by simp)];exact Wy (by omega),rfl⟩
def T(k j:Nat):Nat:=if j<k then M.stn 4 (j*268435456) else 0
def tab(k:Nat):Array Value:=#[.int .u32 (T k 0:Nat),.int .u32 (T k 1:Nat),.int .u32 (T k 2:Nat),.int .u32 (T k 3:Nat),.int .u32 (T k 4:Nat),.int .u32 (T k 5:Nat),.int .u32 (T k 6:Nat),.int .u32 (T k 7:Nat),.int .u32 (T k 8:Nat),.int .u32 (T k 9:Nat),.int .u32 (T k 10:Nat),.int .u32 (T k 11:Nat),.int .u32 (T k 12:Nat),.int .u32 (T k 13:Nat),.int .u32 (T k 14:Nat),.int .u32 (T k 15:Nat)]
theorem Qh(k:Nat):(tab k).size=16:=rfl
theorem YS(k j:Nat)(h:j<16):(tab k)[j]?=some (.int .u32 (T k j:Nat)):=by
 match j,h with
 | 0,_ | 1,_ | 2,_ | 3,_ | 4,_ | 5,_ | 6,_ | 7,_ | 8,_ | 9,_ | 10,_ | 11,_ | 12,_ | 13,_ | 14,_ | 15,_=>rfl
 | n+16,h=>omega
theorem jfl(k:Nat)(h:k<16):(tab k).setIfInBounds k (.int .u32 (M.stn 4 (k*268435456):Nat))=tab (k+1):=by
 apply jjU
 intro j
 rw[jiM]
 by_cases hj:j<16
 ·rw[YS _ _ hj,YS _ _ hj,Qh]
  by_cases e:k=j
  ·subst e;simp[h,T]
  have:T (k+1) j=T k j:=by unfold T;by_cases a:j<k<;>simp[a]<;>omega
  rw[if_neg e,this]
 have:k≠j:=by omega
 rw[if_neg this,jiI (by rw[Qh];omega),jiI (by rw[Qh];omega)]
theorem jaT(w:World):
  Calls Tryz.prog 119 #[] w fun e w'=>e=.returned (.agg (tab 16))/\Below w.heap.size w w':=by
 go_enter Tryz.func119,Tryz.ntmps119
 go_wp2
 go_loopw [3,5] (fun r i wr=>∃k:Nat,k<=16/\i=.int .i64 k/\wr=(w.alloc (.cells #[Value.int IntKind.u32 0,Value.int IntKind.u32 0,Value.int IntKind.u32 0,Value.int IntKind.u32 0,Value.int IntKind.u32 0,Value.int IntKind.u32 0,Value.int IntKind.u32 0,Value.int IntKind.u32 0,Value.int IntKind.u32 0,Value.int IntKind.u32 0,Value.int IntKind.u32 0,Value.int IntKind.u32 0,Value.int IntKind.u32 0,Value.int IntKind.u32 0,Value.int IntKind.u32 0,Value.int IntKind.u32 0] 159)).alloc (.cells (tab k) 159)) (fun _ i _=>16-(intOf i).toNat)
 case atStart=>exact⟨0,by omega,rfl,rfl⟩
 case round =>
 obtain⟨k,hk,rfl,rfl⟩:=hrel
 by_cases hlt:k<16
 ·have hx:k*268435456<4294967296:=by omega
  go_wp2
  go_loop [3,11] (fun x i=>∃j:Nat,j<=4/\i=.int .i64 j/\x=.int .u32 (M.stn j (k*268435456):Nat)) (fun _ i=>4-(intOf i).toNat)
  case atStart=>exact⟨0,by omega,rfl,by simp[M.stn]⟩
  case round =>
  obtain⟨j,hj,rfl,rfl⟩:=hrel
  have hz:=M.stn_lt j _ hx
  have hst:=M.stn_succ j (k*268435456)
  have ht:=YS k k hlt
  have hset:=jfl k hlt
  generalize hzz:M.stn j (k*268435456)=z at *
  have HZ:=jh5 hzz
  have HQ:=jh5 hst
  have HS:=jh5 hset
  clear hzz hst hset
  go_wp2
  ·have ht:((z:Int) / 2147483648==1)=true:=by assumption
   go_round
   case rel=>exact⟨j+1,by omega,by go_num,by rw[HQ.out,jeW z hz ht]⟩
   case measure=>simp[intOf];omega
  ·have ht:((z:Int) / 2147483648==1)=false:=by assumption
   go_round
   case rel=>exact⟨j+1,by omega,by go_num,by rw[HQ.out,jgE z ht]⟩
   case measure=>simp[intOf];omega
  have:j=4:=by omega
  go_roundw
  case rel=>exact⟨k+1,by omega,by go_num,by rw[<- HS.out,<- HZ.out,this]⟩
  case measure=>simp[intOf];omega
 have:k=16:=by omega
 subst this
 simp only[tab]
 go_wp2
 exact bodyPost_ret (v:=.agg (tab 16)) (by simp[results,Tryz.results119,go_sem,tab]) rfl ⟨rfl,by repeat (first | exact jh8 _ _ | (refine Below.alloc ?_ (by simp) _) | (refine Below.setCell ?_ (by simp) _))⟩
theorem jhb(y:Nat)(hy:y<4294967296):(tab 16)[y / 268435456]?=some (.int .u32 (M.stn 4 (y / 268435456*268435456):Nat)):=by
 have h:y / 268435456<16:=by omega
 rw[YS 16 _ h]
 unfold T
 rw[if_pos h]
theorem jhT(y:Nat)(hy:y<4294967296):bits .xor .u32 ((y:Int)*16 % 4294967296) (M.stn 4 (y / 268435456*268435456):Nat)=((M.stn 4 y:Nat):Int):=by
 have h1:y / 268435456*268435456<4294967296:=by omega
 have h2:=M.stn_lt 4 _ h1
 rw[M.four y hy]
 have e:((y:Int)*16 % 4294967296)=((y*16 % 4294967296:Nat):Int):=by omega
 rw[e]
 exact u32_xor_nat _ _ (jj5 _ (by decide)) h2
theorem jen(x:Nat)(hx:x<4294967296)(s:ByteArray)(w:World)(hs:s.size<=maxLen):
  Calls Tryz.prog 120 #[.int .u32 x,.agg (tab 16),.string s] w fun e w'=>e=.returned (.int .u32 (M.feed x s.data.toList:Nat))/\Below w.heap.size w w':=by
 unfold maxLen at hs
 go_enter Tryz.func120,Tryz.ntmps120
 go_wp2
 go_loop [0,10] (fun r i=>∃k:Nat,k<=s.size/\i=.int .i64 k/\r=.int .u32 (M.feed x (s.data.toList.take k):Nat)) (fun _ i=>s.size-(intOf i).toNat)
 case atStart=>exact⟨0,by omega,rfl,rfl⟩
 case round =>
 obtain⟨k,hk,rfl,rfl⟩:=hrel
 by_cases hlt:k<s.size
 ·have hx0:=M.feed_lt (s.data.toList.take k) x hx
  have hc:=s[k].toNat_lt
  have HS:Hid (M.feed x (s.data.toList.take (k+1))=M.stn 4 (M.stn 4 (M.feed x (s.data.toList.take k) ^^^ s[k].toNat*16777216))):=by
   rw[take_snoc s k hlt,M.feed_snoc];rfl
  generalize M.feed x (s.data.toList.take k)=x0 at *
  have X:=jhR _ _ hx0 hc
  have hy:x0 ^^^ s[k].toNat*16777216<4294967296:=jjE (n:=32) hx0 (M.m24 _ hc)
  generalize x0 ^^^ s[k].toNat*16777216=y at *
  have hz:=M.stn_lt 4 y hy
  have c1:=jhb y hy
  have x1:=jhT y hy
  generalize M.stn 4 y=z at *
  have c2:=jhb z hz
  have x2:=jhT z hz
  go_wp2
  go_round
  case rel=>exact⟨k+1,by omega,by go_num,by rw[HS.out]⟩
  case measure=>simp[intOf];omega
 go_wp2
 have:k=s.size:=by omega
 subst this
 go_ret
 exact⟨by rw[jiC (by simp)];rfl,(jh8 _ _).alloc (jh6 _) _⟩
def Strs(w:World)(v:Value)(ss:List ByteArray):Prop :=
 ∃A cap,v=.slice A ss.length cap/\(∀i s,ss[i]?=some s->∃b off,A=some ⟨b,off,none⟩/\b<w.heap.size/\w.cell? ⟨b,off+i,none⟩=some (.string s))
theorem Gd:(Tryz.prog.info? 159).map (·.size)=some (tab 16).size:=by kernel_rfl
theorem jfm:(tab 16).all (·.oneCell')=true:=by kernel_rfl
theorem jhJ(x:Nat)(h:x<4294967296):bits .xor .u32 IntKind.u32.max (x:Int)=((4294967295-x:Nat):Int):=by
 have e:IntKind.u32.max=((4294967295:Nat):Int):=by decide
 rw[e,u32_xor_nat _ _ (by decide) h]
 congr 1
 apply jkp
 intro i
 have h1:(4294967295-x)=2 ^ 32-(x+1):=by omega
 have h2:(4294967295:Nat)=2 ^ 32-1:=by decide
 rw[h1,jka,Nat.testBit_two_pow_sub_succ h,h2,Nat.testBit_two_pow_sub_one]
 by_cases hi:i<32
 ·simp[hi]
 have h3:2 ^ 32<=2 ^ i:=Nat.pow_le_pow_right (by decide) (by omega)
 have:x.testBit i=false:=Nat.testBit_lt_two_pow (jih h h3)
 simp[hi,this]
def jhm(w:World)(B:Nat):Prop:=w.heap[B]?=some (.cells (tab 16) 159 (0,0))
theorem sum_any(v:Value)(ss:List ByteArray)(w:World)(hv:Strs w v ss)(hl:ss.length<=maxLen)(hs:∀(i:Nat) (s:ByteArray),ss[i]?=some s->s.size<=maxLen):
  Calls Tryz.prog 83 #[v] w fun e w'=>e=.returned (.int .u32 (4294967295-M.feed 4294967295 (cat ss):Nat))/\Below w.heap.size w w':=by
 obtain⟨A,cap,rfl,hc⟩:=hv
 unfold maxLen at hl
 go_enter Tryz.func83,Tryz.ntmps83
 go_wp2_with (go_at_call 119;refine(jaT _).mono ?_;rintro e w1 ⟨rfl,hb1⟩;have hst:=run_storeCells_new (P:=Tryz.prog) w1 159 #[Value.int IntKind.u32 0,Value.int IntKind.u32 0,Value.int IntKind.u32 0,Value.int IntKind.u32 0,Value.int IntKind.u32 0,Value.int IntKind.u32 0,Value.int IntKind.u32 0,Value.int IntKind.u32 0,Value.int IntKind.u32 0,Value.int IntKind.u32 0,Value.int IntKind.u32 0,Value.int IntKind.u32 0,Value.int IntKind.u32 0,Value.int IntKind.u32 0,Value.int IntKind.u32 0,Value.int IntKind.u32 0] (tab 16) Gd (by rfl) jfm;have hsz:=Qh 16)
 clear hst hsz
 have hrow:jhm (w1.alloc (.cells (tab 16) 159)) w1.heap.size:=heap_alloc_last _ _
 have hbw:Below w.heap.size w (w1.alloc (.cells (tab 16) 159)):=hb1.alloc hb1.size _
 have hlt:w.heap.size<=w1.heap.size:=hb1.size
 have hlt':w1.heap.size<(w1.alloc (.cells (tab 16) 159)).heap.size:=by simp
 generalize (w1.alloc (.cells (tab 16) 159))=w2 at *
 generalize w1.heap.size=L at *
 clear hb1
 go_loopw [4,10] (fun r i wr=>∃k:Nat,k<=ss.length/\i=.int .i64 k/\r=.int .u32 (M.feed 4294967295 (cat (ss.take k)):Nat)/\Below w.heap.size w wr/\jhm wr L/\L<wr.heap.size) (fun _ i _=>ss.length-(intOf i).toNat)
 case atStart=>exact⟨0,by omega,rfl,rfl,hbw,hrow,hlt'⟩
 case round =>
 obtain⟨k,hk,rfl,rfl,hb,hr,hL⟩:=hrel
 by_cases hlt:k<ss.length
 ·obtain⟨s,hsk⟩:∃s,ss[k]?=some s:=⟨_,jia hlt⟩
  obtain⟨b,off,rfl,hbb,hcell⟩:=hc k s hsk
  have hcw:wr.cell? ⟨b,off+k,none⟩=some (.string s):=(hb.cell (p:=⟨b,off+k,none⟩) hbb).trans hcell
  have hx:=M.feed_lt (cat (ss.take k)) 4294967295 (by decide)
  have HS:Hid (M.feed 4294967295 (cat (ss.take (k+1)))=M.feed (M.feed 4294967295 (cat (ss.take k))) s.data.toList):=by
   rw[jeD ss k s hsk,M.feed_append];rfl
  have hsz:=hs k s hsk
  generalize M.feed 4294967295 (cat (ss.take k))=x0 at *
  clear hc hcell hbw hrow hlt' hs hsk
  go_wp2_with (first | (refine wpList_load_row rfl 159 _ rfl L rfl 159 (tab 16) (0,0) _ hr Tryz.underlying159 rfl Gd ?_) | (go_at_call 120;refine(jen _ hx _ _ hsz).mono ?_;rintro e w3 ⟨rfl,hb3⟩))
  go_roundw
  case rel=>exact⟨k+1,by omega,by go_num,by rw[HS.out],hb.trans (hb3.mono hb.size),(hb3.block _ hL).trans hr,jih hL hb3.size⟩
  case measure=>simp[intOf];omega
 have:k=ss.length:=by omega
 subst this
 have hfl:=M.feed_lt (cat ss) 4294967295 (by decide)
 rw[jiF]
 go_wp2
 go_ret
 exact⟨Wy (jhJ _ hfl),hb⟩
theorem refSum_any(s:ByteArray)(w:World)(hs:s.size<=maxLen):
  Calls Tryz.prog 58 #[.string s] w fun e w'=>e=.returned (.int .u32 (M.crc s.data.toList:Nat))/\w=w':=by
 go_enter Tryz.func58,Tryz.ntmps58
 go_wp2_with (go_at_call 97;refine(jav 0 (by omega) _ _ hs).mono ?_;rintro e w1 ⟨rfl,rfl⟩)
 go_ret
 exact⟨rfl,rfl⟩
def F(x k j:Nat):Nat:=if j<k then (dg (x / 16 ^ (7-j) % 16)).toNat else 0
def jgd(x k:Nat):Array Value:=#[.int .u8 (F x k 0:Nat),.int .u8 (F x k 1:Nat),.int .u8 (F x k 2:Nat),.int .u8 (F x k 3:Nat),.int .u8 (F x k 4:Nat),.int .u8 (F x k 5:Nat),.int .u8 (F x k 6:Nat),.int .u8 (F x k 7:Nat)]
theorem Qq(x k j:Nat)(h:j<8):(jgd x k)[j]?=some (.int .u8 (F x k j:Nat)):=by
 match j,h with
 | 0,_ | 1,_ | 2,_ | 3,_ | 4,_ | 5,_ | 6,_ | 7,_=>rfl
 | n+8,h=>omega
theorem Vg(x k:Nat):(jgd x k).size=8:=rfl
theorem jee(x k:Nat)(h:k<8):(jgd x k).setIfInBounds k (.int .u8 ((dg (x / 16 ^ (7-k) % 16)).toNat:Nat))=jgd x (k+1):=by
 apply jjU
 intro j
 rw[jiM]
 by_cases hj:j<8
 ·rw[Qq _ _ _ hj,Qq _ _ _ hj,Vg]
  by_cases e:k=j
  ·subst e;simp[h,F]
  have:F x (k+1) j=F x k j:=by unfold F;by_cases a:j<k<;>simp[a]<;>omega
  rw[if_neg e,this]
 have:k≠j:=by omega
 rw[if_neg this,jiI (by rw[Vg];omega),jiI (by rw[Vg];omega)]
theorem jcT(d:Nat)(h:d<16)(h':d<(⟨#[48,49,50,51,52,53,54,55,56,57,97,98,99,100,101,102]⟩:ByteArray).size):
  (⟨#[48,49,50,51,52,53,54,55,56,57,97,98,99,100,101,102]⟩:ByteArray)[d]=dg d:=by
 match d,h with
 | 0,_ | 1,_ | 2,_ | 3,_ | 4,_ | 5,_ | 6,_ | 7,_ | 8,_ | 9,_ | 10,_ | 11,_ | 12,_ | 13,_ | 14,_ | 15,_=>rfl
 | n+16,h=>omega
theorem nib(x k:Nat)(hx:x<4294967296)(h:k<8):x*16 ^ k % 4294967296 / 268435456=x / 16 ^ (7-k) % 16:=by
 match k,h with
 | 0,_ | 1,_ | 2,_ | 3,_ | 4,_ | 5,_ | 6,_ | 7,_=>simp only[Nat.reduceSub,Nat.reducePow];omega
 | n+8,h=>omega
theorem jhX(x k:Nat):((x*16 ^ k % 4294967296:Nat):Int)*16 % 4294967296=((x*16 ^ (k+1) % 4294967296:Nat):Int):=by
 rw[jkc,<- Nat.mul_assoc]
 omega
def jeh(x:Nat):List Int:=[(F x 8 0:Nat),(F x 8 1:Nat),(F x 8 2:Nat),(F x 8 3:Nat),(F x 8 4:Nat),(F x 8 5:Nat),(F x 8 6:Nat),(F x 8 7:Nat)]
theorem jcF(x i:Nat)(h:i<8):(jeh x).getD i 0=(F x 8 i:Nat):=by
 match i,h with
 | 0,_ | 1,_ | 2,_ | 3,_ | 4,_ | 5,_ | 6,_ | 7,_=>rfl
 | n+8,h=>omega
theorem jcE(x:Nat):strOfNums (jeh x)=figs x:=by
 simp[strOfNums,jeh,figs,F]
theorem figures_any(x:Nat)(hx:x<4294967296)(w:World):
  Calls Tryz.prog 82 #[.int .u32 x] w fun e w'=>e=.returned (.string (figs x))/\Below w.heap.size w w':=by
 go_enter Tryz.func82,Tryz.ntmps82
 go_wp2
 go_loopw [0,5] (fun r i wr=>∃k:Nat,k<=8/\i=.int .i64 k/\r=.int .u32 (x*16 ^ k % 4294967296:Nat)/\wr=w.alloc (.cells (jgd x k) 158)) (fun _ i _=>8-(intOf i).toNat)
 case atStart=>exact⟨0,by omega,rfl,by simp;omega,rfl⟩
 case round =>
 obtain⟨k,hk,rfl,rfl,rfl⟩:=hrel
 by_cases hlt:k<8
 ·have hy:x*16 ^ k % 4294967296<4294967296:=jj5 _ (by decide)
  have hn:=nib x k hx hlt
  have hs:=jhX x k
  generalize x*16 ^ k % 4294967296=y at *
  have HN:=jh5 hn
  have HS:=jh5 hs
  clear hn hs
  have ht:(jgd x k)[k]?=some (.int .u8 (F x k k:Nat)):=Qq x k k hlt
  go_wp2
  go_round
  case rel =>
   refine⟨k+1,by omega,by go_num,by rw[HS.out],?_⟩
   rw[jcT _ (by omega),HN.out,jee x k hlt]
  case measure=>simp[intOf];omega
 have:k=8:=by omega
 subst this
 have hcv:=run_convert_bytes_arg (P:=Tryz.prog) (w.alloc (.cells (jgd x 8) 158)) 135 5 Tryz.underlying135 Tryz.underlying5 w.heap.size 0 8 8 (jeh x) rfl (fun i hi=>by
  rw[jjk _ _ _ _ rfl,jiH,Qq x 8 i hi,jcF x i hi]) 9 Tryz.underlying9
 rw[jcE]at hcv
 go_wp2
 go_ret
 exact⟨rfl,(jh8 _ _).alloc (jh6 _) _⟩
theorem jfv(y:Nat)(w:World):(Instr.slice 9 (.string ⟨#[48,49,50,51,52,53,54,55,56,57,97,98,99,100,101,102]⟩) (some (.int .u32 ((y:Int) % 16))) (some (.int .u32 ((y:Int) % 16+1))) none).run Tryz.prog w=.ok (.string ⟨#[dg (y % 16)]⟩) w:=by
 have hd:y % 16<16:=jj5 _ (by decide)
 have e:(y:Int) % 16=((y % 16:Nat):Int):=by omega
 rw[e]
 generalize y % 16=d at *
 rw[run_slice_string _ _ _ _ _ _ _ Tryz.underlying9 (by omega) (by omega) (by show(d:Int)+1<=(16:Nat);omega)]
 match d,hd with
 | 0,_ | 1,_ | 2,_ | 3,_ | 4,_ | 5,_ | 6,_ | 7,_ | 8,_ | 9,_ | 10,_ | 11,_ | 12,_ | 13,_ | 14,_ | 15,_=>rfl
 | n+16,h=>omega
theorem jgY(c:UInt8)(l:List UInt8):(⟨#[c]⟩ ++ ⟨l.toArray⟩:ByteArray)=⟨(c::l).toArray⟩:=by
 apply jjf
 simp
theorem jhH(x k:Nat):((x / 16 ^ k:Nat):Int) / 16=((x / 16 ^ (k+1):Nat):Int):=by
 rw[jkc,<- Nat.div_div_eq_div_mul]
 omega
theorem refFigures_any(x:Nat)(hx:x<4294967296)(w:World):
  Calls Tryz.prog 57 #[.int .u32 x] w fun e w'=>e=.returned (.string (figs x))/\w=w':=by
 go_enter Tryz.func57,Tryz.ntmps57
 go_wp2
 go_loop [0,3,4] (fun r s i=>∃k:Nat,k<=8/\i=.int .i64 k/\r=.int .u32 (x / 16 ^ k:Nat)/\s=.string ⟨((figs x).data.toList.drop (8-k)).toArray⟩) (fun _ _ i=>8-(intOf i).toNat)
 case atStart=>exact⟨0,by omega,rfl,by simp,rfl⟩
 case round =>
 obtain⟨k,hk,rfl,rfl,rfl⟩:=hrel
 by_cases hlt:k<8
 ·have hy:x / 16 ^ k<4294967296:=Nat.lt_of_le_of_lt (Nat.div_le_self _ _) hx
  have HS:=jh5 (jcJ x k hlt)
  have HD:=jh5 (jhH x k)
  generalize x / 16 ^ k=y at *
  have hsl:=jfv y w
  have hfs:(figs x).size<=8:=jh6 8
  go_wp2
  go_round
  case rel=>exact⟨k+1,by omega,by go_num,by rw[HD.out],by rw[HS.out,jgY]⟩
  case measure=>simp[intOf];omega
 have:k=8:=by omega
 subst this
 go_wp2
 go_ret
 exact⟨rfl,rfl⟩
theorem jf3:∀c:Fin 256,Lib.indexByte DIG (UInt8.ofNat c.val)=ix c.val:=by decide +kernel
theorem idx(c:UInt8):Lib.indexByte DIG c=ix c.toNat:=by
 have:=jf3 ⟨c.toNat,c.toNat_lt⟩
 simpa using this
def takeV(l:List UInt8):Value:=match takes l with
 | some n=>.tuple #[.int .u32 (n:Nat),.bool true]
 | none=>.tuple #[.int .u32 0,.bool false]
theorem jbH{l:List UInt8}(h:l.length≠8):takeV l=.tuple #[.int .u32 0,.bool false]:=by
 unfold takeV takes;rw[if_neg h]
theorem jai{l:List UInt8}{n:Nat}(hl:l.length=8)(h:tk 0 l=some n):takeV l=.tuple #[.int .u32 (n:Nat),.bool true]:=by
 unfold takeV takes;rw[if_pos hl,h]
theorem jaj{l:List UInt8}(hl:l.length=8)(h:tk 0 l=none):takeV l=.tuple #[.int .u32 0,.bool false]:=by
 unfold takeV takes;rw[if_pos hl,h]
theorem or4(x d:Nat)(hx:x<4294967296)(hd:d<16):bits .or .u32 ((x:Int)*16 % 4294967296) (d:Int)=((x*16 % 4294967296+d:Nat):Int):=by
 have e:((x:Int)*16 % 4294967296)=((x*16 % 4294967296:Nat):Int):=by omega
 rw[e,u32_or_nat _ _ (jj5 _ (by decide)) (by omega),nat_join 4 _ _ (by omega) (by omega)]
theorem KH(c:UInt8)(w:World):
  Calls Tryz.prog 115 #[.string ⟨#[48,49,50,51,52,53,54,55,56,57,97,98,99,100,101,102]⟩,.int .u8 (c.toNat:Int)] w fun e w'=>e=.returned (.int .i64 (ix c.toNat))/\w=w' :=
 (Tryz.strings_IndexByte _ _ w).mono fun _ _ ⟨he,hw⟩=>⟨by rw[he];exact Wy (by rw[<- idx c];simp[DIG]),hw.symm⟩
theorem jaM(c:UInt8)(h:val c.toNat=none)(w:World):
  Calls Tryz.prog 115 #[.string ⟨#[48,49,50,51,52,53,54,55,56,57,97,98,99,100,101,102]⟩,.int .u8 (c.toNat:Int)] w fun e w'=>e=.returned (.int .i64 (-1))/\w=w' :=
 (KH c w).mono fun _ _ ⟨he,hw⟩=>⟨by rw[he,ix,h],hw⟩
theorem jaL(c:UInt8)(d:Nat)(h:val c.toNat=some d)(w:World):
  Calls Tryz.prog 115 #[.string ⟨#[48,49,50,51,52,53,54,55,56,57,97,98,99,100,101,102]⟩,.int .u8 (c.toNat:Int)] w fun e w'=>e=.returned (.int .i64 (d:Int))/\w=w' :=
 (KH c w).mono fun _ _ ⟨he,hw⟩=>⟨by rw[he,ix,h],hw⟩
theorem take_any(s:ByteArray)(w:World)(hs:s.size<=maxLen):
  Calls Tryz.prog 79 #[.string s] w fun e w'=>e=.returned (takeV s.data.toList)/\w=w':=by
 unfold maxLen at hs
 by_cases h8:s.size=8
 ·have hb:(!((s.size:Int)==8))=false:=by simp[h8]
  have hb2:((s.size:Int) != 8)=false:=by simp[h8]
  have H8:=jh5 h8
  have hle:s.size<=8:=by omega
  clear h8
  go_enter Tryz.func79,Tryz.ntmps79
  go_wp2_with fail
  go_loop [4,12] (fun r i=>∃k x:Nat,k<=s.size/\x<4294967296/\i=.int .i64 k/\r=.int .u32 (x:Nat)/\tk 0 s.data.toList=tk x (s.data.toList.drop k)) (fun _ i=>s.size-(intOf i).toNat)
  case atStart=>exact⟨0,0,by omega,by omega,rfl,rfl,rfl⟩
  case round =>
  obtain⟨k,x,hk,hx,rfl,rfl,htk⟩:=hrel
  have HT:=jh5 htk
  clear htk
  by_cases hlt:k<s.size
  ·have hsplit:s.data.toList.drop k=s[k]::s.data.toList.drop (k+1):=by
    rw[jiB (by simpa using hlt)];rfl
   cases hv:val s[k].toNat with
   | none =>
    have HN:Hid (tk 0 s.data.toList=none):=by
     show _=_
     rw[HT.out,hsplit,tk,hv]
    clear hsplit
    go_wp2_with fail
    refine(jaM _ hv _).mono ?_
    clear hv
    rintro e w1 ⟨rfl,rfl⟩
    go_wp2_with fail
    go_ret2
    exact⟨by rw[jaj (by simpa using H8.out) HN.out];rfl,rfl⟩
   | some d =>
   have hd:=jgz hv
   have HN:Hid (tk 0 s.data.toList=tk (x*16 % 4294967296+d) (s.data.toList.drop (k+1))):=by
    show _=_
    rw[HT.out,hsplit,tk,hv]
   clear hsplit
   have ho:=or4 x d hx hd
   go_wp2_with fail
   refine(jaL _ _ hv _).mono ?_
   clear hv
   rintro e w1 ⟨rfl,rfl⟩
   go_wp2_with fail
   go_round
   case rel=>exact⟨k+1,x*16 % 4294967296+d,by omega,by omega,by go_num,rfl,HN.out⟩
   case measure=>simp[intOf];omega
  have HN:Hid (tk 0 s.data.toList=some x):=by
   show _=_
   rw[HT.out,ji0 (by simp;omega)];rfl
  go_wp2
  go_ret2
  exact⟨by rw[jai (by simpa using H8.out) HN.out];rfl,rfl⟩
 have hb:(!((s.size:Int)==8))=true:=by simp;omega
 have hb2:((s.size:Int) != 8)=true:=by simp;omega
 go_enter Tryz.func79,Tryz.ntmps79
 go_wp2_with fail
 go_ret2
 exact⟨by rw[jbH (by simpa using h8)];rfl,rfl⟩
theorem takeV_of{l:List UInt8}{n:Nat}(h:takes l=some n):takeV l=.tuple #[.int .u32 (n:Nat),.bool true]:=by unfold takeV;rw[h]
theorem takeV_not{l:List UInt8}(h:takes l=none):takeV l=.tuple #[.int .u32 0,.bool false]:=by unfold takeV;rw[h]
theorem jbF(s:ByteArray)(h:takes s.data.toList=none)(w:World)(hs:s.size<=maxLen):
  Calls Tryz.prog 79 #[.string s] w fun e w'=>e=.returned (.tuple #[.int .u32 0,.bool false])/\w=w' :=
 (take_any s w hs).mono fun _ _ ⟨he,hw⟩=>⟨by rw[he,takeV_not h],hw⟩
end Go.Proofs.YtmdhainabeljpaaGreatDoor.Sm
namespace Go.Proofs.YtmdhainabeljpaaGreatDoor.Fr
open Go.RowKit Go.Shelf
attribute [local go_sem] jil
theorem mkB(l:List UInt8):(⟨l.toArray⟩:ByteArray)=B l:=rfl
theorem GM(n:Int)(w:World):Calls Tryz.prog 80 #[.int .i64 n] w fun e w'=>e=.returned (.bool (decide (2<=n/\n<=50000)))/\w'=w:=by
 by_cases h1:2<=n
 ·by_cases h2:n<=50000
  ·have e:decide (2<=n/\n<=50000)=true:=by simp[h1,h2]
   rw[e]
   go_enter Tryz.func80,Tryz.ntmps80
   go_wp2_with fail
   go_ret
   exact⟨rfl,rfl⟩
  have e:decide (2<=n/\n<=50000)=false:=by simp[h2]
  rw[e]
  go_enter Tryz.func80,Tryz.ntmps80
  go_wp2_with fail
  go_ret
  exact⟨rfl,rfl⟩
 have e:decide (2<=n/\n<=50000)=false:=by simp[h1]
 rw[e]
 go_enter Tryz.func80,Tryz.ntmps80
 go_wp2_with fail
 go_ret
 exact⟨rfl,rfl⟩
theorem Zo(w:World):Calls Tryz.prog 34 #[.bool true] w fun e w'=>e=.returned (.tuple #[.int .i64 2,.string (B []),.int .i64 0])/\w'=w:=by
 go_enter Tryz.func34,Tryz.ntmps34
 go_wp2_with fail
 go_ret3
 exact⟨rfl,rfl⟩
theorem JG(w:World):Calls Tryz.prog 34 #[.bool false] w fun e w'=>e=.returned (.tuple #[.int .i64 3,.string (B []),.int .i64 0])/\w'=w:=by
 go_enter Tryz.func34,Tryz.ntmps34
 go_wp2_with fail
 go_ret3
 exact⟨rfl,rfl⟩
theorem yr{w:World}(n:Nat)(os:Array Obj):Below w.heap.size w (Go.Sort.grow (w.drewN n) os) :=
 ⟨rfl,rfl,rfl,by rw[Go.Sort.size_grow];exact Nat.le_add_right _ _,fun k hk=>jkn _ _ hk⟩
theorem Qn(n:Nat)(hn:n<=9223372036854775807)(w:World)(ht:TabsN w):Calls Tryz.prog 101 #[.int .i64 (n:Int)] w fun e w'=>e=.returned (.string (B (Lib.decDigits n)))/\Below w.heap.size w w' :=
 (Tryz.strconv_Itoa n (by omega) (by omega) w ht.pow).mono fun e w' ⟨he,k,os,hw⟩=>⟨by rw[he,jjc];rfl,by rw[hw];exact yr k os⟩
theorem XD(n:Nat)(hn:n<=9223372036854775807):(B (Lib.decDigits n)).size<=20:=by
 rw[je,jjb]
 exact jjD n (by omega)
theorem Xr(n:Nat)(hn:n<=9223372036854775807)(f:List UInt8)(hf:f.length<=1000000)(w:World)(ht:TabsN w):
  Calls Tryz.prog 78 #[.int .i64 (n:Int),.string (B f)] w fun e w'=>e=.returned (.string (B (jH n f)))/\Below w.heap.size w w':=by
 have IT:=jh5 (Qn n hn w ht)
 have E:Hid ((⟨#[37,97,109,101,110,100,32]⟩:ByteArray)++B (Lib.decDigits n) ++ ⟨#[32]⟩++B f=B (jH n f)):=by
  show _=_
  rw[show(⟨#[37,97,109,101,110,100,32]⟩:ByteArray)=B AMD from rfl,show(⟨#[32]⟩:ByteArray)=B [32] from rfl,jj,jj,jj]
  unfold jH;simp
 have hs:=XD n hn
 have hfs:(B f).size<=1000000:=by rw[je];exact hf
 generalize B (Lib.decDigits n)=d at *
 generalize B f=g at *
 have s1:((⟨#[37,97,109,101,110,100,32]⟩:ByteArray)++d).size<=27:=by rw[jiN];show 7+_<=_;omega
 have s2:((⟨#[37,97,109,101,110,100,32]⟩:ByteArray)++d ++ ⟨#[32]⟩).size<=28:=by rw[jiN];show _+1<=_;omega
 clear ht
 go_enter Tryz.func78,Tryz.ntmps78
 go_wp2_with fail
 refine IT.out.mono ?_
 rintro e w1 ⟨rfl,hb⟩
 go_wp2_with fail
 go_ret
 exact⟨by rw[<- E.out];rfl,hb⟩
theorem GJ(n:Nat)(hn:n<=9223372036854775807)(w:World)(ht:TabsN w):
  Calls Tryz.prog 84 #[.int .i64 (n:Int)] w fun e w'=>e=.returned (.string (B (jW n)))/\Below w.heap.size w w':=by
 have IT:=jh5 (Qn n hn w ht)
 have E:Hid ((⟨#[37,101,110,100,32]⟩:ByteArray)++B (Lib.decDigits n) ++ ⟨#[10]⟩=B (jW n)):=by
  show _=_
  rw[show(⟨#[37,101,110,100,32]⟩:ByteArray)=B END from rfl,show(⟨#[10]⟩:ByteArray)=B [10] from rfl,jj,jj]
  unfold jW;simp
 have hs:=XD n hn
 generalize B (Lib.decDigits n)=d at *
 have s1:((⟨#[37,101,110,100,32]⟩:ByteArray)++d).size<=25:=by rw[jiN];show 5+_<=_;omega
 clear ht
 go_enter Tryz.func84,Tryz.ntmps84
 go_wp2_with fail
 refine IT.out.mono ?_
 rintro e w1 ⟨rfl,hb⟩
 go_wp2_with fail
 go_ret
 exact⟨by rw[<- E.out];rfl,hb⟩
end Go.Proofs.YtmdhainabeljpaaGreatDoor.Fr
