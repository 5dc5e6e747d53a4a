/- Texts put together:DH,DI,DJ,DK,DL,DQ,SB,MC,MD,ME. -/
import Derived.Test.YtpibhbjmcmfnmaaGreatDoorBfn21
set_option linter.unusedVariables false
set_option maxRecDepth 100000
set_option maxHeartbeats 16000000
namespace Go.Proofs.YtpibhbjmcmfnmaaGreatDoor
open Go.RowKit Go.Shelf Tryz
namespace Fr
attribute [local go_sem] jmk
theorem jhG(X:List UInt8)(i j:Nat):(B X).extract i j=B ((X.drop i).take (j-i)):=by
 apply jns
 apply Array.toList_inj.1
 rw[jnP,ju,ju]
theorem ext_drop(X:List UInt8)(i:Nat):(B X).extract i (B X).size=B (X.drop i):=by
 rw[jhG,jq,jmH (by simp)]
theorem ext_take(X:List UInt8)(j:Nat):(B X).extract 0 j=B (X.take j):=by rw[jhG];simp
theorem jdW{l:List UInt8}{c:UInt8}(h:c∉l):∀x∈l,(x != c)=true:=fun x hx=>by
 have:x≠c:=fun e=>h (by rw[<- e];exact hx)
 simpa using this
theorem jbm(l:List UInt8)(c:UInt8)(hl:l.length<=1000000)(w:World):
  Calls prog 104 #[.string (B l),.string ⟨#[c]⟩] w fun e w' =>
   e=.returned (.tuple #[.string (B (l.takeWhile (· != c))),.string (B (l.drop ((l.takeWhile (· != c)).length+1))),.bool (l.contains c)])/\Below w.heap.size w w':=by
 by_cases h:c∈l
 ·refine(Kt (B l) c w (by rw[jq];unfold maxLen;omega) (by rw[ju];exact h)).mono ?_
  rintro e w' ⟨rfl,n,rfl⟩
  refine⟨?_,⟨rfl,rfl,rfl,jma _,fun _ _=>rfl⟩⟩
  have hp:l.take (l.takeWhile (· != c)).length=l.takeWhile (· != c):=(List.prefix_iff_eq_take.1 (jno _)).symm
  rw[ju,ext_drop,ext_take,hp]
  simp[h]
 refine(jbi (B l) c w (by rw[ju];exact h)).mono ?_
 rintro e w' ⟨rfl,n,rfl⟩
 refine⟨?_,⟨rfl,rfl,rfl,jma _,fun _ _=>rfl⟩⟩
 have hp:l.takeWhile (· != c)=l:=vt (jdW h)
 rw[hp,jm1 (by omega)]
 simp[h];rfl
def jgk(l:List UInt8):List UInt8:=(Lib.trimPrefix l AMD).takeWhile (· != 32)
def jcx(l:List UInt8):List UInt8:=(Lib.trimPrefix l AMD).drop ((jgk l).length+1)
def jbu(l:List UInt8):Int:=qH (jgk l)
def jdb(l:List UInt8):Bool:=(Sm.takes (jcx l)).isSome&&decide (2<=jbu l/\jbu l<=50000)&&decide (zq (jbu l).toNat (jcx l)=l)
theorem jfm{l:List UInt8}{n:Nat}{f:List UInt8}(h:Uw l n f):jdb l=true/\jbu l=n:=by
 have e1:Lib.trimPrefix l AMD=Lib.decDigits n++32::f:=by
  rw[h.eq];unfold zq Lib.trimPrefix
  have:Lib.hasPrefix (AMD++(Lib.decDigits n++32::f)) AMD=true:=by unfold Lib.hasPrefix;rw[jnN];exact List.prefix_append _ _
  rw[if_pos this,jn2]
 have e2:jgk l=Lib.decDigits n:=by
  unfold jgk
  rw[e1,jnY (jdW (Kr n))]
  simp
 have e3:jcx l=f:=by unfold jcx;rw[e2,e1,<- jnD,jn2];rfl
 have hn:I64 (n:Int):=by have:=h.hi;unfold I64;omega
 have e4:jbu l=n:=by unfold jbu;rw[e2,<- Lib.itoa_nonneg,yt hn]
 have h2:=h.lo
 have h5:=h.hi
 obtain⟨x,hx⟩:=h.fig
 refine⟨?_,e4⟩
 unfold jdb
 rw[e4,e3,hx,h.eq]
 simp;omega
theorem Yk{l:List UInt8}(h:jdb l=true):∃n f,Uw l n f:=by
 unfold jdb at h
 simp only[jmv,decide_eq_true_eq]at h
 obtain⟨⟨h1,h2,h3⟩,h4⟩:=h
 obtain⟨x,hx⟩:=Option.isSome_iff_exists.1 h1
 exact⟨(jbu l).toNat,jcx l,by omega,by omega,⟨x,hx⟩,h4.symm⟩
theorem jbv{l:List UInt8}:jdb l=true↔∃n f,Uw l n f:=⟨Yk,fun⟨_,_,h⟩=>(jfm h).1⟩
theorem jfO(s:List UInt8):Sm.takeV s=.tuple #[.int .u32 ((Sm.takes s).getD 0:Nat),.bool (Sm.takes s).isSome]:=by
 cases h:Sm.takes s with
 | none=>rw[Sm.takeV_not h];rfl
 | some n=>rw[Sm.takeV_of h];rfl
theorem Zh(l:List UInt8)(hl:l.length<=900000)(w:World)(ht:TabsN w):
  Calls prog 107 #[.string (B l)] w fun e w'=>e=.returned (.tuple #[.int .i64 (jbu l),.bool (jdb l)])/\Below w.heap.size w w':=by
 have T1:=jl9 (Tryz.strings_TrimPrefix (B l) (B AMD) w)
 have hp:(Lib.trimPrefix l AMD).length<=900000:=jmy (Lib.trimPrefix_le l AMD) hl
 have C1:=jl9 (fun w=>jbm (Lib.trimPrefix l AMD) 32 (by omega) w)
 have e1:(Lib.trimPrefix l AMD).takeWhile (· != 32)=jgk l:=rfl
 have e2:(Lib.trimPrefix l AMD).drop ((jgk l).length+1)=jcx l:=rfl
 have hn:(jgk l).length<=900000:=jmy (List.takeWhile_sublist _).length_le hp
 have hf:(jcx l).length<=900000:=by rw[<- e2,jmn];omega
 have K1:=jl9 (fun w=>Sm.take_any (B (jcx l)) w (by rw[jq];unfold maxLen;omega))
 have A1:=jl9 (fun w ht=>atoi_any (jgk l) (by omega) w ht)
 have F1:=jl9 (fits_any (jbu l))
 have hm:qH (jgk l)=jbu l:=rfl
 rw[hm]at A1
 rw[e1,e2]at C1
 simp only[jfO,ju]at K1
 simp only[ju]at T1
 have e3:(⟨(Lib.trimPrefix l AMD).toArray⟩:ByteArray)=B (Lib.trimPrefix l AMD):=rfl
 rw[e3]at T1
 have hb:jdb l=((Sm.takes (jcx l)).isSome&&decide (2<=jbu l/\jbu l<=50000)&&decide (zq (jbu l).toNat (jcx l)=l)):=rfl
 have H1:=jl9 (fun(n:Nat) (h:n<=50000) w ht=>Ke n (by omega) (jcx l) (by omega) w ht)
 have ba:(⟨#[37,97,109,101,110,100,32]⟩:ByteArray)=B AMD:=rfl
 have same:∀x:List UInt8,((B x).toList==(B l).toList)=decide (x=l):=fun x=>by rw[jmY,jmY,ju,ju,jm8];simp
 generalize (Sm.takes (jcx l)).getD 0=tv at *
 generalize (Sm.takes (jcx l)).isSome=tb at *
 generalize jbu l=m at *
 generalize jdb l=q at *
 clear e1 e2 hm hn hp e3
 go_enter func107,ntmps107
 rw[ba]
 go_wp2_with fail
 refine T1.out.mono ?_
 rintro e w1 ⟨rfl,rfl⟩
 go_wp2_with fail
 refine(C1.out _).mono ?_
 rintro e w1 ⟨rfl,hb1⟩
 go_wp2_with fail
 refine(K1.out _).mono ?_
 rintro e w2 ⟨rfl,rfl⟩
 go_wp2_with fail
 refine(A1.out _ (ht.below hb1 (jma _))).mono ?_
 rintro e w3 ⟨⟨T,v,he⟩,hb3⟩
 have ht3:=(ht.below hb1 (jma _)).below hb3 (jma _)
 have hb13:=hb1.trans (hb3.mono hb1.size)
 rcases he with rfl|rfl
 all_goals
  cases tb with
  | false =>
   simp only[Bool.false_and]at hb
   subst hb
   go_wp2_with fail
   go_ret2
   exact⟨rfl,hb13⟩
  | true =>
  cases hf:decide (2<=m/\m<=50000) with
  | false =>
   rw[hf]at hb F1
   simp only[jnL,Bool.false_and]at hb
   subst hb
   go_wp2_with fail
   refine(F1.out _).mono ?_
   rintro e w4 ⟨rfl,rfl⟩
   go_wp2_with fail
   go_ret2
   exact⟨rfl,hb13⟩
  | true =>
  rw[hf]at hb F1
  have hf':=of_decide_eq_true hf
  obtain⟨n,rfl⟩:∃n:Nat,m=n:=⟨m.toNat,by omega⟩
  simp only[jnL,jnz]at hb
  go_wp2_with fail
  refine(F1.out _).mono ?_
  rintro e w4 ⟨rfl,rfl⟩
  go_wp2_with fail
  refine(H1.out n (by omega) _ ht3).mono ?_
  rintro e w4 ⟨rfl,hb4⟩
  go_wp2_with fail
  go_ret2
  exact⟨by rw[hb];rfl,hb13.trans (hb4.mono hb13.size)⟩
theorem jle:B zT=B (zq 50000 xZ):=by rw[Xe]
theorem Yt(l:List UInt8)(hl:l.length<=800000)(w:World)(ht:TabsN w):
  Calls prog 106 #[.string (B l)] w fun e w'=>∃q:Bool,(q=true↔vA l)/\e=.returned (.bool q)/\Below w.heap.size w w':=by
 have H1:=jl9 (Ke 50000 (by omega) xZ (by decide) w ht)
 rw[<- jle]at H1
 have zs:(⟨#[48,48,48,48,48,48,48,48]⟩:ByteArray)=B xZ:=rfl
 have ls:(B zT).size=21:=rfl
 have bl:=jq l
 by_cases h21:21<l.length
 ·have hno:¬vA l:=fun h=>by have:=jge h;omega
  have q1:(21:Int)<((B l).size:Int):=by rw[bl];omega
  go_enter func106,ntmps106
  rw[zs]
  go_wp2_with fail
  refine H1.out.mono ?_
  rintro e w1 ⟨rfl,hb1⟩
  go_wp2_with fail
  go_ret
  exact⟨false,by simp[hno],rfl,hb1⟩
 have q1:¬(21:Int)<((B l).size:Int):=by rw[bl];omega
 have bs:(B l).size<=21:=by rw[bl];omega
 have hp:=jcn (l:=l)
 have A1:=jl9 (fun k w ht=>Zh (l++zT.drop k) (by rw[jmb,jmn];have:zT.length=21:=rfl;omega) w ht)
 have E1:Hid (∀k,B l++(B zT).extract k 21=B (l++zT.drop k)):=fun k=>by
  have:=ext_drop zT k
  rw[ls]at this
  rw[this,jS]
 generalize hL:B zT=L at *
 go_enter func106,ntmps106
 rw[zs]
 go_wp2_with fail
 refine H1.out.mono ?_
 rintro e w1 ⟨rfl,hb1⟩
 go_wp2_with fail
 go_loopw [16] (fun i wr=>∃k:Nat,k<=22/\i=.int .i64 k/\Below w.heap.size w wr/\∀j,j<k->jdb (l++zT.drop j)=false) (fun i _=>22-(intOf i).toNat)
 case atStart=>exact⟨0,by omega,rfl,hb1,fun j hj=>by omega⟩
 case round =>
 obtain⟨k,hk,rfl,hb,hj⟩:=hrel
 have HJ:=jl9 hj
 clear hj
 by_cases hlt:k<22
 ·have hk2:(k:Int)<=21:=by omega
  go_wp2_with fail
  rw[E1.out k]
  refine(A1.out k _ (ht.below hb (jma _))).mono ?_
  rintro e w2 ⟨rfl,hb2⟩
  have hb':=hb.trans (hb2.mono hb.size)
  cases hq:jdb (l++zT.drop k) with
  | true =>
   have hyes:vA l:=hp.2 ⟨k,by omega,Yk hq⟩
   clear hq
   go_wp2_with fail
   go_ret
   exact⟨true,by simp[hyes],rfl,hb'⟩
  | false =>
  have HN:Hid (∀j,j<k+1->jdb (l++zT.drop j)=false):=by
   intro j hj
   by_cases e:j=k
   ·rw[e];exact hq
   exact HJ.out j (by omega)
  clear hq
  go_wp2_with fail
  go_roundw
  case rel=>exact⟨k+1,by omega,by go_num,hb',HN.out⟩
  case measure=>simp[intOf];omega
 obtain rfl:k=22:=by omega
 go_wp2_with fail
 go_ret
 refine⟨false,?_,rfl,hb⟩
 rw[hp]
 constructor
 ·intro h;cases h
 rintro⟨j,hj,n,f,h⟩
 have:=jbv.2 ⟨n,f,h⟩
 rw[HJ.out j (by omega)]at this
 cases this
theorem XT(k:Nat):Lib.repeatL [32] k=List.replicate k 32:=by
 induction k with
 | zero=>rfl
 | succ k ih=>rw[List.replicate_succ,<- ih];rfl
theorem Yv(t:List UInt8)(n:Nat)(h2:2<=n)(h5:n<=50000)(hl:t.length<n)(w:World):
  Calls prog 108 #[.string (B t),.int .i64 (n:Int)] w fun e w'=>e=.returned (.bool (vZ t n))/\Below w.heap.size w w':=by
 have bt:=jq t
 have e10:(B [32]).size=1:=rfl
 have hc0:(B [32]).size*(n-t.length-1)<=140737488355328:=by simp only[e10];omega
 have R1:=jl9 (Tryz.strings_Repeat (B [32]) (n-t.length-1) w (by omega) hc0)
 have G1:=jl9 (fun w=>xL (t++(List.replicate (n-t.length-1) 32++[10])) (by simp;omega) w)
 have hk:((n-t.length-1:Nat):Int)=(n:Int)-(t.length:Int)-1:=by omega
 rw[hk,ju,XT,show(⟨(List.replicate (n-t.length-1) (32:UInt8)).toArray⟩:ByteArray)=B (List.replicate (n-t.length-1) 32) from rfl]at R1
 have E1:Hid (B t++B (List.replicate (n-t.length-1) 32) ++ ⟨#[10]⟩=B (t++(List.replicate (n-t.length-1) 32++[10]))):=by
  show _=_
  rw[show(⟨#[10]⟩:ByteArray)=B [10] from rfl,jS,jS,jmA]
 have s1:(B (List.replicate (n-t.length-1) 32)).size<=50000:=by rw[jq];simp;omega
 have s2:(B t++B (List.replicate (n-t.length-1) 32)).size<=100000:=by rw[jne];omega
 have s0:(B t).size<=50000:=by omega
 simp only[jfc h2 h5 hl]at G1
 have z1:(⟨#[32]⟩:ByteArray)=B [32]:=rfl
 have w1:IntKind.i64.wrap ((n:Int)-(t.length:Int))=(n:Int)-(t.length:Int):=jmU _ (by omega)
 have w2:IntKind.i64.wrap ((n:Int)-(t.length:Int)-1)=(n:Int)-(t.length:Int)-1:=jmU _ (by omega)
 generalize B (List.replicate (n-t.length-1) 32)=R at *
 generalize vZ t n=q at *
 clear hk
 rw[<- bt]at w1 w2 R1
 generalize hX:B t=X at *
 clear bt hX
 go_enter func108,ntmps108
 rw[z1]
 go_wp2_with fail
 refine R1.out.mono ?_
 rintro e w3 ⟨rfl,hb1⟩
 go_wp2_with fail
 rw[E1.out]
 refine(G1.out _).mono ?_
 rintro e w4 ⟨rfl,hb2⟩
 go_wp2_with fail
 go_ret
 exact⟨rfl,hb1.trans (hb2.mono hb1.size)⟩
def Kh(t:List UInt8)(n:Nat):Bool := !(decide (t=qo n))&&Lib.hasPrefix (qo n) t
theorem jeB{t:List UInt8}{n:Nat}:Kh t n=true↔∃z,t++z=qo n/\z≠[]:=by
 unfold Kh Lib.hasPrefix
 simp only[jmv,joj,decide_eq_false_iff_not,jnN]
 constructor
 ·rintro⟨h1,z,h2⟩
  exact⟨z,h2,fun e=>h1 (by rw[<- h2,e];simp)⟩
 rintro⟨z,h2,h3⟩
 refine⟨fun e => ?_,z,h2⟩
 rw[e]at h2
 exact h3 (by simpa using h2)
theorem Yu(t:List UInt8)(n:Nat)(h5:n<=50000)(w:World)(ht:TabsN w):
  Calls prog 111 #[.string (B t),.int .i64 (n:Int)] w fun e w'=>e=.returned (.bool (Kh t n))/\Below w.heap.size w w':=by
 have F1:=jl9 (ja5 n (by omega) w ht)
 have P1:=jl9 (fun w=>Tryz.strings_HasPrefix (B (qo n)) (B t) w)
 simp only[ju]at P1
 have same:((B t).toList==(B (qo n)).toList)=decide (t=qo n):=by rw[jmY,jmY,ju,ju,jm8];simp
 have hq:Kh t n=(!(decide (t=qo n))&&Lib.hasPrefix (qo n) t):=rfl
 generalize Kh t n=q at *
 generalize Lib.hasPrefix (qo n) t=p at *
 generalize decide (t=qo n)=d at *
 generalize B (qo n)=f at *
 generalize B t=X at *
 cases d with
 | true =>
  go_enter func111,ntmps111
  go_wp2_with fail
  refine F1.out.mono ?_
  rintro e w1 ⟨rfl,hb1⟩
  go_wp2_with fail
  go_ret
  exact⟨by rw[hq];rfl,hb1⟩
 | false =>
 go_enter func111,ntmps111
 go_wp2_with fail
 refine F1.out.mono ?_
 rintro e w1 ⟨rfl,hb1⟩
 go_wp2_with fail
 refine(P1.out _).mono ?_
 rintro e w2 ⟨rfl,rfl⟩
 go_wp2_with fail
 go_ret
 exact⟨by rw[hq];rfl,hb1⟩
theorem jk5(a:ByteArray)(w:World):Sm.Strs (w.alloc (.cells #[.string a] 9)) (.slice (some ⟨w.heap.size,0,none⟩) 1 1) [a]:=by
 refine⟨_,1,rfl,?_⟩
 intro i s h
 refine⟨w.heap.size,0,rfl,by simp,?_⟩
 rw[jny _ _ _ _ rfl]
 match i,h with
 | 0,h=>simp at h;subst h;rfl
 | n+1,h=>simp at h
theorem jfR(a:ByteArray)(ha:a.size<=maxLen)(w:World):
  Calls prog 125 #[.slice (some ⟨w.heap.size,0,none⟩) 1 1] (w.alloc (.cells #[.string a] 9)) fun e w'=>e=.returned (.int .u32 (Sm.M.crc a.data.toList:Nat))/\Below w.heap.size w w' :=
 (Sm.sum_any _ [a] _ (jk5 a w) (by simp[maxLen]) (fun i s h=>by
  match i,h with
  | 0,h=>simp at h;subst h;exact ha
  | n+1,h=>simp at h)).mono fun e w' ⟨he,hb⟩=>⟨by rw[he];simp[Sm.cat,Sm.M.crc],((jmc _ _).alloc (jma _) _).trans (hb.mono (by simp))⟩
theorem jey{b:List UInt8}(hg:goodR b=true):(fullR b).length=b.length+27+2*(Lib.decDigits b.length).length-4:=by
 have:=Vw (vv b)
 unfold fullR recR zq qo AMD END
 simp;omega
theorem full_le{b:List UInt8}(hg:goodR b=true):(fullR b).length<=50100:=by
 obtain⟨h2,h5,_,_⟩:=good_iff.1 hg
 have:=QB (show b.length<=99999 by omega)
 have:=jey hg
 omega
theorem record_yes(l:List UInt8)(hg:goodR l=true)(w:World)(ht:TabsN w):
  Calls prog 86 #[.string (B l)] w fun e w'=>e=.returned (.tuple #[.string (B (fullR l)),.nilIface])/\Below w.heap.size w w':=by
 obtain⟨h2,h5,_,_⟩:=good_iff.1 hg
 have bl:=jq l
 have G1:=jl9 (xL l (by omega) w)
 rw[hg]at G1
 have S1:=jl9 (fun w=>jfR (B l) (by rw[bl];unfold maxLen;omega) w)
 simp only[ju]at S1
 have F1:=jl9 (fun w=>Sm.figures_any (Sm.M.crc l) (Sm.M.crc_lt l) w)
 have eF:Sm.figs (Sm.M.crc l)=B (xu l):=(jjl _).symm
 simp only[eF]at F1
 have H1:=jl9 (fun w ht=>Ke l.length (by omega) (xu l) (by rw[Vw (vv l)];omega) w ht)
 have T1:=jl9 (fun w ht=>ja5 l.length (by omega) w ht)
 have hh:(zq l.length (xu l)).length<=30:=by
  have:=Vw (vv l)
  have:=QB (show l.length<=99999 by omega)
  unfold zq AMD;simp;omega
 have E1:Hid (B (zq l.length (xu l)) ++ ⟨#[10]⟩++B l++B (qo l.length)=B (fullR l)):=by
  show _=_
  rw[show(⟨#[10]⟩:ByteArray)=B [10] from rfl,jS,jS,jS]
  congr 1
  unfold fullR;rw[qO];simp
 have s1:(B (zq l.length (xu l))).size<=30:=by rw[jq];exact hh
 have s2:(B (zq l.length (xu l)) ++ ⟨#[10]⟩).size<=31:=by rw[jne];show _+1<=_;omega
 have s3:(B (zq l.length (xu l)) ++ ⟨#[10]⟩++B l).size<=60000:=by rw[jne];omega
 have s4:(B (qo l.length)).size<=30:=by
  have:=QB (show l.length<=99999 by omega)
  rw[jq];unfold qo END;simp;omega
 have s0:(B l).size<=50000:=by omega
 generalize B (zq l.length (xu l))=X at *
 generalize B (qo l.length)=Y at *
 generalize B (xu l)=Z at *
 rw[<- bl]at H1 T1
 generalize hL:B l=L at *
 clear hL bl hg hh
 go_enter func86,ntmps86
 go_wp2_with fail
 refine G1.out.mono ?_
 rintro e w1 ⟨rfl,hb1⟩
 go_wp2_with fail
 refine(S1.out _).mono ?_
 rintro e w2 ⟨rfl,hb2⟩
 have hb12:=hb1.trans (hb2.mono hb1.size)
 go_wp2_with fail
 refine(F1.out _).mono ?_
 rintro e w3 ⟨rfl,hb3⟩
 have hb13:=hb12.trans (hb3.mono hb12.size)
 go_wp2_with fail
 refine(H1.out _ (ht.below hb13 (jma _))).mono ?_
 rintro e w4 ⟨rfl,hb4⟩
 have hb14:=hb13.trans (hb4.mono hb13.size)
 go_wp2_with fail
 refine(T1.out _ (ht.below hb14 (jma _))).mono ?_
 rintro e w5 ⟨rfl,hb5⟩
 have hb15:=hb14.trans (hb5.mono hb14.size)
 go_wp2_with fail
 go_ret2
 exact⟨by rw[<- E1.out];rfl,hb15⟩
theorem jdJ(l:List UInt8)(hl:l.length<=1000000)(hg:goodR l=false)(w:World):
  Calls prog 86 #[.string (B l)] w fun e w'=>e=.returned (.tuple #[.string (B []),qi 2])/\Below w.heap.size w w':=by
 have G1:=jl9 (xL l hl w)
 rw[hg]at G1
 go_enter func86,ntmps86
 go_wp2_with fail
 refine G1.out.mono ?_
 rintro e w1 ⟨rfl,hb1⟩
 go_wp2_with fail
 go_ret2
 exact⟨rfl,hb1⟩
def UV(n:Int):Int:=if 2<=n/\n<=50000 then ((zq n.toNat xZ).length:Int)+1+n+((qo n.toNat).length:Int) else 0
theorem Wm{t:List UInt8}(h:xF t):yv t 2 [] 0:=.inr (.inl ⟨h,rfl,rfl,rfl⟩)
theorem JJ{t:List UInt8}(h:¬xF t)(h2:¬∃b,vr t b):yv t 3 [] 0:=.inr (.inr ⟨h,h2,rfl,rfl,rfl⟩)
theorem jcc{l:List UInt8}(h:(10:UInt8)∈l):l=head l++10::l.drop ((head l).length+1):=by
 have:=zA l
 have hn:nl l=true:=by unfold nl;simpa using h
 unfold qI at this
 rw[hn,if_pos rfl,if_pos rfl]at this
 simpa using this
def readV(k:Nat)(b:List UInt8)(n:Nat):Ending:=.returned (.tuple #[.int .i64 (k:Int),.string (B b),.int .i64 (n:Int)])
theorem read_any(l:List UInt8)(hl:l.length<=700000)(w:World)(ht:TabsN w):
  Calls prog 77 #[.string (B l)] w fun e w'=>∃k b n,yv l k b n/\e=readV k b n/\Below w.heap.size w w':=by
 have C1:=jl9 (jbm l 10 (by omega) w)
 by_cases h10:(10:UInt8)∈l
 ·have hc:l.contains 10=true:=by simpa using h10
  have hln:(10:UInt8)∉head l:=yZ
  have hs:=jcc h10
  have eh:l.takeWhile (· != 10)=head l:=rfl
  rw[hc,eh]at C1
  have hh:(head l).length<=700000:=by have:=jiI l;omega
  have A1:=jl9 (fun w ht=>Zh (head l) (by omega) w ht)
  generalize head l=line at *
  generalize l.drop (line.length+1)=r at *
  clear hc eh
  have hr:r.length<=700000:=by have:=congrArg List.length hs;simp at this;omega
  cases hq:jdb line with
  | false =>
   have HO:Hid (yv l 3 [] 0):=by
    have h:=jgj (r:=r) hln (fun h=>by have:=jbv.2 h;rw[hq]at this;cases this)
    rw[<- hs]at h
    exact JJ h.1 h.2
   rw[hq]at A1
   clear hq hs hln hr
   go_enter func77,ntmps77
   go_wp2_with fail
   refine C1.out.mono ?_
   rintro e w1 ⟨rfl,hb1⟩
   go_wp2_with fail
   refine(A1.out _ (ht.below hb1 (jma _))).mono ?_
   rintro e w2 ⟨rfl,hb2⟩
   go_wp2_with fail
   go_ret3
   exact⟨3,[],0,HO.out,rfl,hb1.trans (hb2.mono hb1.size)⟩
  | true =>
  obtain⟨n,f,hH⟩:=Yk hq
  obtain⟨_,hM⟩:=jfm hH
  rw[hq,hM]at A1
  have h2:=hH.lo
  have h5:=hH.hi
  have hfig:=hH.fig
  have hle:=hH.eq
  clear hq hM
  by_cases hlt:r.length<n
  ·have hlt':((B r).size:Int)<n:=by rw[jq];omega
   have HS:=jl9 (jbS (f:=f) h2 h5 hfig hlt)
   rw[<- hle,<- hs]at HS
   have BB:=jl9 (fun w=>Yv r n h2 h5 hlt w)
   generalize vZ r n=q at *
   clear hs hle hH hln hfig hlt hr
   generalize B r=R at *
   cases q with
   | true =>
    have HO:Hid (yv l 2 [] 0):=Wm (HS.out.1.2 rfl)
    go_enter func77,ntmps77
    go_wp2_with fail
    refine C1.out.mono ?_
    rintro e w1 ⟨rfl,hb1⟩
    go_wp2_with fail
    refine(A1.out _ (ht.below hb1 (jma _))).mono ?_
    rintro e w2 ⟨rfl,hb2⟩
    have hb12:=hb1.trans (hb2.mono hb1.size)
    go_wp2_with fail
    refine(BB.out _).mono ?_
    rintro e w3 ⟨rfl,hb3⟩
    have hb13:=hb12.trans (hb3.mono hb12.size)
    go_wp2_with fail
    refine(Zr _).mono ?_
    rintro e w4 ⟨rfl,rfl⟩
    go_wp2_with fail
    go_ret3
    exact⟨2,[],0,HO.out,rfl,hb13⟩
   | false =>
   have HO:Hid (yv l 3 [] 0):=JJ (fun h=>by cases HS.out.1.1 h) HS.out.2
   go_enter func77,ntmps77
   go_wp2_with fail
   refine C1.out.mono ?_
   rintro e w1 ⟨rfl,hb1⟩
   go_wp2_with fail
   refine(A1.out _ (ht.below hb1 (jma _))).mono ?_
   rintro e w2 ⟨rfl,hb2⟩
   have hb12:=hb1.trans (hb2.mono hb1.size)
   go_wp2_with fail
   refine(BB.out _).mono ?_
   rintro e w3 ⟨rfl,hb3⟩
   have hb13:=hb12.trans (hb3.mono hb12.size)
   go_wp2_with fail
   refine(JM _).mono ?_
   rintro e w4 ⟨rfl,rfl⟩
   go_wp2_with fail
   go_ret3
   exact⟨3,[],0,HO.out,rfl,hb13⟩
  have br:=jq r
  have hlt':¬((B r).size:Int)<n:=by rw[br];omega
  have hnr:(n:Int)<=(B r).size:=by rw[br];omega
  have x1:(B r).extract 0 n=B (r.take n):=ext_take r n
  have x2:(B r).extract n (B r).size=B (r.drop n):=ext_drop r n
  have hb0:(r.take n).length=n:=by simp;omega
  have hrd:r.take n++r.drop n=r:=jmQ n r
  have HL:=jl9 (Vf (f:=f) (b:=r.take n) (r:=r.drop n) h2 h5 hfig hb0)
  rw[hrd,<- hle,<- hs]at HL
  generalize hbd:r.take n=bd at *
  generalize hrs:r.drop n=rs at *
  have HF:=jl9 (fun w ht=>Yu rs n h5 w ht)
  have HFB:=jl9 (jeB (t:=rs) (n:=n))
  have P1:=jl9 (fun w=>Tryz.strings_HasPrefix (B l) (B (fullR bd)) w)
  have RN:=jl9 (jdJ bd (by omega))
  have RY:=jl9 (record_yes bd)
  have GD:=jl9 (fun w=>xL bd (by omega) w)
  have hel:l=zq n f++10::(bd++rs):=by rw[hrd,<- hle];exact hs
  clear hbd hrs hrd hs hlt hr hle
  have bsz:(B bd).size<=50000:=by rw[jq];omega
  have HX:=jl9 x1
  have HY:=jl9 x2
  clear x1 x2 br
  generalize B r=R at *
  generalize hBD:B bd=BD at *
  generalize B rs=RS at *
  have hl1:l.length<=700000:=hl
  cases hg:goodR bd with
  | false =>
   have RN2:=jl9 (RN.out hg)
   have GD2:=GD.out
   rw[hg]at GD2
   have GD3:=jl9 GD2
   have HO:Hid (yv l 3 [] 0):=JJ (fun h=>by have:=(HL.out.1.1 h).1;rw[hg]at this;cases this) (fun⟨b',h⟩=>by have:=((HL.out.2 b').1 h).2.1;rw[hg]at this;cases this)
   clear GD2 GD RY RN hg hH hln hfig hel hl hl1 P1 HL HF HFB
   go_enter func77,ntmps77
   go_wp2_with fail
   refine C1.out.mono ?_
   rintro e w1 ⟨rfl,hb1⟩
   go_wp2_with fail
   refine(A1.out _ (ht.below hb1 (jma _))).mono ?_
   rintro e w2 ⟨rfl,hb2⟩
   have hb12:=hb1.trans (hb2.mono hb1.size)
   go_wp2_with fail
   go_quiet (fail)
   go_wp2_with fail
   rw[HX.out,HY.out]
   have hbq:Below w.heap.size w (w2.drewN nq):=⟨hb12.os,hb12.tape,hb12.output,hb12.size,hb12.block⟩
   have htq:=ht.below hbq (jma _)
   generalize w2.drewN nq=w3 at *
   refine(RN2.out _).mono ?_
   rintro e w4 ⟨rfl,hb4⟩
   have hb14:=hbq.trans (hb4.mono hbq.size)
   rw[WV]
   go_wp2_with fail
   refine(GD3.out _).mono ?_
   rintro e w5 ⟨rfl,hb5⟩
   have hb15:=hb14.trans (hb5.mono hb14.size)
   go_wp2_with fail
   refine(JM _).mono ?_
   rintro e w7 ⟨rfl,rfl⟩
   go_wp2_with fail
   go_ret3
   exact⟨3,[],0,HO.out,rfl,hb15⟩
  | true =>
  have RY2:=jl9 (RY.out hg)
  have GD2:=GD.out
  rw[hg]at GD2
  have GD3:=jl9 GD2
  clear GD2 GD RY RN
  have fl:=full_le hg
  have e1:Lib.hasPrefix (B l).data.toList (B (fullR bd)).data.toList=Lib.hasPrefix l (fullR bd):=by rw[ju,ju]
  have fs:=jq (fullR bd)
  generalize hFB:B (fullR bd)=FB at *
  cases hp:Lib.hasPrefix l (fullR bd) with
  | true =>
   have HO:Hid (yv l 1 bd (fullR bd).length):=by
    refine .inl ⟨⟨hg,?_⟩,rfl,rfl⟩
    unfold Lib.hasPrefix at hp
    obtain⟨z,hz⟩:=List.isPrefixOf_iff_prefix.1 hp
    exact⟨z,hz.symm⟩
   have P2:=P1.out
   rw[e1,hp]at P2
   have P3:=jl9 P2
   clear hp hg e1 hH hln hfig hel hl hl1 P1 P2 HL HF HFB GD3
   rw[<- fs]at HO
   clear fs hFB
   go_enter func77,ntmps77
   go_wp2_with fail
   refine C1.out.mono ?_
   rintro e w1 ⟨rfl,hb1⟩
   go_wp2_with fail
   refine(A1.out _ (ht.below hb1 (jma _))).mono ?_
   rintro e w2 ⟨rfl,hb2⟩
   have hb12:=hb1.trans (hb2.mono hb1.size)
   go_wp2_with fail
   go_quiet (fail)
   go_wp2_with fail
   rw[HX.out,HY.out]
   have hbq:Below w.heap.size w (w2.drewN nq):=⟨hb12.os,hb12.tape,hb12.output,hb12.size,hb12.block⟩
   have htq:=ht.below hbq (jma _)
   generalize w2.drewN nq=w3 at *
   refine(RY2.out _ htq).mono ?_
   rintro e w4 ⟨rfl,hb4⟩
   have hb14:=hbq.trans (hb4.mono hbq.size)
   go_wp2_with fail
   refine(P3.out _).mono ?_
   rintro e w5 ⟨rfl,rfl⟩
   go_wp2_with fail
   go_ret3
   exact⟨1,bd,FB.size,HO.out,by rw[<- hBD];rfl,hb14⟩
  | false =>
  have P2:=P1.out
  rw[e1,hp]at P2
  have P3:=jl9 P2
  have hw:¬∃b,vr l b:=by
   rintro⟨b',h'⟩
   obtain⟨rfl,_,_,_⟩:=(HL.out.2 b').1 h'
   obtain⟨_,more,e⟩:=h'
   have:Lib.hasPrefix l (fullR b')=true:=by unfold Lib.hasPrefix;rw[jnN];exact⟨more,e.symm⟩
   rw[hp]at this;cases this
  have hpt:xF l↔Kh rs n=true:=by
   rw[HL.out.1,HFB.out]
   exact⟨fun h=>h.2,fun h=>⟨hg,h⟩⟩
  have HO:=jl9 (show(Kh rs n=true->yv l 2 [] 0)/\(Kh rs n=false->yv l 3 [] 0) from
   ⟨fun h=>Wm (hpt.2 h),fun h=>JJ (fun h'=>by rw[hpt.1 h']at h;cases h) hw⟩)
  generalize Kh rs n=q at *
  clear hp hg e1 hH hln hfig hel hl hl1 P1 P2 HL HFB hw hpt fs hFB
  cases q with
  | true =>
   have HO2:=jl9 (HO.out.1 rfl)
   go_enter func77,ntmps77
   go_wp2_with fail
   refine C1.out.mono ?_
   rintro e w1 ⟨rfl,hb1⟩
   go_wp2_with fail
   refine(A1.out _ (ht.below hb1 (jma _))).mono ?_
   rintro e w2 ⟨rfl,hb2⟩
   have hb12:=hb1.trans (hb2.mono hb1.size)
   go_wp2_with fail
   go_quiet (fail)
   go_wp2_with fail
   rw[HX.out,HY.out]
   have hbq:Below w.heap.size w (w2.drewN nq):=⟨hb12.os,hb12.tape,hb12.output,hb12.size,hb12.block⟩
   have htq:=ht.below hbq (jma _)
   generalize w2.drewN nq=w3 at *
   refine(RY2.out _ htq).mono ?_
   rintro e w4 ⟨rfl,hb4⟩
   have hb14:=hbq.trans (hb4.mono hbq.size)
   go_wp2_with fail
   refine(P3.out _).mono ?_
   rintro e w5 ⟨rfl,rfl⟩
   go_wp2_with fail
   refine(GD3.out _).mono ?_
   rintro e w5 ⟨rfl,hb5⟩
   have hb15:=hb14.trans (hb5.mono hb14.size)
   go_wp2_with fail
   refine(HF.out _ (ht.below hb15 (jma _))).mono ?_
   rintro e w6 ⟨rfl,hb6⟩
   have hb16:=hb15.trans (hb6.mono hb15.size)
   go_wp2_with fail
   refine(Zr _).mono ?_
   rintro e w7 ⟨rfl,rfl⟩
   go_wp2_with fail
   go_ret3
   exact⟨2,[],0,HO2.out,rfl,hb16⟩
  | false =>
  have HO2:=jl9 (HO.out.2 rfl)
  go_enter func77,ntmps77
  go_wp2_with fail
  refine C1.out.mono ?_
  rintro e w1 ⟨rfl,hb1⟩
  go_wp2_with fail
  refine(A1.out _ (ht.below hb1 (jma _))).mono ?_
  rintro e w2 ⟨rfl,hb2⟩
  have hb12:=hb1.trans (hb2.mono hb1.size)
  go_wp2_with fail
  go_quiet (fail)
  go_wp2_with fail
  rw[HX.out,HY.out]
  have hbq:Below w.heap.size w (w2.drewN nq):=⟨hb12.os,hb12.tape,hb12.output,hb12.size,hb12.block⟩
  have htq:=ht.below hbq (jma _)
  generalize w2.drewN nq=w3 at *
  refine(RY2.out _ htq).mono ?_
  rintro e w4 ⟨rfl,hb4⟩
  have hb14:=hbq.trans (hb4.mono hbq.size)
  go_wp2_with fail
  refine(P3.out _).mono ?_
  rintro e w5 ⟨rfl,rfl⟩
  go_wp2_with fail
  refine(GD3.out _).mono ?_
  rintro e w5 ⟨rfl,hb5⟩
  have hb15:=hb14.trans (hb5.mono hb14.size)
  go_wp2_with fail
  refine(HF.out _ (ht.below hb15 (jma _))).mono ?_
  rintro e w6 ⟨rfl,hb6⟩
  have hb16:=hb15.trans (hb6.mono hb15.size)
  go_wp2_with fail
  refine(JM _).mono ?_
  rintro e w7 ⟨rfl,rfl⟩
  go_wp2_with fail
  go_ret3
  exact⟨3,[],0,HO2.out,rfl,hb16⟩
 have hc:l.contains 10=false:=by simpa using h10
 have eh:l.takeWhile (· != 10)=l:=vt (jdW h10)
 rw[hc,eh]at C1
 have BH:=jl9 (fun w ht=>Yt l (by omega) w ht)
 have HO:=jl9 (show(vA l->yv l 2 [] 0)/\(¬vA l->yv l 3 [] 0) from
  ⟨jim,fun h=>JJ (fun h'=>h ((Wo h10).1 h')) (fun⟨b,h'⟩=>Kb h10 h')⟩)
 clear hc eh h10
 generalize B (l.drop (l.length+1))=R at *
 go_enter func77,ntmps77
 go_wp2_with fail
 refine C1.out.mono ?_
 rintro e w1 ⟨rfl,hb1⟩
 go_wp2_with fail
 refine(BH.out _ (ht.below hb1 (jma _))).mono ?_
 rintro e w2 ⟨q,hq,rfl,hb2⟩
 have hb12:=hb1.trans (hb2.mono hb1.size)
 have HQ:=jl9 hq
 clear hq
 go_wp2_with fail
 cases q with
 | true =>
  have HO2:=jl9 (HO.out.1 (HQ.out.1 rfl))
  refine(Zr _).mono ?_
  rintro e w7 ⟨rfl,rfl⟩
  go_wp2_with fail
  go_ret3
  exact⟨2,[],0,HO2.out,rfl,hb12⟩
 | false =>
 have HO2:=jl9 (HO.out.2 (fun h=>by cases HQ.out.2 h))
 refine(JM _).mono ?_
 rintro e w7 ⟨rfl,rfl⟩
 go_wp2_with fail
 go_ret3
 exact⟨3,[],0,HO2.out,rfl,hb12⟩
def b3:List UInt8:=[32,97,10]
theorem jj9(n k:Nat)(hn:n<=1000)(w:World):Calls prog 17 #[qi n,.int .i64 (k:Int)] w fun e w'=>e=.returned (.bool (decide (n=k)))/\w'=w:=by
 have N1:=jl9 (jdV n hn w)
 go_enter func17,ntmps17
 go_wp2_with fail
 refine N1.out.mono ?_
 rintro e w1 ⟨rfl,rfl⟩
 go_wp2_with fail
 go_ret
 exact⟨by rw[show((n:Int)==(k:Int))=decide (n=k) by rw[jm8];simp;omega];rfl,rfl⟩
def signB(l:List UInt8):Bool:=Lib.hasPrefix l [37]
theorem beginsF_any(s:ByteArray)(hs:s.size<=100000)(w:World):
  Calls prog 100 #[.string s] w fun e w'=>e=.returned (.bool (signB s.data.toList&&decide (jJ s.data.toList=5)))/\Below w.heap.size w w':=by
 have P1:=jl9 (fun w=>Tryz.strings_HasPrefix s ⟨#[37]⟩ w)
 have e0:Lib.hasPrefix s.data.toList (⟨#[37]⟩:ByteArray).data.toList=signB s.data.toList:=rfl
 simp only[e0]at P1
 have K1:=jl9 (fun w=>JQ s (by unfold maxLen;omega) w)
 have ek:(((jJ s.data.toList:Nat):Int)==5)=decide (jJ s.data.toList=5):=by rw[jm8];simp;omega
 generalize signB s.data.toList=q at *
 generalize decide (jJ s.data.toList=5)=d at *
 generalize jJ s.data.toList=k at *
 cases q with
 | false =>
  go_enter func100,ntmps100
  go_wp2_with fail
  refine(P1.out _).mono ?_
  rintro e w1 ⟨rfl,rfl⟩
  go_wp2_with fail
  go_ret
  exact⟨rfl,jmc _ _⟩
 | true =>
 go_enter func100,ntmps100
 go_wp2_with fail
 refine(P1.out _).mono ?_
 rintro e w1 ⟨rfl,rfl⟩
 go_wp2_with fail
 refine(K1.out _).mono ?_
 rintro e w2 ⟨rfl,hb⟩
 go_wp2_with fail
 go_ret
 exact⟨by simp,hb⟩
end Fr
namespace Bk
attribute [local go_sem] jmk
def jlw(w:World)(s:ByteArray)(pre:List Ln)(W:World):Prop:=Boxed W w.heap.size 9 (.string s)/\Boxed W (w.heap.size+1) 9 (.string ⟨#[]⟩)/\Below w.heap.size w W/\∀y∈pre,jfC y.text=false
def jl2(w:World)(s:ByteArray)(c:Code)(pre:List Ln)(W:World):Prop:=Below w.heap.size w W/\c=.ret/\∃x,pre.find? (fun y=>jfC y.text)=some x/\Boxed W (w.heap.size+1) 9 (.string (s.extract 0 x.at_))
theorem jff(w W:World)(u:ByteArray)(tmps:Array Value)(h:Boxed W (w.heap.size+1) 9 (.string u))(hK:W.heap[w.heap.size+3]?=some (.deferred (some [])))(hB:Below w.heap.size w W)(t2:tmps[2]?=some (.pointer (some ⟨w.heap.size+1,0,none⟩))):
  bodyPostM Fence.wide 9 prog Tryz.f75 (fun e w'=>e=.returned (.string u)/\Below w.heap.size w w') .ret {tmps:=tmps,defers:=[{target:=.collected (w.heap.size+3),args:=#[]}]} W:=by
 have p1:=grownBy_putObj' W (w.heap.size+3) (.deferred none)
 have zW:w.heap.size+3<W.heap.size:=(Array.getElem?_eq_some_iff.1 hK).1
 have r:Boxed (W.putObj (w.heap.size+3) (.deferred none)) (w.heap.size+1) 9 (.string u):=(p1.block _ (by omega) (fun e=>by have:=jmf e;omega)).trans h
 have c:=r.cell
 refine⟨by simp,.inl ⟨_,_,rfl,run_takeDeferred hK,?_⟩⟩
 exact⟨.string u,by simp[results,Tryz.f75,go_sem,t2,c],rfl,hB.trans (belowK_b (w:=w) (jma _) W _ _ _ (by omega) hK rfl rfl)⟩
theorem jhm(s:ByteArray)(hsz:s.size<=100000)(w:World):
  Calls prog 75 #[.string s] w fun e w'=>e=.returned (.string (s.extract 0 (ZB (je s.data.toList) s.size)))/\Below w.heap.size w w':=by
 obtain⟨xs,hxs⟩:∃xs,je s.data.toList=xs:=⟨_,rfl⟩
 have HXS:=jl9 hxs
 have HH:=fun w b=>qL s b w
 rw[hxs]at HH ⊢
 have FULL:Hid (s.extract 0 s.size=s):=by
  show s.extract 0 s.size=s
  apply jns
  simp
 have LEN:Hid (∀pre x post,xs=pre++x::post->x.text.length<=s.size/\x.at_<=s.size):=fun pre x post h=>by
  have hj:=zg s.data.toList
  have ha:=(vD s.data.toList pre x post (hxs.trans h)).2
  rw[hxs,h,jmL,jmt]at hj
  have:=congrArg List.length hj
  simp only[jmb]at this
  rw[<- jmq]at this
  have hb:x.text.length<=x.bytes.length:=by unfold Ln.bytes;rw[jmb];omega
  omega
 clear hxs
 refine callsIn_wide (n:=9).1 ?_
 refine callsIn_of_wp_marks func75 rfl trivial ?_ rfl
 simp only[ntmps75,jmN,jme,jmB,Nat.reduceAdd,Nat.reduceSub,jmW,jmX,jm5,jm0,jmS,jmu]
 gi_wp2_with fail
 refine⟨trivial,(callsIn_wide.2 (yj s _)).mono ?_⟩
 rintro e w3 ⟨rfl,rfl⟩
 gi_wp2_with fail
 have k1:=((jnr w 9 (.string s)).alloc (.cells #[.string ⟨#[]⟩] 9)).alloc (.cells #[.string s] 9)
 have k2:=(xC w (.cells #[.string s] 9) 9 (.string ⟨#[]⟩)).alloc (.cells #[.string s] 9)
 have k3:=ZD w (.cells #[.string s] 9) (.cells #[.string ⟨#[]⟩] 9) 9 (.string s)
 have kb:Below w.heap.size w (((w.alloc (.cells #[.string s] 9)).alloc (.cells #[.string ⟨#[]⟩] 9)).alloc (.cells #[.string s] 9)):=(((jmc _ w).alloc (jma _) _).alloc (by simp) _).alloc (by simp;omega) _
 have kz:(((w.alloc (.cells #[.string s] 9)).alloc (.cells #[.string ⟨#[]⟩] 9)).alloc (.cells #[.string s] 9)).heap.size=w.heap.size+3:=by simp
 generalize ((w.alloc (.cells #[.string s] 9)).alloc (.cells #[.string ⟨#[]⟩] 9)).alloc (.cells #[.string s] 9)=w1 at *
 have ab:∀k,k<=5->zD (w.heap.size+3) k (jlw w s):=fun k hk pre W W' h ht =>
  ⟨ht.box h.1 (.inl (by omega)),ht.box h.2.1 (.inl (by omega)),h.2.2.1.trans (ht.below (by omega) h.2.2.1.size),h.2.2.2⟩
 refine vC (gf:=139) (lb:=#[.pointer (some ⟨w.heap.size+2,0,none⟩)]) rfl (enters_of func139 (by kernel_rfl) rfl) (HH w1 _ k3 (by omega)) (fun _=>rfl)
  (jlw w s) (jl2 w s) (by rw[kz];exact ab _ (by omega)) (fun c pre W W' h ht=>by
   obtain⟨h1,h2,x,h3,h4⟩:=h
   exact⟨h1.trans (ht.below (by rw[kz];omega) h1.size),h2,x,h3,ht.box h4 (.inl (by rw[kz];omega))⟩) ⟨k1,k2,kb,fun y h=>by cases h⟩
  (fun a pre x a' W=>∃Bx,w.heap.size+3+5<=Bx/\a'={tmps:=(a.tmps.setIfInBounds 6 (.agg (qP x))).setIfInBounds 3 (.pointer (some ⟨Bx,0,none⟩)),defers:=[]}/\ja W Bx 164 (qP x)/\jlw w s pre W)
  ?hM ?assign ?body ?done ?stop
 case hM =>
  rw[kz]
  rintro a pre x a' _ W W' ⟨Bx,h1,h2,h3,h4⟩ ht
  exact⟨Bx,h1,h2,(ht.same Bx h3.lt (.inr (by omega))).trans h3,ab 2 (by omega) pre W W' h4 ht⟩
 case assign =>
  rw[kz]
  intro l pre x post W hx hsz hi
  clear hx
  dsimp only[qP]
  gi_wp2
  exact⟨(vz.refl _ _ W).alloc hsz _,W.heap.size,by omega,rfl,ja.new _ _ _,hi.1.alloc _,hi.2.1.alloc _,hi.2.2.1.alloc hi.2.2.1.size _,hi.2.2.2⟩
 case body =>
  rw[kz]
  rintro l pre x post a' W hx hsz ⟨Bx,hB,rfl,hc,h1,h2,h3,h4⟩
  obtain⟨hl1,hl2⟩:=LEN.out pre x post hx
  clear hx
  simp only[jms,jm2,jm3,qP]at hc ⊢
  have p2:W.cell? ⟨Bx,2,none⟩=some (.string ⟨x.text.toArray⟩):=hc.cell 2
  have BG:=Fr.beginsF_any ⟨x.text.toArray⟩ (by show x.text.toArray.size<=_;simp;omega) W
  have eb:(Fr.signB (⟨x.text.toArray⟩:ByteArray).data.toList&&decide (jJ (⟨x.text.toArray⟩:ByteArray).data.toList=5))=jfC x.text:=rfl
  rw[eb]at BG
  gi_wp2_with fail
  refine⟨trivial,((callsIn_wide.2 BG).inRound l).mono ?_⟩
  rintro e V ⟨rfl,hV⟩
  have st:vz (w.heap.size+3) (3+2) W V:=⟨hV.size,fun r a b=>hV.block r (by omega)⟩
  have g1:Boxed V w.heap.size 9 (.string s):=(hV.block _ h1.lt).trans h1
  have g2:Boxed V (w.heap.size+1) 9 (.string ⟨#[]⟩):=(hV.block _ h2.lt).trans h2
  have g3:Below w.heap.size w V:=h3.trans (hV.mono h3.size)
  cases hbx:jfC x.text with
  | false =>
   gi_wp2
   refine⟨st,g1,g2,g3,fun y hy => ?_⟩
   rcases List.mem_append.1 hy with hy|hy
   ·exact h4 y hy
   rw[List.mem_singleton.1 hy];exact hbx
  | true =>
  have hcV:ja V Bx 164 _:=(hV.block _ hc.lt).trans hc
  have p1':V.cell? ⟨Bx,1,none⟩=some (.int .i64 x.at_):=by rw[hcV.cell];rfl
  have c1:=g1.cell
  have c2:=g2.cell
  have f2:=g2.frozen
  have fnd:(pre++[x]).find? (fun y=>jfC y.text)=some x:=by
   rw[List.find?_append,List.find?_eq_none.2 (fun y hy=>by rw[h4 y hy];simp),Option.none_or,List.find?_cons]
   simp[hbx]
  have hl3:(x.at_:Int)<=s.size:=by omega
  gi_wp2
  exact⟨st.setCell (p:=⟨w.heap.size+1,0,none⟩) (.inl (by show w.heap.size+1<_;omega)) _,g3.setCell (p:=⟨w.heap.size+1,0,none⟩) (by show w.heap.size<=w.heap.size+1;omega) _,rfl,x,fnd,jnd _ g2⟩
 case done =>
  rw[kz]
  rintro W ⟨h1,h2,h3,h4⟩ hmark
  have c1:=h1.cell
  have c2:=h2.cell
  have f2:=h2.frozen
  have e:ZB xs s.size=s.size:=by
   unfold ZB
   rw[List.find?_eq_none.2 (fun y hy=>by rw[h4 y hy];simp)]
  have eu:s.extract 0 (ZB xs s.size)=s:=by rw[e];exact FULL.out
  gi_wp2
  exact jff w _ (s.extract 0 (ZB xs s.size)) _ (by rw[eu];exact jnd _ h2) ((jmz _ _ _ _ (by show w.heap.size+3≠w.heap.size+1;omega)).trans hmark) (h3.setCell (p:=⟨w.heap.size+1,0,none⟩) (by show w.heap.size<=w.heap.size+1;omega) _) rfl
 case stop =>
 rw[kz]
 rintro c pre W hpre ⟨h1,rfl,x,h3,h4⟩ hmark
 have e:ZB xs s.size=x.at_:=by
  unfold ZB
  obtain⟨z,rfl⟩:=hpre
  rw[List.find?_append,h3];rfl
 gi_wp2
 exact jff w W (s.extract 0 (ZB xs s.size)) _ (by rw[e];exact h4) hmark h1 rfl
theorem jhn(t:List UInt8)(ht:t.length<=100000)(w:World):
  Calls prog 75 #[.string (B t)] w fun e w'=>e=.returned (.string (B (yN t)))/\Below w.heap.size w w':=by
 have h:=jhm (B t) (by rw[jq];exact ht) w
 rw[ju,jq,Fr.ext_take]at h
 exact h
end Bk
namespace Hd
attribute [local go_sem] jmk
def MaxL(w:World):Prop:=∃m:Int,w.cell? ⟨1,0,none⟩=some (.int .i64 m)
theorem MaxL.below{w w':World}{N:Nat}(h:MaxL w)(hb:Below N w w')(hN:w.heap.size<=N):MaxL w':=by
 obtain⟨m,hm⟩:=h
 have hlt:1<w.heap.size:=by
  rcases jmF 1 w.heap.size with h|h
  ·exact h
  have:w.heap[1]?=none:=jmV h
  simp[World.cell?,this]at hm
 exact⟨m,(hb.cell (p:=⟨1,0,none⟩) (by show 1<N;omega)).trans hm⟩
structure Tab(w:World):Prop where
 nums:Fr.TabsN w
 max:MaxL w
theorem Tab.below{w w':World}{N:Nat}(h:Tab w)(hb:Below N w w')(hN:w.heap.size<=N):Tab w':=⟨h.nums.below hb hN,h.max.below hb hN⟩
theorem ym{w:World}(n:Nat)(os:Array Obj):Below w.heap.size w (Go.Sort.grow (w.drewN n) os) :=
 ⟨rfl,rfl,rfl,by rw[Go.Sort.size_grow];exact jn3 _ _,fun k hk=>joq _ _ hk⟩
theorem Qv(n:Nat)(hn:n<=9223372036854775807)(w:World)(ht:Tab w):Calls prog 163 #[.int .i64 (n:Int)] w fun e w'=>e=.returned (.string (B (Lib.decDigits n)))/\Below w.heap.size w w' :=
 (Tryz.strconv_Itoa n (by omega) (by omega) w ht.nums.pow).mono fun e w' ⟨he,k,os,hw⟩=>⟨by rw[he,Lib.itoa_nonneg];rfl,by rw[hw];exact ym k os⟩
theorem jaU(g:Nat)(h1:1<=g)(h2:g<=2147483648)(w:World)(ht:Tab w):
  Calls prog 136 #[.int .i64 (g:Int)] w fun e w'=>e=.returned (.tuple #[.string (B (qZ g)),.nilIface])/\Below w.heap.size w w':=by
 have IT:=jl9 (Qv g (by omega) w ht)
 have E:Hid ((⟨#[35,37,103,101,110,32]⟩:ByteArray)++B (Lib.decDigits g) ++ ⟨#[10,10]⟩=B (qZ g)):=by
  show _=_
  rw[show(⟨#[35,37,103,101,110,32]⟩:ByteArray)=B jao from rfl,show(⟨#[10,10]⟩:ByteArray)=B [10,10] from rfl,jS,jS]
  unfold qZ;simp
 have hs:(B (Lib.decDigits g)).size<=20:=by rw[jq];exact(je0 g h2).2
 have q1:¬(g:Int)<1:=by omega
 have q2:¬(2147483648:Int)<g:=by omega
 generalize B (Lib.decDigits g)=d at *
 have s1:((⟨#[35,37,103,101,110,32]⟩:ByteArray)++d).size<=26:=by rw[jne];show 6+_<=_;omega
 clear ht
 go_enter func136,ntmps136
 go_wp2_with fail
 refine IT.out.mono ?_
 rintro e w1 ⟨rfl,hb⟩
 go_wp2_with fail
 go_ret2
 exact⟨by rw[<- E.out];rfl,hb⟩
theorem jaT(g:Int)(h:g<1\/2147483648<g)(w:World):
  Calls prog 136 #[.int .i64 g] w fun e w'=>e=.returned (.tuple #[.string (B []),qi 1])/\w'=w:=by
 by_cases q1:g<1
 ·go_enter func136,ntmps136
  go_wp2_with fail
  go_ret2
  exact⟨rfl,rfl⟩
 have q2:(2147483648:Int)<g:=by omega
 go_enter func136,ntmps136
 go_wp2_with fail
 go_ret2
 exact⟨rfl,rfl⟩
theorem Gp(g:Nat)(h1:1<=g)(h2:g<=2147483648)(w:World)(ht:Tab w):
  Calls prog 97 #[.int .i64 (g:Int)] w fun e w'=>e=.returned (.int .i64 (qZ g).length)/\Below w.heap.size w w':=by
 have L:=jl9 (jaU g h1 h2 w ht)
 have hs:=jq (qZ g)
 generalize B (qZ g)=d at *
 rw[<- hs]
 clear ht hs
 go_enter func97,ntmps97
 go_wp2_with fail
 refine L.out.mono ?_
 rintro e w1 ⟨rfl,hb⟩
 go_wp2_with fail
 go_ret
 exact⟨rfl,hb⟩
theorem jiw(g:Int)(h:g<1\/2147483648<g)(w:World):
  Calls prog 97 #[.int .i64 g] w fun e w'=>e=.returned (.int .i64 0)/\w'=w:=by
 have L:=jl9 (jaT g h w)
 have hs:(B []).size=0:=rfl
 go_enter func97,ntmps97
 go_wp2_with fail
 refine L.out.mono ?_
 rintro e w1 ⟨rfl,rfl⟩
 go_wp2_with fail
 go_ret
 exact⟨rfl,rfl⟩
def genP(t:List UInt8):Nat:=if 1<=qH (figs t)/\qH (figs t)<=2147483648/\Lib.hasPrefix t (qZ (qH (figs t)).toNat)=true then (qH (figs t)).toNat else 0
theorem genP_is(t:List UInt8):Yw t (genP t):=jgL t
theorem jdk(t:List UInt8)(w:World):Calls prog 137 #[.string (B t),.string ⟨#[35,37,103,101,110,32]⟩] w fun e w'=>e=.returned (.string (B (Lib.trimPrefix t jao)))/\w'=w :=
 (Tryz.strings_TrimPrefix (B t) ⟨#[35,37,103,101,110,32]⟩ w).mono fun e w' ⟨he,hw⟩=>⟨by rw[he,ju];rfl,hw⟩
theorem jhg(t:List UInt8)(ht:t.length<=1000000)(w:World)(hm:MaxL w):Calls prog 104 #[.string (B t),.string ⟨#[10,10]⟩] w fun e w'=>(∃b c,e=.returned (.tuple #[.string (B (Lib.cut t [10,10]).1),.string b,.bool c]))/\Below w.heap.size w w':=by
 obtain⟨m,hm⟩:=hm
 refine(Tryz.strings_Cut (B t) ⟨#[10,10]⟩ m w (by rw[jq];omega) hm).mono ?_
 rintro e w' ⟨rfl,n,rfl⟩
 rw[ju]
 exact⟨⟨_,_,rfl⟩,qd (jmc _ _) n⟩
theorem jgb(a b:List UInt8)(w:World):Calls prog 109 #[.string (B a),.string (B b)] w fun e w'=>e=.returned (.bool (Lib.hasPrefix a b))/\w'=w :=
 (Tryz.strings_HasPrefix (B a) (B b) w).mono fun e w' ⟨he,hw⟩=>⟨by rw[he,ju,ju],hw⟩
theorem jfJ(t p:List UInt8):(Lib.trimPrefix t p).length<=t.length:=by
 unfold Lib.trimPrefix;split
 ·rw[jmn];omega
 omega
theorem jiL(t:List UInt8)(hl:t.length<=100000)(w:World)(ht:Tab w):
  Calls prog 98 #[.string (B t)] w fun e w'=>e=.returned (.int .i64 (genP t:Nat))/\Below w.heap.size w w':=by
 have TR:=jl9 (jdk t)
 have hfl:=jgV t
 have htl:=jfJ t jao
 have CU:=jl9 (fun W (hb:Below w.heap.size w W)=>jhg (Lib.trimPrefix t jao) (by omega) W (ht.max.below hb (jma _)))
 have AT:=jl9 (fun W (hb:Below w.heap.size w W)=>Fr.atoi_any (figs t) (by omega) W (ht.nums.below hb (jma _)))
 have PR:=jl9 (fun g W=>jgb t (qZ g) W)
 unfold genP
 rw[show(Lib.cut (Lib.trimPrefix t jao) [10,10]).1=figs t from rfl]at CU
 generalize figs t=fg at *
 generalize Lib.trimPrefix t jao=tr at *
 generalize qH fg=v at *
 by_cases hv:1<=v/\v<=2147483648
 ·obtain⟨g,rfl⟩:∃g:Nat,v=g:=⟨v.toNat,by omega⟩
  have LI:=jl9 (fun W (hb:Below w.heap.size w W)=>jaU g (by omega) (by omega) W (ht.below hb (jma _)))
  have PR:=jl9 (fun W=>PR.out g W)
  rw[jnz]
  cases hp:Lib.hasPrefix t (qZ g) with
  | true =>
   rw[if_pos ⟨hv.1,hv.2,rfl⟩]
   rw[hp]at PR
   clear ht hp
   generalize B t=bt at *
   generalize B (qZ g)=bh at *
   generalize B fg=bf at *
   generalize B tr=br at *
   go_enter func98,ntmps98
   go_wp2_with fail
   refine(TR.out _).mono ?_
   rintro e w1 ⟨rfl,rfl⟩
   go_wp2_with fail
   refine(CU.out _ (jmc _ _)).mono ?_
   rintro e w2 ⟨⟨b,c,rfl⟩,hb2⟩
   go_wp2_with fail
   refine(AT.out _ hb2).mono ?_
   rintro e w3 ⟨⟨T,q,rfl|rfl⟩,hb3⟩
   all_goals
    have hb4:=hb2.trans (hb3.mono hb2.size)
    go_wp2_with fail
    refine(LI.out _ hb4).mono ?_
    rintro e w4 ⟨rfl,hb5⟩
    have hb6:=hb4.trans (hb5.mono hb4.size)
    go_wp2_with fail
    refine(PR.out _).mono ?_
    rintro e w5 ⟨rfl,rfl⟩
    go_wp2_with fail
    go_ret
    exact⟨rfl,hb6⟩
  | false =>
  rw[if_neg (fun h=>Bool.noConfusion h.2.2)]
  rw[hp]at PR
  clear ht hp
  generalize B t=bt at *
  generalize B (qZ g)=bh at *
  generalize B fg=bf at *
  generalize B tr=br at *
  go_enter func98,ntmps98
  go_wp2_with fail
  refine(TR.out _).mono ?_
  rintro e w1 ⟨rfl,rfl⟩
  go_wp2_with fail
  refine(CU.out _ (jmc _ _)).mono ?_
  rintro e w2 ⟨⟨b,c,rfl⟩,hb2⟩
  go_wp2_with fail
  refine(AT.out _ hb2).mono ?_
  rintro e w3 ⟨⟨T,q,rfl|rfl⟩,hb3⟩
  all_goals
   have hb4:=hb2.trans (hb3.mono hb2.size)
   go_wp2_with fail
   refine(LI.out _ hb4).mono ?_
   rintro e w4 ⟨rfl,hb5⟩
   have hb6:=hb4.trans (hb5.mono hb4.size)
   go_wp2_with fail
   refine(PR.out _).mono ?_
   rintro e w5 ⟨rfl,rfl⟩
   go_wp2_with fail
   go_ret
   exact⟨rfl,hb6⟩
 rw[if_neg (fun h=>hv ⟨h.1,h.2.1⟩)]
 have LI:=jl9 (fun W=>jaT v (by omega) W)
 clear ht PR
 generalize B t=bt at *
 generalize B fg=bf at *
 generalize B tr=br at *
 go_enter func98,ntmps98
 go_wp2_with fail
 refine(TR.out _).mono ?_
 rintro e w1 ⟨rfl,rfl⟩
 go_wp2_with fail
 refine(CU.out _ (jmc _ _)).mono ?_
 rintro e w2 ⟨⟨b,c,rfl⟩,hb2⟩
 go_wp2_with fail
 refine(AT.out _ hb2).mono ?_
 rintro e w3 ⟨⟨T,q,rfl|rfl⟩,hb3⟩
 all_goals
  have hb4:=hb2.trans (hb3.mono hb2.size)
  go_wp2_with fail
  refine(LI.out _).mono ?_
  rintro e w4 ⟨rfl,rfl⟩
  rw[jX 1 (by omega)]
  go_wp2_with fail
  go_ret
  exact⟨rfl,hb4⟩
def lenP(n:Nat):Nat:=if 1<=n/\n<=2147483648 then (qZ n).length else 0
theorem lenP_call(n:Nat)(w:World)(ht:Tab w):Calls prog 97 #[.int .i64 (n:Int)] w fun e w'=>e=.returned (.int .i64 (lenP n:Nat))/\Below w.heap.size w w':=by
 unfold lenP
 by_cases h:1<=n/\n<=2147483648
 ·rw[if_pos h];exact Gp n h.1 h.2 w ht
 rw[if_neg h]
 refine(jiw n (by omega) w).mono ?_
 rintro e w' ⟨rfl,rfl⟩
 exact⟨rfl,jmc _ _⟩
theorem jiy{t:List UInt8}{n:Nat}(h:Yw t n):lenP n<=t.length:=by
 unfold lenP
 split
 ·rename_i hn
  obtain⟨r,rfl⟩:=jiK h hn.1
  simp
 omega
theorem Gx{w W W':World}(h:Below w.heap.size w W)(hb:Below W.heap.size W W'):Below w.heap.size w W':=h.trans (hb.mono h.size)
theorem take_any(t:List UInt8)(hl:t.length<=100000)(w:World)(ht:Tab w):
  Calls prog 74 #[.string (B t)] w fun e w'=>e=.returned (.tuple #[.int .i64 (genP t:Nat),.string (B (t.drop (lenP (genP t))))])/\Below w.heap.size w w':=by
 have G:=jl9 (jiL t hl w ht)
 have hle:=jiy (genP_is t)
 have L:=jl9 (fun W (hb:Below w.heap.size w W)=>lenP_call (genP t) W (ht.below hb (jma _)))
 have hE:Hid ((B t).extract (lenP (genP t)) (B t).size=B (t.drop (lenP (genP t)))):=by
  show _=_
  have e:=jod (B t) (lenP (genP t))
  rw[ju]at e
  rw[<- jjl ((B t).extract _ _),e]
 have hz:=jq t
 rw[<- hz]at hle hl
 generalize lenP (genP t)=k at *
 generalize genP t=g at *
 generalize B t=bt at *
 clear hz ht
 have hki:(k:Int)<=(bt.size:Int):=by omega
 have h0:(0:Int)<=(k:Int):=by omega
 go_enter func74,ntmps74
 go_wp2_with fail
 refine G.out.mono ?_
 rintro e w1 ⟨rfl,hb1⟩
 have HS:=jl9 (show ∀W,Below w1.heap.size w1 W->Below w1.heap.size w1 W from fun W h=>h)
 have HL:=jl9 (fun W (hb:Below w1.heap.size w1 W)=>L.out W (hb1.trans (hb.mono hb1.size)))
 go_wp2_with fail
 go_region_held3 (fun W=>Below w1.heap.size w1 W) ((refine HS.out _ ?_;repeat (first | exact jmc _ _ | assumption | (refine Below.drew ?_) | (refine Gx ?_ (by assumption))))) ((go_at_call 97;refine(HL.out _ ?_).mono ?_;(focus (repeat (first | exact jmc _ _ | assumption | (refine Below.drew ?_) | (refine Gx ?_ (by assumption)))));rintro e w5 ⟨rfl,hb5⟩))
 all_goals go_wp2_with fail
 all_goals
  go_ret2
  have hb7:Below w1.heap.size w1 w5:=Gx (Below.drew (jmc _ _)) hb5
  exact⟨by rw[<- hE.out];rfl,hb1.trans (hb7.mono hb1.size)⟩
end Hd
end Go.Proofs.YtpibhbjmcmfnmaaGreatDoor
