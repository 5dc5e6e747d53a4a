/- Texts put together:DK,DL,WE,WF,FA,FB,FC,FD,DQ. -/
import Derived.Shelf.Strings.SlTrimAscii
import Derived.Test.YtmdhainabeljpaaGreatDoorBxr6
set_option linter.unusedVariables false
set_option maxRecDepth 100000
set_option maxHeartbeats 16000000
namespace Go.Proofs.YtmdhainabeljpaaGreatDoor
abbrev jkb:=@Nat.not_lt_zero
end Go.Proofs.YtmdhainabeljpaaGreatDoor
namespace Go.Proofs.YtmdhainabeljpaaGreatDoor.Fr
open Go.RowKit Go.Shelf
attribute [local go_sem] jil
theorem VO{c:UInt8}(d:UInt8)(n:Int)(hn:(d.toNat:Int)=n):((c.toNat:Int)==n)=(c==d):=by
 by_cases h:c=d
 ·subst h;simp[hn]
 have:(c.toNat:Int)≠n:=by intro e;apply h;apply UInt8.toNat_inj.1;omega
 rw[beq_eq_false_iff_ne.2 this];simp[h]
theorem jaV{s:ByteArray}{m:Nat}(h:m<s.size):fresh true (s.data.toList.take (m+1))=(s[m]==10):=by
 rw[Sm.take_snoc s m h]
 unfold fresh
 simp
theorem jfs{s:ByteArray}{k:Nat}(h:k<s.size):sp true (s.data.toList.take (k+1))=(sp true (s.data.toList.take k)&&(!fresh true (s.data.toList.take k) || s[k]==32)):=by
 rw[Sm.take_snoc s k h,qg]
 simp[sp]
theorem jgG{s:ByteArray}{k:Nat}(h:sp true (s.data.toList.take k)=false):sp true s.data.toList=false:=by
 rw[<- jiy k s.data.toList,qg,h];rfl
theorem ZL(s:ByteArray)(hs:s.size<=1000000)(w:World):
  Calls Tryz.prog 54 #[.string s] w fun e w'=>e=.returned (.bool (sp true s.data.toList))/\w'=w:=by
 go_enter Tryz.func54,Tryz.ntmps54
 go_wp2_with fail
 go_loop [3] (fun i=>∃k:Nat,k<=s.size/\i=.int .i64 k/\sp true (s.data.toList.take k)=true) (fun i=>s.size-(intOf i).toNat)
 case atStart=>exact⟨0,jii _,rfl,rfl⟩
 case round =>
 obtain⟨k,hk,rfl,hsp⟩:=hrel
 by_cases hlt:k<s.size
 ·have hst:=jfs hlt
  rw[hsp,jjK]at hst
  have c2:=VO (c:=s[k]) 32 32 rfl
  by_cases hk0:k=0
  ·subst hk0
   have hf:fresh true (s.data.toList.take 0)=true:=rfl
   rw[hf]at hst
   have HST:=jh5 hst
   clear hst hf hsp
   cases hc:(s[0]==32) with
   | true =>
    rw[hc]at c2
    go_wp2_with fail
    go_round
    case rel=>exact⟨1,by omega,by go_num,by rw[HST.out,hc];rfl⟩
    case measure=>simp[intOf];omega
   | false =>
   rw[hc]at c2
   have HN:=jh5 (jgG (s:=s) (k:=1) (by rw[HST.out,hc];rfl))
   go_wp2_with fail
   go_ret
   exact⟨by rw[HN.out];rfl,rfl⟩
  obtain⟨m,rfl⟩:∃m,k=m+1:=⟨k-1,by omega⟩
  have hm:m<s.size:=by omega
  rw[jaV hm]at hst
  have c1:=VO (c:=s[m]) 10 10 rfl
  have HST:=jh5 hst
  clear hst hsp
  have wm:IntKind.i64.wrap (m:Int)=m:=jiz _ (by omega)
  have m0:(0:Int)<=m:=by omega
  have q0:(((m:Int)+1)==0)=false:=by rw[beq_eq_false_iff_ne];omega
  cases hd:(s[m]==10) with
  | false =>
   rw[hd]at c1
   have HN:Hid (sp true (s.data.toList.take (m+1+1))=true):=by show _=_;rw[HST.out,hd];rfl
   clear hd
   go_wp2_with fail
   go_round
   case rel=>exact⟨m+1+1,by omega,by go_num,HN.out⟩
   case measure=>simp[intOf];omega
  | true =>
  rw[hd]at c1
  cases hc:(s[m+1]==32) with
  | true =>
   rw[hc]at c2
   have HN:Hid (sp true (s.data.toList.take (m+1+1))=true):=by show _=_;rw[HST.out,hd,hc];rfl
   clear hd hc
   go_wp2_with fail
   go_round
   case rel=>exact⟨m+1+1,by omega,by go_num,HN.out⟩
   case measure=>simp[intOf];omega
  | false =>
  rw[hc]at c2
  have HN:=jh5 (jgG (s:=s) (k:=m+1+1) (by rw[HST.out,hd,hc];rfl))
  clear hd hc
  go_wp2_with fail
  go_ret
  exact⟨by rw[HN.out];rfl,rfl⟩
 have:k=s.size:=by omega
 subst this
 have HE:Hid (sp true s.data.toList=true):=by
  show _=_
  rw[jiC (by simp)]at hsp
  exact hsp
 go_wp2_with fail
 go_ret
 exact⟨by rw[HE.out];rfl,rfl⟩
theorem xz(l p:List UInt8)(hl:l.length<=1000000)(hp:p.length<=1000)(w:World):
  Calls Tryz.prog 51 #[.string (B l),.string (B p)] w fun e w'=>e=.returned (.bool (Lib.hasPrefix l p))/\w'=w:=by
 have bl:=je l
 have bp:=je p
 have hx:(B l).extract 0 (B p).size=B (l.take p.length):=by
  apply jjf
  apply Array.toList_inj.1
  rw[ji7,jjl,Nat.sub_zero,ji,ji,bp]
 by_cases hle:p.length<=l.length
 ·have q0:decide (((B p).size:Int)<=((B l).size:Int))=true:=by simp;omega
  have hb:((B (l.take p.length)).toList==(B p).toList)=Lib.hasPrefix l p:=by
   rw[jiX]
   unfold Lib.hasPrefix
   rw[jja,List.prefix_iff_eq_take,beq_iff_eq,jiu,jiu,ji,ji]
   exact eq_comm
  generalize Lib.hasPrefix l p=q at *
  generalize B (l.take p.length)=V at *
  generalize B l=X at *
  generalize B p=Y at *
  go_enter Tryz.func51,Tryz.ntmps51
  go_wp2_with fail
  go_ret
  exact⟨by rw[<- hb,<- hx,bp];rfl,rfl⟩
 have q0:decide (((B p).size:Int)<=((B l).size:Int))=false:=by simp;omega
 have hb:Lib.hasPrefix l p=false:=by
  cases q:Lib.hasPrefix l p with
  | false=>rfl
  | true =>
  unfold Lib.hasPrefix at q
  have:=(List.isPrefixOf_iff_prefix.1 q).length_le
  omega
 rw[hb]
 generalize B l=X at *
 generalize B p=Y at *
 go_enter Tryz.func51,Tryz.ntmps51
 go_wp2_with fail
 go_ret
 exact⟨rfl,rfl⟩
theorem qA{l p:List UInt8}:Lib.hasPrefix l p=true↔∃q,l=p++q:=by
 unfold Lib.hasPrefix
 rw[jja]
 exact⟨fun⟨q,h⟩=>⟨q,h.symm⟩,fun⟨q,h⟩=>⟨q,h.symm⟩⟩
theorem JW(l p:List UInt8)(hl:l.length<=1000)(hp:p.length<=1000)(w:World):
  Calls Tryz.prog 50 #[.string (B l),.string (B p)] w fun e w'=>e=.returned (.bool (Lib.hasPrefix p l))/\w'=w:=by
 have B1:=jh5 (xz p l (by omega) hl w)
 go_enter Tryz.func50,Tryz.ntmps50
 go_wp2_with fail
 refine B1.out.mono ?_
 rintro e w1 ⟨rfl,rfl⟩
 go_wp2_with fail
 go_ret
 exact⟨rfl,rfl⟩
theorem xY(s:ByteArray)(hs:s.size<=1000000)(w:World):
  Calls Tryz.prog 55 #[.string s] w fun e w'=>e=.returned (.bool (qD s.data.toList))/\w'=w:=by
 have hg:qD s.data.toList=(decide (2<=s.size)&&decide (s.size<=50000)&&vI s.data.toList&&sp true s.data.toList):=by unfold qD;rw[<- jij]
 have L1:=jh5 (ZL s hs)
 rw[hg]
 clear hg
 by_cases h2:2<=s.size
 ·have q2:(2:Int)<=s.size:=by omega
  by_cases h5:s.size<=50000
  ·have q5:(s.size:Int)<=50000:=by omega
   have e2:decide (2<=s.size)=true:=by simpa using h2
   have e5:decide (s.size<=50000)=true:=by simpa using h5
   have wm:IntKind.i64.wrap ((s.size:Int)-1)=((s.size-1:Nat):Int):=by rw[show(s.size:Int)-1=((s.size-1:Nat):Int) by omega];exact jiz _ (by omega)
   have hl:vI s.data.toList=(s[s.size-1]==10):=by
    unfold vI
    rw[List.getLast?_eq_getElem?,<- jij,jia (by rw[<- jij];omega)]
    simp
    rfl
   have c1:=VO (c:=s[s.size-1]) 10 10 rfl
   rw[e2,e5,hl]
   generalize sp true s.data.toList=z at *
   clear hl e2 e5
   have hs1:s.size-1<s.size:=by omega
   obtain⟨m,hm⟩:∃m,s.size-1=m:=⟨_,rfl⟩
   have key:∀(m:Nat) (h:m<s.size),s.size-1=m->(s[s.size-1]=s[m]):=fun m h e=>by subst e;rfl
   rw[hm]at wm hs1
   have hk:=key m hs1 hm
   rw[hk]at c1 ⊢
   clear key hk
   have hmz:(m:Int)<s.size:=by omega
   clear hm
   cases hc:(s[m]==10) with
   | true =>
    rw[hc]at c1
    clear hc
    go_enter Tryz.func55,Tryz.ntmps55
    go_wp2_with fail
    refine(L1.out _).mono ?_
    rintro e w1 ⟨rfl,rfl⟩
    go_wp2_with fail
    go_ret
    exact⟨by simp,rfl⟩
   | false =>
   rw[hc]at c1
   clear hc
   go_enter Tryz.func55,Tryz.ntmps55
   go_wp2_with fail
   go_ret
   exact⟨by simp,rfl⟩
  have q5:¬(s.size:Int)<=50000:=by omega
  have e5:decide (s.size<=50000)=false:=by simpa using h5
  rw[e5]
  go_enter Tryz.func55,Tryz.ntmps55
  go_wp2_with fail
  go_ret
  exact⟨by simp,rfl⟩
 have q2:¬(2:Int)<=s.size:=by omega
 have e2:decide (2<=s.size)=false:=by simpa using h2
 rw[e2]
 go_enter Tryz.func55,Tryz.ntmps55
 go_wp2_with fail
 go_ret
 exact⟨by simp,rfl⟩
theorem VI(n:Nat)(hn:n<=9223372036854775807)(w:World):Calls Tryz.prog 93 #[.int .i64 (n:Int)] w fun e w'=>e=.returned (.string (B (Lib.decDigits n)))/\w'=w:=by
 have:=figures_any (n:Int) (by unfold I64;omega) w
 rwa [jjc]at this
theorem YO(n:Nat)(hn:n<=50000)(f:List UInt8)(hf:f.length<=1000000)(w:World):
  Calls Tryz.prog 56 #[.int .i64 (n:Int),.string (B f)] w fun e w'=>e=.returned (.tuple #[.string (B (jH n f++[10])),.string (B (jW n))])/\w'=w:=by
 have IT:=jh5 (fun w=>VI n (by omega) w)
 have E1:Hid ((⟨#[37,97,109,101,110,100,32]⟩:ByteArray)++B (Lib.decDigits n) ++ ⟨#[32]⟩++B f ++ ⟨#[10]⟩=B (jH n f++[10])):=by
  show _=_
  rw[show(⟨#[37,97,109,101,110,100,32]⟩:ByteArray)=B AMD from rfl,show(⟨#[32]⟩:ByteArray)=B [32] from rfl,show(⟨#[10]⟩:ByteArray)=B [10] from rfl,jj,jj,jj,jj]
  unfold jH;simp
 have E2:Hid ((⟨#[37,101,110,100,32]⟩:ByteArray)++B (Lib.decDigits n) ++ ⟨#[10]⟩=B (jW n)):=by
  show _=_
  rw[show(⟨#[37,101,110,100,32]⟩:ByteArray)=B END from rfl,show(⟨#[10]⟩:ByteArray)=B [10] from rfl,jj,jj]
  unfold jW;simp
 have hs:=XD n (by omega)
 have hfs:(B f).size<=1000000:=by rw[je];exact hf
 generalize B (Lib.decDigits n)=d at *
 generalize B f=g at *
 have s1:((⟨#[37,97,109,101,110,100,32]⟩:ByteArray)++d).size<=27:=by rw[jiN];show 7+_<=_;omega
 have s2:((⟨#[37,97,109,101,110,100,32]⟩:ByteArray)++d ++ ⟨#[32]⟩).size<=28:=by rw[jiN];show _+1<=_;omega
 have s3:((⟨#[37,97,109,101,110,100,32]⟩:ByteArray)++d ++ ⟨#[32]⟩++g).size<=1000028:=by rw[jiN];omega
 have s4:((⟨#[37,101,110,100,32]⟩:ByteArray)++d).size<=25:=by rw[jiN];show 5+_<=_;omega
 go_enter Tryz.func56,Tryz.ntmps56
 go_wp2_with fail
 refine(IT.out _).mono ?_
 rintro e w1 ⟨rfl,rfl⟩
 go_wp2_with fail
 refine(IT.out _).mono ?_
 rintro e w1 ⟨rfl,rfl⟩
 go_wp2_with fail
 go_ret2
 exact⟨by rw[<- E1.out,<- E2.out];rfl,rfl⟩
theorem Xc(n:Int)(w:World):
  Calls Tryz.prog 59 #[.int .i64 n] w fun e w'=>e=.returned (.int .i64 (jdm n))/\w'=w:=by
 by_cases h2:2<=n
 ·have q2:¬n<2:=by omega
  by_cases h5:n<=50000
  ·have q5:¬50000<n:=by omega
   obtain⟨k,rfl⟩:∃k:Nat,n=k:=⟨n.toNat,by omega⟩
   have e0:jdm k=((jH k qq++[10]).length:Int)+k+((jW k).length:Int):=by unfold jdm;rw[if_pos ⟨h2,h5⟩];simp
   rw[e0]
   have A1:=jh5 (fun w=>YO k (by omega) qq (by decide) w)
   have hl5:=yN (show k<=99999 by omega)
   have hh2:(B (jH k qq++[10])).size<=31:=by rw[je];unfold jH AMD qq;simp;omega
   have hf2:(B (jW k)).size<=30:=by rw[je];unfold jW END;simp;omega
   rw[<- je,<- je]
   have zs:(⟨#[48,48,48,48,48,48,48,48]⟩:ByteArray)=B qq:=rfl
   generalize B (jH k qq++[10])=X at *
   generalize B (jW k)=Y at *
   clear e0 hl5
   have w1:IntKind.i64.wrap ((X.size:Int)+k)=(X.size:Int)+k:=jiz _ (by omega)
   have w2:IntKind.i64.wrap ((X.size:Int)+k+(Y.size:Int))=(X.size:Int)+k+(Y.size:Int):=jiz _ (by omega)
   go_enter Tryz.func59,Tryz.ntmps59
   rw[zs]
   go_wp2_with fail
   refine(A1.out _).mono ?_
   rintro e w1 ⟨rfl,rfl⟩
   go_wp2_with fail
   go_ret
   exact⟨rfl,rfl⟩
  have q5:50000<n:=by omega
  have e0:jdm n=0:=by unfold jdm;rw[if_neg (by omega)]
  rw[e0]
  go_enter Tryz.func59,Tryz.ntmps59
  go_wp2_with fail
  go_ret
  exact⟨rfl,rfl⟩
 have q2:n<2:=by omega
 have e0:jdm n=0:=by unfold jdm;rw[if_neg (by omega)]
 rw[e0]
 go_enter Tryz.func59,Tryz.ntmps59
 go_wp2_with fail
 go_ret
 exact⟨rfl,rfl⟩
def b3:List UInt8:=[32,97,10]
theorem jdV{b:List UInt8}(hg:qD b=true):jdm (b.length:Int)=((fullR b).length:Int):=by
 obtain⟨h2,h5,_,_⟩:=good_iff.1 hg
 have:=yJ (qK b)
 unfold jdm
 rw[if_pos (by omega)]
 unfold fullR;rw[qx]
 have z8:qq.length=8:=rfl
 unfold jH
 simp only[jh7,jic,jju,z8,this]
 omega
end Go.Proofs.YtmdhainabeljpaaGreatDoor.Fr
namespace Go.Proofs.YtmdhainabeljpaaGreatDoor
open Go.RowKit Go.Shelf
theorem Yn{s:ByteArray}{c:UInt8}{t:List UInt8}(h:s.data.toList=c::t):s.toList.isEmpty=false/\¬s.toList=[]/\1<=s.size:=by
 rw[jiu,h]
 exact⟨rfl,by simp,by rw[Lib.size_eq,h];simp⟩
theorem XC{s:ByteArray}(h:s.data.toList=[]):s=⟨#[]⟩:=by
 rw[<- jjX s,h]
theorem jct(c:UInt8):decide (0<=Lib.indexByte [32,9] c)=zJ c:=by
 unfold zJ
 by_cases h1:c=32
 ·subst h1;decide
 by_cases h2:c=9
 ·subst h2;decide
 have a:((32:UInt8)==c)=false:=by simp[Ne.symm h1]
 have b:((9:UInt8)==c)=false:=by simp[Ne.symm h2]
 simp[Lib.indexByte,a,b,h1,h2]
theorem jf2(l:List UInt8)(c:UInt8):decide (0<=Lib.indexByte l c)=l.contains c:=by
 rcases qJ l c with ⟨h1,h2⟩|⟨h1,h2⟩
 ·rw[h1];simp[h2]
 rw[h1];simp[h2]
theorem jdE(l:List UInt8):Lib.hasPrefix l [35]=JO l:=by
 unfold Lib.hasPrefix JO
 cases l with
 | nil=>rfl
 | cons a t=>simp[List.isPrefixOf,Bool.beq_comm]
theorem jc5(w:World):
  Calls Tryz.prog 109 #[.string ⟨#[]⟩] w fun e w'=>e=.returned (.bool false)/\w=w':=by
 go_enter Tryz.func109,Tryz.ntmps109
 go_wp2
 go_ret
 exact⟨rfl,rfl⟩
theorem jba(s:ByteArray)(c:UInt8)(t:List UInt8)(h:s.data.toList=c::t)(hs:s.size<=maxLen)(w:World):
  Calls Tryz.prog 109 #[.string s] w fun e w'=>e=.returned (.bool (zJ c))/\w=w':=by
 have hz:1<=s.size:=by rw[jij,h];simp
 have e1:s.extract 0 1=⟨#[c]⟩:=by
  have:=ji7 s 0 1
  rw[h]at this
  rw[<- jjX (s.extract 0 1),this];rfl
 obtain⟨n1,n2,n3⟩:=Yn h
 clear h
 unfold maxLen at hs
 go_enter Tryz.func109,Tryz.ntmps109
 go_wp2_with fail
 refine(Tryz.strings_Contains_one ⟨#[32,9]⟩ c _).mono ?_
 rw[show(⟨#[32,9]⟩:ByteArray).data.toList=[32,9] from rfl,jct]
 rintro e w' ⟨rfl,rfl⟩
 go_wp2
 go_ret
 exact⟨rfl,rfl⟩
theorem YM(s:ByteArray)(hs:s.size<=maxLen)(w:World):
  Calls Tryz.prog 109 #[.string s] w fun e w'=>e=.returned (.bool (qV s.data.toList))/\w=w':=by
 cases h:s.data.toList with
 | nil=>rw[XC h];exact jc5 w
 | cons c t=>exact jba s c t h hs w
theorem xp(s:ByteArray)(c:UInt8)(w:World):
  Calls Tryz.prog 107 #[.string s,.string ⟨#[c]⟩] w fun e w'=>e=.returned (.bool (qC s.data.toList c))/\w=w':=by
 refine(Tryz.strings_Contains_one s c _).mono ?_
 rw[jf2]
 rintro e w' ⟨rfl,rfl⟩
 exact⟨rfl,rfl⟩
theorem yI(s:ByteArray)(w:World):
  Calls Tryz.prog 39 #[.string s,.string ⟨#[35]⟩] w fun e w'=>e=.returned (.bool (JO s.data.toList))/\w=w':=by
 refine(Tryz.strings_HasPrefix s ⟨#[35]⟩ _).mono ?_
 rw[show(⟨#[35]⟩:ByteArray).data.toList=[35] from rfl,jdE]
 rintro e w' ⟨rfl,rfl⟩
 exact⟨rfl,rfl⟩
theorem UX(s:ByteArray)(hs:s.size<=9223372036854775807)(w:World):
  Calls Tryz.prog 108 #[.string s,.string ⟨#[32,9]⟩] w fun e w'=>e=.returned (.string ⟨(Lib.trimS s.data.toList [32,9]).toArray⟩)/\Below w.heap.size w w' :=
 Any.strings_Trim_laid Tryz.lays160 (by kernel_rfl) s ⟨#[32,9]⟩ w hs (by decide) (ascii_of_all (by decide))
theorem jcp(s:ByteArray)(hs:s.size<=maxLen)(w:World):
  Calls Tryz.prog 110 #[.string s] w fun e w'=>e=.returned (.bool (ju s.data.toList))/\w=w':=by
 cases h:s.data.toList with
 | nil =>
  rw[XC h]
  go_enter Tryz.func110,Tryz.ntmps110
  go_wp2
  go_ret
  exact⟨rfl,rfl⟩
 | cons c t =>
 rw[<- h]
 obtain⟨n1,n2,n3⟩:=Yn h
 clear h
 have n4:1<=s.data.toList.length:=by rw[<- jij];exact n3
 have n5:=jij s
 have g1:=YM s hs
 unfold maxLen at hs
 by_cases h1:s.size<=32
 ·rw[n5]at h1
  have e1:ju s.data.toList=(!qV s.data.toList && !JO s.data.toList && !qC s.data.toList 58 && !qC s.data.toList 10):=by
   unfold ju;rw[decide_eq_true n4,decide_eq_true h1];simp
  rw[e1]
  rw[<- n5]at h1
  clear n5 n4 e1
  cases h2:qV s.data.toList with
  | true =>
   go_enter Tryz.func110,Tryz.ntmps110
   go_wp2_with (go_at_call 109;refine(g1 _).mono ?_;rw[h2];rintro e w1 ⟨rfl,rfl⟩)
   go_ret
   exact⟨rfl,rfl⟩
  | false =>
  cases h3:JO s.data.toList with
  | true =>
   go_enter Tryz.func110,Tryz.ntmps110
   go_wp2_with (first | (go_at_call 109;refine(g1 _).mono ?_;rw[h2];rintro e w1 ⟨rfl,rfl⟩) | (go_at_call 39;refine(yI _ _).mono ?_;rw[h3];rintro e w1 ⟨rfl,rfl⟩))
   go_ret
   exact⟨rfl,rfl⟩
  | false =>
  cases h4:qC s.data.toList 58 with
  | true =>
   go_enter Tryz.func110,Tryz.ntmps110
   go_wp2_with (first | (go_at_call 109;refine(g1 _).mono ?_;rw[h2];rintro e w1 ⟨rfl,rfl⟩) | (go_at_call 39;refine(yI _ _).mono ?_;rw[h3];rintro e w1 ⟨rfl,rfl⟩) | (go_at_call 107;refine(xp _ _ _).mono ?_;rw[h4];rintro e w1 ⟨rfl,rfl⟩))
   go_ret
   exact⟨rfl,rfl⟩
  | false =>
  cases h5:qC s.data.toList 10
  all_goals
   go_enter Tryz.func110,Tryz.ntmps110
   go_wp2_with (first | (go_at_call 109;refine(g1 _).mono ?_;rw[h2];rintro e w1 ⟨rfl,rfl⟩) | (go_at_call 39;refine(yI _ _).mono ?_;rw[h3];rintro e w1 ⟨rfl,rfl⟩) | (go_at_call 107;refine(xp _ _ _).mono ?_;(first | rw[h4] | rw[h5]);rintro e w1 ⟨rfl,rfl⟩))
   go_ret
   exact⟨rfl,rfl⟩
 have e1:ju s.data.toList=false:=by
  unfold ju;rw[<- n5,decide_eq_false h1];simp
 rw[e1]
 have h1':32<s.size:=by omega
 clear n5 n4 e1
 go_enter Tryz.func110,Tryz.ntmps110
 go_wp2
 go_ret
 exact⟨rfl,rfl⟩
theorem Below.drewN{B:Nat}{a w:World}(h:Below B a w)(n:Nat):Below B a (w.drewN n):=⟨h.os,h.tape,h.output,h.size,h.block⟩
def Qv(s:ByteArray):ByteArray:=⟨(Lib.trimS s.data.toList [32,9]).toArray⟩
def WJ(s:ByteArray):ByteArray:=s.extract 0 (before s.data.toList).length
def WK(s:ByteArray):ByteArray:=s.extract ((before s.data.toList).length+1) s.size
theorem VP(c:UInt8):([32,9]:List UInt8).contains c=zJ c:=by
 unfold zJ
 by_cases h1:c=32
 ·subst h1;rfl
 by_cases h2:c=9
 ·subst h2;rfl
 simp[h1,h2]
theorem yL{p:UInt8->Bool}:∀{l:List UInt8},l.dropWhile p=[]↔l.all p=true
 | []=>by simp
 | a::l=>by
  rw[List.dropWhile_cons]
  cases h:p a<;>simp[h,yL]
theorem UW(l:List UInt8):Lib.trimS l [32,9]=[]↔jI l=true:=by
 have e:(fun c=>([32,9]:List UInt8).contains c)=zJ:=funext VP
 unfold Lib.trimS Lib.trimLeftS Lib.trimRightS jI
 rw[e,yL,List.all_reverse]
 constructor
 ·intro h
  have h2:(l.reverse.takeWhile zJ++l.reverse.dropWhile zJ).all zJ=true:=by rw[jjo,h,jjh];rfl
  rw[List.takeWhile_append_dropWhile,List.all_reverse]at h2
  exact h2
 intro h
 have:l.reverse.dropWhile zJ=[]:=yL.2 (by rw[List.all_reverse];exact h)
 rw[this];rfl
theorem UV(s:ByteArray)(hs:s.size<=9223372036854775807)(h:jI s.data.toList=true)(w:World):
  Calls Tryz.prog 108 #[.string s,.string ⟨#[32,9]⟩] w fun e w'=>e=.returned (.string ⟨#[]⟩)/\Below w.heap.size w w':=by
 have:=UX s hs w
 rwa [(UW _).2 h]at this
theorem Qw(s:ByteArray)(hs:s.size<=9223372036854775807)(w:World):
  Calls Tryz.prog 108 #[.string s,.string ⟨#[32,9]⟩] w fun e w'=>e=.returned (.string (Qv s))/\Below w.heap.size w w':=UX s hs w
theorem VX(s:ByteArray)(h:jI s.data.toList=false):(Qv s).toList.isEmpty=false/\¬(Qv s).toList=[]:=by
 have:Lib.trimS s.data.toList [32,9]≠[]:=fun e=>by rw[(UW _).1 e]at h;cases h
 have e:(Qv s).toList=Lib.trimS s.data.toList [32,9]:=by rw[jiu];rfl
 rw[e]
 exact⟨by simpa using this,this⟩
theorem xh(s:ByteArray):(WJ s).data.toList=before s.data.toList:=by
 unfold WJ
 rw[ji7,jjl,Nat.sub_zero]
 exact(List.prefix_iff_eq_take.1 (jjg _)).symm
theorem QL(s:ByteArray):(WJ s).size<=s.size:=by
 rw[jij,xh,jij]
 exact(jjg _).length_le
theorem Wb(s:ByteArray)(w:World)(hs:s.size<=maxLen)(h:qC s.data.toList 58=true):
  Calls Tryz.prog 33 #[.string s,.string ⟨#[58]⟩] w fun e w'=>e=.returned (.tuple #[.string (WJ s),.string (WK s),.bool true])/\∃n,w'=w.drewN n :=
 XF s 58 w hs (by unfold qC at h;simpa using h)
theorem jeB(s:ByteArray)(w:World)(h:qC s.data.toList 58=false):
  Calls Tryz.prog 33 #[.string s,.string ⟨#[58]⟩] w fun e w'=>e=.returned (.tuple #[.string s,.string ⟨#[]⟩,.bool false])/\∃n,w'=w.drewN n :=
 GS s 58 w (by unfold qC at h;simpa using h)
theorem jaH(s:ByteArray)(hs:s.size<=maxLen)(w:World):
  Calls Tryz.prog 110 #[.string (WJ s)] w fun e w'=>e=.returned (.bool (ju (before s.data.toList)))/\w=w':=by
 have:=jcp (WJ s) (jiv (QL s) hs) w
 rwa [xh]at this
theorem vp(s:ByteArray)(hs:s.size<=maxLen)(w:World):
  Calls Tryz.prog 70 #[.string s] w fun e w'=>e=.returned (.int .i64 (jk s.data.toList:Nat))/\Below w.heap.size w w':=by
 have hs2:s.size<=9223372036854775807:=by unfold maxLen at hs;omega
 cases h1:qC s.data.toList 10 with
 | true =>
  have hk:jk s.data.toList=5:=by unfold jk;rw[if_pos h1]
  rw[hk];clear hk
  go_enter Tryz.func70,Tryz.ntmps70
  go_wp2_with (first | (go_at_call 107;refine(xp _ _ _).mono ?_;rw[h1];rintro e w1 ⟨rfl,rfl⟩))
  go_ret
  exact⟨rfl,jh8 _ _⟩
 | false =>
 cases h2:jI s.data.toList with
 | true =>
  have hk:jk s.data.toList=1:=by unfold jk;rw[h1,if_neg (by decide),if_pos h2]
  rw[hk];clear hk
  go_enter Tryz.func70,Tryz.ntmps70
  go_wp2_with (first | (go_at_call 107;refine(xp _ _ _).mono ?_;rw[h1];rintro e w1 ⟨rfl,rfl⟩) | (go_at_call 108;refine(UV s hs2 h2 _).mono ?_;rintro e w1 ⟨rfl,b1⟩))
  go_ret
  exact⟨rfl,b1⟩
 | false =>
 obtain⟨t1,t2⟩:=VX s h2
 have B1:=YM s hs
 cases h3:JO s.data.toList with
 | true =>
  have hk:jk s.data.toList=2:=by unfold jk;rw[h1,if_neg (by decide),h2,if_neg (by decide),if_pos h3]
  rw[hk];clear hk
  go_enter Tryz.func70,Tryz.ntmps70
  go_wp2_with (first | (go_at_call 107;refine(xp _ _ _).mono ?_;rw[h1];rintro e w1 ⟨rfl,rfl⟩) | (go_at_call 108;refine(Qw s hs2 _).mono ?_;rintro e w1 ⟨rfl,b1⟩) | (go_at_call 39;refine(yI _ _).mono ?_;rw[h3];rintro e w2 ⟨rfl,rfl⟩))
  go_ret
  exact⟨rfl,b1⟩
 | false =>
 cases h4:qV s.data.toList with
 | true =>
  have hk:jk s.data.toList=3:=by unfold jk;rw[h1,if_neg (by decide),h2,if_neg (by decide),h3,if_neg (by decide),if_pos h4]
  rw[hk];clear hk
  go_enter Tryz.func70,Tryz.ntmps70
  go_wp2_with (first | (go_at_call 107;refine(xp _ _ _).mono ?_;rw[h1];rintro e w1 ⟨rfl,rfl⟩) | (go_at_call 108;refine(Qw s hs2 _).mono ?_;rintro e w1 ⟨rfl,b1⟩) | (go_at_call 39;refine(yI _ _).mono ?_;rw[h3];rintro e w2 ⟨rfl,rfl⟩) | (go_at_call 109;refine(B1 _).mono ?_;rw[h4];rintro e w2 ⟨rfl,rfl⟩))
  go_ret
  exact⟨rfl,b1⟩
 | false =>
 cases h5:qC s.data.toList 58 with
 | false =>
  have hk:jk s.data.toList=5:=by unfold jk;rw[h1,if_neg (by decide),h2,if_neg (by decide),h3,if_neg (by decide),h4,if_neg (by decide),if_neg (by rw[h5];simp)]
  rw[hk];clear hk
  have C:=fun w=>jeB s w h5
  go_enter Tryz.func70,Tryz.ntmps70
  go_wp2_with (first | (go_at_call 107;refine(xp _ _ _).mono ?_;rw[h1];rintro e w1 ⟨rfl,rfl⟩) | (go_at_call 108;refine(Qw s hs2 _).mono ?_;rintro e w1 ⟨rfl,b1⟩) | (go_at_call 39;refine(yI _ _).mono ?_;rw[h3];rintro e w2 ⟨rfl,rfl⟩) | (go_at_call 109;refine(B1 _).mono ?_;rw[h4];rintro e w2 ⟨rfl,rfl⟩) | (go_at_call 33;refine(C _).mono ?_;rintro e w2 ⟨rfl,n,rfl⟩))
  go_ret
  exact⟨rfl,Below.drewN b1 n⟩
 | true =>
 have C:=fun w=>Wb s w hs h5
 have K:=jaH s hs
 have hk:jk s.data.toList=if ju (before s.data.toList)=true then 4 else 5:=by
  unfold jk;rw[h1,if_neg (by decide),h2,if_neg (by decide),h3,if_neg (by decide),h4,if_neg (by decide),h5];simp
 cases h6:ju (before s.data.toList)
 all_goals
  rw[h6]at hk
  rw[hk];clear hk
  go_enter Tryz.func70,Tryz.ntmps70
  go_wp2_with (first | (go_at_call 107;refine(xp _ _ _).mono ?_;rw[h1];rintro e w1 ⟨rfl,rfl⟩) | (go_at_call 108;refine(Qw s hs2 _).mono ?_;rintro e w1 ⟨rfl,b1⟩) | (go_at_call 39;refine(yI _ _).mono ?_;rw[h3];rintro e w2 ⟨rfl,rfl⟩) | (go_at_call 109;refine(B1 _).mono ?_;rw[h4];rintro e w2 ⟨rfl,rfl⟩) | (go_at_call 33;refine(C _).mono ?_;rintro e w2 ⟨rfl,n,rfl⟩) | (go_at_call 110;refine(K _).mono ?_;rw[h6];rintro e w3 ⟨rfl,rfl⟩))
  go_ret
  exact⟨rfl,Below.drewN b1 n⟩
theorem jev(s:ByteArray)(hs:s.size<=maxLen)(h:jk s.data.toList=4)(w:World):
  Calls Tryz.prog 147 #[.string s] w fun e w'=>e=.returned (.tuple #[.string (WJ s),.string (WK s),.bool true])/\Below w.heap.size w w':=by
 have h5:qC s.data.toList 58=true:=by
  unfold jk at h
  split at h;· cases h
  split at h;· cases h
  split at h;· cases h
  split at h;· cases h
  split at h
  ·rename_i q;exact q.1
  cases h
 have C:=fun w=>Wb s w hs h5
 have K:=vp s hs
 rw[h]at K
 go_enter Tryz.func147,Tryz.ntmps147
 go_wp2_with (first | (go_at_call 70;refine(K _).mono ?_;rintro e w1 ⟨rfl,b1⟩) | (go_at_call 33;refine(C _).mono ?_;rintro e w2 ⟨rfl,n,rfl⟩))
 go_ret3
 exact⟨rfl,Below.drewN b1 n⟩
theorem zI(c:UInt8)(w:World):
  Calls Tryz.prog 94 #[.int .u8 (c.toNat:Nat)] w fun e w'=>e=.returned (.bool (zJ c))/\w=w':=by
 have hb:=c.toNat_lt
 by_cases h1:c=32
 ·subst h1
  go_enter Tryz.func94,Tryz.ntmps94
  go_wp2
  go_ret
  exact⟨rfl,rfl⟩
 have e1:((c.toNat:Int)==32)=false:=by
  rw[beq_eq_false_iff_ne];intro e;apply h1;apply UInt8.toNat_inj.1;have:(32:UInt8).toNat=32:=rfl;omega
 have e3:zJ c=((c.toNat:Int)==9):=by
  unfold zJ
  by_cases h2:c=9
  ·subst h2;rfl
  have:((c.toNat:Int)==9)=false:=by
   rw[beq_eq_false_iff_ne];intro e;apply h2;apply UInt8.toNat_inj.1;have:(9:UInt8).toNat=9:=rfl;omega
  rw[this];simp[h1,h2]
 rw[e3]
 clear e3
 go_enter Tryz.func94,Tryz.ntmps94
 go_wp2
 go_ret
 exact⟨rfl,rfl⟩
theorem zV{c d:UInt8}(n:Int)(hn:(d.toNat:Int)=n):((c.toNat:Int)==n)=(c==d):=by
 by_cases h:c=d
 ·subst h;simp[hn]
 have:(c.toNat:Int)≠n:=by intro e;apply h;apply UInt8.toNat_inj.1;omega
 rw[beq_eq_false_iff_ne.2 this];simp[h]
theorem GG(l:List UInt8)(c:UInt8)(k:Nat)(h:∀i,i<k->l[i]?≠some c)(hk:l.length<=k):qC l c=false:=by
 unfold qC
 cases hc:l.contains c with
 | false=>rfl
 | true =>
 exfalso
 have hm:c∈l:=by simpa using hc
 obtain⟨i,hi,e⟩:=List.mem_iff_getElem.1 hm
 exact h i (by omega) (by rw[jia hi,e])
theorem Vc(l:List UInt8)(c:UInt8)(i:Nat)(h:l[i]?=some c):qC l c=true:=by
 unfold qC
 have:c∈l:=jim h
 simpa using this
theorem Zl(s:ByteArray)(hs:s.size<=4294967295)(w:World):
  Calls Tryz.prog 130 #[.string s] w fun e w'=>e=.returned (.bool (ju s.data.toList))/\w=w':=by
 cases h:s.data.toList with
 | nil =>
  rw[XC h]
  go_enter Tryz.func130,Tryz.ntmps130
  go_wp2
  go_ret
  exact⟨rfl,rfl⟩
 | cons c t =>
 have n3:1<=s.size:=by rw[jij,h];simp
 have g0:s[0]=c:=by
  have:s.data.toList[0]?=some c:=by rw[h];rfl
  rw[jia (by rw[<- jij];omega)]at this
  exact jh9 this
 have eb:qV s.data.toList=zJ c:=by rw[h];rfl
 have eh:JO s.data.toList=(c==35):=by rw[h];rfl
 rw[<- h]
 clear h
 have n4:1<=s.data.toList.length:=by rw[<- jij];exact n3
 have n5:=jij s
 by_cases h1:s.size<=32
 ·have h1':=h1
  rw[n5]at h1'
  have e1:ju s.data.toList=(!zJ c && !(c==35) && !qC s.data.toList 58 && !qC s.data.toList 10):=by
   unfold ju;rw[decide_eq_true n4,decide_eq_true h1',eb,eh];simp
  rw[e1]
  clear e1 eb eh h1' n4
  cases h2:zJ c with
  | true =>
   clear n5
   go_enter Tryz.func130,Tryz.ntmps130
   go_wp2_with (first | (go_at_call 94;refine(zI _ _).mono ?_;rw[h2];rintro e w1 ⟨rfl,rfl⟩))
   go_ret
   exact⟨rfl,rfl⟩
  | false =>
  have hq:=zV (c:=c) (d:=35) 35 rfl
  cases h3:(c==35) with
  | true =>
   rw[h3]at hq
   clear n5
   go_enter Tryz.func130,Tryz.ntmps130
   go_wp2_with (first | (go_at_call 94;refine(zI _ _).mono ?_;rw[h2];rintro e w1 ⟨rfl,rfl⟩))
   go_ret
   exact⟨rfl,rfl⟩
  | false =>
  rw[h3]at hq
  have N5:=jh5 n5
  clear n5
  go_enter Tryz.func130,Tryz.ntmps130
  go_wp2_with (first | (go_at_call 94;refine(zI _ _).mono ?_;rw[h2];rintro e w1 ⟨rfl,rfl⟩))
  clear hq g0
  go_loop [3] (fun i=>∃k:Nat,k<=s.size/\i=.int .i64 k/\∀j,j<k->s.data.toList[j]?≠some 58/\s.data.toList[j]?≠some 10) (fun i=>s.size-(intOf i).toNat)
  case atStart=>exact⟨0,jii _,rfl,fun j hj=>absurd hj (jkb j)⟩
  case round =>
  obtain⟨k,hk,rfl,hno⟩:=hrel
  by_cases hlt:k<s.size
  ·have e:s.data.toList[k]?=some s[k]:=by
    rw[jia (by rw[<- jij];exact hlt)];rfl
   have E:=jh5 e
   have NO:=jh5 hno
   clear e hno
   have q1:=zV (c:=s[k]) (d:=58) 58 rfl
   have q2:=zV (c:=s[k]) (d:=10) 10 rfl
   cases h4:(s[k]==58) with
   | true =>
    rw[h4]at q1
    have h5:qC s.data.toList 58=true:=Vc _ _ k (by rw[E.out];simpa using h4)
    have H5:=jh5 h5
    clear q2 h5
    go_wp2
    go_ret
    exact⟨by rw[H5.out];rfl,rfl⟩
   | false =>
   rw[h4]at q1
   cases h5:(s[k]==10) with
   | true =>
    rw[h5]at q2
    have h6:qC s.data.toList 10=true:=Vc _ _ k (by rw[E.out];simpa using h5)
    have H7:=jh5 h6
    clear h6
    go_wp2
    go_ret
    exact⟨by rw[H7.out,Bool.not_true,Bool.and_false];rfl,rfl⟩
   | false =>
   rw[h5]at q2
   go_wp2
   go_round
   case rel =>
    refine⟨k+1,hlt,by go_num,fun j hj => ?_⟩
    by_cases hjk:j=k
    ·subst hjk;rw[E.out];exact⟨by simpa using h4,by simpa using h5⟩
    exact NO.out j (by omega)
   case measure=>simp[intOf];omega
  have h58:=GG s.data.toList 58 k (fun i hi=>(hno i hi).1) (by rw[<- N5.out];omega)
  have h10:=GG s.data.toList 10 k (fun i hi=>(hno i hi).2) (by rw[<- N5.out];omega)
  have H58:=jh5 h58
  have H10:=jh5 h10
  clear hno h58 h10
  go_wp2
  go_ret
  exact⟨by rw[H58.out,H10.out];rfl,rfl⟩
 have e1:ju s.data.toList=false:=by
  unfold ju;rw[<- n5,decide_eq_false h1];simp
 rw[e1]
 have h1':32<s.size:=by omega
 clear n5 n4 e1 eb eh
 go_enter Tryz.func130,Tryz.ntmps130
 go_wp2
 go_ret
 exact⟨rfl,rfl⟩
theorem Uq(l:List UInt8):∀(k:Nat),l[k]?=some 58->(∀j,j<k->l[j]?≠some 58)->(before l).length=k:=by
 induction l with
 | nil=>intro k h;simp at h
 | cons a t ih =>
 intro k h hn
 unfold before at ih ⊢
 cases k with
 | zero =>
  have:a=58:=by simpa using h
  subst this;rfl
 | succ k =>
 have ha:a≠58:=fun e=>hn 0 (by omega) (by rw[e];rfl)
 rw[jiR,if_pos (by simpa using ha),jic,ih k (by simpa using h) (fun j hj=>by have:=hn (j+1) (by omega);simpa using this)]
theorem jbT(s:ByteArray)(hs:s.size<=4294967295)(w:World)(h:qC s.data.toList 10=true\/qC s.data.toList 58=false\/ju (before s.data.toList)=false):
  Calls Tryz.prog 95 #[.string s] w fun e w'=>e=.returned (.tuple #[.string ⟨#[]⟩,.string ⟨#[]⟩,.bool false])/\Below w.heap.size w w':=by
 have n5:=jij s
 have N5:=jh5 n5
 clear n5
 have HH:=jh5 h
 clear h
 go_enter Tryz.func95,Tryz.ntmps95
 go_wp2_with fail
 go_loop [5] (fun i=>∃k:Nat,k<=s.size/\i=.int .i64 k/\∀j,j<k->s.data.toList[j]?≠some 10) (fun i=>s.size-(intOf i).toNat)
 case atStart=>exact⟨0,jii _,rfl,fun j hj=>absurd hj (jkb j)⟩
 case round =>
 obtain⟨k,hk,rfl,hno⟩:=hrel
 by_cases hlt:k<s.size
 ·have e:s.data.toList[k]?=some s[k]:=by
   rw[jia (by rw[<- jij];exact hlt)];rfl
  have E:=jh5 e
  have NO:=jh5 hno
  clear e hno
  have q2:=zV (c:=s[k]) (d:=10) 10 rfl
  cases h5:(s[k]==10) with
  | true =>
   rw[h5]at q2
   go_wp2
   go_ret3
   exact⟨rfl,jh8 _ _⟩
  | false =>
  rw[h5]at q2
  go_wp2
  go_round
  case rel =>
   refine⟨k+1,hlt,by go_num,fun j hj => ?_⟩
   by_cases hjk:j=k
   ·subst hjk;rw[E.out];simpa using h5
   exact NO.out j (by omega)
  case measure=>simp[intOf];omega
 have h10:=GG s.data.toList 10 k hno (by rw[<- N5.out];omega)
 have h2:qC s.data.toList 58=false\/ju (before s.data.toList)=false:=by
  rcases HH.out with h|h
  ·rw[h10]at h;cases h
  exact h
 have H2:=jh5 h2
 clear hno h10 h2 HH
 go_wp2_with fail
 go_loop [6] (fun i=>∃k:Nat,k<=s.size/\i=.int .i64 k/\∀j,j<k->s.data.toList[j]?≠some 58) (fun i=>s.size-(intOf i).toNat)
 case atStart=>exact⟨0,jii _,rfl,fun j hj=>absurd hj (jkb j)⟩
 case round =>
 obtain⟨m,hm,rfl,hno⟩:=hrel
 by_cases hlt2:m<s.size
 ·have e:s.data.toList[m]?=some s[m]:=by
   rw[jia (by rw[<- jij];exact hlt2)];rfl
  have q2:=zV (c:=s[m]) (d:=58) 58 rfl
  cases h5:(s[m]==58) with
  | true =>
   rw[h5]at q2
   have e58:s.data.toList[m]?=some 58:=by rw[e];simpa using h5
   have hb:=Uq s.data.toList m e58 hno
   have hg:ju (before s.data.toList)=false:=by
    rcases H2.out with h|h
    ·rw[Vc _ _ m e58]at h;cases h
    exact h
   have K:=fun w=>Zl (WJ s) (jiv (QL s) hs) w
   rw[xh,hg]at K
   unfold WJ at K
   rw[hb]at K
   clear e hno e58 hb hg
   go_wp2_with (first | (go_at_call 130;refine(K _).mono ?_;rintro e w1 ⟨rfl,rfl⟩))
   go_ret3
   exact⟨rfl,jh8 _ _⟩
  | false =>
  rw[h5]at q2
  have E:=jh5 e
  have NO:=jh5 hno
  clear e hno
  go_wp2
  go_round
  case rel =>
   refine⟨m+1,hlt2,by go_num,fun j hj => ?_⟩
   by_cases hjk:j=m
   ·subst hjk;rw[E.out];simpa using h5
   exact NO.out j (by omega)
  case measure=>simp[intOf];omega
 clear hno
 go_wp2
 go_ret3
 exact⟨rfl,jh8 _ _⟩
theorem jc6(l:List UInt8)(h:qC l 58=true):l[(before l).length]?=some 58/\∀j,j<(before l).length->l[j]?≠some 58:=by
 unfold qC at h
 have hm:(58:UInt8)∈l:=by simpa using h
 clear h
 unfold before
 induction l with
 | nil=>cases hm
 | cons a t ih =>
 by_cases ha:a=58
 ·subst ha
  refine⟨rfl,fun j hj => ?_⟩
  simp at hj
 have hm':(58:UInt8)∈t:=by
  rcases List.mem_cons.1 hm with h|h
  ·exact absurd h.symm ha
  exact h
 obtain⟨h1,h2⟩:=ih hm'
 rw[jiR,if_pos (by simpa using ha),jic]
 refine⟨by simpa using h1,fun j hj => ?_⟩
 cases j with
 | zero=>simpa using ha
 | succ j=>have:=h2 j (by omega);simpa using this
theorem Ye(s:ByteArray)(hs:s.size<=4294967295)(w:World)(h1:qC s.data.toList 10=false)(h2:qC s.data.toList 58=true)(h3:ju (before s.data.toList)=true):
  Calls Tryz.prog 95 #[.string s] w fun e w'=>e=.returned (.tuple #[.string (WJ s),.string (WK s),.bool true])/\Below w.heap.size w w':=by
 have n5:=jij s
 have N5:=jh5 n5
 clear n5
 have H1:=jh5 h1
 obtain⟨b1,b2⟩:=jc6 _ h2
 have hbl:(before s.data.toList).length<s.size:=by
  rcases jir (before s.data.toList).length s.size with h|h
  ·exact h
  rw[jis (by rw[<- jij];exact h)]at b1;cases b1
 have B1:=jh5 b1
 have B2:=jh5 b2
 have K:=fun w=>Zl (WJ s) (jiv (QL s) hs) w
 rw[xh,h3]at K
 have HP:Hid (WJ s=s.extract 0 (before s.data.toList).length):=rfl
 have HQ:Hid (WK s=s.extract ((before s.data.toList).length+1) s.size):=rfl
 unfold WJ at K
 clear h1 h2 h3 b1 b2
 generalize (before s.data.toList).length=n at *
 go_enter Tryz.func95,Tryz.ntmps95
 go_wp2_with fail
 go_loop [5] (fun i=>∃k:Nat,k<=s.size/\i=.int .i64 k) (fun i=>s.size-(intOf i).toNat)
 case atStart=>exact⟨0,jii _,rfl⟩
 case round =>
 obtain⟨k,hk,rfl⟩:=hrel
 by_cases hlt:k<s.size
 ·have q2:=zV (c:=s[k]) (d:=10) 10 rfl
  have h5:(s[k]==10)=false:=by
   cases h5:(s[k]==10) with
   | false=>rfl
   | true =>
   exfalso
   have:=Vc s.data.toList 10 k (by rw[jia (by rw[<- jij];exact hlt)];exact congrArg some (eq_of_beq h5))
   rw[H1.out]at this;cases this
  rw[h5]at q2
  clear h5
  go_wp2
  go_round
  case rel=>exact⟨k+1,hlt,by go_num⟩
  case measure=>simp[intOf];omega
 go_wp2_with fail
 go_loop [6] (fun i=>∃k:Nat,k<=n/\i=.int .i64 k) (fun i=>s.size-(intOf i).toNat)
 case atStart=>exact⟨0,jii _,rfl⟩
 case round =>
 obtain⟨m,hm,rfl⟩:=hrel
 have hlt2:m<s.size:=by omega
 have e:s.data.toList[m]?=some s[m]:=by
  rw[jia (by rw[<- jij];exact hlt2)];rfl
 have q2:=zV (c:=s[m]) (d:=58) 58 rfl
 by_cases hmn:m<n
 ·have h5:(s[m]==58)=false:=by
   have:=B2.out m hmn
   rw[e]at this
   simpa using this
  rw[h5]at q2
  clear e h5
  go_wp2
  go_round
  case rel=>exact⟨m+1,by omega,by go_num⟩
  case measure=>simp[intOf];omega
 obtain rfl:m=n:=by omega
 have h5:(s[m]==58)=true:=by
  have:=B1.out
  rw[e]at this
  simpa using this
 rw[h5]at q2
 clear e h5
 have h6:IntKind.i64.wrap ((m:Int)+1)=(m:Int)+1:=jiz _ (by omega)
 go_wp2_with (first | (go_at_call 130;refine(K _).mono ?_;rintro e w1 ⟨rfl,rfl⟩))
 go_quiet (fail)
 go_wp2
 go_ret3
 exact⟨by rw[HP.out,HQ.out];rfl,Below.drewN (jh8 _ _) _⟩
theorem Wh(s:ByteArray)(k:Nat)(h:k<s.size):jI (s.data.toList.take (k+1))=(jI (s.data.toList.take k)&&zJ s[k]):=by
 unfold jI
 rw[jjq (by simpa using h),jjo]
 simp;rfl
theorem jat(s:ByteArray)(hs:s.size<=4294967295)(w:World)(h1:qC s.data.toList 10=true):
  Calls Tryz.prog 46 #[.string s] w fun e w'=>e=.returned (.int .i64 5)/\Below w.heap.size w w':=by
 have n5:=jij s
 have N5:=jh5 n5
 clear n5
 have H1:=jh5 h1
 clear h1
 go_enter Tryz.func46,Tryz.ntmps46
 go_wp2_with fail
 go_loop [3,4] (fun b i=>∃(k:Nat) (x:Bool),k<=s.size/\i=.int .i64 k/\b=.bool x/\∀j,j<k->s.data.toList[j]?≠some 10) (fun _ i=>s.size-(intOf i).toNat)
 case atStart=>exact⟨0,true,jii _,rfl,rfl,fun j hj=>absurd hj (jkb j)⟩
 case round =>
 obtain⟨k,x,hk,rfl,rfl,hno⟩:=hrel
 by_cases hlt:k<s.size
 ·have e:s.data.toList[k]?=some s[k]:=by
   rw[jia (by rw[<- jij];exact hlt)];rfl
  have E:=jh5 e
  have NO:=jh5 hno
  clear e hno
  have q2:=zV (c:=s[k]) (d:=10) 10 rfl
  cases h5:(s[k]==10) with
  | true =>
   rw[h5]at q2
   go_wp2
   go_ret
   exact⟨rfl,jh8 _ _⟩
  | false =>
  rw[h5]at q2
  have h6:∀j,j<k+1->s.data.toList[j]?≠some 10:=fun j hj=>by
   by_cases hjk:j=k
   ·subst hjk;rw[E.out];simpa using h5
   exact NO.out j (by omega)
  have H6:=jh5 h6
  clear h6
  cases x
  all_goals
   go_wp2_with (first | (go_at_call 94;refine(zI _ _).mono ?_;rintro e w1 ⟨rfl,rfl⟩))
   go_round
   case rel=>exact⟨k+1,_,hlt,by go_num,rfl,H6.out⟩
   case measure=>simp[intOf];omega
 exfalso
 have:=GG s.data.toList 10 k hno (by rw[<- N5.out];omega)
 rw[H1.out]at this;cases this
theorem Kk(s:ByteArray)(hs:s.size<=4294967295)(w:World)(h1:qC s.data.toList 10=false):
  Calls Tryz.prog 46 #[.string s] w fun e w'=>e=.returned (.int .i64 (jk s.data.toList:Nat))/\Below w.heap.size w w':=by
 have n5:=jij s
 have N5:=jh5 n5
 clear n5
 have H1:=jh5 h1
 clear h1
 go_enter Tryz.func46,Tryz.ntmps46
 go_wp2_with fail
 go_loop [3,4] (fun b i=>∃(k:Nat),k<=s.size/\i=.int .i64 k/\b=.bool (jI (s.data.toList.take k))) (fun _ i=>s.size-(intOf i).toNat)
 case atStart=>exact⟨0,jii _,rfl,rfl⟩
 case round =>
 obtain⟨k,hk,rfl,rfl⟩:=hrel
 by_cases hlt:k<s.size
 ·have q2:=zV (c:=s[k]) (d:=10) 10 rfl
  have h5:(s[k]==10)=false:=by
   cases h5:(s[k]==10) with
   | false=>rfl
   | true =>
   exfalso
   have:=Vc s.data.toList 10 k (by rw[jia (by rw[<- jij];exact hlt)];exact congrArg some (eq_of_beq h5))
   rw[H1.out]at this;cases this
  rw[h5]at q2
  clear h5
  have HS:=jh5 (Wh s k hlt)
  generalize jI (s.data.toList.take k)=x at *
  cases x
  all_goals
   go_wp2_with (first | (go_at_call 94;refine(zI _ _).mono ?_;rintro e w1 ⟨rfl,rfl⟩))
   go_round
   case rel=>exact⟨k+1,hlt,by go_num,by rw[HS.out];rfl⟩
   case measure=>simp[intOf];omega
 obtain rfl:k=s.size:=by omega
 have ht:s.data.toList.take s.size=s.data.toList:=by rw[jij];exact jiF
 rw[ht]
 clear ht hlt hk
 cases h2:jI s.data.toList with
 | true =>
  have hk:jk s.data.toList=1:=by unfold jk;rw[H1.out,if_neg (by decide),if_pos h2]
  have HK:=jh5 hk
  clear hk
  go_wp2
  go_ret
  exact⟨by rw[HK.out];rfl,jh8 _ _⟩
 | false =>
 obtain⟨c,t,hc⟩:=yf h2
 have n3:1<=s.size:=by rw[N5.out,hc];simp
 have g0:s[0]=c:=by
  have:s.data.toList[0]?=some c:=by rw[hc];rfl
  rw[jia (by rw[<- jij];omega)]at this
  exact jh9 this
 have eb:qV s.data.toList=zJ c:=by rw[hc];rfl
 have eh:JO s.data.toList=(c==35):=by rw[hc];rfl
 clear hc
 have q1:=zV (c:=c) (d:=35) 35 rfl
 cases h3:(c==35) with
 | true =>
  have hk:jk s.data.toList=2:=by unfold jk;rw[H1.out,if_neg (by decide),h2,if_neg (by decide),eh,if_pos h3]
  have HK:=jh5 hk
  rw[h3]at q1
  clear hk h3 eb eh h2
  go_wp2
  go_ret
  exact⟨by rw[HK.out];rfl,jh8 _ _⟩
 | false =>
 rw[h3]at q1
 cases h4:zJ c with
 | true =>
  have hk:jk s.data.toList=3:=by unfold jk;rw[H1.out,if_neg (by decide),h2,if_neg (by decide),eh,h3,if_neg (by decide),eb,if_pos h4]
  have HK:=jh5 hk
  clear hk h3 eb eh h2
  go_wp2_with (first | (go_at_call 94;refine(zI _ _).mono ?_;rw[h4];rintro e w1 ⟨rfl,rfl⟩))
  go_ret
  exact⟨by rw[HK.out];rfl,jh8 _ _⟩
 | false =>
 have hk:jk s.data.toList=if qC s.data.toList 58=true/\ju (before s.data.toList)=true then 4 else 5:=by
  unfold jk;rw[H1.out,if_neg (by decide),h2,if_neg (by decide),eh,h3,if_neg (by decide),eb,h4,if_neg (by decide)]
 by_cases h6:qC s.data.toList 58=true/\ju (before s.data.toList)=true
 ·rw[if_pos h6]at hk
  have HK:=jh5 hk
  have C:=fun w=>Ye s hs w H1.out h6.1 h6.2
  clear hk h3 eb eh h2 h6
  go_wp2_with (first | (go_at_call 94;refine(zI _ _).mono ?_;rw[h4];rintro e w1 ⟨rfl,rfl⟩) | (go_at_call 95;refine(C _).mono ?_;rintro e w1 ⟨rfl,b1⟩))
  go_ret
  exact⟨by rw[HK.out];rfl,b1⟩
 rw[if_neg h6]at hk
 have HK:=jh5 hk
 have h7:qC s.data.toList 58=false\/ju (before s.data.toList)=false:=by
  cases a:qC s.data.toList 58
  ·exact .inl rfl
  cases b:ju (before s.data.toList)
  ·exact .inr rfl
  exact absurd ⟨a,b⟩ h6
 have C:=fun w=>jbT s hs w (.inr h7)
 clear hk h3 eb eh h2 h6 h7
 go_wp2_with (first | (go_at_call 94;refine(zI _ _).mono ?_;rw[h4];rintro e w1 ⟨rfl,rfl⟩) | (go_at_call 95;refine(C _).mono ?_;rintro e w1 ⟨rfl,b1⟩))
 go_ret
 exact⟨by rw[HK.out];rfl,b1⟩
theorem zL(s:ByteArray)(hs:s.size<=4294967295)(w:World):
  Calls Tryz.prog 46 #[.string s] w fun e w'=>e=.returned (.int .i64 (jk s.data.toList:Nat))/\Below w.heap.size w w':=by
 cases h1:qC s.data.toList 10 with
 | true =>
  have hk:jk s.data.toList=5:=by unfold jk;rw[if_pos h1]
  rw[hk]
  exact jat s hs w h1
 | false=>exact Kk s hs w h1
theorem jfV{l:List UInt8}(h:jk l=4):qC l 10=false/\qC l 58=true/\ju (before l)=true:=by
 unfold jk at h
 split at h;· cases h
 rename_i h10
 split at h;· cases h
 split at h;· cases h
 split at h;· cases h
 split at h
 ·rename_i q;exact⟨by simpa using h10,q.1,q.2⟩
 cases h
end Go.Proofs.YtmdhainabeljpaaGreatDoor
namespace Go.Proofs.YtmdhainabeljpaaGreatDoor.Fr
open Go.RowKit Go.Shelf
attribute [local go_sem] jil
theorem jeI{s:ByteArray}{k:Nat}(h:k<s.size):s.data.toList[k]?=some s[k]:=by
 rw[jia (by rw[<- jij];exact h)];rfl
def signB(l:List UInt8):Bool:=Lib.hasPrefix l [37]
theorem beginsF_any(s:ByteArray)(hs:s.size<=100000)(w:World):
  Calls Tryz.prog 29 #[.string s] w fun e w'=>e=.returned (.bool (signB s.data.toList&&decide (jk s.data.toList=5)))/\Below w.heap.size w w':=by
 have P1:=jh5 (fun w=>Tryz.strings_HasPrefix s ⟨#[37]⟩ w)
 have e0:Lib.hasPrefix s.data.toList (⟨#[37]⟩:ByteArray).data.toList=signB s.data.toList:=rfl
 simp only[e0]at P1
 have K1:=jh5 (fun w=>vp s (by unfold maxLen;omega) w)
 have ek:(((jk s.data.toList:Nat):Int)==5)=decide (jk s.data.toList=5):=by rw[jiX];simp;omega
 generalize signB s.data.toList=q at *
 generalize decide (jk s.data.toList=5)=d at *
 generalize jk s.data.toList=k at *
 cases q with
 | false =>
  go_enter Tryz.func29,Tryz.ntmps29
  go_wp2_with fail
  refine(P1.out _).mono ?_
  rintro e w1 ⟨rfl,rfl⟩
  go_wp2_with fail
  go_ret
  exact⟨rfl,jh8 _ _⟩
 | true =>
 go_enter Tryz.func29,Tryz.ntmps29
 go_wp2_with fail
 refine(P1.out _).mono ?_
 rintro e w1 ⟨rfl,rfl⟩
 go_wp2_with fail
 refine(K1.out _).mono ?_
 rintro e w2 ⟨rfl,hb⟩
 go_wp2_with fail
 go_ret
 exact⟨by simp,hb⟩
theorem refBegins_any(s:ByteArray)(hs:s.size<=100000)(w:World):
  Calls Tryz.prog 20 #[.string s] w fun e w'=>e=.returned (.bool (signB s.data.toList&&decide (jk s.data.toList=5)))/\Below w.heap.size w w':=by
 have K1:=jh5 (fun w=>zL s (by omega) w)
 have ek:(((jk s.data.toList:Nat):Int)==5)=decide (jk s.data.toList=5):=by rw[jiX];simp;omega
 by_cases h0:0<s.size
 ·have eq:signB s.data.toList=(s[0]==37):=by
   have e:=jeI h0
   unfold signB Lib.hasPrefix
   cases hl:s.data.toList with
   | nil=>rw[hl]at e;cases e
   | cons c l =>
   rw[hl]at e
   have e:=jh9 e
   rw[<- e]
   have e2:List.isPrefixOf [37] (c::l)=((37==c)&&true):=by simp[List.isPrefixOf]
   rw[e2,Bool.and_true]
   by_cases hc:c=37
   ·subst hc;rfl
   have e3:(c==37)=false:=by simpa using hc
   have e4:((37:UInt8)==c)=false:=by simpa using fun e=>hc e.symm
   rw[e3,e4]
  have c1:=VO (c:=s[0]) 37 37 rfl
  rw[eq]
  have q0:(0:Int)<s.size:=by omega
  generalize decide (jk s.data.toList=5)=d at *
  generalize jk s.data.toList=k at *
  generalize (s[0]==37)=q at *
  cases q with
  | false =>
   go_enter Tryz.func20,Tryz.ntmps20
   go_wp2_with fail
   go_ret
   exact⟨rfl,jh8 _ _⟩
  | true =>
  go_enter Tryz.func20,Tryz.ntmps20
  go_wp2_with fail
  refine(K1.out _).mono ?_
  rintro e w2 ⟨rfl,hb⟩
  go_wp2_with fail
  go_ret
  exact⟨by simp,hb⟩
 have e0:s.data.toList=[]:=ji2 (by rw[<- jij];omega)
 have q0:¬(0:Int)<s.size:=by omega
 have eq:signB s.data.toList=false:=by rw[e0];rfl
 rw[eq]
 clear e0
 go_enter Tryz.func20,Tryz.ntmps20
 go_wp2_with fail
 go_ret
 exact⟨rfl,jh8 _ _⟩
end Go.Proofs.YtmdhainabeljpaaGreatDoor.Fr
