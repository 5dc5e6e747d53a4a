/- Texts put together:CC,CD,DF,DG,DH,DI. -/
import Derived.Test.YtimfhnfcmhmjcaaGreatDoorBgr17
set_option linter.unusedVariables false
set_option maxRecDepth 100000
set_option maxHeartbeats 16000000
namespace Go.Proofs.YtimfhnfcmhmjcaaGreatDoor
abbrev jji:=@ByteArray.size_append
abbrev jkz:=@Go.Sort.heap_grow_old
end Go.Proofs.YtimfhnfcmhmjcaaGreatDoor
namespace Go.Proofs.YtimfhnfcmhmjcaaGreatDoor.Sm
open Go.RowKit
def F(x k j:Nat):Nat:=if j<k then (dg (x / 16 ^ (7-j) % 16)).toNat else 0
def jfY(x k:Nat):Array Value:=#[.int .u8 (F x k 0:Nat),.int .u8 (F x k 1:Nat),.int .u8 (F x k 2:Nat),.int .u8 (F x k 3:Nat),.int .u8 (F x k 4:Nat),.int .u8 (F x k 5:Nat),.int .u8 (F x k 6:Nat),.int .u8 (F x k 7:Nat)]
theorem Za(x k j:Nat)(h:j<8):(jfY x k)[j]?=some (.int .u8 (F x k j:Nat)):=by
 match j,h with
 | 0,_ | 1,_ | 2,_ | 3,_ | 4,_ | 5,_ | 6,_ | 7,_=>rfl
 | n+8,h=>omega
theorem ZJ(x k:Nat):(jfY x k).size=8:=rfl
theorem jd6(x k:Nat)(h:k<8):(jfY x k).setIfInBounds k (.int .u8 ((dg (x / 16 ^ (7-k) % 16)).toNat:Nat))=jfY x (k+1):=by
 apply Array.ext_getElem?
 intro j
 rw[ji8]
 by_cases hj:j<8
 ·rw[Za _ _ _ hj,Za _ _ _ hj,ZJ]
  by_cases e:k=j
  ·subst e;simp[h,F]
  have:F x (k+1) j=F x k j:=by unfold F;by_cases a:j<k<;>simp[a]<;>omega
  rw[if_neg e,this]
 have:k≠j:=by omega
 rw[if_neg this,ji1 (by rw[ZJ];omega),ji1 (by rw[ZJ];omega)]
theorem jcr(d:Nat)(h:d<16)(h':d<(⟨#[48,49,50,51,52,53,54,55,56,57,97,98,99,100,101,102]⟩:ByteArray).size):
  (⟨#[48,49,50,51,52,53,54,55,56,57,97,98,99,100,101,102]⟩:ByteArray)[d]=dg d:=by
 match d,h with
 | 0,_ | 1,_ | 2,_ | 3,_ | 4,_ | 5,_ | 6,_ | 7,_ | 8,_ | 9,_ | 10,_ | 11,_ | 12,_ | 13,_ | 14,_ | 15,_=>rfl
 | n+16,h=>omega
theorem nib(x k:Nat)(hx:x<4294967296)(h:k<8):x*16 ^ k % 4294967296 / 268435456=x / 16 ^ (7-k) % 16:=by
 match k,h with
 | 0,_ | 1,_ | 2,_ | 3,_ | 4,_ | 5,_ | 6,_ | 7,_=>simp only[Nat.reduceSub,Nat.reducePow];omega
 | n+8,h=>omega
theorem jh4(x k:Nat):((x*16 ^ k % 4294967296:Nat):Int)*16 % 4294967296=((x*16 ^ (k+1) % 4294967296:Nat):Int):=by
 rw[Nat.pow_succ,<- Nat.mul_assoc]
 omega
def jd8(x:Nat):List Int:=[(F x 8 0:Nat),(F x 8 1:Nat),(F x 8 2:Nat),(F x 8 3:Nat),(F x 8 4:Nat),(F x 8 5:Nat),(F x 8 6:Nat),(F x 8 7:Nat)]
theorem jb5(x i:Nat)(h:i<8):(jd8 x).getD i 0=(F x 8 i:Nat):=by
 match i,h with
 | 0,_ | 1,_ | 2,_ | 3,_ | 4,_ | 5,_ | 6,_ | 7,_=>rfl
 | n+8,h=>omega
theorem jb4(x:Nat):strOfNums (jd8 x)=figs x:=by
 simp[strOfNums,jd8,figs,F]
theorem figures_any(x:Nat)(hx:x<4294967296)(w:World):
  Calls Tryz.prog 95 #[.int .u32 x] w fun e w'=>e=.returned (.string (figs x))/\Below w.heap.size w w':=by
 go_enter Tryz.func95,Tryz.ntmps95
 go_wp2
 go_loopw [0,5] (fun r i wr=>∃k:Nat,k<=8/\i=.int .i64 k/\r=.int .u32 (x*16 ^ k % 4294967296:Nat)/\wr=w.alloc (.cells (jfY x k) 228)) (fun _ i _=>8-(intOf i).toNat)
 case atStart=>exact⟨0,by omega,rfl,by simp;omega,rfl⟩
 case round =>
 obtain⟨k,hk,rfl,rfl,rfl⟩:=hrel
 by_cases hlt:k<8
 ·have hy:x*16 ^ k % 4294967296<4294967296:=jj9 _ (by decide)
  have hn:=nib x k hx hlt
  have hs:=jh4 x k
  generalize x*16 ^ k % 4294967296=y at *
  have HN:=jii hn
  have HS:=jii hs
  clear hn hs
  have ht:(jfY x k)[k]?=some (.int .u8 (F x k k:Nat)):=Za x k k hlt
  go_wp2
  go_round
  case rel =>
   refine⟨k+1,by omega,by go_num,by rw[HS.out],?_⟩
   rw[jcr _ (by omega),HN.out,jd6 x k hlt]
  case measure=>simp[intOf];omega
 have:k=8:=by omega
 subst this
 have hcv:=run_convert_bytes_arg (P:=Tryz.prog) (w.alloc (.cells (jfY x 8) 228)) 165 5 Tryz.underlying165 Tryz.underlying5 w.heap.size 0 8 8 (jd8 x) rfl (fun i hi=>by
  rw[jjB _ _ _ _ rfl,jiP,Za x 8 i hi,jb5 x i hi]) 9 Tryz.underlying9
 rw[jb4]at hcv
 go_wp2
 go_ret
 exact⟨rfl,(jil _ _).alloc (jij _) _⟩
theorem jfN:∀c:Fin 256,Lib.indexByte DIG (UInt8.ofNat c.val)=ix c.val:=by decide +kernel
theorem idx(c:UInt8):Lib.indexByte DIG c=ix c.toNat:=by
 have:=jfN ⟨c.toNat,c.toNat_lt⟩
 simpa using this
def takeV(l:List UInt8):Value:=match takes l with
 | some n=>.tuple #[.int .u32 (n:Nat),.bool true]
 | none=>.tuple #[.int .u32 0,.bool false]
theorem jaZ{l:List UInt8}(h:l.length≠8):takeV l=.tuple #[.int .u32 0,.bool false]:=by
 unfold takeV takes;rw[if_neg h]
theorem Gb{l:List UInt8}{n:Nat}(hl:l.length=8)(h:tk 0 l=some n):takeV l=.tuple #[.int .u32 (n:Nat),.bool true]:=by
 unfold takeV takes;rw[if_pos hl,h]
theorem Gc{l:List UInt8}(hl:l.length=8)(h:tk 0 l=none):takeV l=.tuple #[.int .u32 0,.bool false]:=by
 unfold takeV takes;rw[if_pos hl,h]
theorem or4(x d:Nat)(hx:x<4294967296)(hd:d<16):bits .or .u32 ((x:Int)*16 % 4294967296) (d:Int)=((x*16 % 4294967296+d:Nat):Int):=by
 have e:((x:Int)*16 % 4294967296)=((x*16 % 4294967296:Nat):Int):=by omega
 rw[e,u32_or_nat _ _ (jj9 _ (by decide)) (by omega),nat_join 4 _ _ (by omega) (by omega)]
theorem Xi(c:UInt8)(w:World):
  Calls Tryz.prog 213 #[.string ⟨#[48,49,50,51,52,53,54,55,56,57,97,98,99,100,101,102]⟩,.int .u8 (c.toNat:Int)] w fun e w'=>e=.returned (.int .i64 (ix c.toNat))/\w=w' :=
 (Tryz.strings_IndexByte _ _ w).mono fun _ _ ⟨he,hw⟩=>⟨by rw[he];exact jbd (by rw[<- idx c];simp[DIG]),hw.symm⟩
theorem GX(c:UInt8)(h:val c.toNat=none)(w:World):
  Calls Tryz.prog 213 #[.string ⟨#[48,49,50,51,52,53,54,55,56,57,97,98,99,100,101,102]⟩,.int .u8 (c.toNat:Int)] w fun e w'=>e=.returned (.int .i64 (-1))/\w=w' :=
 (Xi c w).mono fun _ _ ⟨he,hw⟩=>⟨by rw[he,ix,h],hw⟩
theorem GV(c:UInt8)(d:Nat)(h:val c.toNat=some d)(w:World):
  Calls Tryz.prog 213 #[.string ⟨#[48,49,50,51,52,53,54,55,56,57,97,98,99,100,101,102]⟩,.int .u8 (c.toNat:Int)] w fun e w'=>e=.returned (.int .i64 (d:Int))/\w=w' :=
 (Xi c w).mono fun _ _ ⟨he,hw⟩=>⟨by rw[he,ix,h],hw⟩
theorem take_any(s:ByteArray)(w:World)(hs:s.size<=maxLen):
  Calls Tryz.prog 169 #[.string s] w fun e w'=>e=.returned (takeV s.data.toList)/\w=w':=by
 unfold maxLen at hs
 by_cases h8:s.size=8
 ·have hb:(!((s.size:Int)==8))=false:=by simp[h8]
  have hb2:((s.size:Int) != 8)=false:=by simp[h8]
  have H8:=jii h8
  have hle:s.size<=8:=by omega
  clear h8
  go_enter Tryz.func169,Tryz.ntmps169
  go_wp2_with fail
  go_loop [4,12] (fun r i=>∃k x:Nat,k<=s.size/\x<4294967296/\i=.int .i64 k/\r=.int .u32 (x:Nat)/\tk 0 s.data.toList=tk x (s.data.toList.drop k)) (fun _ i=>s.size-(intOf i).toNat)
  case atStart=>exact⟨0,0,by omega,by omega,rfl,rfl,rfl⟩
  case round =>
  obtain⟨k,x,hk,hx,rfl,rfl,htk⟩:=hrel
  have HT:=jii htk
  clear htk
  by_cases hlt:k<s.size
  ·have hsplit:s.data.toList.drop k=s[k]::s.data.toList.drop (k+1):=by
    rw[jjp (by simpa using hlt)];rfl
   cases hv:val s[k].toNat with
   | none =>
    have HN:Hid (tk 0 s.data.toList=none):=by
     show _=_
     rw[HT.out,hsplit,tk,hv]
    clear hsplit
    go_wp2_with fail
    refine(GX _ hv _).mono ?_
    clear hv
    rintro e w1 ⟨rfl,rfl⟩
    go_wp2_with fail
    go_ret2
    exact⟨by rw[Gc (by simpa using H8.out) HN.out];rfl,rfl⟩
   | some d =>
   have hd:=jgz hv
   have HN:Hid (tk 0 s.data.toList=tk (x*16 % 4294967296+d) (s.data.toList.drop (k+1))):=by
    show _=_
    rw[HT.out,hsplit,tk,hv]
   clear hsplit
   have ho:=or4 x d hx hd
   go_wp2_with fail
   refine(GV _ _ hv _).mono ?_
   clear hv
   rintro e w1 ⟨rfl,rfl⟩
   go_wp2_with fail
   go_round
   case rel=>exact⟨k+1,x*16 % 4294967296+d,by omega,by omega,by go_num,rfl,HN.out⟩
   case measure=>simp[intOf];omega
  have HN:Hid (tk 0 s.data.toList=some x):=by
   show _=_
   rw[HT.out,jjf (by simp;omega)];rfl
  go_wp2
  go_ret2
  exact⟨by rw[Gb (by simpa using H8.out) HN.out];rfl,rfl⟩
 have hb:(!((s.size:Int)==8))=true:=by simp;omega
 have hb2:((s.size:Int) != 8)=true:=by simp;omega
 go_enter Tryz.func169,Tryz.ntmps169
 go_wp2_with fail
 go_ret2
 exact⟨by rw[jaZ (by simpa using h8)];rfl,rfl⟩
theorem takeV_of{l:List UInt8}{n:Nat}(h:takes l=some n):takeV l=.tuple #[.int .u32 (n:Nat),.bool true]:=by unfold takeV;rw[h]
theorem takeV_not{l:List UInt8}(h:takes l=none):takeV l=.tuple #[.int .u32 0,.bool false]:=by unfold takeV;rw[h]
end Go.Proofs.YtimfhnfcmhmjcaaGreatDoor.Sm
namespace Go.Proofs.YtimfhnfcmhmjcaaGreatDoor.Fr
open Go.RowKit Go.Shelf
attribute [local go_sem] jit
theorem mkB(l:List UInt8):(⟨l.toArray⟩:ByteArray)=B l:=rfl
theorem fits_any(n:Int)(w:World):Calls Tryz.prog 154 #[.int .i64 n] w fun e w'=>e=.returned (.bool (decide (2<=n/\n<=50000)))/\w'=w:=by
 by_cases h1:2<=n
 ·by_cases h2:n<=50000
  ·have e:decide (2<=n/\n<=50000)=true:=by simp[h1,h2]
   rw[e]
   go_enter Tryz.func154,Tryz.ntmps154
   go_wp2_with fail
   go_ret
   exact⟨rfl,rfl⟩
  have e:decide (2<=n/\n<=50000)=false:=by simp[h2]
  rw[e]
  go_enter Tryz.func154,Tryz.ntmps154
  go_wp2_with fail
  go_ret
  exact⟨rfl,rfl⟩
 have e:decide (2<=n/\n<=50000)=false:=by simp[h1]
 rw[e]
 go_enter Tryz.func154,Tryz.ntmps154
 go_wp2_with fail
 go_ret
 exact⟨rfl,rfl⟩
theorem Ja(w:World):Calls Tryz.prog 106 #[.bool true] w fun e w'=>e=.returned (.tuple #[.int .i64 2,.string (B []),.int .i64 0])/\w'=w:=by
 go_enter Tryz.func106,Tryz.ntmps106
 go_wp2_with fail
 go_ret3
 exact⟨rfl,rfl⟩
theorem xw(w:World):Calls Tryz.prog 106 #[.bool false] w fun e w'=>e=.returned (.tuple #[.int .i64 3,.string (B []),.int .i64 0])/\w'=w:=by
 go_enter Tryz.func106,Tryz.ntmps106
 go_wp2_with fail
 go_ret3
 exact⟨rfl,rfl⟩
theorem vz{w:World}(n:Nat)(os:Array Obj):Below w.heap.size w (Go.Sort.grow (w.drewN n) os) :=
 ⟨rfl,rfl,rfl,by rw[Go.Sort.size_grow];exact Nat.le_add_right _ _,fun k hk=>jkz _ _ hk⟩
theorem JY(n:Nat)(hn:n<=9223372036854775807)(w:World)(ht:TabsN w):Calls Tryz.prog 150 #[.int .i64 (n:Int)] w fun e w'=>e=.returned (.string (B (Lib.decDigits n)))/\Below w.heap.size w w' :=
 (Tryz.strconv_Itoa n (by omega) (by omega) w ht.pow).mono fun e w' ⟨he,k,os,hw⟩=>⟨by rw[he,jki];rfl,by rw[hw];exact vz k os⟩
theorem Ug(n:Nat)(hn:n<=9223372036854775807):(B (Lib.decDigits n)).size<=20:=by
 rw[jm,jjK]
 exact jka n (by omega)
theorem Ya(n:Nat)(hn:n<=9223372036854775807)(f:List UInt8)(hf:f.length<=1000000)(w:World)(ht:TabsN w):
  Calls Tryz.prog 94 #[.int .i64 (n:Int),.string (B f)] w fun e w'=>e=.returned (.string (B (jM n f)))/\Below w.heap.size w w':=by
 have IT:=jii (JY n hn w ht)
 have E:Hid ((⟨#[37,97,109,101,110,100,32]⟩:ByteArray)++B (Lib.decDigits n) ++ ⟨#[32]⟩++B f=B (jM n f)):=by
  show _=_
  rw[show(⟨#[37,97,109,101,110,100,32]⟩:ByteArray)=B AMD from rfl,show(⟨#[32]⟩:ByteArray)=B [32] from rfl,jE,jE,jE]
  unfold jM;simp
 have hs:=Ug n hn
 have hfs:(B f).size<=1000000:=by rw[jm];exact hf
 generalize B (Lib.decDigits n)=d at *
 generalize B f=g at *
 have s1:((⟨#[37,97,109,101,110,100,32]⟩:ByteArray)++d).size<=27:=by rw[jji];show 7+_<=_;omega
 have s2:((⟨#[37,97,109,101,110,100,32]⟩:ByteArray)++d ++ ⟨#[32]⟩).size<=28:=by rw[jji];show _+1<=_;omega
 clear ht
 go_enter Tryz.func94,Tryz.ntmps94
 go_wp2_with fail
 refine IT.out.mono ?_
 rintro e w1 ⟨rfl,hb⟩
 go_wp2_with fail
 go_ret
 exact⟨by rw[<- E.out];rfl,hb⟩
theorem WY(n:Nat)(hn:n<=9223372036854775807)(w:World)(ht:TabsN w):
  Calls Tryz.prog 97 #[.int .i64 (n:Int)] w fun e w'=>e=.returned (.string (B (zF n)))/\Below w.heap.size w w':=by
 have IT:=jii (JY n hn w ht)
 have E:Hid ((⟨#[37,101,110,100,32]⟩:ByteArray)++B (Lib.decDigits n) ++ ⟨#[10]⟩=B (zF n)):=by
  show _=_
  rw[show(⟨#[37,101,110,100,32]⟩:ByteArray)=B END from rfl,show(⟨#[10]⟩:ByteArray)=B [10] from rfl,jE,jE]
  unfold zF;simp
 have hs:=Ug n hn
 generalize B (Lib.decDigits n)=d at *
 have s1:((⟨#[37,101,110,100,32]⟩:ByteArray)++d).size<=25:=by rw[jji];show 5+_<=_;omega
 clear ht
 go_enter Tryz.func97,Tryz.ntmps97
 go_wp2_with fail
 refine IT.out.mono ?_
 rintro e w1 ⟨rfl,hb⟩
 go_wp2_with fail
 go_ret
 exact⟨by rw[<- E.out];rfl,hb⟩
end Go.Proofs.YtimfhnfcmhmjcaaGreatDoor.Fr
namespace Go.Proofs.YtimfhnfcmhmjcaaGreatDoor.Fr
open Go.Lib
def xy(x:Ln):Bool:=x.ended&&hasPrefix x.text [32]
theorem Wl:∀(h:List UInt8),(10:UInt8)∉h->sp false h=true/\vQ false h=false
 | [],_=>⟨rfl,rfl⟩
 | c::h,hc=>by
  have hc1:c≠10:=fun e=>hc (e▸jis)
  have ih:=Wl h (fun q=>hc (jir _ q))
  have e:(c==10)=false:=by simpa using hc1
  refine⟨by simp[sp,e,ih.1],?_⟩
  have:=ih.2
  unfold vQ at *
  rw[List.getLast?_cons]
  cases hl:h.getLast? with
  | none=>simpa using hc1
  | some d=>rw[hl]at this;simpa using this
theorem ja5(h:List UInt8)(hc:(10:UInt8)∉h):sp true (h++[10])=hasPrefix h [32]:=by
 cases h with
 | nil=>rfl
 | cons c h =>
 have hc1:c≠10:=fun e=>hc (e▸jis)
 have h1:=Wl h (fun q=>hc (jir _ q))
 have e:(c==10)=false:=by simpa using hc1
 rw[jiz]
 unfold sp
 rw[e,zN,h1.1,h1.2]
 by_cases h32:c=32
 ·subst h32;rfl
 have e1:(c==32)=false:=by simpa using h32
 have e2:hasPrefix (c::h) [32]=((32==c)&&true):=by simp[hasPrefix,List.isPrefixOf]
 have e3:((32:UInt8)==c)=false:=by simpa using fun e=>h32 e.symm
 rw[e1,e2,e3];rfl
theorem yh:∀{l:List UInt8},(10:UInt8)∈head l->False
 | [],h=>by simp[head]at h
 | c::l,h=>by
  unfold head at h
  rw[jjc]at h
  by_cases hc:c=10
  ·subst hc;simp at h
  have e:(c != 10)=true:=by simpa using hc
  rw[if_pos e]at h
  rcases List.mem_cons.1 h with h|h
  ·exact hc h.symm
  exact yh h
theorem Ve:∀(n no at_:Nat) (l:List UInt8),l.length<=n->((jF no at_ l).all xy=true↔(sp true l=true/\(l=[]\/vn l=true)))
 | n,no,at_,l,hn=>by
  by_cases h0:l=[]
  ·subst h0;simp[jn,sp]
  rw[jq no at_ l h0,jkb]
  have hs:=zi l
  have hu:=qd l h0
  have hlen:=Vy l
  have hc:(10:UInt8)∉head l:=by
   intro hm
   exact yh hm
  cases hnl:nl l with
  | false =>
   have h10:(10:UInt8)∉l:=by unfold nl at hnl;simpa using hnl
   have:vn l=false:=by
    unfold vn
    cases hg:l.getLast? with
    | none=>rfl
    | some c =>
    have:=List.mem_of_getLast? hg
    have:c≠10:=fun e=>h10 (e▸this)
    simpa using this
   simp[xy,this,h0]
  | true =>
  match n,hn with
  | 0,hn=>exact absurd (jjU (by omega)) h0
  | n+1,hn =>
  have ih:=Ve n (no+1) (at_+zY l) (l.drop (zY l)) (by rw[jiw];omega)
  rw[hnl,if_pos rfl]at hs
  rw[jiY,ih]
  generalize l.drop (zY l)=r at *
  generalize hh:head l=h at *
  subst hs
  rw[zN,ja5 h hc,JD h [10] true (by simp)]
  have e2:vQ true ([10]:List UInt8)=true:=rfl
  rw[e2]
  have e3:vn (h++[10]++r)=true↔(r=[]\/vn r=true):=by
   unfold vn
   rw[List.getLast?_append]
   cases hr:r.getLast? with
   | none=>rw[List.getLast?_eq_none_iff.1 hr];simp
   | some c =>
   have:r≠[]:=fun e=>by rw[e]at hr;cases hr
   simp[this]
  rw[e3]
  simp[xy,and_assoc]
theorem jfS(l:List UInt8):goodR l=(decide (2<=(l.length:Int)/\(l.length:Int)<=50000)&&(jg l).all xy):=by
 rw[jjm,good_iff,jiY]
 unfold jg
 rw[Ve l.length 0 0 l (jij _)]
 constructor
 ·rintro⟨a,b,c,d⟩
  exact⟨by simp;omega,d,.inr c⟩
 rintro⟨a,d,c⟩
 simp at a
 have:l≠[]:=by rintro rfl;simp at a
 exact⟨by omega,by omega,c.resolve_left this,d⟩
open Go.RowKit Go.Shelf
attribute [local go_sem] jit
def jhW(w:World)(pre:List Ln)(W:World):Prop:=Boxed W w.heap.size 4 (.bool false)/\Below w.heap.size w W/\pre.all xy=true
def jic(w:World)(c:Code)(pre:List Ln)(W:World):Prop:=Boxed W w.heap.size 4 (.bool false)/\Below w.heap.size w W/\c=.ret/\pre.all xy=false
theorem jbZ(w W:World)(b:Bool)(tmps:Array Value)(h:Boxed W w.heap.size 4 (.bool b))(hK:W.heap[w.heap.size+2]?=some (.deferred (some [])))(hB:Below w.heap.size w W)(t2:tmps[2]?=some (.pointer (some ⟨w.heap.size,0,none⟩))):
  bodyPostM Fence.wide 9 Tryz.prog Tryz.f93 (fun e w'=>e=.returned (.bool b)/\Below w.heap.size w w') .ret {tmps:=tmps,defers:=[{target:=.collected (w.heap.size+2),args:=#[]}]} W:=by
 have p1:=grownBy_putObj' W (w.heap.size+2) (.deferred none)
 have zW:w.heap.size+2<W.heap.size:=(Array.getElem?_eq_some_iff.1 hK).1
 have r:Boxed (W.putObj (w.heap.size+2) (.deferred none)) w.heap.size 4 (.bool b):=(p1.block _ (by omega) (fun e=>by have:=jip e;omega)).trans h
 have c:=r.cell
 refine⟨by simp,.inl ⟨_,_,rfl,run_takeDeferred hK,?_⟩⟩
 exact⟨.bool b,by simp[results,Tryz.f93,go_sem,t2,c],rfl,hB.trans (belowK_b (w:=w) (jij _) W _ _ _ (by omega) hK rfl rfl)⟩
theorem jd0(s:ByteArray)(hsz:s.size<=1000000)(w:World):
  Calls Tryz.prog 93 #[.string s] w fun e w'=>e=.returned (.bool (goodR s.data.toList))/\Below w.heap.size w w':=by
 have hg:=jfS s.data.toList
 rw[<- jiV]at hg
 have FT:=jii (fits_any (s.size:Int))
 generalize goodR s.data.toList=g at *
 obtain⟨xs,hxs⟩:∃xs,jg s.data.toList=xs:=⟨_,rfl⟩
 rw[hxs]at hg
 have HXS:=jii hxs
 have HH:=fun w b=>qq s b w
 rw[hxs]at HH
 clear hxs
 refine callsIn_wide (n:=9).1 ?_
 refine callsIn_of_wp_marks Tryz.func93 rfl trivial ?_ rfl
 simp only[Tryz.ntmps93,ji5,jin,jiJ,Nat.reduceAdd,Nat.reduceSub,ji3,ji4,jje,ji6,jiZ,jiz]
 have k1:=jjs w 4 (.bool false)
 have kb:Below w.heap.size w (w.alloc (.cells #[.bool false] 4)):=(jil _ w).alloc (jij _) _
 cases hf:decide (2<=(s.size:Int)/\(s.size:Int)<=50000) with
 | false =>
  rw[hf]at hg FT
  simp only[Bool.false_and]at hg
  subst hg
  clear hf HH
  gi_wp2_with fail
  refine⟨trivial,(callsIn_wide.2 (FT.out _)).mono ?_⟩
  rintro e w3 ⟨rfl,rfl⟩
  gi_wp2
  have c:=k1.cell
  exact⟨.bool false,by simp[results,Tryz.f93,go_sem,c],rfl,kb⟩
 | true =>
 rw[hf]at hg FT
 simp only[jjQ]at hg
 clear hf
 gi_wp2_with fail
 refine⟨trivial,(callsIn_wide.2 (FT.out _)).mono ?_⟩
 rintro e w3 ⟨rfl,rfl⟩
 gi_wp2_with fail
 refine⟨trivial,(callsIn_wide.2 (vx s _)).mono ?_⟩
 rintro e w3 ⟨rfl,rfl⟩
 gi_wp2_with fail
 have k2:=vX w (.cells #[.bool false] 4) 9 (.string s)
 have kb2:=kb.alloc (o:=.cells #[.string s] 9) kb.size
 have k1b:=k1.alloc (.cells #[.string s] 9)
 have kz:((w.alloc (.cells #[.bool false] 4)).alloc (.cells #[.string s] 9)).heap.size=w.heap.size+2:=by simp
 generalize (w.alloc (.cells #[.bool false] 4)).alloc (.cells #[.string s] 9)=w1 at *
 clear k1 kb FT
 have ab:∀k,k<=5->zo (w.heap.size+2) k (jhW w):=fun k hk pre W W' h ht =>
  ⟨ht.box h.1 (.inl (by omega)),h.2.1.trans (ht.below (by omega) h.2.1.size),h.2.2⟩
 refine qS (gf:=159) (lb:=#[.pointer (some ⟨w.heap.size+1,0,none⟩)]) rfl (enters_of Tryz.func159 (by kernel_rfl) rfl) (HH w1 _ k2 (by omega)) (fun _=>rfl)
  (jhW w) (jic w) (by rw[kz];exact ab _ (by omega)) (fun c pre W W' h ht=>⟨ht.box h.1 (.inl (by rw[kz];omega)),h.2.1.trans (ht.below (by rw[kz];omega) h.2.1.size),h.2.2⟩) ⟨k1b,kb2,rfl⟩
  (fun a pre x a' W=>∃Bx,w.heap.size+2+5<=Bx/\a'={tmps:=(a.tmps.setIfInBounds 10 (.agg (qu x))).setIfInBounds 3 (.pointer (some ⟨Bx,0,none⟩)),defers:=[]}/\ja W Bx 182 (qu x)/\jhW w pre W)
  ?hM ?assign ?body ?done ?stop
 case hM =>
  rw[kz]
  rintro a pre x a' _ W W' ⟨Bx,h1,h2,h3,h4⟩ ht
  exact⟨Bx,h1,h2,(ht.same Bx h3.lt (.inr (by omega))).trans h3,ab 2 (by omega) pre W W' h4 ht⟩
 case assign =>
  rw[kz]
  intro l pre x post W hx hsz hi
  clear hx
  dsimp only[qu]
  gi_wp2
  exact⟨(qC.refl _ _ W).alloc hsz _,W.heap.size,by omega,rfl,ja.new _ _ _,hi.1.alloc _,hi.2.1.alloc hi.2.1.size _,hi.2.2⟩
 case body =>
  rw[kz]
  rintro l pre x post a' W hx hsz ⟨Bx,hB,rfl,hc,h1,h2,h3⟩
  clear hx
  simp only[jiC,jjj,jjk,qu]at hc ⊢
  have hne:Bx≠w.heap.size:=by omega
  have gx:xy x=(x.ended&&Lib.hasPrefix x.text [32]):=rfl
  have gs:(pre++[x]).all xy=xy x:=by rw[jkf,h3];simp
  have c3:=h1.cell
  have f3:=h1.frozen
  have p2:W.cell? ⟨Bx,2,none⟩=some (.string ⟨x.text.toArray⟩):=hc.cell 2
  have p3:W.cell? ⟨Bx,3,none⟩=some (.bool x.ended):=hc.cell 3
  generalize x.ended=en at *
  cases en with
  | false =>
   gi_wp2_with fail
   refine⟨trivial,?_⟩
   gi_wp2
   exact⟨(qC.refl _ _ _).setCell (.inl (by show w.heap.size<_;omega)) _,jjg _ h1,h2.setCell (p:=⟨w.heap.size,0,none⟩) (jij _) _,rfl,by rw[gs,gx];rfl⟩
  | true =>
  gi_wp2_with fail
  refine⟨trivial,((callsIn_wide.2 (Tryz.strings_HasPrefix ⟨x.text.toArray⟩ ⟨#[32]⟩ W)).inRound l).mono ?_⟩
  rintro e V ⟨rfl,rfl⟩
  have eh:Lib.hasPrefix (⟨x.text.toArray⟩:ByteArray).data.toList (⟨#[32]⟩:ByteArray).data.toList=Lib.hasPrefix x.text [32]:=rfl
  rw[eh]
  rw[jjQ]at gx
  generalize Lib.hasPrefix x.text [32]=hp at *
  cases hp with
  | false =>
   gi_wp2
   exact⟨(qC.refl _ _ _).setCell (.inl (by show w.heap.size<_;omega)) _,jjg _ h1,h2.setCell (p:=⟨w.heap.size,0,none⟩) (jij _) _,rfl,by rw[gs,gx]⟩
  | true =>
  gi_wp2
  exact⟨qC.refl _ _ _,h1,h2,by rw[gs,gx]⟩
 case done =>
  rw[kz]
  rintro W ⟨h1,h2,h3⟩ hmark
  have zW:w.heap.size+2<W.heap.size:=(Array.getElem?_eq_some_iff.1 hmark).1
  have c3:=h1.cell
  have f3:=h1.frozen
  rw[h3]at hg
  subst hg
  gi_wp2
  exact jbZ w _ true _ (jjg _ h1) ((jiS _ _ _ _ (by show w.heap.size+2≠w.heap.size;omega)).trans hmark) (h2.setCell (p:=⟨w.heap.size,0,none⟩) (jij _) _) rfl
 case stop =>
 rw[kz]
 rintro c pre W hpre ⟨h1,h2,rfl,h3⟩ hmark
 have hg0:g=false:=by
  rw[hg]
  obtain⟨z,rfl⟩:=hpre
  rw[jkf,h3];rfl
 subst hg0
 gi_wp2
 exact jbZ w W false _ h1 hmark h2 rfl
theorem JZ(l:List UInt8)(hl:l.length<=1000000)(w:World):
  Calls Tryz.prog 93 #[.string (B l)] w fun e w'=>e=.returned (.bool (goodR l))/\Below w.heap.size w w':=by
 have:=jd0 (B l) (by rw[jm];exact hl) w
 rwa [jo]at this
end Go.Proofs.YtimfhnfcmhmjcaaGreatDoor.Fr
namespace Go.Proofs.YtimfhnfcmhmjcaaGreatDoor.Fr
open Go.RowKit Go.Shelf
attribute [local go_sem] jit
theorem jeR(X:List UInt8)(i j:Nat):(B X).extract i j=B ((X.drop i).take (j-i)):=by
 apply jkc
 apply Array.toList_inj.1
 rw[jj7,jo,jo]
theorem ext_drop(X:List UInt8)(i:Nat):(B X).extract i (B X).size=B (X.drop i):=by
 rw[jeR,jm,ji2 (by simp)]
theorem ext_take(X:List UInt8)(j:Nat):(B X).extract 0 j=B (X.take j):=by rw[jeR];simp
theorem jbw{l:List UInt8}{c:UInt8}(h:c∉l):∀x∈l,(x != c)=true:=fun x hx=>by
 have:x≠c:=fun e=>h (by rw[<- e];exact hx)
 simpa using this
theorem Ul(l:List UInt8)(c:UInt8)(hl:l.length<=1000000)(w:World):
  Calls Tryz.prog 105 #[.string (B l),.string ⟨#[c]⟩] w fun e w' =>
   e=.returned (.tuple #[.string (B (l.takeWhile (· != c))),.string (B (l.drop ((l.takeWhile (· != c)).length+1))),.bool (l.contains c)])/\Below w.heap.size w w':=by
 by_cases h:c∈l
 ·refine(Ym (B l) c w (by rw[jm];unfold maxLen;omega) (by rw[jo];exact h)).mono ?_
  rintro e w' ⟨rfl,n,rfl⟩
  refine⟨?_,⟨rfl,rfl,rfl,jij _,fun _ _=>rfl⟩⟩
  have hp:l.take (l.takeWhile (· != c)).length=l.takeWhile (· != c):=(List.prefix_iff_eq_take.1 (jjq _)).symm
  rw[jo,ext_drop,ext_take,hp]
  simp[h]
 refine(Ui (B l) c w (by rw[jo];exact h)).mono ?_
 rintro e w' ⟨rfl,n,rfl⟩
 refine⟨?_,⟨rfl,rfl,rfl,jij _,fun _ _=>rfl⟩⟩
 have hp:l.takeWhile (· != c)=l:=qK (jbw h)
 rw[hp,jjf (by omega)]
 simp[h];rfl
def jdD(l:List UInt8):List UInt8:=(Lib.trimPrefix l AMD).takeWhile (· != 32)
def jai(l:List UInt8):List UInt8:=(Lib.trimPrefix l AMD).drop ((jdD l).length+1)
def Ut(l:List UInt8):Int:=qm (jdD l)
def jaK(l:List UInt8):Bool:=(Sm.takes (jai l)).isSome&&decide (2<=Ut l/\Ut l<=50000)&&decide (jM (Ut l).toNat (jai l)=l)
theorem jcS{l:List UInt8}{n:Nat}{f:List UInt8}(h:XQ l n f):jaK l=true/\Ut l=n:=by
 have e1:Lib.trimPrefix l AMD=Lib.decDigits n++32::f:=by
  rw[h.eq];unfold jM Lib.trimPrefix
  have:Lib.hasPrefix (AMD++(Lib.decDigits n++32::f)) AMD=true:=by unfold Lib.hasPrefix;rw[jjF];exact List.prefix_append _ _
  rw[if_pos this,jjL]
 have e2:jdD l=Lib.decDigits n:=by
  unfold jdD
  rw[e1,jjX (jbw (Yl n))]
  simp
 have e3:jai l=f:=by unfold jai;rw[e2,e1,<- jjC,jjL];rfl
 have hn:I64 (n:Int):=by have:=h.hi;unfold I64;omega
 have e4:Ut l=n:=by unfold Ut;rw[e2,<- jki,vD hn]
 have h2:=h.lo
 have h5:=h.hi
 obtain⟨x,hx⟩:=h.fig
 refine⟨?_,e4⟩
 unfold jaK
 rw[e4,e3,hx,h.eq]
 simp;omega
theorem Qd{l:List UInt8}(h:jaK l=true):∃n f,XQ l n f:=by
 unfold jaK at h
 simp only[jiY,decide_eq_true_eq]at h
 obtain⟨⟨h1,h2,h3⟩,h4⟩:=h
 obtain⟨x,hx⟩:=Option.isSome_iff_exists.1 h1
 exact⟨(Ut l).toNat,jai l,by omega,by omega,⟨x,hx⟩,h4.symm⟩
theorem Uu{l:List UInt8}:jaK l=true↔∃n f,XQ l n f:=⟨Qd,fun⟨_,_,h⟩=>(jcS h).1⟩
theorem jdc(s:List UInt8):Sm.takeV s=.tuple #[.int .u32 ((Sm.takes s).getD 0:Nat),.bool (Sm.takes s).isSome]:=by
 cases h:Sm.takes s with
 | none=>rw[Sm.takeV_not h];rfl
 | some n=>rw[Sm.takeV_of h];rfl
theorem xN(l:List UInt8)(hl:l.length<=900000)(w:World)(ht:TabsN w):
  Calls Tryz.prog 108 #[.string (B l)] w fun e w'=>e=.returned (.tuple #[.int .i64 (Ut l),.bool (jaK l)])/\Below w.heap.size w w':=by
 have T1:=jii (Tryz.strings_TrimPrefix (B l) (B AMD) w)
 have hp:(Lib.trimPrefix l AMD).length<=900000:=jiI (Lib.trimPrefix_le l AMD) hl
 have C1:=jii (fun w=>Ul (Lib.trimPrefix l AMD) 32 (by omega) w)
 have e1:(Lib.trimPrefix l AMD).takeWhile (· != 32)=jdD l:=rfl
 have e2:(Lib.trimPrefix l AMD).drop ((jdD l).length+1)=jai l:=rfl
 have hn:(jdD l).length<=900000:=jiI (List.takeWhile_sublist _).length_le hp
 have hf:(jai l).length<=900000:=by rw[<- e2,jiw];omega
 have K1:=jii (fun w=>Sm.take_any (B (jai l)) w (by rw[jm];unfold maxLen;omega))
 have A1:=jii (fun w ht=>atoi_any (jdD l) (by omega) w ht)
 have F1:=jii (fits_any (Ut l))
 have hm:qm (jdD l)=Ut l:=rfl
 rw[hm]at A1
 rw[e1,e2]at C1
 simp only[jdc,jo]at K1
 simp only[jo]at T1
 have e3:(⟨(Lib.trimPrefix l AMD).toArray⟩:ByteArray)=B (Lib.trimPrefix l AMD):=rfl
 rw[e3]at T1
 have NS:=jii hn
 have hb:jaK l=((Sm.takes (jai l)).isSome&&decide (2<=Ut l/\Ut l<=50000)&&decide (jM (Ut l).toNat (jai l)=l)):=rfl
 have H1:=jii (fun(n:Nat) (h:n<=50000) w ht=>Ya n (by omega) (jai l) (by omega) w ht)
 have ba:(⟨#[37,97,109,101,110,100,32]⟩:ByteArray)=B AMD:=rfl
 have same:∀x:List UInt8,((B x).toList==(B l).toList)=decide (x=l):=fun x=>by rw[jjt,jjt,jo,jo,jjm];simp
 generalize (Sm.takes (jai l)).getD 0=tv at *
 generalize (Sm.takes (jai l)).isSome=tb at *
 generalize Ut l=m at *
 generalize jaK l=q at *
 clear e1 e2 hm hn hp e3
 go_enter Tryz.func108,Tryz.ntmps108
 rw[ba]
 go_wp2_with fail
 refine T1.out.mono ?_
 rintro e w1 ⟨rfl,rfl⟩
 go_wp2_with fail
 refine(C1.out _).mono ?_
 rintro e w1 ⟨rfl,hb1⟩
 go_wp2_with fail
 refine(K1.out _).mono ?_
 rintro e w2 ⟨rfl,rfl⟩
 go_wp2_with fail
 refine(A1.out _ (ht.below hb1 (jij _))).mono ?_
 rintro e w3 ⟨⟨T,v,he⟩,hb3⟩
 have ht3:=(ht.below hb1 (jij _)).below hb3 (jij _)
 have hb13:=hb1.trans (hb3.mono hb1.size)
 rcases he with rfl|rfl
 all_goals
  cases tb with
  | false =>
   simp only[Bool.false_and]at hb
   subst hb
   go_wp2_with fail
   go_ret2
   exact⟨rfl,hb13⟩
  | true =>
  cases hf:decide (2<=m/\m<=50000) with
  | false =>
   rw[hf]at hb F1
   simp only[jjQ,Bool.false_and]at hb
   subst hb
   go_wp2_with fail
   refine(F1.out _).mono ?_
   rintro e w4 ⟨rfl,rfl⟩
   go_wp2_with fail
   go_ret2
   exact⟨rfl,hb13⟩
  | true =>
  rw[hf]at hb F1
  have hf':=of_decide_eq_true hf
  obtain⟨n,rfl⟩:∃n:Nat,m=n:=⟨m.toNat,by omega⟩
  simp only[jjQ,jks]at hb
  go_wp2_with fail
  refine(F1.out _).mono ?_
  rintro e w4 ⟨rfl,rfl⟩
  go_wp2_with fail
  refine(H1.out n (by omega) _ ht3).mono ?_
  rintro e w4 ⟨rfl,hb4⟩
  go_wp2_with fail
  go_ret2
  exact⟨by rw[hb];rfl,hb13.trans (hb4.mono hb13.size)⟩
theorem jhH:B zw=B (jM 50000 yN):=by rw[QV]
theorem Qm(l:List UInt8)(hl:l.length<=800000)(w:World)(ht:TabsN w):
  Calls Tryz.prog 107 #[.string (B l)] w fun e w'=>∃q:Bool,(q=true↔qQ l)/\e=.returned (.bool q)/\Below w.heap.size w w':=by
 have H1:=jii (Ya 50000 (by omega) yN (by decide) w ht)
 rw[<- jhH]at H1
 have zs:(⟨#[48,48,48,48,48,48,48,48]⟩:ByteArray)=B yN:=rfl
 have ls:(B zw).size=21:=rfl
 have bl:=jm l
 by_cases h21:21<l.length
 ·have hno:¬qQ l:=fun h=>by have:=jdw h;omega
  have q1:(21:Int)<((B l).size:Int):=by rw[bl];omega
  go_enter Tryz.func107,Tryz.ntmps107
  rw[zs]
  go_wp2_with fail
  refine H1.out.mono ?_
  rintro e w1 ⟨rfl,hb1⟩
  go_wp2_with fail
  go_ret
  exact⟨false,by simp[hno],rfl,hb1⟩
 have q1:¬(21:Int)<((B l).size:Int):=by rw[bl];omega
 have bs:(B l).size<=21:=by rw[bl];omega
 have hp:=jac (l:=l)
 have A1:=jii (fun k w ht=>xN (l++zw.drop k) (by rw[jik,jiw];have:zw.length=21:=rfl;omega) w ht)
 have E1:Hid (∀k,B l++(B zw).extract k 21=B (l++zw.drop k)):=fun k=>by
  have:=ext_drop zw k
  rw[ls]at this
  rw[this,jE]
 generalize hL:B zw=L at *
 go_enter Tryz.func107,Tryz.ntmps107
 rw[zs]
 go_wp2_with fail
 refine H1.out.mono ?_
 rintro e w1 ⟨rfl,hb1⟩
 go_wp2_with fail
 go_loopw [16] (fun i wr=>∃k:Nat,k<=22/\i=.int .i64 k/\Below w.heap.size w wr/\∀j,j<k->jaK (l++zw.drop j)=false) (fun i _=>22-(intOf i).toNat)
 case atStart=>exact⟨0,by omega,rfl,hb1,fun j hj=>by omega⟩
 case round =>
 obtain⟨k,hk,rfl,hb,hj⟩:=hrel
 have HJ:=jii hj
 clear hj
 by_cases hlt:k<22
 ·have hk2:(k:Int)<=21:=by omega
  go_wp2_with fail
  rw[E1.out k]
  refine(A1.out k _ (ht.below hb (jij _))).mono ?_
  rintro e w2 ⟨rfl,hb2⟩
  have hb':=hb.trans (hb2.mono hb.size)
  cases hq:jaK (l++zw.drop k) with
  | true =>
   have hyes:qQ l:=hp.2 ⟨k,by omega,Qd hq⟩
   clear hq
   go_wp2_with fail
   go_ret
   exact⟨true,by simp[hyes],rfl,hb'⟩
  | false =>
  have HN:Hid (∀j,j<k+1->jaK (l++zw.drop j)=false):=by
   intro j hj
   by_cases e:j=k
   ·rw[e];exact hq
   exact HJ.out j (by omega)
  clear hq
  go_wp2_with fail
  go_roundw
  case rel=>exact⟨k+1,by omega,by go_num,hb',HN.out⟩
  case measure=>simp[intOf];omega
 obtain rfl:k=22:=by omega
 go_wp2_with fail
 go_ret
 refine⟨false,?_,rfl,hb⟩
 rw[hp]
 constructor
 ·intro h;cases h
 rintro⟨j,hj,n,f,h⟩
 have:=Uu.2 ⟨n,f,h⟩
 rw[HJ.out j (by omega)]at this
 cases this
theorem VJ(k:Nat):Lib.repeatL [32] k=List.replicate k 32:=by
 induction k with
 | zero=>rfl
 | succ k ih=>rw[List.replicate_succ,<- ih];rfl
theorem Qo(t:List UInt8)(n:Nat)(h2:2<=n)(h5:n<=50000)(hl:t.length<n)(w:World):
  Calls Tryz.prog 109 #[.string (B t),.int .i64 (n:Int)] w fun e w'=>e=.returned (.bool (vp t n))/\Below w.heap.size w w':=by
 have bt:=jm t
 have e10:(B [32]).size=1:=rfl
 have hc0:(B [32]).size*(n-t.length-1)<=140737488355328:=by simp only[e10];omega
 have R1:=jii (Tryz.strings_Repeat (B [32]) (n-t.length-1) w (by omega) hc0)
 have G1:=jii (fun w=>JZ (t++(List.replicate (n-t.length-1) 32++[10])) (by simp;omega) w)
 have hk:((n-t.length-1:Nat):Int)=(n:Int)-(t.length:Int)-1:=by omega
 rw[hk,jo,VJ,show(⟨(List.replicate (n-t.length-1) (32:UInt8)).toArray⟩:ByteArray)=B (List.replicate (n-t.length-1) 32) from rfl]at R1
 have E1:Hid (B t++B (List.replicate (n-t.length-1) 32) ++ ⟨#[10]⟩=B (t++(List.replicate (n-t.length-1) 32++[10]))):=by
  show _=_
  rw[show(⟨#[10]⟩:ByteArray)=B [10] from rfl,jE,jE,jix]
 have s1:(B (List.replicate (n-t.length-1) 32)).size<=50000:=by rw[jm];simp;omega
 have s2:(B t++B (List.replicate (n-t.length-1) 32)).size<=100000:=by rw[jji];omega
 have s0:(B t).size<=50000:=by omega
 simp only[jcF h2 h5 hl]at G1
 have z1:(⟨#[32]⟩:ByteArray)=B [32]:=rfl
 have w1:IntKind.i64.wrap ((n:Int)-(t.length:Int))=(n:Int)-(t.length:Int):=jiM _ (by omega)
 have w2:IntKind.i64.wrap ((n:Int)-(t.length:Int)-1)=(n:Int)-(t.length:Int)-1:=jiM _ (by omega)
 generalize B (List.replicate (n-t.length-1) 32)=R at *
 generalize vp t n=q at *
 clear hk
 rw[<- bt]at w1 w2 R1
 generalize hX:B t=X at *
 clear bt hX
 go_enter Tryz.func109,Tryz.ntmps109
 rw[z1]
 go_wp2_with fail
 refine R1.out.mono ?_
 rintro e w3 ⟨rfl,hb1⟩
 go_wp2_with fail
 rw[E1.out]
 refine(G1.out _).mono ?_
 rintro e w4 ⟨rfl,hb2⟩
 go_wp2_with fail
 go_ret
 exact⟨rfl,hb1.trans (hb2.mono hb1.size)⟩
def Yd(t:List UInt8)(n:Nat):Bool := !(decide (t=zF n))&&Lib.hasPrefix (zF n) t
theorem jb3{t:List UInt8}{n:Nat}:Yd t n=true↔∃z,t++z=zF n/\z≠[]:=by
 unfold Yd Lib.hasPrefix
 simp only[jiY,jkr,decide_eq_false_iff_not,jjF]
 constructor
 ·rintro⟨h1,z,h2⟩
  exact⟨z,h2,fun e=>h1 (by rw[<- h2,e];simp)⟩
 rintro⟨z,h2,h3⟩
 refine⟨fun e => ?_,z,h2⟩
 rw[e]at h2
 exact h3 (by simpa using h2)
theorem Qn(t:List UInt8)(n:Nat)(h5:n<=50000)(w:World)(ht:TabsN w):
  Calls Tryz.prog 111 #[.string (B t),.int .i64 (n:Int)] w fun e w'=>e=.returned (.bool (Yd t n))/\Below w.heap.size w w':=by
 have F1:=jii (WY n (by omega) w ht)
 have P1:=jii (fun w=>Tryz.strings_HasPrefix (B (zF n)) (B t) w)
 simp only[jo]at P1
 have same:((B t).toList==(B (zF n)).toList)=decide (t=zF n):=by rw[jjt,jjt,jo,jo,jjm];simp
 have hq:Yd t n=(!(decide (t=zF n))&&Lib.hasPrefix (zF n) t):=rfl
 generalize Yd t n=q at *
 generalize Lib.hasPrefix (zF n) t=p at *
 generalize decide (t=zF n)=d at *
 generalize B (zF n)=f at *
 generalize B t=X at *
 cases d with
 | true =>
  go_enter Tryz.func111,Tryz.ntmps111
  go_wp2_with fail
  refine F1.out.mono ?_
  rintro e w1 ⟨rfl,hb1⟩
  go_wp2_with fail
  go_ret
  exact⟨by rw[hq];rfl,hb1⟩
 | false =>
 go_enter Tryz.func111,Tryz.ntmps111
 go_wp2_with fail
 refine F1.out.mono ?_
 rintro e w1 ⟨rfl,hb1⟩
 go_wp2_with fail
 refine(P1.out _).mono ?_
 rintro e w2 ⟨rfl,rfl⟩
 go_wp2_with fail
 go_ret
 exact⟨by rw[hq];rfl,hb1⟩
theorem jhB(a:ByteArray)(w:World):Sm.Strs (w.alloc (.cells #[.string a] 9)) (.slice (some ⟨w.heap.size,0,none⟩) 1 1) [a]:=by
 refine⟨_,1,rfl,?_⟩
 intro i s h
 refine⟨w.heap.size,0,rfl,by simp,?_⟩
 rw[jjB _ _ _ _ rfl]
 match i,h with
 | 0,h=>simp at h;subst h;rfl
 | n+1,h=>simp at h
theorem jdd(a:ByteArray)(ha:a.size<=maxLen)(w:World):
  Calls Tryz.prog 96 #[.slice (some ⟨w.heap.size,0,none⟩) 1 1] (w.alloc (.cells #[.string a] 9)) fun e w'=>e=.returned (.int .u32 (Sm.M.crc a.data.toList:Nat))/\Below w.heap.size w w' :=
 (Sm.sum_any _ [a] _ (jhB a w) (by simp[maxLen]) (fun i s h=>by
  match i,h with
  | 0,h=>simp at h;subst h;exact ha
  | n+1,h=>simp at h)).mono fun e w' ⟨he,hb⟩=>⟨by rw[he];simp[Sm.cat,Sm.M.crc],((jil _ _).alloc (jij _) _).trans (hb.mono (by simp))⟩
theorem jb1{b:List UInt8}(hg:goodR b=true):(fullR b).length=b.length+27+2*(Lib.decDigits b.length).length-4:=by
 have:=ZO (ql b)
 unfold fullR recR jM zF AMD END
 simp;omega
theorem full_le{b:List UInt8}(hg:goodR b=true):(fullR b).length<=50100:=by
 obtain⟨h2,h5,_,_⟩:=good_iff.1 hg
 have:=Zd (show b.length<=99999 by omega)
 have:=jb1 hg
 omega
theorem record_yes(l:List UInt8)(hg:goodR l=true)(w:World)(ht:TabsN w):
  Calls Tryz.prog 54 #[.string (B l)] w fun e w'=>e=.returned (.tuple #[.string (B (fullR l)),.nilIface])/\Below w.heap.size w w':=by
 obtain⟨h2,h5,_,_⟩:=good_iff.1 hg
 have bl:=jm l
 have G1:=jii (JZ l (by omega) w)
 rw[hg]at G1
 have S1:=jii (fun w=>jdd (B l) (by rw[bl];unfold maxLen;omega) w)
 simp only[jo]at S1
 have F1:=jii (fun w=>Sm.figures_any (Sm.M.crc l) (Sm.M.crc_lt l) w)
 have eF:Sm.figs (Sm.M.crc l)=B (zZ l):=(jc4 _).symm
 simp only[eF]at F1
 have H1:=jii (fun w ht=>Ya l.length (by omega) (zZ l) (by rw[ZO (ql l)];omega) w ht)
 have T1:=jii (fun w ht=>WY l.length (by omega) w ht)
 have hh:(jM l.length (zZ l)).length<=30:=by
  have:=ZO (ql l)
  have:=Zd (show l.length<=99999 by omega)
  unfold jM AMD;simp;omega
 have E1:Hid (B (jM l.length (zZ l)) ++ ⟨#[10]⟩++B l++B (zF l.length)=B (fullR l)):=by
  show _=_
  rw[show(⟨#[10]⟩:ByteArray)=B [10] from rfl,jE,jE,jE]
  congr 1
  unfold fullR;rw[qt];simp
 have s1:(B (jM l.length (zZ l))).size<=30:=by rw[jm];exact hh
 have s2:(B (jM l.length (zZ l)) ++ ⟨#[10]⟩).size<=31:=by rw[jji];show _+1<=_;omega
 have s3:(B (jM l.length (zZ l)) ++ ⟨#[10]⟩++B l).size<=60000:=by rw[jji];omega
 have s4:(B (zF l.length)).size<=30:=by
  have:=Zd (show l.length<=99999 by omega)
  rw[jm];unfold zF END;simp;omega
 have s0:(B l).size<=50000:=by omega
 generalize B (jM l.length (zZ l))=X at *
 generalize B (zF l.length)=Y at *
 generalize B (zZ l)=Z at *
 rw[<- bl]at H1 T1
 generalize hL:B l=L at *
 clear hL bl hg hh
 go_enter Tryz.func54,Tryz.ntmps54
 go_wp2_with fail
 refine G1.out.mono ?_
 rintro e w1 ⟨rfl,hb1⟩
 go_wp2_with fail
 refine(S1.out _).mono ?_
 rintro e w2 ⟨rfl,hb2⟩
 have hb12:=hb1.trans (hb2.mono hb1.size)
 go_wp2_with fail
 refine(F1.out _).mono ?_
 rintro e w3 ⟨rfl,hb3⟩
 have hb13:=hb12.trans (hb3.mono hb12.size)
 go_wp2_with fail
 refine(H1.out _ (ht.below hb13 (jij _))).mono ?_
 rintro e w4 ⟨rfl,hb4⟩
 have hb14:=hb13.trans (hb4.mono hb13.size)
 go_wp2_with fail
 refine(T1.out _ (ht.below hb14 (jij _))).mono ?_
 rintro e w5 ⟨rfl,hb5⟩
 have hb15:=hb14.trans (hb5.mono hb14.size)
 go_wp2_with fail
 go_ret2
 exact⟨by rw[<- E1.out];rfl,hb15⟩
theorem jbi(l:List UInt8)(hl:l.length<=1000000)(hg:goodR l=false)(w:World):
  Calls Tryz.prog 54 #[.string (B l)] w fun e w'=>e=.returned (.tuple #[.string (B []),xl 2])/\Below w.heap.size w w':=by
 have G1:=jii (JZ l hl w)
 rw[hg]at G1
 go_enter Tryz.func54,Tryz.ntmps54
 go_wp2_with fail
 refine G1.out.mono ?_
 rintro e w1 ⟨rfl,hb1⟩
 go_wp2_with fail
 go_ret2
 exact⟨rfl,hb1⟩
def QZ(n:Int):Int:=if 2<=n/\n<=50000 then ((jM n.toNat yN).length:Int)+1+n+((zF n.toNat).length:Int) else 0
end Go.Proofs.YtimfhnfcmhmjcaaGreatDoor.Fr
