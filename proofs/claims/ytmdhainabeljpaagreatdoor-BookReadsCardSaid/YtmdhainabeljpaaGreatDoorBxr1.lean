/- Texts put together:CA,CP,LM,AB,DA,MA,KM,FM. -/
import Derived.Lib.AtoiAll
import Derived.Lib.ItoaLen
import Derived.Lib.CutLaws
import Derived.Lib.Strings
set_option linter.unusedVariables false
set_option maxRecDepth 100000
set_option maxHeartbeats 16000000
namespace Go.Proofs.YtmdhainabeljpaaGreatDoor
abbrev jh6:=@Nat.le_refl
abbrev jh7:=@List.length_append
abbrev jia:=@List.getElem?_eq_getElem
abbrev jic:=@List.length_cons
abbrev jif:=@List.mem_cons_of_mem
abbrev jig:=@List.mem_cons_self
abbrev jii:=@Nat.zero_le
abbrev jik:=@List.length_drop
abbrev jio:=@List.flatMap_cons
abbrev jip:=@List.append_assoc
abbrev jiq:=@List.cons_append
abbrev jir:=@Nat.lt_or_ge
abbrev jis:=@List.getElem?_eq_none
abbrev jix:=@List.append_nil
abbrev jiA:=@List.length_map
abbrev jiC:=@List.take_of_length_le
abbrev jiE:=@List.length_take
abbrev jiG:=@List.flatMap_append
abbrev jiL:=@Bool.and_eq_true
abbrev jiP:=@List.map_cons
abbrev jiR:=@List.takeWhile_cons
abbrev jiW:=@List.length_nil
abbrev jiX:=@Bool.eq_iff_iff
abbrev ji2:=@List.eq_nil_of_length_eq_zero
abbrev ji4:=@List.nil_append
abbrev ji5:=@List.sum_cons
abbrev jja:=@List.isPrefixOf_iff_prefix
abbrev jjh:=@List.all_takeWhile
abbrev jjq:=@List.take_succ_eq_append_getElem
abbrev jju:=@Int.toNat_natCast
abbrev jjA:=@List.append_cancel_left
abbrev jjC:=@List.takeWhile_append_of_pos
abbrev jjE:=@Nat.xor_lt_two_pow
abbrev jjH:=@List.eq_nil_or_concat
abbrev jjI:=@List.concat_eq_append
abbrev jjK:=@Bool.true_and
abbrev jjO:=@List.map_map
abbrev jjS:=@List.all_cons
abbrev jjZ:=@List.tail_cons
abbrev jj5:=@Nat.mod_lt
abbrev jj6:=@List.all_eq_true
abbrev jj8:=@List.map_congr_left
abbrev jka:=@Nat.testBit_xor
abbrev jkc:=@Nat.pow_succ
abbrev jkg:=@List.foldl_append
abbrev jkh:=@Bool.not_eq_true'
abbrev jkk:=@Nat.xor_assoc
abbrev jkp:=@Nat.eq_of_testBit_eq
end Go.Proofs.YtmdhainabeljpaaGreatDoor
namespace Go.Proofs.YtmdhainabeljpaaGreatDoor.Sm.M
def st(x:Nat):Nat:=if x / 2147483648=1 then (x*2 % 4294967296) ^^^ 79764919 else x*2 % 4294967296
def stn:Nat->Nat->Nat
 | 0,x=>x
 | n+1,x=>stn n (st x)
def jgf(x c:Nat):Nat:=stn 8 (x ^^^ (c*16777216))
def feed(x:Nat)(l:List UInt8):Nat:=l.foldl (fun x c=>jgf x c.toNat) x
theorem jfr(x:Nat):st x<4294967296:=by
 unfold st
 split
 ·exact jjE (n:=32) (jj5 _ (by decide)) (by decide)
 exact jj5 _ (by decide)
theorem stn_lt(n x:Nat)(h:x<4294967296):stn n x<4294967296:=by
 induction n generalizing x with
 | zero=>exact h
 | succ n ih=>exact ih _ (jfr x)
theorem stn_succ(n x:Nat):stn (n+1) x=st (stn n x):=by
 induction n generalizing x with
 | zero=>rfl
 | succ n ih=>show stn (n+1) (st x)=st (stn n (st x));exact ih _
theorem jeo(x c:Nat)(h:x<4294967296)(hc:c<256):jgf x c<4294967296 :=
 stn_lt _ _ (jjE (n:=32) h (by omega))
theorem feed_lt(l:List UInt8)(x:Nat)(h:x<4294967296):feed x l<4294967296:=by
 induction l generalizing x with
 | nil=>exact h
 | cons c l ih=>exact ih _ (jeo x _ h c.toNat_lt)
theorem feed_append(x:Nat)(l r:List UInt8):feed x (l++r)=feed (feed x l) r:=by
 simp[feed,List.foldl_append]
theorem feed_snoc(x:Nat)(l:List UInt8)(c:UInt8):feed x (l++[c])=jgf (feed x l) c.toNat:=by
 simp[feed,List.foldl_append]
theorem tb(x i:Nat)(h:x<4294967296):(x*2 % 4294967296).testBit i=(decide (i<32)&&decide (0<i)&&x.testBit (i-1)):=by
 have:(x*2 % 4294967296)=(x <<< 1) % 2 ^ 32:=by rw[Nat.shiftLeft_eq]
 rw[this,Nat.testBit_mod_two_pow,Nat.testBit_shiftLeft]
 by_cases h1:i<32<;>by_cases h2:0<i<;>simp[h1,h2]<;>omega
theorem top(x:Nat)(h:x<4294967296):(x / 2147483648=1)↔x.testBit 31=true:=by
 rw[Nat.testBit_eq_decide_div_mod_eq,show 2 ^ 31=2147483648 from rfl]
 simp;omega
theorem jfu(x y:Nat)(hx:x<4294967296)(hy:y<4294967296):(x ^^^ y)*2 % 4294967296=(x*2 % 4294967296) ^^^ (y*2 % 4294967296):=by
 apply jkp
 intro i
 rw[tb _ _ (jjE (n:=32) hx hy),jka,jka,tb _ _ hx,tb _ _ hy]
 cases decide (i<32)<;>cases decide (0<i)<;>simp
theorem jgD(x y:Nat)(hx:x<4294967296)(hy:y<4294967296):st (x ^^^ y)=st x ^^^ st y:=by
 have hxy:x ^^^ y<4294967296:=jjE (n:=32) hx hy
 unfold st
 rw[jfu x y hx hy]
 simp only[top x hx,top y hy,top _ hxy,jka]
 generalize x*2 % 4294967296=a
 generalize y*2 % 4294967296=b
 generalize 79764919=p
 cases x.testBit 31<;>cases y.testBit 31<;>simp
 ·rw[jkk]
 ·rw[jkk,jkk,Nat.xor_comm b p]
 rw[jkk,Nat.xor_comm p,jkk,Nat.xor_self,Nat.xor_zero]
theorem jfn(n x y:Nat)(hx:x<4294967296)(hy:y<4294967296):stn n (x ^^^ y)=stn n x ^^^ stn n y:=by
 induction n generalizing x y with
 | zero=>rfl
 | succ n ih=>show stn n (st _)=_;rw[jgD x y hx hy,ih _ _ (jfr x) (jfr y)];rfl
theorem jgF(x:Nat)(h:x<2147483648):st x=x*2:=by
 unfold st;rw[if_neg (by omega)];omega
theorem jfo(n x:Nat)(h:x*2 ^ n<4294967296):stn n x=x*2 ^ n:=by
 induction n generalizing x with
 | zero=>simp[stn]
 | succ n ih =>
 have e:x*2 ^ (n+1)=x*2*2 ^ n:=by rw[jkc,Nat.mul_comm (2 ^ n) 2,Nat.mul_assoc]
 have hx:x<2147483648:=by
  have:=Nat.one_le_two_pow (n:=n)
  have h2:x*2*1<=x*2*2 ^ n:=Nat.mul_le_mul_left _ this
  omega
 show stn n (st x)=_
 rw[jgF x hx,ih _ (by rw[<- e];exact h),e]
theorem four(x:Nat)(hx:x<4294967296):stn 4 x=(x*16 % 4294967296) ^^^ stn 4 (x / 268435456*268435456):=by
 have e:x=(x / 268435456*268435456) ^^^ (x % 268435456):=by
  have h:=Nat.two_pow_add_eq_or_of_lt (i:=28) (b:=x % 268435456) (jj5 _ (by decide)) (x / 268435456)
  have h2:x / 268435456*268435456 ^^^ x % 268435456=2 ^ 28*(x / 268435456)+x % 268435456:=by
   rw[Nat.mul_comm,show(268435456:Nat)=2 ^ 28 from rfl]
   apply jkp
   intro i
   rw[h,jka,Nat.testBit_or,Nat.testBit_two_pow_mul,Nat.testBit_mod_two_pow]
   by_cases hi:i<28
   ·simp[hi,Nat.not_le.2 hi]
   simp[hi]
  omega
 have hh:x / 268435456*268435456<4294967296:=by omega
 have hl:x % 268435456<4294967296:=by omega
 conv=>lhs;rw[e]
 rw[jfn 4 _ _ hh hl,jfo 4 (x % 268435456) (by omega),Nat.xor_comm]
 congr 1
 omega
theorem m24(c:Nat)(h:c<256):c*16777216<4294967296:=by omega
theorem m16(c:Nat)(h:c<256):c*65536<16777216:=by omega
theorem a1(t:Nat):t*65536*256=t*16777216:=by omega
theorem a2(t:Nat):t*256*256=t*65536:=by omega
theorem z24(p y:Nat)(h:p*16777216=y)(hy:y<16777216):p=0/\y=0:=by omega
theorem z8(p y:Nat)(h:p*256=y)(hy:y<256):p=0/\y=0:=by omega
end Go.Proofs.YtmdhainabeljpaaGreatDoor.Sm.M
namespace Go.Proofs.YtmdhainabeljpaaGreatDoor.Sm
def cat(ss:List ByteArray):List UInt8:=ss.flatMap (·.data.toList)
theorem jeD(ss:List ByteArray)(k:Nat)(s:ByteArray)(h:ss[k]?=some s):cat (ss.take (k+1))=cat (ss.take k)++s.data.toList:=by
 have hk:k<ss.length:=by
  rcases jir k ss.length with h'|h'
  ·exact h'
  rw[jis h']at h;cases h
 rw[jjq hk,cat,jiG]
 have:ss[k]=s:=by rw[jia hk]at h;injection h
 rw[this]
 simp[cat]
def M.crc(l:List UInt8):Nat:=4294967295-M.feed 4294967295 l
theorem M.crc_lt(l:List UInt8):M.crc l<4294967296:=by unfold M.crc;omega
def dg(n:Nat):UInt8:=if n<10 then UInt8.ofNat (48+n) else UInt8.ofNat (87+n)
def figs(x:Nat):ByteArray:=⟨#[dg (x / 268435456 % 16),dg (x / 16777216 % 16),dg (x / 1048576 % 16),dg (x / 65536 % 16),dg (x / 4096 % 16),dg (x / 256 % 16),dg (x / 16 % 16),dg (x % 16)]⟩
theorem jcJ(x k:Nat)(hk:k<8):(figs x).data.toList.drop (8-(k+1))=dg (x / 16 ^ k % 16)::(figs x).data.toList.drop (8-k):=by
 match k,hk with
 | 0,_ | 1,_ | 2,_ | 3,_ | 4,_ | 5,_ | 6,_ | 7,_=>simp[figs]
 | n+8,h=>omega
def val(c:Nat):Option Nat:=if 48<=c/\c<=57 then some (c-48) else if 97<=c/\c<=102 then some (c-87) else none
def DIG:List UInt8:=[48,49,50,51,52,53,54,55,56,57,97,98,99,100,101,102]
def ix(c:Nat):Int:=match val c with | some d=>d | none => -1
theorem jgz{c d:Nat}(h:val c=some d):d<16:=by
 unfold val at h
 split at h
 ·injection h;omega
 split at h
 ·injection h;omega
 cases h
def tk(acc:Nat):List UInt8->Option Nat
 | []=>some acc
 | c::l=>match val c.toNat with
  | none=>none
  | some d=>tk (acc*16 % 4294967296+d) l
def takes(l:List UInt8):Option Nat:=if l.length=8 then tk 0 l else none
theorem jhe:∀(c:Fin 256) (k:Fin 16),((dg k.val).toNat=c.val)↔(val c.val=some k.val):=by decide +kernel
theorem jgA{n:Nat}(h:n<16):val (dg n).toNat=some n:=by
 exact(jhe ⟨(dg n).toNat,(dg n).toNat_lt⟩ ⟨n,h⟩).1 rfl
theorem XT(acc n:Nat)(l:List UInt8)(h:n<16):tk acc (dg n::l)=tk (acc*16 % 4294967296+n) l:=by
 rw[tk,jgA h]
theorem takes_figs(x:Nat)(hx:x<4294967296):takes (figs x).data.toList=some x:=by
 unfold takes
 rw[if_pos (show(figs x).data.toList.length=8 from rfl)]
 have e:(figs x).data.toList=[dg (x / 268435456 % 16),dg (x / 16777216 % 16),dg (x / 1048576 % 16),dg (x / 65536 % 16),dg (x / 4096 % 16),dg (x / 256 % 16),dg (x / 16 % 16),dg (x % 16)]:=rfl
 rw[e,XT _ _ _ (by omega),XT _ _ _ (by omega),XT _ _ _ (by omega),XT _ _ _ (by omega),XT _ _ _ (by omega),XT _ _ _ (by omega),XT _ _ _ (by omega),XT _ _ _ (by omega)]
 rw[show 0*16 % 4294967296+x / 268435456 % 16=x / 268435456 by omega,show x / 268435456*16 % 4294967296+x / 16777216 % 16=x / 16777216 by omega,
  show x / 16777216*16 % 4294967296+x / 1048576 % 16=x / 1048576 by omega,show x / 1048576*16 % 4294967296+x / 65536 % 16=x / 65536 by omega,
  show x / 65536*16 % 4294967296+x / 4096 % 16=x / 4096 by omega,show x / 4096*16 % 4294967296+x / 256 % 16=x / 256 by omega,
  show x / 256*16 % 4294967296+x / 16 % 16=x / 16 by omega,show x / 16*16 % 4294967296+x % 16=x by omega]
 rfl
end Go.Proofs.YtmdhainabeljpaaGreatDoor.Sm
namespace Go.Proofs.YtmdhainabeljpaaGreatDoor
structure Ln where
 no:Nat
 at_:Nat
 text:List UInt8
 ended:Bool
deriving DecidableEq
def zY(l:List UInt8):List UInt8:=l.takeWhile (· != 10)
def nl(l:List UInt8):Bool:=l.contains 10
def qy(l:List UInt8):Nat:=(zY l).length+if nl l then 1 else 0
def ZS:Nat->Nat->Nat->List UInt8->List Ln
 | 0,_,_,_=>[]
 | f+1,no,at_,l=>if l=[] then [] else ⟨no,at_,zY l,nl l⟩::ZS f (no+1) (at_+qy l) (l.drop (qy l))
def jS(no at_:Nat)(l:List UInt8):List Ln:=ZS l.length no at_ l
def jf(l:List UInt8):List Ln:=jS 0 0 l
def Ln.bytes(x:Ln):List UInt8:=x.text++if x.ended then [10] else []
theorem jf7(l:List UInt8):(zY l).length<=l.length:=by
 unfold zY
 induction l with
 | nil=>simp
 | cons a t ih =>
 simp only[jiR]
 split
 ·simp;exact ih
 simp
theorem zg(l:List UInt8):l=zY l++(if nl l then [10] else [])++l.drop (qy l):=by
 unfold qy
 induction l with
 | nil=>simp[zY,nl]
 | cons a t ih =>
 by_cases h:a=10
 ·subst h;simp[zY,nl]
 have e1:zY (a::t)=a::zY t:=by simp[zY,h]
 have e2:nl (a::t)=nl t:=by simp[nl,Ne.symm h]
 rw[e1,e2]
 simp only[jic,jiq]
 rw[show(zY t).length+1+(if nl t=true then 1 else 0)=((zY t).length+if nl t=true then 1 else 0)+1 by omega,List.drop_succ_cons]
 exact congrArg (a :: ·) ih
theorem YQ(l:List UInt8):qy l<=l.length:=by
 have:=congrArg List.length (zg l)
 unfold qy at this ⊢
 simp only[jh7,jik]at this
 have h1:(if nl l=true then [(10:UInt8)] else []).length=if nl l=true then 1 else 0:=by split<;>rfl
 rw[h1]at this
 omega
theorem qu(l:List UInt8)(h:l≠[]):1<=qy l:=by
 unfold qy
 cases l with
 | nil=>exact absurd rfl h
 | cons a t =>
 by_cases h:a=10
 ·subst h;simp[nl]
 simp[zY,h];omega
theorem QU:∀(f g no at_:Nat) (l:List UInt8),l.length<=f->l.length<=g->ZS f no at_ l=ZS g no at_ l
 | 0,0,_,_,_,_,_=>rfl
 | 0,g+1,no,at_,l,h,_=>by
  have:l=[]:=List.length_eq_zero_iff.1 (by omega)
  simp[ZS,this]
 | f+1,0,no,at_,l,_,h=>by
  have:l=[]:=List.length_eq_zero_iff.1 (by omega)
  simp[ZS,this]
 | f+1,g+1,no,at_,l,h1,h2=>by
  unfold ZS
  split
  ·rfl
  rename_i hn
  have:=qu l hn
  rw[QU f g _ _ _ (by simp only[jik];omega) (by simp only[jik];omega)]
theorem jq(no at_:Nat):jS no at_ []=[]:=rfl
theorem js(no at_:Nat)(l:List UInt8)(h:l≠[]):jS no at_ l=⟨no,at_,zY l,nl l⟩::jS (no+1) (at_+qy l) (l.drop (qy l)):=by
 unfold jS
 cases l with
 | nil=>exact absurd rfl h
 | cons a t =>
 have:=qu _ h
 rw[show(a::t).length=t.length+1 from rfl]
 conv=>lhs;unfold ZS
 rw[if_neg h,QU t.length ((a::t).drop (qy (a::t))).length _ _ _ (by simp only[jik,jic];omega) (jh6 _)]
theorem ZP:∀(n no at_:Nat) (l:List UInt8),l.length<=n->(jS no at_ l).flatMap Ln.bytes=l
 | 0,_,_,l,h=>by
  have:l=[]:=List.length_eq_zero_iff.1 (by omega)
  subst this;rfl
 | n+1,no,at_,l,h=>by
  by_cases hl:l=[]
  ·subst hl;rfl
  have hp:=qu l hl
  rw[js _ _ _ hl,jio,ZP n _ _ _ (by simp only[jik];omega)]
  exact(zg l).symm
theorem jB(l:List UInt8):(jf l).flatMap Ln.bytes=l:=ZP _ _ _ _ (jh6 _)
theorem Yx:∀(n no at_:Nat) (l:List UInt8),l.length<=n->∀pre x post,jS no at_ l=pre++x::post->x.no=no+pre.length/\x.at_=at_+(pre.flatMap Ln.bytes).length
 | 0,_,_,l,h,pre,x,post,e=>by
  have:l=[]:=List.length_eq_zero_iff.1 (by omega)
  subst this
  rw[jq]at e
  exact absurd (congrArg List.length e) (by simp)
 | n+1,no,at_,l,h,pre,x,post,e=>by
  by_cases hl:l=[]
  ·subst hl;rw[jq]at e;exact absurd (congrArg List.length e) (by simp)
  have hp:=qu l hl
  rw[js _ _ _ hl]at e
  cases pre with
  | nil=>simp only[ji4,List.cons.injEq]at e;obtain⟨rfl,_⟩:=e;simp
  | cons y pre =>
  simp only[jiq,List.cons.injEq]at e
  obtain⟨rfl,e⟩:=e
  obtain⟨a,b⟩:=Yx n _ _ _ (by simp only[jik];omega) pre x post e
  refine⟨by rw[a];simp;omega,?_⟩
  rw[b,jio,jh7]
  have:(Ln.bytes ⟨no,at_,zY l,nl l⟩).length=qy l:=by
   unfold Ln.bytes qy;simp only[jh7];split<;>rfl
  rw[this];omega
theorem qz(l:List UInt8)(pre:List Ln)(x:Ln)(post:List Ln)(e:jf l=pre++x::post):x.no=pre.length/\x.at_=(pre.flatMap Ln.bytes).length:=by
 have:=Yx _ 0 0 l (jh6 _) pre x post e
 simpa using this
theorem vo:∀(n no at_:Nat) (l:List UInt8),l.length<=n->∀x∈jS no at_ l,(10:UInt8)∉x.text
 | 0,_,_,l,h,x,hx=>by
  have:l=[]:=List.length_eq_zero_iff.1 (by omega)
  subst this
  rw[jq]at hx;cases hx
 | n+1,no,at_,l,h,x,hx=>by
  by_cases hl:l=[]
  ·subst hl;rw[jq]at hx;cases hx
  have hp:=qu l hl
  rw[js _ _ _ hl]at hx
  rcases List.mem_cons.1 hx with rfl|hx
  ·intro hm
   have:=jjh (p:=fun(c:UInt8)=>c != 10) (l:=l)
   have:=List.all_eq_true.1 this 10 hm
   simp at this
  exact vo n _ _ _ (by simp only[jik];omega) x hx
theorem xU:∀(n no at_:Nat) (l:List UInt8),l.length<=n->(jS no at_ l).length<=l.length
 | 0,_,_,l,h=>by
  have:l=[]:=List.length_eq_zero_iff.1 (by omega)
  subst this;simp[jq]
 | n+1,no,at_,l,h=>by
  by_cases hl:l=[]
  ·subst hl;simp[jq]
  have hp:=qu l hl
  rw[js _ _ _ hl]
  have:=xU n (no+1) (at_+qy l) (l.drop (qy l)) (by simp only[jik];omega)
  simp only[jic,jik]at this ⊢
  have:=YQ l
  omega
theorem zD(l:List UInt8):(jf l).length<=l.length:=xU _ _ _ _ (jh6 _)
end Go.Proofs.YtmdhainabeljpaaGreatDoor
namespace Go.Proofs.YtmdhainabeljpaaGreatDoor
open Go.Lib
theorem ZA{u:Nat}(h:u<10):(UInt8.ofNat (48+u)).toNat=48+u:=by
 rw[UInt8.toNat_ofNat'];omega
theorem jZ(u:Nat):∀c∈decDigits u,48<=c.toNat/\c.toNat<=57:=by
 induction u using Nat.strongRecOn with
 | _ u ih =>
 intro c hc
 by_cases h:u<10
 ·rw[decDigits_one h]at hc
  rw[List.mem_singleton.1 hc,ZA h];omega
 rw[decDigits,dif_neg h]at hc
 rcases List.mem_append.1 hc with hc|hc
 ·exact ih (u / 10) (by omega) c hc
 rw[List.mem_singleton.1 hc,ZA (by omega)];omega
theorem YI(u:Nat):decDigits u≠[]:=by
 intro h
 have:=decDigits_length u
 have:=nDigits_pos u
 rw[h]at *;simp at *;omega
theorem Yk(c:UInt8):∀(l:List UInt8) (acc:Nat),parseUint10 acc (l++[c])=(match parseUint10 acc l with | .ok a=>parseUint10 a [c] | NumEnd.syntax=>NumEnd.syntax | .range=>.range)
 | [],acc=>rfl
 | d::r,acc=>by
  show parseUint10 acc (d::(r++[c]))=_
  unfold parseUint10
  split
  ·split
   ·rfl
   split
   ·rfl
   exact Yk c r _
  rfl
theorem JH(u:Nat)(hu:u<18446744073709551616):parseUint10 0 (decDigits u)=.ok u:=by
 induction u using Nat.strongRecOn with
 | _ u ih =>
 by_cases h:u<10
 ·rw[decDigits_one h]
  unfold parseUint10
  rw[ZA h,if_pos (by omega),if_neg (by omega),if_neg (by omega)]
  unfold parseUint10
  congr 1;omega
 rw[decDigits,dif_neg h,Yk,ih (u / 10) (by omega) (by omega)]
 show parseUint10 (u / 10) _=_
 unfold parseUint10
 rw[ZA (show u % 10<10 by omega),if_pos (by omega),if_neg (by omega),if_neg (by omega)]
 unfold parseUint10
 congr 1;omega
def I64(n:Int):Prop := -9223372036854775808<=n/\n<=9223372036854775807
theorem jc9{n:Int}(h:I64 n):atoiAll (itoa n)=.ok n:=by
 obtain⟨h0,h1⟩:=h
 unfold itoa
 by_cases hn:n<0
 ·rw[if_pos hn]
  unfold atoiAll
  have e45:(45:UInt8).toNat=45:=rfl
  simp only[e45,or_true,if_true]
  have hm:parseMag (decDigits n.natAbs)=.ok n.natAbs:=by
   unfold parseMag
   rw[if_neg (YI _),JH _ (by omega)]
  rw[hm]
  simp only[not_true,false_and,if_false,true_and]
  rw[if_neg (by omega)]
  congr 1;omega
 rw[if_neg hn]
 have hm:parseMag (decDigits n.toNat)=.ok n.toNat:=by
  unfold parseMag
  rw[if_neg (YI _),JH _ (by omega)]
 cases hd:decDigits n.toNat with
 | nil=>exact absurd hd (YI _)
 | cons c r =>
 have hc:=jZ n.toNat c (by rw[hd];exact jig)
 unfold atoiAll
 simp only
 rw[if_neg (by omega),<- hd,hm]
 simp only
 rw[if_neg (by omega),if_neg (by omega),if_neg (by omega)]
 congr 1;omega
def zX(l:List UInt8):Int:=match atoiAll l with | .ok v=>v | NumEnd.syntax=>0 | .range=>atoiSat l
theorem qW{n:Int}(h:I64 n):zX (itoa n)=n:=by unfold zX;rw[jc9 h]
theorem jaK(n:Int):∀c∈itoa n,c.toNat=45\/(48<=c.toNat/\c.toNat<=57):=by
 intro c hc
 unfold itoa at hc
 split at hc
 ·rcases List.mem_cons.1 hc with rfl|hc
  ·exact .inl rfl
  exact .inr (jZ _ c hc)
 exact .inr (jZ _ c hc)
theorem jfW{n:Int}{c:UInt8}(h1:c.toNat≠45)(h2:c.toNat<48\/57<c.toNat):c∉itoa n:=fun hc=>by
 have:=jaK n c hc
 omega
theorem jd0{a b:Int}(ha:I64 a)(hb:I64 b)(h:itoa a=itoa b):a=b:=by
 rw[<- qW ha,<- qW hb,h]
def xj(n:Int)(l:List UInt8):Int:=l.foldl (fun n c=>10*n-((c.toNat:Int)-48)) n
theorem Zs(n:Int)(l:List UInt8)(c:UInt8):xj n (l++[c])=10*xj n l-((c.toNat:Int)-48):=by unfold xj;rw[jkg];rfl
theorem xi(u:Nat):xj 0 (decDigits u) = -(u:Int):=by
 induction u using Nat.strongRecOn with
 | _ u ih =>
 by_cases h:u<10
 ·rw[decDigits_one h]
  show 10*(0:Int)-(((UInt8.ofNat (48+u)).toNat:Int)-48)=_
  rw[ZA h];omega
 rw[decDigits,dif_neg h,Zs,ih (u / 10) (by omega),ZA (show u % 10<10 by omega)]
 omega
theorem xJ(u k:Nat):∃m:Nat,xj 0 ((decDigits u).take k) = -(m:Int)/\m<=u:=by
 induction u using Nat.strongRecOn generalizing k with
 | _ u ih =>
 by_cases hk:(decDigits u).length<=k
 ·rw[jiC hk];exact⟨u,xi u,jh6 _⟩
 by_cases h:u<10
 ·rw[decDigits_one h]at hk ⊢
  have:k=0:=by simp at hk;omega
  subst this
  exact⟨0,rfl,jii _⟩
 rw[decDigits,dif_neg h]at hk ⊢
 rw[jh7]at hk
 simp only[jic,jiW]at hk
 rw[List.take_append_of_le_length (by omega)]
 obtain⟨m,e,hm⟩:=ih (u / 10) (by omega) k
 exact⟨m,e,by omega⟩
end Go.Proofs.YtmdhainabeljpaaGreatDoor
namespace Go.Proofs.YtmdhainabeljpaaGreatDoor.Fr
open Go.Lib
def sp:Bool->List UInt8->Bool
 | _,[]=>true
 | s,c::l=>(!s || c==32)&&sp (c==10) l
def fresh(s:Bool)(l:List UInt8):Bool:=match l.getLast? with | none=>s | some c=>c==10
def vI(l:List UInt8):Bool:=l.getLast?==some 10
def qD(l:List UInt8):Bool:=decide (2<=l.length)&&decide (l.length<=50000)&&vI l&&sp true l
def AMD:List UInt8:=[37,97,109,101,110,100,32]
def END:List UInt8:=[37,101,110,100,32]
def jH(n:Nat)(f:List UInt8):List UInt8:=AMD++(decDigits n++32::f)
def jW(n:Nat):List UInt8:=END++(decDigits n++[10])
def jgJ(n:Nat)(f b:List UInt8):List UInt8:=jH n f++10::(b++jW n)
def vf(b:List UInt8):List UInt8:=(Sm.figs (Sm.M.crc b)).data.toList
def fullR(b:List UInt8):List UInt8:=jgJ b.length (vf b) b
def ZW(f:List UInt8):Prop:=∃x,Sm.takes f=some x
structure Wn(l:List UInt8)(n:Nat)(f:List UInt8):Prop where
 lo:2<=n
 hi:n<=50000
 fig:ZW f
 eq:l=jH n f
def xB(t:List UInt8):Prop:=∃n f b z,qD b=true/\b.length=n/\ZW f/\t++z=jgJ n f b/\z≠[]
def vh(t b:List UInt8):Prop:=qD b=true/\∃zv,t=fullR b++zv
def jG(t:List UInt8)(k:Nat)(b:List UInt8)(n:Nat):Prop :=
 (vh t b/\k=1/\n=(fullR b).length)\/(xB t/\k=2/\b=[]/\n=0)\/(¬xB t/\(¬∃b,vh t b)/\k=3/\b=[]/\n=0)
theorem jcW{a b:Nat}(ha:a<18446744073709551616)(hb:b<18446744073709551616)(h:decDigits a=decDigits b):a=b:=by
 have h1:=JH a ha
 rw[h,JH b hb]at h1
 injection h1 with h1
 exact h1.symm
theorem yM{n:Nat}(h:¬n<10):decDigits n=decDigits (n / 10)++[UInt8.ofNat (48+n % 10)]:=by rw[decDigits,dif_neg h]
theorem yN{n:Nat}(h:n<=99999):(decDigits n).length<=5:=by
 have step:∀(k m:Nat),(m<10 ^ k->(decDigits m).length<=k)->∀u,u<10 ^ (k+1)->(u / 10=m\/u<10)->(decDigits u).length<=k+1:=by
  intro k m ih u hu hm
  by_cases h10:u<10
  ·rw[decDigits_one h10];simp
  rcases hm with hm|hm
  ·rw[yM h10,jh7,hm]
   have:m<10 ^ k:=by rw[jkc]at hu;omega
   have:=ih this
   simp;omega
  exact absurd hm h10
 have h0:∀k u:Nat,1<=k->u<10 ^ k->(decDigits u).length<=k:=by
  intro k
  induction k with
  | zero=>intro u hk;omega
  | succ k ih =>
  intro u _ hu
  by_cases hk:k=0
  ·subst hk
   rw[decDigits_one (by simpa using hu)];simp
  exact step k (u / 10) (ih (u / 10) (by omega)) u hu (.inl rfl)
 exact h0 5 n (by omega) (by omega)
theorem YH:∀(n:Nat) (ds r:List UInt8),ds≠[]->ds++r=decDigits n->∃v,ds=decDigits v/\v<=n/\(1<=n->1<=v):=by
 intro n
 induction n using Nat.strongRecOn with
 | _ n ih =>
 intro ds r hd h
 by_cases h10:n<10
 ·rw[decDigits_one h10]at h
  cases ds with
  | nil=>exact absurd rfl hd
  | cons c ds =>
  have hl:=congrArg List.length h
  simp only[jh7,jic,jiW]at hl
  obtain⟨rfl,rfl⟩:ds=[]/\r=[]:=by constructor<;>apply ji2<;>omega
  exact⟨n,by rw[decDigits_one h10];simpa using h,jh6 _,id⟩
 rcases jjH r with rfl|⟨r0,x,rfl⟩
 ·exact⟨n,by simpa using h,jh6 _,id⟩
 rw[yM h10,jjI,<- jip]at h
 have h1:=(List.append_inj' h rfl).1
 obtain⟨v,e,hv,h1v⟩:=ih (n / 10) (by omega) ds r0 hd h1
 exact⟨v,e,by omega,fun _=>h1v (by omega)⟩
theorem jer(n:Nat):(10:UInt8)∉decDigits n:=fun h=>by have:=jZ n _ h;simp at this
theorem XE(n:Nat):(32:UInt8)∉decDigits n:=fun h=>by have:=jZ n _ h;simp at this
theorem yJ{f:List UInt8}(h:ZW f):f.length=8:=by
 obtain⟨x,h⟩:=h
 unfold Sm.takes at h
 split at h
 ·assumption
 cases h
def VC(c:UInt8):Bool:=(Sm.val c.toNat).isSome
theorem jeV:∀(l:List UInt8) (acc:Nat),(∃x,Sm.tk acc l=some x)↔l.all VC=true
 | [],acc=>by simp[Sm.tk]
 | c::l,acc=>by
  unfold Sm.tk
  cases hv:Sm.val c.toNat with
  | none=>simp[VC,hv]
  | some d=>simp only[jjS,VC,hv,Option.isSome_some,jjK];exact jeV l _
theorem vW{f:List UInt8}:ZW f↔f.length=8/\f.all VC=true:=by
 unfold ZW Sm.takes
 by_cases h:f.length=8
 ·simp only[h,if_true,true_and];exact jeV f 0
 simp[h]
theorem jg3{c:UInt8}(h:VC c=true):c≠10/\c≠32:=by
 constructor<;>(rintro rfl;revert h;decide)
theorem jek{f:List UInt8}(h:ZW f):(10:UInt8)∉f:=fun hm=>(jg3 (List.all_eq_true.1 (vW.1 h).2 _ hm)).1 rfl
theorem qK(b:List UInt8):ZW (vf b):=⟨_,Sm.takes_figs _ (Sm.M.crc_lt b)⟩
theorem vK{n:Nat}{f:List UInt8}(h:ZW f):(10:UInt8)∉jH n f:=by
 unfold jH AMD
 have:=jer n
 have:=jek h
 simp_all
theorem split_at{m:UInt8}:∀{a b x y:List UInt8},m∉a->m∉b->a++m::x=b++m::y->a=b/\x=y
 | [],[],x,y,_,_,h=>by simpa using h
 | [],c::b,x,y,_,hb,h=>by simp at h;exact absurd (h.1▸jig) hb
 | c::a,[],x,y,ha,_,h=>by simp at h;exact absurd (h.1▸jig) ha
 | c::a,d::b,x,y,ha,hb,h=>by
  simp only[jiq,List.cons.injEq]at h
  obtain⟨rfl,h⟩:=h
  obtain⟨rfl,rfl⟩:=split_at (fun q=>ha (jif _ q)) (fun q=>hb (jif _ q)) h
  exact⟨rfl,rfl⟩
theorem Xq{n n':Nat}{f f':List UInt8}(hn:n<=50000)(hn':n'<=50000)(h:jH n f=jH n' f'):n=n'/\f=f':=by
 unfold jH at h
 have h1:=jjA h
 obtain⟨h2,h3⟩:=split_at (XE n) (XE n') h1
 exact⟨jcW (by omega) (by omega) h2,h3⟩
end Go.Proofs.YtmdhainabeljpaaGreatDoor.Fr
namespace Go.Proofs.YtmdhainabeljpaaGreatDoor.Hd
open Go.Lib
def Qc:List UInt8:=[35,37,103,101,110,32]
def qS(g:Nat):List UInt8:=Qc++(decDigits g++[10,10])
def Of(t:List UInt8)(g:Nat):Prop:=1<=g/\g<=2147483648/\∃r,t=qS g++r
def xC(t:List UInt8)(n:Nat):Prop:=Of t n\/(n=0/\∀g,¬Of t g)
theorem Ul(n:Nat):(10:UInt8)∉decDigits n:=fun h=>by have:=jZ n _ h;simp at this
theorem jgk{a b:Nat}(ha:a<=2147483648)(hb:b<=2147483648)(h:decDigits a=decDigits b):a=b:=by
 have e:itoa (a:Int)=itoa (b:Int):=by rw[itoa_nonneg,itoa_nonneg,h]
 have:=jd0 (by constructor<;>omega) (by constructor<;>omega) e
 omega
theorem zg(g:Nat)(r:List UInt8):qS g++r=Qc++(decDigits g++10::(10::r)):=by unfold qS;simp
theorem GC{a b:Nat}(ha:a<=2147483648)(hb:b<=2147483648){r q:List UInt8}(h:qS a++r=qS b++q):a=b/\r=q:=by
 rw[zg,zg]at h
 obtain⟨h1,h2⟩:=Fr.split_at (Ul a) (Ul b) (jjA h)
 exact⟨jgk ha hb h1,by simpa using h2⟩
theorem jgM{t:List UInt8}{a b:Nat}(h:Of t a)(h':Of t b):a=b:=by
 obtain⟨_,h2,r,e⟩:=h
 obtain⟨_,h4,q,e'⟩:=h'
 exact(GC h2 h4 (e.symm.trans e')).1
theorem gen_one{t:List UInt8}{a b:Nat}(h:xC t a)(h':xC t b):a=b:=by
 rcases h with h|⟨rfl,h⟩<;>rcases h' with h'|⟨rfl,h'⟩
 ·exact jgM h h'
 ·exact absurd h (h' _)
 ·exact absurd h' (h _)
 rfl
theorem jcV(g:Nat)(hg:g<=2147483648):1<=(decDigits g).length/\(decDigits g).length<=20:=by
 constructor
 ·have:=YI g
  cases h:decDigits g with
  | nil=>exact absurd h this
  | cons a l=>simp
 rw[decDigits_length];exact nDigits_le20 g (by omega)
theorem jd5(g:Nat)(hg:g<=2147483648):9<=(qS g).length/\(qS g).length<=28:=by
 have:=jcV g hg
 unfold qS Qc
 simp only[jh7,jic,jiW];omega
theorem Xq{a b:Nat}(ha:a<=2147483648)(hb:b<=2147483648):qS a=qS b↔a=b :=
 ⟨fun h=>(GC (r:=[]) (q:=[]) ha hb (by rw[h])).1,fun h=>by rw[h]⟩
theorem Gz:∀(ds r:List UInt8),(10:UInt8)∉ds->index (ds++10::10::r) [10,10]=ds.length
 | [],r,_=>by simp[index]
 | c::ds,r,h=>by
  have hc:c≠10:=fun e=>h (by simp[e])
  have ih:=Gz ds r (fun q=>h (jif _ q))
  have hp:List.isPrefixOf [10,10] (c::(ds++10::10::r))=false:=by
   have hb:((10:UInt8)==c)=false:=by simpa using fun e=>hc e.symm
   simp[List.isPrefixOf,hb]
  rw[jiq,index,hp,ih]
  simp only[Bool.false_eq_true,if_false]
  rw[if_neg (by simp)]
  simp
theorem jhh(ds r:List UInt8)(h:(10:UInt8)∉ds):(cut (ds++10::10::r) [10,10]).1=ds:=by
 unfold cut
 rw[Gz ds r h,if_pos (by omega)]
 simp
theorem jbv(r:List UInt8):trimPrefix (Qc++r) Qc=r:=by
 unfold trimPrefix hasPrefix Qc
 rw[if_pos (by simp[List.isPrefixOf])]
 simp
def figs(t:List UInt8):List UInt8:=(cut (trimPrefix t Qc) [10,10]).1
theorem jge{t:List UInt8}{g:Nat}(h:Of t g):figs t=decDigits g:=by
 obtain⟨_,_,r,rfl⟩:=h
 unfold figs
 rw[zg,jbv,jhh _ _ (Ul g)]
theorem jej(t:List UInt8):(figs t).length<=t.length:=by
 unfold figs cut
 split
 ·rw[jiE]
  unfold trimPrefix;split
  ·rw[jik];omega
  omega
 show(trimPrefix t Qc).length<=_
 unfold trimPrefix;split
 ·rw[jik];omega
 omega
theorem Kv{t:List UInt8}{g:Nat}(h1:1<=g)(h2:g<=2147483648):hasPrefix t (qS g)=true↔Of t g:=by
 unfold hasPrefix
 rw[jja]
 exact⟨fun⟨r,e⟩=>⟨h1,h2,r,e.symm⟩,fun⟨_,_,r,e⟩=>⟨r,e.symm⟩⟩
theorem jec(t:List UInt8):xC t (if 1<=zX (figs t)/\zX (figs t)<=2147483648/\hasPrefix t (qS (zX (figs t)).toNat)=true then (zX (figs t)).toNat else 0):=by
 split
 ·rename_i h
  obtain⟨h1,h2,h3⟩:=h
  exact .inl ((Kv (by omega) (by omega)).1 h3)
 rename_i h
 refine .inr ⟨rfl,fun g hg=>h ?_⟩
 have e:=jge hg
 have hv:zX (figs t)=g:=by
  rw[e,<- itoa_nonneg]
  obtain⟨h1,h2,_⟩:=hg
  exact qW (by constructor<;>omega)
 rw[hv]
 have h1:=hg.1
 have h2:=hg.2.1
 refine⟨by omega,by omega,?_⟩
 rw[jju]
 exact(Kv h1 h2).2 hg
theorem gen_lt{t:List UInt8}{n:Nat}(h:xC t n):n<=2147483648:=by
 rcases h with h|⟨rfl,_⟩
 ·exact h.2.1
 omega
theorem jga{t:List UInt8}{n:Nat}(h:xC t n)(hn:1<=n):∃r,t=qS n++r:=by
 rcases h with h|⟨rfl,_⟩
 ·exact h.2.2
 omega
theorem jf9{ds r:List UInt8}(hd:(10:UInt8)∉ds){g:Nat}(h1:1<=g)(h2:g<=2147483648)(e:ds=decDigits g):xC (Qc++(ds++10::10::r)) g:=.inl ⟨h1,h2,r,by rw[e,zg]⟩
theorem jcA{ds r:List UInt8}(hd:(10:UInt8)∉ds)(h:∀g,1<=g->g<=2147483648->ds≠decDigits g\/∀q,r≠10::10::q)(hr:r=[]\/∃q,r=10::q):xC (Qc++(ds++r)) 0:=by
 refine .inr ⟨rfl,?_⟩
 rintro g ⟨h1,h2,q,e⟩
 rw[zg]at e
 have e:=jjA e
 rcases hr with rfl|⟨p,rfl⟩
 ·have:(10:UInt8)∈ds++[]:=by rw[e];simp
  exact hd (by simpa using this)
 obtain⟨e1,e2⟩:=Fr.split_at hd (Ul g) e
 rcases h g h1 h2 with h|h
 ·exact h e1
 exact h q (by rw[e2])
theorem gen_short{t:List UInt8}(h:t.length<9):xC t 0:=.inr ⟨rfl,by
 rintro g ⟨h1,h2,r,rfl⟩
 have:=jd5 g h2
 simp only[jh7]at h;omega⟩
theorem jaU{t:List UInt8}(h:t.take 6≠Qc):xC t 0:=.inr ⟨rfl,by
 rintro g ⟨h1,h2,r,rfl⟩
 apply h
 rw[zg]
 unfold Qc
 simp⟩
end Go.Proofs.YtmdhainabeljpaaGreatDoor.Hd
namespace Go.Proofs.YtmdhainabeljpaaGreatDoor
def zJ(c:UInt8):Bool:=c==32 || c==9
def qV:List UInt8->Bool
 | []=>false
 | c::_=>zJ c
def JO:List UInt8->Bool
 | []=>false
 | c::_=>c==35
def qC(l:List UInt8)(c:UInt8):Bool:=l.contains c
def jI(l:List UInt8):Bool:=l.all zJ
def ju(k:List UInt8):Bool:=decide (1<=k.length)&&decide (k.length<=32) && !qV k && !JO k && !qC k 58 && !qC k 10
def before(l:List UInt8):List UInt8:=l.takeWhile (· != 58)
def jk(l:List UInt8):Nat :=
 if qC l 10=true then 5 else if jI l=true then 1 else if JO l=true then 2 else if qV l=true then 3 else if qC l 58=true/\ju (before l)=true then 4 else 5
theorem yf{l:List UInt8}(h:jI l=false):∃c t,l=c::t:=by
 cases l with
 | nil=>simp[jI]at h
 | cons c t=>exact⟨c,t,rfl⟩
theorem Ve(a b:List UInt8)(c:UInt8):qC (a++b) c=(qC a c || qC b c):=by
 unfold qC;rw[jiX];simp
theorem Vd(a:UInt8)(b:List UInt8)(c:UInt8):qC (a::b) c=((c==a) || qC b c):=by
 unfold qC;rw[List.contains_cons]
theorem Xt{l:List UInt8}{c:UInt8}(h:c∉l):qC l c=false:=by unfold qC;simpa using h
theorem JX(a b:List UInt8)(h:qC a 58=false):before (a++58::b)=a:=by
 unfold before
 have h':∀x∈a,(x != 58)=true:=by
  intro x hx;unfold qC at h
  have:(58:UInt8)∉a:=by simpa using h
  simp;rintro rfl;exact this hx
 rw[jjC h',jiR,if_neg (by simp),jix]
theorem vz{k:List UInt8}(h:ju k=true):1<=k.length/\k.length<=32/\qV k=false/\JO k=false/\qC k 58=false/\qC k 10=false:=by
 unfold ju at h
 simp only[jiL,decide_eq_true_eq,jkh]at h
 exact⟨h.1.1.1.1.1,h.1.1.1.1.2,h.1.1.1.2,h.1.1.2,h.1.2,h.2⟩
theorem jco{k r:List UInt8}(h:ju k=true)(hr:qC r 10=false):jk (k++58::r)=4:=by
 obtain⟨a1,a0,a2,a3,a4,a5⟩:=vz h
 have b1:qC (k++58::r) 10=false:=by
  rw[Ve,a5,Bool.false_or,Vd,hr];rfl
 have b2:qC (k++58::r) 58=true:=by
  rw[Ve,Vd];simp
 have b3:=JX k r a4
 cases k with
 | nil=>simp at a1
 | cons c t =>
 have b4:qV (c::t++58::r)=false:=a2
 have b5:JO (c::t++58::r)=false:=a3
 have b6:jI (c::t++58::r)=false:=by
  have:zJ c=false:=a2
  unfold jI
  rw[jiq,jjS,this];rfl
 unfold jk
 rw[b1,if_neg (by decide),b6,if_neg (by decide),b5,if_neg (by decide),b4,if_neg (by decide),b2,b3,h];rfl
theorem KY(b:List UInt8):∀a:List UInt8,(a++58::b).drop (a.length+1)=b
 | []=>rfl
 | _::a=>KY b a
def jp:List UInt8->List (List UInt8)
 | []=>[[]]
 | c::t=>if c=10 then []::jp t else (c::(jp t).headD [])::(jp t).tail
def zR:List (List UInt8)->List UInt8
 | []=>[]
 | [p]=>p
 | p::q::r=>p++10::zR (q::r)
theorem WX(p:List UInt8)(r:List (List UInt8))(h:r≠[]):zR (p::r)=p++10::zR r:=by
 cases r with
 | nil=>exact absurd rfl h
 | cons q r=>rfl
theorem jU(l:List UInt8):jp l=(jp l).headD []::(jp l).tail:=by
 cases l with
 | nil=>rfl
 | cons c t=>unfold jp;split<;>rfl
theorem Kp(l:List UInt8):jp l≠[]:=by rw[jU];simp
theorem vS:∀(l:List UInt8),∀p∈jp l,(10:UInt8)∉p
 | [],p,h=>by unfold jp at h;simp at h;subst h;simp
 | c::t,p,h=>by
  have ih:=vS t
  rw[jU t]at ih
  unfold jp at h
  split at h
  ·rw[jU t]at h
   rcases List.mem_cons.1 h with rfl|h
   ·simp
   exact ih p h
  rename_i hc
  rcases List.mem_cons.1 h with rfl|h
  ·intro hm
   rcases List.mem_cons.1 hm with e|hm
   ·exact hc e.symm
   exact ih _ (by simp) hm
  exact ih p (jif _ h)
theorem yn:∀(l:List UInt8),(jp l).length=l.count 10+1
 | []=>rfl
 | c::t=>by
  have ih:=yn t
  unfold jp
  split
  ·rename_i hc;subst hc;rw[jic,ih,List.count_cons_self]
  rename_i hc
  rw[List.count_cons_of_ne hc,<- ih,jU t];simp
theorem QN:∀(l:List UInt8),zR (jp l)=l
 | []=>rfl
 | c::t=>by
  have ih:=QN t
  unfold jp
  split
  ·rename_i hc;subst hc
   rw[WX _ _ (Kp t),ih];rfl
  rw[jU t]at ih
  generalize (jp t).headD []=p at *
  generalize (jp t).tail=r at *
  cases r with
  | nil=>simp only[zR]at ih ⊢;rw[ih]
  | cons q r=>simp only[zR]at ih ⊢;rw[<- ih];rfl
theorem WS(c:UInt8)(t:List UInt8):jp (c::t)=if c=10 then []::jp t else (c::(jp t).headD [])::(jp t).tail:=rfl
theorem Yi:∀(p r:List UInt8),(10:UInt8)∉p->jp (p++10::r)=p::jp r
 | [],r,_=>by simp[jp]
 | c::p,r,h=>by
  have hc:c≠10:=fun e=>h (by rw[e];simp)
  have ih:=Yi p r (fun e=>h (jif _ e))
  rw[jiq,WS,if_neg hc,ih];rfl
theorem Yj:∀(p:List UInt8),(10:UInt8)∉p->jp p=[p]
 | [],_=>rfl
 | c::p,h=>by
  have hc:c≠10:=fun e=>h (by rw[e];simp)
  have ih:=Yj p (fun e=>h (jif _ e))
  unfold jp
  rw[if_neg hc,ih];rfl
theorem yb:∀(l:List UInt8),jp (l++[10])=jp l++[[]]
 | []=>rfl
 | c::t=>by
  have ih:=yb t
  rw[jiq]
  unfold jp
  rw[ih,jU t]
  split<;>simp
theorem QM:∀(l:List UInt8) (c:UInt8),c≠10->∃pre p,jp l=pre++[p]/\jp (l++[c])=pre++[p++[c]]
 | [],c,h=>⟨[],[],rfl,by simp[jp,h]⟩
 | d::t,c,h=>by
  obtain⟨pre,p,e1,e2⟩:=QM t c h
  rw[jiq]
  unfold jp
  rw[e1,e2]
  by_cases hd:d=10
  ·rw[if_pos hd,if_pos hd];exact⟨[]::pre,p,rfl,rfl⟩
  rw[if_neg hd,if_neg hd]
  cases pre with
  | nil=>exact⟨[],d::p,rfl,rfl⟩
  | cons q r=>exact⟨(d::q)::r,p,rfl,rfl⟩
def zE(k l:List UInt8):List UInt8:=if l=[] then k++[58] else k++58::32::l
def vX(l:List UInt8):Bool:=jI l || (l.head?==some 46)
def jl(l:List UInt8):List UInt8:=if vX l then 32::46::l else 32::l
def jO(k v:List UInt8):List (List UInt8):=zE k ((jp v).headD [])::(jp v).tail.map jl
def jR(k v:List UInt8):Nat:=if ju k then (if v.length<=1000 then 0 else 6) else 5
def jr(ls:List (List UInt8)):List UInt8:=ls.flatMap fun l=>l++[10]
def qP(l:List UInt8):List UInt8:=if l.head?=some 32 then l.tail else l
def jY(l:List UInt8):List UInt8:=if l.head?=some 46 then l.tail else l
def qB(l:List UInt8):List UInt8:=l.drop ((before l).length+1)
def VB:List (List UInt8)->Bool
 | []=>false
 | a::r=>(jk a==4)&&r.all (fun l=>jk l==3)
def Qy(ls:List (List UInt8)):List (List UInt8):=qP (qB (ls.headD []))::ls.tail.map fun l=>jY l.tail
def zy(ls:List (List UInt8)):List UInt8:=zR (Qy ls)
def jo(ls:List (List UInt8)):Nat:=if VB ls then (if (zy ls).length<=1000 then 0 else 6) else 2
def jF(ls:List (List UInt8)):List UInt8:=if jo ls=0 then before (ls.headD []) else []
def jE(ls:List (List UInt8)):List UInt8:=if jo ls=0 then zy ls else []
theorem Yy(k v:List UInt8):(jO k v).length=v.count 10+1:=by
 rw[<- yn,jU v];unfold jO;simp
theorem JR{l:List UInt8}(h:(10:UInt8)∉l):(10:UInt8)∉jl l:=by
 unfold jl;split<;>simp[h]
theorem Uh{k l:List UInt8}(hk:qC k 10=false)(h:(10:UInt8)∉l):(10:UInt8)∉zE k l:=by
 have hk':(10:UInt8)∉k:=by unfold qC at hk;simpa using hk
 unfold zE;split<;>simp[h,hk']
theorem Zt(v:List UInt8):(10:UInt8)∉(jp v).headD []:=vS v _ (by rw[jU v];simp)
theorem VZ(v:List UInt8):∀p∈(jp v).tail,(10:UInt8)∉p:=fun p hp=>vS v p (List.mem_of_mem_tail hp)
theorem ZQ{k:List UInt8}(v:List UInt8)(hk:ju k=true):∀l∈jO k v,(10:UInt8)∉l:=by
 intro l hl
 unfold jO at hl
 rcases List.mem_cons.1 hl with rfl|hl
 ·exact Uh (vz hk).2.2.2.2.2 (Zt v)
 obtain⟨p,hp,rfl⟩:=List.mem_map.1 hl
 exact JR (VZ v p hp)
theorem KK{l:List UInt8}(h:(10:UInt8)∉l):jk (jl l)=3:=by
 have hc:=Xt (JR h)
 unfold jl at hc ⊢
 unfold jk
 by_cases hd:vX l=true
 ·rw[if_pos hd]at hc ⊢
  rw[hc]
  simp[jI,zJ,JO,qV]
 rw[if_neg hd]at hc ⊢
 have hb:jI l=false:=by unfold vX at hd;cases h:jI l<;>simp[h]at hd ⊢
 have hb2:jI (32::l)=false:=by unfold jI at hb ⊢;rw[jjS,hb];simp
 rw[hc,hb2]
 simp[zJ,JO,qV]
theorem KO(l:List UInt8):jY (jl l).tail=l:=by
 unfold jl
 by_cases hd:vX l=true
 ·rw[if_pos hd];simp[jY]
 rw[if_neg hd]
 have:¬l.head?=some 46:=fun e=>hd (by unfold vX;rw[e];simp)
 simp[jY,this]
theorem YE(k l:List UInt8):∃r,zE k l=k++58::r/\qP r=l/\((10:UInt8)∉l->qC r 10=false):=by
 unfold zE
 by_cases h:l=[]
 ·subst h;exact⟨[],by simp,by simp[qP],fun _=>by simp[qC]⟩
 rw[if_neg h];exact⟨32::l,rfl,by simp[qP],fun hl=>by rw[Vd,Xt hl];rfl⟩
theorem jaY{k l:List UInt8}(hk:ju k=true)(h:(10:UInt8)∉l):jk (zE k l)=4:=by
 obtain⟨r,e,_,h2⟩:=YE k l
 rw[e];exact jco hk (h2 h)
theorem ZU{k l:List UInt8}(hk:ju k=true):before (zE k l)=k/\qP (qB (zE k l))=l:=by
 obtain⟨r,e,h1,_⟩:=YE k l
 have hb:=JX k r (vz hk).2.2.2.2.1
 rw[e]
 refine⟨hb,?_⟩
 unfold qB
 rw[hb,KY,h1]
theorem Kz{k v:List UInt8}(hk:ju k=true):VB (jO k v)=true:=by
 unfold jO
 show(jk _==4&&_)=true
 rw[jaY hk (Zt v),jiL]
 refine⟨rfl,?_⟩
 rw[jj6]
 intro l hl
 obtain⟨p,hp,rfl⟩:=List.mem_map.1 hl
 rw[KK (VZ v p hp)];rfl
theorem Yu{k v:List UInt8}(hk:ju k=true):zy (jO k v)=v:=by
 have:Qy (jO k v)=jp v:=by
  unfold Qy jO
  simp only[List.headD_cons,jjZ,jjO]
  rw[(ZU hk).2]
  conv=>rhs;rw[jU v]
  congr 1
  conv=>rhs;rw[<- List.map_id (jp v).tail]
  apply jj8
  intro l _
  exact KO l
 unfold zy
 rw[this,QN]
theorem ZO{k v:List UInt8}(hk:ju k=true)(hv:v.length<=1000):jo (jO k v)=0/\jF (jO k v)=k/\jE (jO k v)=v:=by
 have h:jo (jO k v)=0:=by
  unfold jo;rw[Kz hk,Yu hk,if_pos rfl,if_pos hv]
 refine⟨h,?_,?_⟩
 ·unfold jF;rw[if_pos h];unfold jO;exact(ZU hk).1
 unfold jE;rw[if_pos h,Yu hk]
theorem Ua:∀(p r:List UInt8),(10:UInt8)∉p->zY (p++10::r)=p/\nl (p++10::r)=true
 | p,r,h=>by
  have h':∀x∈p,(x != 10)=true:=by intro x hx;simp;rintro rfl;exact h hx
  refine⟨?_,by unfold nl;simp⟩
  unfold zY
  rw[jjC h',jiR,if_neg (by simp),jix]
theorem yX(a b:List (List UInt8)):jr (a++b)=jr a++jr b:=by unfold jr;simp
theorem yW:∀(ls:List (List UInt8)),(jr ls).length=(ls.map List.length).sum+ls.length
 | []=>rfl
 | l::r=>by
  have e:jr (l::r)=l++10::jr r:=by unfold jr;simp
  rw[e,jh7,jic,yW r];simp;omega
theorem YB:∀(ls:List (List UInt8)),(zR ls).length<=(ls.map List.length).sum+ls.length
 | []=>by simp[zR]
 | [p]=>by simp[zR]
 | p::q::r=>by
  have ih:=YB (q::r)
  show(p++10::zR (q::r)).length<=_
  rw[jh7,jic]
  simp only[jiP,ji5,jic]at ih ⊢;omega
theorem Qk:∀(l:List UInt8),((jp l).map List.length).sum+(jp l).length=l.length+1
 | []=>rfl
 | c::t=>by
  have ih:=Qk t
  rw[jU t]at ih
  unfold jp
  split
  ·rw[jU t];simp at ih ⊢;omega
  simp at ih ⊢;omega
theorem ZI:∀(r:List (List UInt8)),((r.map jl).map List.length).sum<=(r.map List.length).sum+2*r.length
 | []=>by simp
 | p::r=>by
  have ih:=ZI r
  have h:(jl p).length<=p.length+2:=by unfold jl;split<;>simp
  simp only[jiP,ji5,jic]at ih ⊢;omega
theorem Ky(k v:List UInt8):((jO k v).map List.length).sum+(jO k v).length<=k.length+3*v.length+8:=by
 have a:=Qk v
 rw[jU v]at a
 have b:=ZI (jp v).tail
 have c:(zE k ((jp v).headD [])).length<=k.length+((jp v).headD []).length+2:=by unfold zE;split<;>simp<;>omega
 unfold jO
 simp only[jiP,ji5,jic,jiA]at a b ⊢
 omega
theorem jcR(l:List UInt8):(qP l).length<=l.length:=by unfold qP;split<;>simp
theorem ja5(l:List UInt8):(jY l).length<=l.length:=by unfold jY;split<;>simp
theorem jdg(l:List UInt8):(qB l).length<=l.length:=by unfold qB;rw[jik];omega
theorem Gc:∀r:List (List UInt8),((r.map fun l=>jY l.tail).map List.length).sum<=(r.map List.length).sum
 | []=>by simp
 | a::r=>by
  have ih:=Gc r
  have h:=ja5 a.tail
  have h2:a.tail.length<=a.length:=by simp
  simp only[jiP,ji5]at ih ⊢
  omega
theorem xG(ls:List (List UInt8)):(zy ls).length<=(ls.map List.length).sum+ls.length+1:=by
 have h:=YB (Qy ls)
 have hl:(Qy ls).length<=ls.length+1:=by unfold Qy;cases ls<;>simp
 have hs:((Qy ls).map List.length).sum<=(ls.map List.length).sum:=by
  cases ls with
  | nil=>decide
  | cons a r =>
  unfold Qy
  have h1:=Gc r
  have h2:=jcR (qB a)
  have h3:=jdg a
  simp only[List.headD_cons,jjZ,jiP,ji5]at h1 ⊢
  omega
 unfold zy
 omega
end Go.Proofs.YtmdhainabeljpaaGreatDoor
