/- Texts put together:WC,WD,WE,WF,FA,FB,FC,FD,FE,FF,FG,FH. -/
import Derived.Shelf.Abstract
import Derived.Shelf.RegionOpen
import Derived.OwnWalkIn
import Derived.TacticsInMore
import Derived.LoopNIn
import Derived.LoopIn
import Derived.Shelf.Strings.SlTrimAscii
import Derived.Lib.IndexBytes
import Derived.StillTailTactics
import Derived.Laws.ResultCell
import Derived.Laws.Rows
import Derived.Test.YtpibhbjmcmfnmaaGreatDoorBfn9
set_option linter.unusedVariables false
set_option maxRecDepth 100000
set_option maxHeartbeats 16000000
namespace Go.Proofs.YtpibhbjmcmfnmaaGreatDoor
open Go.RowKit Go.Shelf Tryz
abbrev jnh:=@List.map_append
abbrev jnn:=@List.drop_eq_getElem_cons
abbrev jnr:=@Go.Boxed.new
abbrev jnu:=@Nat.pos_of_ne_zero
abbrev jny:=@Go.World.cell?_alloc_at
abbrev jnZ:=@List.singleton_append
abbrev jn0:=@Go.World.cell?_alloc_old
abbrev jn8:=@List.take_succ_cons
abbrev jou:=@Nat.ne_of_lt
section
attribute [local go_sem] jmk
theorem jgO(s:ByteArray)(w:World):
  Calls prog 140 #[.string s] w fun e w'=>e=.returned (.func (.func 185) #[] #[.pointer (some ⟨w.heap.size+1+1,0,none⟩),.pointer (some ⟨w.heap.size,0,none⟩),.pointer (some ⟨w.heap.size+1,0,none⟩)]) /\
   w'=((w.alloc (.cells #[.string s] 9)).alloc (.cells #[.int .i64 0] 3)).alloc (.cells #[.int .i64 0] 3):=by
 go_enter func140,ntmps140
 go_wp2
 go_ret
 exact⟨rfl,rfl⟩
theorem jdX(s:ByteArray)(at_ no:Nat)(Bat Btx Bno:Nat)(w:World)(hat:Boxed w Bat 3 (.int .i64 at_))(htx:Boxed w Btx 9 (.string s))(hno:Boxed w Bno 3 (.int .i64 no))
  (h1:at_<s.size) (h2:no<s.size) (hs:s.size<=4294967295) (d1:Bat≠Btx) (d2:Bat≠Bno) (d3:Btx≠Bno) (hd:List UInt8) (en:Bool) (us:Nat)
  (H1:head (s.data.toList.drop at_)=hd) (H2:nl (s.data.toList.drop at_)=en) (H3:qI (s.data.toList.drop at_)=us) :
  Calls prog 185 #[.pointer (some ⟨Bat,0,none⟩),.pointer (some ⟨Btx,0,none⟩),.pointer (some ⟨Bno,0,none⟩)] w fun e w' =>
   e=.returned (.tuple #[.agg #[.int .i64 no,.int .i64 at_,.string ⟨hd.toArray⟩,.bool en],.bool true])/\Two Bno Bat w w'/\Boxed w' Bno 3 (.int .i64 (no+1:Nat))/\Boxed w' Bat 3 (.int .i64 (at_+us:Nat)):=by
 subst H1 H2 H3
 exact jgl s at_ no Bat Btx Bno w hat htx hno h1 h2 hs d1 d2 d3
def jkA(B:Nat)(w:World):Nat:=match w.cell? ⟨B,0,none⟩ with | some (.int _ n)=>n.toNat | _=>0
theorem ZE{B:Nat}{w:World}{t:TypeId}{n:Nat}(h:Boxed w B t (.int .i64 n)):jkA B w=n:=by unfold jkA;rw[h.cell];simp
theorem qL(s:ByteArray)(Bs:Nat)(w:World)(hbox:Boxed w Bs 9 (.string s))(hs:s.size<=4294967295):
  jjj prog 139 #[.pointer (some ⟨Bs,0,none⟩)] (fun x=>#[.agg (qP x)]) 3 (je s.data.toList) w:=by
 intro l J Jx W hW hJ hY h0
 have hb:Boxed W Bs 9 (.string s):=(hW.block Bs hbox.lt).trans hbox
 have c0:=hb.cell
 refine callsIn_of_wp func139 rfl trivial ?_ rfl
 simp only[ntmps139,jmN,jme,jmB,Nat.reduceAdd,Nat.reduceSub,jmW,jmX,jm5,jm0,jmS,jmu]
 gi_wp2_with (refine⟨trivial,?_⟩;gi_at_call 140;refine(callsIn_wide.2 (jgO s _)).mono ?_;rintro e w' ⟨rfl,rfl⟩)
 gi_loopw [4] (fun _ wr=>∃pre at_,je s.data.toList=pre++za pre.length at_ (s.data.toList.drop at_)/\at_<=s.size/\pre.length<=at_/\Boxed wr W.heap.size 9 (.string s) /\
   Boxed wr (W.heap.size+1) 3 (.int .i64 (pre.length:Nat))/\Boxed wr (W.heap.size+1+1) 3 (.int .i64 at_)/\J pre wr)
  (fun _ wr=>s.size-jkA (W.heap.size+1+1) wr)
 case atStart =>
  refine⟨[],0,rfl,jmo _,jma _,?_,?_,?_,hJ.alloc _ (hJ.alloc _ (hJ.alloc _ h0))⟩
  ·exact((jnr W _ _).alloc _).alloc _
  ·have:=(jnr (W.alloc (.cells #[.string s] 9)) 3 (.int .i64 0)).alloc (.cells #[.int .i64 0] 3)
   rw[jmw]at this;exact this
  have:=jnr ((W.alloc (.cells #[.string s] 9)).alloc (.cells #[.int .i64 0] 3)) 3 (.int .i64 0)
  rw[jmw,jmw]at this;exact this
 case round =>
 obtain⟨pre,at_,hx,ha,hn,b1,b2,b3,hj⟩:=hrel
 by_cases he:at_=s.size
 ·gi_wp2_with (refine⟨trivial,?_⟩;gi_at_call 185;refine(callsIn_wide.2 (jio s at_ _ _ _ _ b3 b1 he)).mono ?_;rintro e w' ⟨rfl,h2⟩)
  refine⟨fun _ h=>(by cases h),?_⟩
  gi_wp2
  refine bodyPost_ret (results_none rfl _ _ _) rfl ⟨⟨_,rfl⟩,.inl ?_⟩
  rw[he,jm1 (by rw[<- jmq];exact jma _),jr,jmT]at hx
  rw[hx]
  exact hJ.alloc _ (hJ _ _ _ hj (h2.turned (by omega) (by omega)))
 have hlt:at_<s.size:=by omega
 have hne:s.data.toList.drop at_≠[]:=by
  intro e;have:=congrArg List.length e;rw[jmn,<- jmq]at this;simp at this;omega
 rw[jA _ _ _ hne,jnD]at hx
 have hu:=qz _ hne
 have hul:=XF (s.data.toList.drop at_)
 rw[jmn,<- jmq]at hul
 generalize hhd:head (s.data.toList.drop at_)=hd at *
 generalize hen:nl (s.data.toList.drop at_)=en at *
 generalize hus:qI (s.data.toList.drop at_)=us at *
 have N:=callsIn_wide (n:=7).2 (jdX s at_ pre.length _ _ _ _ b3 b1 b2 hlt (by omega) hs (by omega) (by omega) (by omega) hd en us hhd hen hus)
 have HX:=jl9 hx
 clear hhd hen hus hx hne he
 gi_wp2_with (refine⟨trivial,?_⟩;gi_at_call 185;refine N.mono ?_;clear N;rintro e w' ⟨rfl,h2,h3,h4⟩)
 have hz:=h2.size
 have hz3:=b3.lt
 have jw:J pre w':=hJ _ _ _ hj (h2.turned (by omega) (by omega))
 obtain⟨fn,tmps,assign,body,hy,hR⟩:=hY pre ⟨pre.length,at_,hd,en⟩ _ (w'.alloc (.cells #[.int .i64 pre.length,.int .i64 at_,.string ⟨hd.toArray⟩,.bool en] 164)) HX.out (by simp;omega) (hJ.alloc _ jw)
 dsimp only[qP]at hy
 rw[hy,Oper.uponIn_round]
 refine⟨fun h=>(by cases h),hR.mono ?_⟩
 clear hR hy
 rintro e W3 (⟨rfl,hJ3,hk3⟩|⟨rfl,hJx3⟩)
 ·gi_wp2
  go_roundw
  case rel =>
   refine⟨pre++[⟨pre.length,at_,hd,en⟩],at_+us,?_,by omega,by simp;omega,?_,?_,?_,hJ3⟩
   ·rw[jmA,jnZ,jmb];exact HX.out
   ·exact(hk3.same _ (by omega) (by omega)).trans ((h2.box b1 (by omega) (by omega)).alloc _)
   ·rw[jmb];exact(hk3.same _ (by omega) (by omega)).trans (jol h3 _)
   exact(hk3.same _ (by omega) (by omega)).trans (jol h4 _)
  case measure =>
  rw[ZE b3,ZE (B:=W.heap.size+1+1) (w:=W3) (n:=at_+us) ((hk3.same _ (by omega) (by omega)).trans (jol h4 _))]
  omega
 gi_wp2
 refine bodyPost_ret (results_none rfl _ _ _) rfl ⟨⟨_,rfl⟩,.inr ⟨_,⟨za (pre.length+1) (at_+us) (List.drop (at_+us) s.data.toList),?_⟩,hJx3⟩⟩
 rw[HX.out,jmA,jnZ]
theorem yj(s:ByteArray)(w:World):
  Calls prog 99 #[.string s] w fun e w'=>e=.returned (.func (.func 139) #[] #[.pointer (some ⟨w.heap.size,0,none⟩)])/\w'=w.alloc (.cells #[.string s] 9):=by
 go_enter func99,ntmps99
 go_wp2
 go_ret
 exact⟨rfl,rfl⟩
theorem xC(w:World)(o:Obj)(t:TypeId)(v:Value):Boxed ((w.alloc o).alloc (.cells #[v] t)) (w.heap.size+1) t v:=by
 have:=jnr (w.alloc o) t v
 rwa [jmw]at this
end
section
theorem Xa{s:ByteArray}{c:UInt8}{t:List UInt8}(h:s.data.toList=c::t):s.toList.isEmpty=false/\¬s.toList=[]/\1<=s.size:=by
 rw[jmY,h]
 exact⟨rfl,by simp,by rw[Lib.size_eq,h];simp⟩
theorem jbb{s:ByteArray}(h:s.data.toList=[]):s=⟨#[]⟩:=by
 rw[<- jok s,h]
theorem jes(c:UInt8):decide (0<=Lib.indexByte [32,9] c)=vq c:=by
 unfold vq
 by_cases h1:c=32
 ·subst h1;decide
 by_cases h2:c=9
 ·subst h2;decide
 have a:((32:UInt8)==c)=false:=by simp[Ne.symm h1]
 have b:((9:UInt8)==c)=false:=by simp[Ne.symm h2]
 simp[Lib.indexByte,a,b,h1,h2]
theorem jiF(l:List UInt8)(c:UInt8):decide (0<=Lib.indexByte l c)=l.contains c:=by
 rcases qE l c with ⟨h1,h2⟩|⟨h1,h2⟩
 ·rw[h1];simp[h2]
 rw[h1];simp[h2]
theorem jga(l:List UInt8):Lib.hasPrefix l [35]=Qm l:=by
 unfold Lib.hasPrefix Qm
 cases l with
 | nil=>rfl
 | cons a t=>simp[List.isPrefixOf,Bool.beq_comm]
theorem jfd(w:World):
  Calls prog 188 #[.string ⟨#[]⟩] w fun e w'=>e=.returned (.bool false)/\w=w':=by
 go_enter func188,ntmps188
 go_wp2
 go_ret
 exact⟨rfl,rfl⟩
theorem jcW(s:ByteArray)(c:UInt8)(t:List UInt8)(h:s.data.toList=c::t)(hs:s.size<=maxLen)(w:World):
  Calls prog 188 #[.string s] w fun e w'=>e=.returned (.bool (vq c))/\w=w':=by
 have hz:1<=s.size:=by rw[jmq,h];simp
 have e1:s.extract 0 1=⟨#[c]⟩:=by
  have:=jnP s 0 1
  rw[h]at this
  rw[<- jok (s.extract 0 1),this];rfl
 obtain⟨n1,n2,n3⟩:=Xa h
 clear h
 unfold maxLen at hs
 go_enter func188,ntmps188
 go_wp2_with fail
 refine(Tryz.strings_Contains_one ⟨#[32,9]⟩ c _).mono ?_
 rw[show(⟨#[32,9]⟩:ByteArray).data.toList=[32,9] from rfl,jes]
 rintro e w' ⟨rfl,rfl⟩
 go_wp2
 go_ret
 exact⟨rfl,rfl⟩
theorem Xz(s:ByteArray)(hs:s.size<=maxLen)(w:World):
  Calls prog 188 #[.string s] w fun e w'=>e=.returned (.bool (yf s.data.toList))/\w=w':=by
 cases h:s.data.toList with
 | nil=>rw[jbb h];exact jfd w
 | cons c t=>exact jcW s c t h hs w
theorem xm(s:ByteArray)(c:UInt8)(w:World):
  Calls prog 186 #[.string s,.string ⟨#[c]⟩] w fun e w'=>e=.returned (.bool (yR s.data.toList c))/\w=w':=by
 refine(Tryz.strings_Contains_one s c _).mono ?_
 rw[jiF]
 rintro e w' ⟨rfl,rfl⟩
 exact⟨rfl,rfl⟩
theorem yH(s:ByteArray)(w:World):
  Calls prog 109 #[.string s,.string ⟨#[35]⟩] w fun e w'=>e=.returned (.bool (Qm s.data.toList))/\w=w':=by
 refine(Tryz.strings_HasPrefix s ⟨#[35]⟩ _).mono ?_
 rw[show(⟨#[35]⟩:ByteArray).data.toList=[35] from rfl,jga]
 rintro e w' ⟨rfl,rfl⟩
 exact⟨rfl,rfl⟩
theorem jax(s:ByteArray)(hs:s.size<=9223372036854775807)(w:World):
  Calls prog 187 #[.string s,.string ⟨#[32,9]⟩] w fun e w'=>e=.returned (.string ⟨(Lib.trimS s.data.toList [32,9]).toArray⟩)/\Below w.heap.size w w' :=
 Any.strings_Trim_laid Tryz.lays160 (by kernel_rfl) s ⟨#[32,9]⟩ w hs (by decide) (ascii_of_all (by decide))
theorem jej(s:ByteArray)(hs:s.size<=maxLen)(w:World):
  Calls prog 189 #[.string s] w fun e w'=>e=.returned (.bool (jT s.data.toList))/\w=w':=by
 cases h:s.data.toList with
 | nil =>
  rw[jbb h]
  go_enter func189,ntmps189
  go_wp2
  go_ret
  exact⟨rfl,rfl⟩
 | cons c t =>
 rw[<- h]
 obtain⟨n1,n2,n3⟩:=Xa h
 clear h
 have n4:1<=s.data.toList.length:=by rw[<- jmq];exact n3
 have n5:=jmq s
 have g1:=Xz s hs
 unfold maxLen at hs
 by_cases h1:s.size<=32
 ·rw[n5]at h1
  have e1:jT s.data.toList=(!yf s.data.toList && !Qm s.data.toList && !yR s.data.toList 58 && !yR s.data.toList 10):=by
   unfold jT;rw[decide_eq_true n4,decide_eq_true h1];simp
  rw[e1]
  rw[<- n5]at h1
  clear n5 n4 e1
  cases h2:yf s.data.toList with
  | true =>
   go_enter func189,ntmps189
   go_wp2_with (go_at_call 188;refine(g1 _).mono ?_;rw[h2];rintro e w1 ⟨rfl,rfl⟩)
   go_ret
   exact⟨rfl,rfl⟩
  | false =>
  cases h3:Qm s.data.toList with
  | true =>
   go_enter func189,ntmps189
   go_wp2_with (first | (go_at_call 188;refine(g1 _).mono ?_;rw[h2];rintro e w1 ⟨rfl,rfl⟩) | (go_at_call 109;refine(yH _ _).mono ?_;rw[h3];rintro e w1 ⟨rfl,rfl⟩))
   go_ret
   exact⟨rfl,rfl⟩
  | false =>
  cases h4:yR s.data.toList 58 with
  | true =>
   go_enter func189,ntmps189
   go_wp2_with (first | (go_at_call 188;refine(g1 _).mono ?_;rw[h2];rintro e w1 ⟨rfl,rfl⟩) | (go_at_call 109;refine(yH _ _).mono ?_;rw[h3];rintro e w1 ⟨rfl,rfl⟩) | (go_at_call 186;refine(xm _ _ _).mono ?_;rw[h4];rintro e w1 ⟨rfl,rfl⟩))
   go_ret
   exact⟨rfl,rfl⟩
  | false =>
  cases h5:yR s.data.toList 10
  all_goals
   go_enter func189,ntmps189
   go_wp2_with (first | (go_at_call 188;refine(g1 _).mono ?_;rw[h2];rintro e w1 ⟨rfl,rfl⟩) | (go_at_call 109;refine(yH _ _).mono ?_;rw[h3];rintro e w1 ⟨rfl,rfl⟩) | (go_at_call 186;refine(xm _ _ _).mono ?_;(first | rw[h4] | rw[h5]);rintro e w1 ⟨rfl,rfl⟩))
   go_ret
   exact⟨rfl,rfl⟩
 have e1:jT s.data.toList=false:=by
  unfold jT;rw[<- n5,decide_eq_false h1];simp
 rw[e1]
 have h1':32<s.size:=by omega
 clear n5 n4 e1
 go_enter func189,ntmps189
 go_wp2
 go_ret
 exact⟨rfl,rfl⟩
theorem Below.drewN{B:Nat}{a w:World}(h:Below B a w)(n:Nat):Below B a (w.drewN n):=⟨h.os,h.tape,h.output,h.size,h.block⟩
def QP(s:ByteArray):ByteArray:=⟨(Lib.trimS s.data.toList [32,9]).toArray⟩
def jgc(s:ByteArray):ByteArray:=s.extract 0 (before s.data.toList).length
def jdN(s:ByteArray):ByteArray:=s.extract ((before s.data.toList).length+1) s.size
theorem Ys(c:UInt8):([32,9]:List UInt8).contains c=vq c:=by
 unfold vq
 by_cases h1:c=32
 ·subst h1;rfl
 by_cases h2:c=9
 ·subst h2;rfl
 simp[h1,h2]
theorem yL{p:UInt8->Bool}:∀{l:List UInt8},l.dropWhile p=[]↔l.all p=true
 | []=>by simp
 | a::l=>by
  rw[List.dropWhile_cons]
  cases h:p a<;>simp[h,yL]
theorem jaw(l:List UInt8):Lib.trimS l [32,9]=[]↔zx l=true:=by
 have e:(fun c=>([32,9]:List UInt8).contains c)=vq:=funext Ys
 unfold Lib.trimS Lib.trimLeftS Lib.trimRightS zx
 rw[e,yL,List.all_reverse]
 constructor
 ·intro h
  have h2:(l.reverse.takeWhile vq++l.reverse.dropWhile vq).all vq=true:=by rw[jnS,h,jnT];rfl
  rw[List.takeWhile_append_dropWhile,List.all_reverse]at h2
  exact h2
 intro h
 have:l.reverse.dropWhile vq=[]:=yL.2 (by rw[List.all_reverse];exact h)
 rw[this];rfl
theorem jav(s:ByteArray)(hs:s.size<=9223372036854775807)(h:zx s.data.toList=true)(w:World):
  Calls prog 187 #[.string s,.string ⟨#[32,9]⟩] w fun e w'=>e=.returned (.string ⟨#[]⟩)/\Below w.heap.size w w':=by
 have:=jax s hs w
 rwa [(jaw _).2 h]at this
theorem QQ(s:ByteArray)(hs:s.size<=9223372036854775807)(w:World):
  Calls prog 187 #[.string s,.string ⟨#[32,9]⟩] w fun e w'=>e=.returned (.string (QP s))/\Below w.heap.size w w':=jax s hs w
theorem YJ(s:ByteArray)(h:zx s.data.toList=false):(QP s).toList.isEmpty=false/\¬(QP s).toList=[]:=by
 have:Lib.trimS s.data.toList [32,9]≠[]:=fun e=>by rw[(jaw _).1 e]at h;cases h
 have e:(QP s).toList=Lib.trimS s.data.toList [32,9]:=by rw[jmY];rfl
 rw[e]
 exact⟨by simpa using this,this⟩
theorem QV(s:ByteArray):(jgc s).data.toList=before s.data.toList:=by
 unfold jgc
 rw[jnP,jnX,Nat.sub_zero]
 exact(List.prefix_iff_eq_take.1 (jno _)).symm
theorem jdM(s:ByteArray):(jgc s).size<=s.size:=by
 rw[jmq,QV,jmq]
 exact(jno _).length_le
theorem Ui(s:ByteArray)(w:World)(hs:s.size<=maxLen)(h:yR s.data.toList 58=true):
  Calls prog 104 #[.string s,.string ⟨#[58]⟩] w fun e w'=>e=.returned (.tuple #[.string (jgc s),.string (jdN s),.bool true])/\∃n,w'=w.drewN n :=
 Kt s 58 w hs (by unfold yR at h;simpa using h)
theorem jhi(s:ByteArray)(w:World)(h:yR s.data.toList 58=false):
  Calls prog 104 #[.string s,.string ⟨#[58]⟩] w fun e w'=>e=.returned (.tuple #[.string s,.string ⟨#[]⟩,.bool false])/\∃n,w'=w.drewN n :=
 jbi s 58 w (by unfold yR at h;simpa using h)
theorem jcd(s:ByteArray)(hs:s.size<=maxLen)(w:World):
  Calls prog 189 #[.string (jgc s)] w fun e w'=>e=.returned (.bool (jT (before s.data.toList)))/\w=w':=by
 have:=jej (jgc s) (jmy (jdM s) hs) w
 rwa [QV]at this
theorem JQ(s:ByteArray)(hs:s.size<=maxLen)(w:World):
  Calls prog 141 #[.string s] w fun e w'=>e=.returned (.int .i64 (jJ s.data.toList:Nat))/\Below w.heap.size w w':=by
 have hs2:s.size<=9223372036854775807:=by unfold maxLen at hs;omega
 cases h1:yR s.data.toList 10 with
 | true =>
  have hk:jJ s.data.toList=5:=by unfold jJ;rw[if_pos h1]
  rw[hk];clear hk
  go_enter func141,ntmps141
  go_wp2_with (first | (go_at_call 186;refine(xm _ _ _).mono ?_;rw[h1];rintro e w1 ⟨rfl,rfl⟩))
  go_ret
  exact⟨rfl,jmc _ _⟩
 | false =>
 cases h2:zx s.data.toList with
 | true =>
  have hk:jJ s.data.toList=1:=by unfold jJ;rw[h1,if_neg (by decide),if_pos h2]
  rw[hk];clear hk
  go_enter func141,ntmps141
  go_wp2_with (first | (go_at_call 186;refine(xm _ _ _).mono ?_;rw[h1];rintro e w1 ⟨rfl,rfl⟩) | (go_at_call 187;refine(jav s hs2 h2 _).mono ?_;rintro e w1 ⟨rfl,b1⟩))
  go_ret
  exact⟨rfl,b1⟩
 | false =>
 obtain⟨t1,t2⟩:=YJ s h2
 have B1:=Xz s hs
 cases h3:Qm s.data.toList with
 | true =>
  have hk:jJ s.data.toList=2:=by unfold jJ;rw[h1,if_neg (by decide),h2,if_neg (by decide),if_pos h3]
  rw[hk];clear hk
  go_enter func141,ntmps141
  go_wp2_with (first | (go_at_call 186;refine(xm _ _ _).mono ?_;rw[h1];rintro e w1 ⟨rfl,rfl⟩) | (go_at_call 187;refine(QQ s hs2 _).mono ?_;rintro e w1 ⟨rfl,b1⟩) | (go_at_call 109;refine(yH _ _).mono ?_;rw[h3];rintro e w2 ⟨rfl,rfl⟩))
  go_ret
  exact⟨rfl,b1⟩
 | false =>
 cases h4:yf s.data.toList with
 | true =>
  have hk:jJ s.data.toList=3:=by unfold jJ;rw[h1,if_neg (by decide),h2,if_neg (by decide),h3,if_neg (by decide),if_pos h4]
  rw[hk];clear hk
  go_enter func141,ntmps141
  go_wp2_with (first | (go_at_call 186;refine(xm _ _ _).mono ?_;rw[h1];rintro e w1 ⟨rfl,rfl⟩) | (go_at_call 187;refine(QQ s hs2 _).mono ?_;rintro e w1 ⟨rfl,b1⟩) | (go_at_call 109;refine(yH _ _).mono ?_;rw[h3];rintro e w2 ⟨rfl,rfl⟩) | (go_at_call 188;refine(B1 _).mono ?_;rw[h4];rintro e w2 ⟨rfl,rfl⟩))
  go_ret
  exact⟨rfl,b1⟩
 | false =>
 cases h5:yR s.data.toList 58 with
 | false =>
  have hk:jJ s.data.toList=5:=by unfold jJ;rw[h1,if_neg (by decide),h2,if_neg (by decide),h3,if_neg (by decide),h4,if_neg (by decide),if_neg (by rw[h5];simp)]
  rw[hk];clear hk
  have C:=fun w=>jhi s w h5
  go_enter func141,ntmps141
  go_wp2_with (first | (go_at_call 186;refine(xm _ _ _).mono ?_;rw[h1];rintro e w1 ⟨rfl,rfl⟩) | (go_at_call 187;refine(QQ s hs2 _).mono ?_;rintro e w1 ⟨rfl,b1⟩) | (go_at_call 109;refine(yH _ _).mono ?_;rw[h3];rintro e w2 ⟨rfl,rfl⟩) | (go_at_call 188;refine(B1 _).mono ?_;rw[h4];rintro e w2 ⟨rfl,rfl⟩) | (go_at_call 104;refine(C _).mono ?_;rintro e w2 ⟨rfl,n,rfl⟩))
  go_ret
  exact⟨rfl,Below.drewN b1 n⟩
 | true =>
 have C:=fun w=>Ui s w hs h5
 have K:=jcd s hs
 have hk:jJ s.data.toList=if jT (before s.data.toList)=true then 4 else 5:=by
  unfold jJ;rw[h1,if_neg (by decide),h2,if_neg (by decide),h3,if_neg (by decide),h4,if_neg (by decide),h5];simp
 cases h6:jT (before s.data.toList)
 all_goals
  rw[h6]at hk
  rw[hk];clear hk
  go_enter func141,ntmps141
  go_wp2_with (first | (go_at_call 186;refine(xm _ _ _).mono ?_;rw[h1];rintro e w1 ⟨rfl,rfl⟩) | (go_at_call 187;refine(QQ s hs2 _).mono ?_;rintro e w1 ⟨rfl,b1⟩) | (go_at_call 109;refine(yH _ _).mono ?_;rw[h3];rintro e w2 ⟨rfl,rfl⟩) | (go_at_call 188;refine(B1 _).mono ?_;rw[h4];rintro e w2 ⟨rfl,rfl⟩) | (go_at_call 104;refine(C _).mono ?_;rintro e w2 ⟨rfl,n,rfl⟩) | (go_at_call 189;refine(K _).mono ?_;rw[h6];rintro e w3 ⟨rfl,rfl⟩))
  go_ret
  exact⟨rfl,Below.drewN b1 n⟩
theorem jhd(s:ByteArray)(hs:s.size<=maxLen)(h:jJ s.data.toList=4)(w:World):
  Calls prog 241 #[.string s] w fun e w'=>e=.returned (.tuple #[.string (jgc s),.string (jdN s),.bool true])/\Below w.heap.size w w':=by
 have h5:yR s.data.toList 58=true:=by
  unfold jJ at h
  split at h;· cases h
  split at h;· cases h
  split at h;· cases h
  split at h;· cases h
  split at h
  ·rename_i q;exact q.1
  cases h
 have C:=fun w=>Ui s w hs h5
 have K:=JQ s hs
 rw[h]at K
 go_enter func241,ntmps241
 go_wp2_with (first | (go_at_call 141;refine(K _).mono ?_;rintro e w1 ⟨rfl,b1⟩) | (go_at_call 104;refine(C _).mono ?_;rintro e w2 ⟨rfl,n,rfl⟩))
 go_ret3
 exact⟨rfl,Below.drewN b1 n⟩
theorem jj7{l:List UInt8}(h:jJ l=4):yR l 10=false/\yR l 58=true/\jT (before l)=true:=by
 unfold jJ at h
 split at h;· cases h
 rename_i h10
 split at h;· cases h
 split at h;· cases h
 split at h;· cases h
 split at h
 ·rename_i q;exact⟨by simpa using h10,q.1,q.2⟩
 cases h
theorem jjm{l:List UInt8}(h:l≠[]):(B l).toList.isEmpty=false/\¬(B l).toList=[]:=by
 rw[jmY,ju];exact⟨by simpa using h,h⟩
theorem mkB(l:List UInt8):(⟨l.toArray⟩:ByteArray)=B l:=rfl
theorem jeG(k l:List UInt8)(hk:k.length<=100000)(hl:l.length<=100000)(w:World):
  Calls prog 219 #[.string (B k),.string (B l)] w fun e w'=>e=.returned (.string (B (qF k l)))/\w=w':=by
 by_cases h:l=[]
 ·have e:B (qF k l)=B k ++ ⟨#[58]⟩:=by unfold qF;rw[if_pos h];exact(jS k [58]).symm
  rw[e]
  subst h
  have hz:=jq k
  generalize B k=s at *
  rw[show B []=⟨#[]⟩ from rfl]
  go_enter func219,ntmps219
  go_wp2
  go_ret
  exact⟨rfl,rfl⟩
 have e:B (qF k l)=((B k ++ ⟨#[58]⟩) ++ ⟨#[32]⟩)++B l:=by
  unfold qF;rw[if_neg h]
  rw[show(⟨#[58]⟩:ByteArray)=B [58] from rfl,show(⟨#[32]⟩:ByteArray)=B [32] from rfl,jS,jS,jS];simp
 rw[e]
 obtain⟨n1,n2⟩:=jjm h
 have hz:=jq k
 have hz2:=jq l
 generalize B k=s at *
 generalize B l=t at *
 clear e
 go_enter func219,ntmps219
 go_wp2
 go_ret
 exact⟨rfl,rfl⟩
theorem jik(l:List UInt8):Lib.hasPrefix l [46]=(l.head?==some 46):=by
 unfold Lib.hasPrefix
 cases l with
 | nil=>rfl
 | cons a t=>simp[List.isPrefixOf,Bool.beq_comm]
theorem jiZ(l:List UInt8)(w:World):
  Calls prog 109 #[.string (B l),.string ⟨#[46]⟩] w fun e w'=>e=.returned (.bool (l.head?==some 46))/\w=w':=by
 refine(Tryz.strings_HasPrefix (B l) ⟨#[46]⟩ _).mono ?_
 rw[show(⟨#[46]⟩:ByteArray).data.toList=[46] from rfl,jik,ju]
 rintro e w' ⟨rfl,rfl⟩
 exact⟨rfl,rfl⟩
theorem GA(l:List UInt8)(hl:l.length<=100000)(w:World):
  Calls prog 220 #[.string (B l)] w fun e w'=>e=.returned (.string (B (jM l)))/\Below w.heap.size w w':=by
 have hz:=jq l
 cases hb:zx l with
 | true =>
  have e:B (jM l)=⟨#[32,46]⟩++B l:=by
   unfold jM Qe;rw[hb];exact(jS [32,46] l).symm
  rw[e]
  have T:=fun w=>jav (B l) (by omega) (by rw[ju];exact hb) w
  clear e hb
  generalize B l=s at *
  go_enter func220,ntmps220
  go_wp2_with (go_at_call 187;refine(T _).mono ?_;rintro e w1 ⟨rfl,b1⟩)
  go_ret
  exact⟨rfl,b1⟩
 | false =>
 have T:=fun w=>QQ (B l) (by omega) w
 obtain⟨n1,n2⟩:=YJ (B l) (by rw[ju];exact hb)
 have D:=jiZ l
 generalize QP (B l)=tr at *
 cases hd:(l.head?==some 46) with
 | true =>
  have e:B (jM l)=⟨#[32,46]⟩++B l:=by
   unfold jM Qe;rw[hb,hd];exact(jS [32,46] l).symm
  rw[e]
  rw[hd]at D
  clear e hb hd
  generalize B l=s at *
  go_enter func220,ntmps220
  go_wp2_with (first | (go_at_call 187;refine(T _).mono ?_;rintro e w1 ⟨rfl,b1⟩) | (go_at_call 109;refine(D _).mono ?_;rintro e w2 ⟨rfl,rfl⟩))
  go_ret
  exact⟨rfl,b1⟩
 | false =>
 have e:B (jM l)=⟨#[32]⟩++B l:=by
  unfold jM Qe;rw[hb,hd];exact(jS [32] l).symm
 rw[e]
 rw[hd]at D
 clear e hb hd
 generalize B l=s at *
 go_enter func220,ntmps220
 go_wp2_with (first | (go_at_call 187;refine(T _).mono ?_;rintro e w1 ⟨rfl,b1⟩) | (go_at_call 109;refine(D _).mono ?_;rintro e w2 ⟨rfl,rfl⟩))
 go_ret
 exact⟨rfl,b1⟩
def vf(k v:List UInt8):Value:=.agg #[.string (B k),.string (B v)]
attribute [local go_sem] jW jkl jhH
theorem Zd(k v:List UInt8)(hk:k.length<=1000000)(hv:v.length<=1000000)(w:World):
  Calls prog 192 #[vf k v] w fun e w'=>e=.returned (qi (zl k v))/\Below w.heap.size w w':=by
 have K:=fun w=>jej (B k) (by rw[jq];unfold maxLen;omega) w
 rw[ju]at K
 have hz:=jq v
 unfold zl vf
 generalize B k=s at *
 cases hg:jT k with
 | false =>
  rw[hg]at K
  generalize B v=t at *
  go_enter func192,ntmps192
  go_wp2_with (go_at_call 189;refine(K _).mono ?_;rintro e w1 ⟨rfl,rfl⟩)
  go_ret
  exact⟨rfl,(jmc _ _).alloc (jma _) _⟩
 | true =>
 rw[hg]at K
 by_cases h:v.length<=1000
 ·rw[if_pos rfl,if_pos h]
  rw[<- hz]at h
  generalize B v=t at *
  go_enter func192,ntmps192
  go_wp2_with (go_at_call 189;refine(K _).mono ?_;rintro e w1 ⟨rfl,rfl⟩)
  go_ret
  exact⟨rfl,(jmc _ _).alloc (jma _) _⟩
 rw[if_pos rfl,if_neg h]
 rw[<- hz]at h
 generalize B v=t at *
 go_enter func192,ntmps192
 go_wp2_with (go_at_call 189;refine(K _).mono ?_;rintro e w1 ⟨rfl,rfl⟩)
 go_ret
 exact⟨rfl,(jmc _ _).alloc (jma _) _⟩
theorem Gj(l:List UInt8)(h:(10:UInt8)∈l):jE l=l.take (l.takeWhile (· != 10)).length::jE (l.drop ((l.takeWhile (· != 10)).length+1)):=by
 have e:l=l.takeWhile (· != 10)++10::l.drop ((l.takeWhile (· != 10)).length+1):=by
  have a:=zA l
  unfold head nl qI at a
  have hc:l.contains 10=true:=by simpa using h
  unfold head nl at a
  rw[if_pos hc,if_pos hc]at a
  simpa using a
 have hp:(10:UInt8)∉l.takeWhile (· != 10):=fun hm=>by have:=List.all_eq_true.1 (jnT (l:=l) (p:=(· != 10))) _ hm;simp at this
 have ht:l.take (l.takeWhile (· != 10)).length=l.takeWhile (· != 10):=(List.prefix_iff_eq_take.1 (jno _)).symm
 rw[ht]
 conv=>lhs;rw[e]
 exact YX _ _ hp
theorem ZT:∀(k:Nat) (l:List UInt8),l.count 10=k->Lib.splitK [10] 0 k l=jE l
 | 0,l,h=>by
  have:(10:UInt8)∉l:=List.count_eq_zero.1 h
  rw[YY l this];rfl
 | k+1,l,h=>by
  have hm:(10:UInt8)∈l:=List.count_pos_iff.1 (by omega)
  have hp:=Gj l hm
  have hl:=yl l
  rcases qE l 10 with ⟨_,h2⟩|⟨h1,_⟩
  ·exact absurd hm h2
  unfold Lib.splitK
  rw[Lib.index_one,h1]
  rw[hp]at hl
  have hl2:=yl (l.drop ((l.takeWhile (· != 10)).length+1))
  rw[if_neg (by simp<;>omega),hp]
  simp only[jnz,jnW,List.length_singleton]
  rw[ZT k _ (by simp only[jme]at hl;omega)]
theorem Wb(l:List UInt8):Lib.splitB ⟨#[10]⟩ 0 (Lib.countB (B l) ⟨#[10]⟩) (B l)=(jE l).map B/\Lib.countB (B l) ⟨#[10]⟩+1=(jE l).length:=by
 have hc:Lib.countB (B l) ⟨#[10]⟩=l.count 10:=by
  show Lib.count (B l).data.toList [10]=_
  rw[Lib.count_one,ju]
 have h:=Lib.splitB_data ⟨#[10]⟩ 0 (Lib.countB (B l) ⟨#[10]⟩) (B l)
 rw[ju,hc]at h
 rw[hc]
 refine⟨?_,(yl l).symm⟩
 have h2:Lib.splitK (⟨#[10]⟩:ByteArray).data.toList 0 (l.count 10) l=jE l:=ZT _ l rfl
 rw[h2]at h
 rw[<- h,jnH]
 conv=>lhs;rw[<- List.map_id (Lib.splitB ⟨#[10]⟩ 0 (l.count 10) (B l))]
 exact jn7 fun s _=>(jjl s).symm
theorem jeP:(prog.info? 9).map (fun i=>(i.zero,i.size,i.bytes))=some (some (.string ByteArray.empty),1,16):=by kernel_rfl
theorem jbO(l:List UInt8)(hl:l.length<=1000000)(w:World):
  Calls prog 218 #[.string (B l),.string ⟨#[10]⟩] w fun e w' =>
   e=.returned (.slice (some ⟨w.heap.size,0,none⟩) (jE l).length (jE l).length)/\w'=w.alloc (.cells (((jE l).map B).map Value.string).toArray 9):=by
 obtain⟨p1,p2⟩:=Wb l
 have hz:=jq l
 have c:=Any.strings_genSplit_core Tryz.lays221 jeP (B l) ⟨#[10]⟩ 0 (-1) (Lib.countB (B l) ⟨#[10]⟩+1) w (by omega) (by decide) (jmo _)
  (fun x cc hx=>(Tryz.strings_Index_one x 10 _).mono (fun e w' ⟨he,hw⟩=>⟨by rw[he];show _=Ending.returned (Value.int .i64 (Lib.index x.data.toList [10]));rw[Lib.index_one],hw⟩))
  ((Tryz.strings_Count_one (B l) 10 w).mono (fun e w' ⟨he,hw⟩=>⟨by rw[he];show _=Ending.returned (Value.int .i64 ((Lib.count (B l).data.toList [10]:Nat):Int));rw[Lib.count_one];rfl,hw⟩))
  (by decide) (by decide) (by
   have:=Lib.countB_le ⟨#[10]⟩ (by decide) (B l).size (B l) (jma _)
   rw[if_pos (by decide)];omega)
 rw[Nat.add_sub_cancel,p1]at c
 have e2:Lib.cellsOf ((jE l).map B) (Lib.countB (B l) ⟨#[10]⟩+1)=(((jE l).map B).map Value.string).toArray:=by
  rw[p2,show(jE l).length=((jE l).map B).length by simp];exact Lib.cellsOf_full _
 rw[e2,jmE,p2]at c
 generalize (jE l).length=n at *
 generalize (((jE l).map B).map Value.string).toArray=cs at *
 clear p1 p2 e2
 generalize B l=s at *
 go_enter func218,ntmps218
 go_wp2_with (go_at_call 260;refine c.mono ?_;rintro e w' ⟨rfl,rfl⟩)
 go_ret
 exact⟨rfl,rfl⟩
end
section
theorem qT{w w':World}{base N:Nat}{e:TypeId}{size:Nat}{v:Value}{n:Nat}{xs:List Value}(h:w.ownsRow base e size v n xs)(hb:Below N w w')(hN:w.heap.size<=N):w'.ownsRow base e size v n xs:=by
 refine⟨h.1,?_⟩
 rcases h.2 with hn|⟨g,cap,cur,hv,hg,hc,rest⟩
 ·exact .inl hn
 refine .inr ⟨g,cap,cur,hv,hg,?_,rest⟩
 have:g<w.heap.size:=(Array.getElem?_eq_some_iff.1 hc).1
 exact(hb.block g (by omega)).trans hc
def Qo(w:World)(base:Nat)(v:Value)(ss:List ByteArray):Prop:=w.ownsRow base 9 1 v ss.length (ss.map Value.string)
theorem Qo.kept{w w':World}{base N:Nat}{v:Value}{ss:List ByteArray}(h:Qo w base v ss)(hb:Below N w w')(hN:w.heap.size<=N):Qo w' base v ss:=qT h hb hN
theorem Qo.strs{w:World}{base:Nat}{v:Value}{ss:List ByteArray}(h:Qo w base v ss):Strs w v ss:=by
 rcases jnm h with ⟨rfl,hn⟩|⟨g,cap,rfl⟩
 ·have:ss=[]:=by cases ss with | nil=>rfl | cons _ _=>simp at hn
  subst this
  exact Strs.none _ _
 refine⟨_,cap,rfl,(by rcases h.2 with ⟨q,_⟩ | ⟨g',cap',cur,q,_,_,q2,_⟩;cases q;cases q;exact q2),fun i s hs=>⟨g,0,rfl,(jnE h g rfl).2,?_⟩⟩
 have hi:i<ss.length:=by
  rcases jmF i ss.length with q|q
  ·exact q
  rw[jmZ q]at hs;cases hs
 rw[jmP,jmG h i (by omega),jmC,hs];rfl
theorem Qo.one(w:World)(base:Nat)(hb:base<=w.heap.size)(s:ByteArray):Qo (w.alloc (.cells #[.string s] 9)) base (.slice (some ⟨w.heap.size,0,none⟩) 1 1) [s] :=
 World.ownsRow_lit w #[.string s] 1 hb (by decide) rfl
theorem jdr(W:World)(x:ByteArray)(t:TypeId):∀(j:Nat) u,[Value.string x][j]?=some u->(W.alloc (.cells #[.string x] t)).cell? ((⟨W.heap.size,0,none⟩:Addr).add j)=some u:=by
 intro j u h
 have hadd:(⟨W.heap.size,0,none⟩:Addr).add j=⟨W.heap.size,j,none⟩:=by unfold Addr.add;split<;>simp_all
 rw[hadd,jny _ _ _ _ rfl]
 match j,h with
 | 0,h=>simpa using h
theorem jgr{k v:List UInt8}{p:List UInt8}{r:List (List UInt8)}(h:jE v=p::r):zm k v=qF k p::r.map jM:=by unfold zm;rw[h];rfl
theorem jef:∀(r:List (List UInt8)) (q:List UInt8),q∈r->q.length<=(r.map List.length).sum
 | [],q,h=>by simp at h
 | a::r,q,h=>by
  rcases List.mem_cons.1 h with rfl|h
  ·simp
  have:=jef r q h;simp;omega
theorem jgd{v p:List UInt8}{r:List (List UInt8)}(h:jE v=p::r):p.length<=v.length/\(∀q∈r,q.length<=v.length)/\r.length<=v.length:=by
 have a:=XX v
 rw[h]at a
 simp only[jmD,jni,jme]at a
 refine⟨by omega,fun q hq => ?_,by omega⟩
 have:q.length<=(r.map List.length).sum:=jef _ _ hq
 omega
attribute [local go_sem] jW
theorem jd9(k v:List UInt8)(hk:k.length<=100000)(hv:v.length<=100000)(w:World)(h:zl k v≠0):
  Calls prog 164 #[vf k v] w fun e w'=>e=.returned (.tuple #[.slice none 0 0,qi (zl k v)])/\Below w.heap.size w w':=by
 have C:=fun w=>Zd k v (by omega) (by omega) w
 rw[jX _ (jnu h)]at C ⊢
 generalize zl k v=n at *
 unfold vf at *
 generalize B k=s at *
 generalize B v=t at *
 go_enter func164,ntmps164
 go_wp2_with (go_at_call 192;refine(C _).mono ?_;rintro e w1 ⟨rfl,b1⟩;have c0:=b1.cell (p:=⟨w.heap.size,0,none⟩) (by simp);have c1:=b1.cell (p:=⟨w.heap.size,1,none⟩) (by simp))
 go_ret2
 exact⟨rfl,((jmc _ _).alloc (jma _) _).trans (b1.mono (by simp))⟩
theorem GQ(k l:List UInt8)(hk:k.length<=100000)(hl:l.length<=100000)(w:World):
  Calls prog 219 #[.string (B k),.string (B l)] w fun e w'=>e=.returned (.string (B (qF k l)))/\w'=w :=
 (jeG k l hk hl w).mono fun e w' ⟨a,b⟩=>⟨a,b.symm⟩
theorem jeo:(prog.info? 9).map (fun i=>(i.zero,i.size,i.bytes))=some (some (.string ⟨#[]⟩),1,16):=by kernel_rfl
theorem jd8(k v:List UInt8)(hk:k.length<=100000)(hv:v.length<=100000)(w:World)(h:zl k v=0):
  Calls prog 164 #[vf k v] w fun e w'=>∃sv base,e=.returned (.tuple #[sv,.nilIface])/\Qo w' base sv ((zm k v).map B)/\Below w.heap.size w w':=by
 have C:=fun w=>Zd k v (by omega) (by omega) w
 rw[h]at C
 clear h
 obtain⟨p,r,hp⟩:∃p r,jE v=p::r:=⟨_,_,zj v⟩
 have SP:=fun w=>jbO v (by omega) w
 rw[hp]at SP
 obtain⟨z1,z2,z3⟩:=jgd hp
 have HL:=jl9 (jgr (k:=k) hp)
 clear hp
 have F1:=fun w=>GQ k p (by omega) (by omega) w
 unfold vf at *
 generalize hfl:qF k p=fl at *
 clear hfl
 generalize B k=s at *
 generalize B v=t at *
 obtain⟨i0,hi,hz0,hz1,hz2⟩:=info_parts jeo
 go_enter func164,ntmps164
 go_wp2_with fail
 refine(C _).mono ?_
 rintro e w1 ⟨rfl,b1⟩
 have c0:=b1.cell (p:=⟨w.heap.size,0,none⟩) (by simp)
 have c1:=b1.cell (p:=⟨w.heap.size,1,none⟩) (by simp)
 have hs1:=b1.size
 go_wp2_with fail
 refine(SP _).mono ?_
 rintro e w2 ⟨rfl,hw2⟩
 have q0:w2.cell? ⟨w.heap.size,0,none⟩=some (.string s):=by
  rw[hw2,jn0 _ _ _ (jou (show w.heap.size<w1.heap.size by have:=hs1;simp at this;omega)),c0,jny _ _ _ _ rfl];rfl
 have PC:∀(j:Nat) x,(p::r)[j]?=some x->w2.cell? ⟨w1.heap.size,j,none⟩=some (.string (B x)):=by
  intro j x hx
  rw[hw2,jny _ _ _ _ rfl]
  simp only[jnH,jmh,jmC,hx];rfl
 have hb12:Below w.heap.size w w2:=by
  rw[hw2]
  exact(((jmc _ _).alloc (jma _) _).trans (b1.mono (by simp))).alloc (by simp at hs1;omega) _
 have hlt:w1.heap.size<w2.heap.size:=by rw[hw2];simp
 have e0:=PC 0 p rfl
 have hz9:w.heap.size<w1.heap.size:=by simp at hs1;omega
 have BW:=jl9 hb12
 have PCH:=jl9 (fun(j:Nat) x (hx:r[j]?=some x)=>PC (j+1) x (by simpa using hx))
 clear hw2 c0 c1 b1 hs1 PC hb12
 generalize w1.heap.size=b0 at *
 clear w1
 rw[jme]
 go_wp2_with fail
 refine wp_region_still_tail 6 (by kernel_rfl) (by kernel_rfl) ?_
 simp only[jn8,List.take_zero,jnR,jnX]
 still_step
 still_step
 still_step
 still_step
 still_step
 still_call (F1 _)
 refine wpStill_nil ?_
 change wpList _ _ _ _ _ w2.drew
 replace hlt:b0<w2.drew.heap.size:=hlt
 replace BW:Hid (Below w.heap.size w w2.drew):=BW.out.drew
 replace PCH:Hid (∀(j:Nat) x,r[j]?=some x->w2.drew.cell? ⟨b0,j+1,none⟩=some (.string (B x))):=PCH
 clear q0 e0 SP C F1
 generalize w2.drew=w3 at *
 have hw3:=BW.out.size
 go_wp2_with fail
 ·subst h
  go_loopw [6,27] (fun v6 i wr=>i=.int .i64 0/\Qo wr w3.heap.size v6 [B fl]/\Below w3.heap.size w3 wr) (fun _ i _=>0)
  case atStart=>exact⟨rfl,Qo.one w3 _ (jma _) _,(jmc _ _).alloc (jma _) _⟩
  case round =>
  obtain⟨rfl,hown,hb⟩:=hrel
  go_wp2_with fail
  go_ret2
  exact⟨_,_,rfl,by rw[HL.out];exact hown,BW.out.trans (hb.mono hw3)⟩
 go_loopw [6,27] (fun v6 i wr=>∃(k:Nat),k<=r.length/\i=.int .i64 k/\Qo wr w3.heap.size v6 ((fl::(r.take k).map jM).map B)/\Below w3.heap.size w3 wr) (fun _ i _=>r.length-(intOf i).toNat)
 case atStart=>exact⟨0,jmo _,rfl,Qo.one w3 _ (jma _) _,(jmc _ _).alloc (jma _) _⟩
 case round =>
 obtain⟨k,hkr,rfl,hown,hb⟩:=hrel
 by_cases hkl:k<r.length
 ·obtain⟨x,hx⟩:∃x,r[k]?=some x:=⟨_,jmd hkl⟩
  have hcx:=PCH.out k x hx
  have hcx2:=(hb.cell (p:=⟨b0,k+1,none⟩) hlt).trans hcx
  rw[Nat.add_comm k 1]at hcx2
  have hxl:=z2 x (jmx hx)
  have TK:Hid ((fl::(r.take (k+1)).map jM).map B=(fl::(r.take k).map jM).map B++[B (jM x)]):=by
   show _=_
   rw[jmO,hx];simp
  have FT:=fun w=>GA x (by omega) w
  have hll:((fl::(r.take k).map jM).map B).length=k+1:=by simp;omega
  have HLL:=jl9 hll
  clear hx hcx
  generalize (fl::(r.take k).map jM).map B=ls at *
  go_wp2_with fail
  refine(FT _).mono ?_
  rintro e w4 ⟨rfl,b4⟩
  have hown4:w4.ownsRow w3.heap.size 9 1 u6 ls.length (ls.map Value.string):=hown.kept b4 (jma _)
  have hs4:=b4.size
  have hs3:=hb.size
  have HC:=jl9 (jdr w4 (B (jM x)) 9)
  have hb4:Below w3.heap.size w3 w4:=hb.trans (b4.mono hs3)
  clear hown b4
  generalize jM x=y at *
  go_wp2_with (at_builtin;refine wpList_append_own _ rfl _ _ 56 rfl w3.heap.size 9 i0 _ 1 16 underlying56 hi hz0 hz1 hz2 rfl (by decide) _ _ _ rfl (hown4.alloc _) ⟨w4.heap.size,0,none⟩ 1 1 _ rfl rfl HC.out ?c2 ?c3 ?c4 ?c5 ?_)
  case c2=>intro u hu;simp at hu;subst hu;rfl
  case c3=>unfold maxLen;omega
  case c4=>omega
  case c5=>simp;omega
  intro v' w5 hown' hgrow _
  obtain⟨g',cap',rfl⟩:=ownsRow_succ hown'
  have hb5:Below w3.heap.size w3 w5:=(hb4.alloc (by omega) _).grown hgrow (by simp;omega) (fun j ej=>(hown4.lt j ej).1)
  go_wp2_with fail
  go_roundw
  case rel =>
   refine⟨k+1,hkl,by go_num,?_,hb5⟩
   rw[TK.out]
   unfold Qo
   rw[jmb,jnh,HLL.out];exact hown'
  case measure=>simp[intOf];omega
 obtain rfl:k=r.length:=by omega
 rw[jmJ]at hown
 go_wp2_with fail
 go_ret2
 exact⟨_,_,rfl,by rw[HL.out];exact hown,BW.out.trans (hb.mono hw3)⟩
end
def jfy(want:Nat):List (List UInt8)->Bool
 | []=>true
 | a::r=>(jJ a==want)&&jfy 3 r
theorem jaH:∀r:List (List UInt8),jfy 3 r=r.all (fun l=>jJ l==3)
 | []=>rfl
 | a::r=>by unfold jfy;rw[jaH r,jn5]
theorem jif(ls:List (List UInt8)):jbU ls=(decide (0<ls.length)&&jfy 4 ls):=by
 cases ls with
 | nil=>rfl
 | cons a r=>unfold jbU jfy;rw[jaH];simp
theorem jdx(ls:List (List UInt8))(k want:Nat)(x:List UInt8)(h:ls[k]?=some x):jfy want (ls.drop k)=((jJ x==want)&&jfy 3 (ls.drop (k+1))):=by
 have hk:k<ls.length:=by
  rcases jmF k ls.length with q|q
  ·exact q
  rw[jmZ q]at h;cases h
 rw[jnn hk]
 rw[jmd hk]at h
 rw[jmf h];rfl
theorem jgu(l:List UInt8):jJ l<=5:=by
 unfold jJ
 split;· decide
 split;· decide
 split;· decide
 split;· decide
 split<;>decide
theorem jkx{w:World}{A:Option Addr}{ls:List (List UInt8)}(hc:∀(i:Nat) (s:ByteArray),(ls.map B)[i]?=some s->∃b off,A=some ⟨b,off,none⟩/\b<w.heap.size/\w.cell? ⟨b,off+i,none⟩=some (.string s)):
  ∀(i:Nat) (x:List UInt8),ls[i]?=some x->∃b off,A=some ⟨b,off,none⟩/\b<w.heap.size/\w.cell? ⟨b,off+i,none⟩=some (.string (B x)) :=
 fun i x hx=>hc i (B x) (by rw[jmC,hx];rfl)
theorem jdw(ls:List (List UInt8))(v:Value)(w:World)(hs:Strs w v (ls.map B))(hl:∀l∈ls,l.length<=100000)(hn:ls.length<=100000):
  Calls prog 190 #[v] w fun e w'=>e=.returned (.bool (jbU ls))/\Below w.heap.size w w':=by
 obtain⟨A,cap,rfl,hle,hc⟩:=hs
 have hcb:=jkx hc
 have PC:=jl9 hcb
 have HF:=jl9 (jif ls)
 clear hc hcb
 rw[jmE]
 go_enter func190,ntmps190
 go_wp2_with fail
 go_loopw [3,8] (fun v3 i wr=>∃k want:Nat,k<=ls.length/\want<=5/\i=.int .i64 k/\v3=.int .i64 want/\jfy 4 ls=jfy want (ls.drop k)/\Below w.heap.size w wr) (fun _ i _=>ls.length-(intOf i).toNat)
 case atStart=>exact⟨0,4,jmo _,by decide,rfl,rfl,rfl,jmc _ _⟩
 case round =>
 obtain⟨k,want,hk,hwt,rfl,rfl,hG,hb⟩:=hrel
 by_cases hlt:k<ls.length
 ·obtain⟨x,hx⟩:∃x,ls[k]?=some x:=⟨_,jmd hlt⟩
  obtain⟨b,off,rfl,hbb,hcell⟩:=PC.out k x hx
  have hcx:=(hb.cell (p:=⟨b,off+k,none⟩) hbb).trans hcell
  have hxl:=hl x (jmx hx)
  have KX:=fun w=>JQ (B x) (by rw[jq];unfold maxLen;omega) w
  rw[ju]at KX
  rw[jdx ls k want x hx]at hG
  have GH:=jl9 hG
  have hk5:=jgu x
  clear hx hcell hG
  generalize jJ x=kx at *
  go_wp2_with fail
  refine(KX _).mono ?_
  rintro e w1 ⟨rfl,b1⟩
  by_cases hkx:kx=want
  ·subst hkx
   go_wp2_with fail
   go_roundw
   case rel=>exact⟨k+1,3,hlt,by decide,by go_num,rfl,by rw[GH.out];simp,hb.trans (b1.mono hb.size)⟩
   case measure=>simp[intOf];omega
  have e1:((kx:Int)==(want:Int))=false:=by rw[beq_eq_false_iff_ne];omega
  have e2:((kx:Int) != (want:Int))=true:=by rw[bne,e1];rfl
  have e3:(kx==want)=false:=by rw[beq_eq_false_iff_ne];exact hkx
  rw[e3]at GH
  clear hkx e3
  go_wp2_with fail
  go_ret
  exact⟨by rw[HF.out,GH.out];simp,hb.trans (b1.mono hb.size)⟩
 obtain rfl:k=ls.length:=by omega
 rw[jnC]at hG
 have GH:=jl9 hG
 clear hG
 go_wp2_with fail
 go_ret
 exact⟨by rw[HF.out,GH.out];simp[jfy],hb⟩
theorem jhX(l:List UInt8)(w:World):
  Calls prog 137 #[.string (B l),.string ⟨#[32]⟩] w fun e w'=>e=.returned (.string (B (yo l)))/\w=w':=by
 refine(Tryz.strings_TrimPrefix (B l) ⟨#[32]⟩ _).mono ?_
 rintro e w' ⟨rfl,rfl⟩
 refine⟨?_,rfl⟩
 rw[ju,show(⟨#[32]⟩:ByteArray).data.toList=[32] from rfl]
 unfold Lib.trimPrefix Lib.hasPrefix yo B
 cases l with
 | nil=>rfl
 | cons a t =>
 by_cases h:a=32
 ·subst h;simp[List.isPrefixOf]
 have h2:((32:UInt8)==a)=false:=by rw[beq_eq_false_iff_ne];exact jof h
 simp[List.isPrefixOf,h2,h]
theorem jfK(l:List UInt8)(w:World):
  Calls prog 137 #[.string (B l),.string ⟨#[46]⟩] w fun e w'=>e=.returned (.string (B (zN l)))/\w=w':=by
 refine(Tryz.strings_TrimPrefix (B l) ⟨#[46]⟩ _).mono ?_
 rintro e w' ⟨rfl,rfl⟩
 refine⟨?_,rfl⟩
 rw[ju,show(⟨#[46]⟩:ByteArray).data.toList=[46] from rfl]
 unfold Lib.trimPrefix Lib.hasPrefix zN B
 cases l with
 | nil=>rfl
 | cons a t =>
 by_cases h:a=46
 ·subst h;simp[List.isPrefixOf]
 have h2:((46:UInt8)==a)=false:=by rw[beq_eq_false_iff_ne];exact jof h
 simp[List.isPrefixOf,h2,h]
theorem Ww:∀ls:List (List UInt8),Lib.join ls [10]=vM ls
 | []=>rfl
 | [p]=>by simp[Lib.join,List.intercalate,vM]
 | p::q::r=>by
  have ih:=Ww (q::r)
  unfold Lib.join at ih ⊢
  show _=p++10::vM (q::r)
  rw[<- ih]
  simp[List.intercalate,List.intersperse]
theorem jk9(a:List UInt8):jgc (B a)=B (before a):=by
 rw[<- jjl (jgc (B a)),QV,ju]
theorem jjU(a:List UInt8):jdN (B a)=B (ya a):=by
 rw[<- jjl (jdN (B a))]
 unfold jdN ya
 rw[jod,ju]
theorem jlf{x:List UInt8}(h:jJ x=3):∃c d t,x=c::d::t:=by
 unfold jJ at h
 split at h;· cases h
 split at h;· cases h
 rename_i hb
 split at h;· cases h
 split at h
 ·rename_i hg
  cases x with
  | nil=>cases hg
  | cons c t =>
  cases t with
  | nil =>
   exfalso;apply hb
   have:vq c=true:=hg
   simp[zx,this]
  | cons d t=>exact⟨c,d,t,rfl⟩
 split at h<;>cases h
theorem jjK(c:UInt8)(t:List UInt8):(B (c::t)).extract 1 (B (c::t)).size=B t:=by
 rw[<- jjl ((B (c::t)).extract 1 _),jod,ju];rfl
end Go.Proofs.YtpibhbjmcmfnmaaGreatDoor
