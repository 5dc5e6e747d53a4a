/- Texts put together:WB,WC,WD,WE,WF,FA,FB,FC,FD,FE,FF,FG. -/
import Derived.Deep.RegionWith
import Derived.Deep.AppendLies
import Derived.Deep.RegionHeld3
import Derived.Shelf.Abstract
import Derived.Shelf.RegionOpen
import Derived.OwnWalkIn
import Derived.TacticsInMore
import Derived.LoopNIn
import Derived.LoopIn
import Derived.Shelf.Strings.SlTrimAscii
import Derived.Lib.IndexBytes
import Derived.StillTailTactics
import Derived.Test.YtpibhbjmcmfnmaaGreatDoorBag9
set_option linter.unusedVariables false
set_option maxRecDepth 100000
set_option maxHeartbeats 16000000
namespace Go.Proofs.YtpibhbjmcmfnmaaGreatDoor
open Go.RowKit Go.Shelf Tryz
abbrev joi:=@Go.Boxed.set
abbrev jol:=@List.map_append
abbrev joy:=@Go.Boxed.new
abbrev joC:=@Nat.pos_of_ne_zero
abbrev joF:=@Go.World.cell?_alloc_at
abbrev jo6:=@List.singleton_append
abbrev jo7:=@Go.World.cell?_alloc_old
abbrev jph:=@List.take_succ_cons
abbrev jpm:=@Go.Lib.extract_to_end
abbrev jpv:=@Go.Boxed.alloc
abbrev jpE:=@Nat.ne_of_lt
def jhn(s:ByteArray):ByteArray:=if nl s.data.toList then s.extract ((head s.data.toList).length+1) s.size else ⟨#[]⟩
theorem vO{p:UInt8->Bool}:∀{l:List UInt8},(∀x∈l,p x=true)->l.takeWhile p=l
 | [],_=>rfl
 | a::l,h=>by rw[joe,h a (by simp),if_pos rfl,vO fun x hx=>h x (by simp[hx])]
theorem jiK(s:ByteArray)(w:World)(hs:s.size<=maxLen):
  Calls prog 104 #[.string s,.string ⟨#[10]⟩] w fun e w'=>e=.returned (.tuple #[.string ⟨(head s.data.toList).toArray⟩,.string (jhn s),.bool (nl s.data.toList)])/\∃n,w'=w.drewN n:=by
 by_cases h:(10:UInt8)∈s.data.toList
 ·have e1:nl s.data.toList=true:=by unfold nl;simpa using h
  have e2:s.extract 0 (s.data.toList.takeWhile (· != 10)).length=⟨(head s.data.toList).toArray⟩:=by
   have h0:=joX s 0 (s.data.toList.takeWhile (· != 10)).length
   rw[<- joz (s.extract 0 _),h0]
   have:List.take ((s.data.toList.takeWhile (· != 10)).length-0) (List.drop 0 s.data.toList)=head s.data.toList:=by
    rw[jop,Nat.sub_zero]
    exact(List.prefix_iff_eq_take.1 (jou _)).symm
   rw[this]
  refine(WR s 10 w hs h).mono ?_
  rintro e w' ⟨rfl,n,rfl⟩
  refine⟨?_,n,rfl⟩
  rw[e1,e2];unfold jhn;rw[if_pos e1];rfl
 have e1:nl s.data.toList=false:=by unfold nl;simpa using h
 have e2:head s.data.toList=s.data.toList:=by
  exact vO fun x hx=>by simp;rintro rfl;exact h hx
 refine(jcr s 10 w h).mono ?_
 rintro e w' ⟨rfl,n,rfl⟩
 refine⟨?_,n,rfl⟩
 rw[e1,e2,joz];unfold jhn;rw[e1];rfl
structure Two(b c:Nat)(W W':World):Prop where
 os:W'.os=W.os
 tape:W'.tape=W.tape
 output:W'.output=W.output
 size:W.heap.size<=W'.heap.size
 same:∀r,r<W.heap.size->r≠b->r≠c->W'.heap[r]?=W.heap[r]?
theorem Two.refl(b c:Nat)(W:World):Two b c W W:=⟨rfl,rfl,rfl,jnd _,fun _ _ _ _=>rfl⟩
theorem Two.alloc{b c:Nat}{X Y:World}(h:Two b c X Y)(o:Obj):Two b c X (Y.alloc o) :=
 ⟨h.os,h.tape,h.output,by simp;have:=h.size;omega,fun r a x y=>(jov _ _ _ (jnw a h.size)).trans (h.same r a x y)⟩
theorem Two.setCell{b c:Nat}{X Y:World}(h:Two b c X Y){p:Addr}(hp:p.block=b\/p.block=c\/X.heap.size<=p.block)(u:Value):Two b c X (Y.setCell p u) :=
 ⟨h.os,h.tape,h.output,by simp only[World.setCell,Array.size_modify];exact h.size,fun r a x y=>(jnE _ _ _ _ (by omega)).trans (h.same r a x y)⟩
theorem Two.drew{b c:Nat}{X Y:World}(h:Two b c X Y):Two b c X Y.drew:=⟨h.os,h.tape,h.output,h.size,h.same⟩
theorem Two.drewN{b c:Nat}{X Y:World}(h:Two b c X Y)(n:Nat):Two b c X (Y.drewN n):=⟨h.os,h.tape,h.output,h.size,h.same⟩
theorem Two.box{b c d:Nat}{X Y:World}{t:TypeId}{v:Value}(h:Two b c X Y)(hv:Boxed X d t v)(x:d≠b)(y:d≠c):Boxed Y d t v :=
 (h.same d hv.lt x y).trans hv
theorem Two.turned{b c B k:Nat}{X Y:World}(h:Two b c X Y)(hb:B<=b/\b<B+k)(hc:B<=c/\c<B+k):zh B k X Y :=
 ⟨h.os,h.tape,h.output,h.size,fun r a x=>h.same r a (by omega) (by omega)⟩
theorem jj2(s:ByteArray)(at_:Nat)(Bat Btx Bno:Nat)(w:World)(hat:Boxed w Bat 3 (.int .i64 at_))(htx:Boxed w Btx 9 (.string s))(he:at_=s.size):
  Calls prog 185 #[.pointer (some ⟨Bat,0,none⟩),.pointer (some ⟨Btx,0,none⟩),.pointer (some ⟨Bno,0,none⟩)] w fun e w' =>
   e=.returned (.tuple #[.agg #[.int .i64 0,.int .i64 0,.string ⟨#[]⟩,.bool false],.bool false])/\Two Bno Bat w w':=by
 have c1:=hat.cell
 have c2:=htx.cell
 have z1:=hat.lt
 have z2:=htx.lt
 have e1:((at_:Int)==(s.size:Int))=true:=by rw[he];simp
 go_enter func185,ntmps185
 go_wp2
 refine bodyPost_ret (v:=.tuple #[.agg #[.int .i64 0,.int .i64 0,.string ⟨#[]⟩,.bool false],.bool false]) (by simp[results,results185,go_sem]) rfl ⟨rfl,?_⟩
 exact(Two.refl _ _ _).alloc _
theorem jhJ(s:ByteArray)(at_ no:Nat)(Bat Btx Bno:Nat)(w:World)(hat:Boxed w Bat 3 (.int .i64 at_))(htx:Boxed w Btx 9 (.string s))(hno:Boxed w Bno 3 (.int .i64 no))
  (h1:at_<s.size) (h2:no<s.size) (hs:s.size<=4294967295) (d1:Bat≠Btx) (d2:Bat≠Bno) (d3:Btx≠Bno) :
  Calls prog 185 #[.pointer (some ⟨Bat,0,none⟩),.pointer (some ⟨Btx,0,none⟩),.pointer (some ⟨Bno,0,none⟩)] w fun e w' =>
   e=.returned (.tuple #[.agg (vl ⟨no,at_,head (s.data.toList.drop at_),nl (s.data.toList.drop at_)⟩),.bool true])/\Two Bno Bat w w'/\Boxed w' Bno 3 (.int .i64 (no+1:Nat))/\Boxed w' Bat 3 (.int .i64 (at_+qI (s.data.toList.drop at_):Nat)):=by
 have c1:=hat.cell
 have c2:=htx.cell
 have c3:=hno.cell
 have f3:=hno.frozen
 have z1:=hat.lt
 have z2:=htx.lt
 have z3:=hno.lt
 have e1:((at_:Int)==(s.size:Int))=false:=by rw[beq_eq_false_iff_ne];omega
 go_enter func185,ntmps185
 go_wp2_with fail
 have hx:(s.extract at_ s.size).data.toList=s.data.toList.drop at_:=jpm s at_
 have hz:(s.extract at_ s.size).size<=maxLen:=by rw[jnu,hx];unfold maxLen;simp only[jnr,<- jnu];omega
 refine(jiK (s.extract at_ s.size) _ hz).mono ?_
 rw[hx]
 rintro e w1 ⟨rfl,n1,rfl⟩
 have hu:(head (s.data.toList.drop at_)).length+(Wx (nl (s.data.toList.drop at_))).size=qI (s.data.toList.drop at_):=by
  unfold qI Wx;cases nl (s.data.toList.drop at_)<;>rfl
 have hul:=KL (s.data.toList.drop at_)
 rw[jnr,<- jnu]at hul
 have hu':(⟨(head (s.data.toList.drop at_)).toArray⟩:ByteArray).size=(head (s.data.toList.drop at_)).length:=by simp[Lib.size_eq]
 generalize hhd:head (s.data.toList.drop at_)=hd at *
 generalize hen:nl (s.data.toList.drop at_)=en at *
 generalize hus:qI (s.data.toList.drop at_)=us at *
 have H1:=jnc hhd
 have H2:=jnc hen
 have H3:=jnc hus
 clear hhd hen hus
 generalize jhn (s.extract at_ s.size)=rs at *
 have HU:=jnc hu
 have HU':=jnc hu'
 clear hu hu' hx hz
 go_upto_region 5 with fail
 go_cut [] (fun wx=>Two Bno Bat w wx/\wx.heap.size=w.heap.size+1+1/\Boxed wx Bno 3 (.int .i64 (no+1:Nat))/\Boxed wx Bat 3 (.int .i64 at_) /\
  ja wx w.heap.size 164 #[.int .i64 0,.int .i64 0,.string ⟨#[]⟩,.bool false]/\ja wx (w.heap.size+1) 164 #[.int .i64 no,.int .i64 at_,.string ⟨hd.toArray⟩,.bool en])
 case first =>
  go_wp2_with fail
  go_meet
  refine⟨?_,?_,?_,?_,?_,?_⟩
  ·exact(((((((Two.refl Bno Bat w).alloc _).alloc _).drewN n1).setCell (.inr (.inr (by simp))) _).setCell (.inr (.inr (by simp))) _).setCell (.inl rfl) _)
  ·simp[World.setCell]
  ·exact joi _ (ja.other (ja.other (((ja.alloc (ja.alloc hno _) _).drewN n1)) (by simp;omega) _) (by simp;omega) _)
  ·exact ja.other (ja.other (ja.other (((ja.alloc (ja.alloc hat _) _).drewN n1)) (by simp;omega) _) (by simp;omega) _) d2 _
  ·exact ja.other (ja.other (ja.other (((ja.alloc (ja.new w _ _) _).drewN n1)) (by simp) _) (by simp) _) (by simp;omega) _
  have h0:=ja.new (w.alloc (.cells #[.int .i64 0,.int .i64 0,.string ⟨#[]⟩,.bool false] 164)) 164 #[.int .i64 no,.int .i64 at_,.string ⟨#[]⟩,.bool false]
  rw[jnB]at h0
  exact ja.other (((h0.drewN n1).set 2 (.string ⟨hd.toArray⟩)).set 3 (.bool en)) (by simp;omega) _
 case rest =>
 obtain⟨t1,t2,t3,t4,t5,t6⟩:=hcut
 have t3':=jnc t3
 have q0:=t4.cell
 have q2:wc.cell? ⟨w.heap.size+1,2,none⟩=some (.string ⟨hd.toArray⟩):=t6.cell 2
 have q3:wc.cell? ⟨w.heap.size+1,0,none⟩=some (.int .i64 no):=t6.cell 0
 have q4:wc.cell? ⟨w.heap.size+1,1,none⟩=some (.int .i64 at_):=t6.cell 1
 have g1:(wc.alloc (.cells #[.int .i64 no,.int .i64 at_,.string ⟨hd.toArray⟩,.bool en] 164)).cell? ⟨Bat,0,none⟩=some (.int .i64 at_):=(jpv t4 _).cell
 have g2:(wc.alloc (.cells #[.int .i64 no,.int .i64 at_,.string ⟨hd.toArray⟩,.bool en] 164)).frozen? ⟨Bat,0,none⟩=false:=(jpv t4 _).frozen
 have keepA:∀o,((wc.alloc o).cell? ⟨w.heap.size+1,0,none⟩=some (.int .i64 no)/\(wc.alloc o).cell? ⟨w.heap.size+1,1,none⟩=some (.int .i64 at_)/\(wc.alloc o).cell? ⟨w.heap.size+1,2,none⟩=some (.string ⟨hd.toArray⟩)/\(wc.alloc o).cell? ⟨w.heap.size+1,3,none⟩=some (.bool en)) :=
  fun o=>⟨(ja.alloc t6 o).cell 0,(ja.alloc t6 o).cell 1,(ja.alloc t6 o).cell 2,(ja.alloc t6 o).cell 3⟩
 have keepB:∀o v,(((wc.alloc o).setCell ⟨Bat,0,none⟩ v).cell? ⟨w.heap.size+1,0,none⟩=some (.int .i64 no)/\((wc.alloc o).setCell ⟨Bat,0,none⟩ v).cell? ⟨w.heap.size+1,1,none⟩=some (.int .i64 at_)/\((wc.alloc o).setCell ⟨Bat,0,none⟩ v).cell? ⟨w.heap.size+1,2,none⟩=some (.string ⟨hd.toArray⟩)/\((wc.alloc o).setCell ⟨Bat,0,none⟩ v).cell? ⟨w.heap.size+1,3,none⟩=some (.bool en)) :=
  fun o v=>by
   have hne:w.heap.size+1≠Bat:=by omega
   exact⟨((ja.alloc t6 o).other hne v).cell 0,((ja.alloc t6 o).other hne v).cell 1,((ja.alloc t6 o).other hne v).cell 2,((ja.alloc t6 o).other hne v).cell 3⟩
 have g3:(wc.alloc (.cells #[.int .i64 no,.int .i64 at_,.string ⟨hd.toArray⟩,.bool en] 164)).cell? ⟨w.heap.size+1,2,none⟩=some (.string ⟨hd.toArray⟩):=(ja.alloc t6 _).cell 2
 clear keepA keepB
 have n0:(Wx en).size<=1:=by unfold Wx;cases en<;>decide
 have n1:hd.length<=4294967295:=by have:=HU.out;omega
 have n2:hd.length+(Wx en).size<=s.size-at_:=by have:=HU.out;omega
 have n3:IntKind.i64.wrap ((hd.length:Int)+((Wx en).size:Int))=(hd.length:Int)+((Wx en).size:Int):=jn1 _ (by omega)
 have n4:IntKind.i64.wrap ((at_:Int)+((hd.length:Int)+((Wx en).size:Int)))=(at_:Int)+((hd.length:Int)+((Wx en).size:Int)):=jn1 _ (by omega)
 have q5:wc.cell? ⟨w.heap.size+1,3,none⟩=some (.bool en):=t6.cell 3
 go_upto_region 6 with fail
 go_cut [] (fun wx=>Two Bno Bat w wx/\Boxed wx Bno 3 (.int .i64 (no+1:Nat))/\Boxed wx Bat 3 (.int .i64 (at_+us:Nat)) /\
  ja wx w.heap.size 164 #[.int .i64 0,.int .i64 0,.string ⟨#[]⟩,.bool false]/\ja wx (w.heap.size+1) 164 #[.int .i64 no,.int .i64 at_,.string ⟨hd.toArray⟩,.bool en])
 case first =>
  go_region_with (go_at_call 166;refine(jbf _ _ _ _ _).mono ?_;rintro e w1 ⟨rfl,rfl⟩)
  all_goals
   go_wp2_with fail
   go_meet
   have e9:Value.int .i64 ((at_:Int)+((hd.length:Int)+((Wx en).size:Int)))=Value.int .i64 ((at_+us:Nat):Int):=by have:=HU.out;congr 1;omega
   rw[e9]
   exact⟨((t1.alloc _).setCell (.inr (.inl rfl)) _).drew,ja.other (ja.alloc t3 _) (fun e=>d2 e.symm) _,joi _ (jpv t4 _),ja.other (ja.alloc t5 _) (by simp;omega) _,ja.other (ja.alloc t6 _) (by simp;omega) _⟩
 case rest =>
 obtain⟨r1,r2,r3,r4,r5⟩:=hcut
 have s0:wc.cell? ⟨w.heap.size+1,0,none⟩=some (.int .i64 no):=r5.cell 0
 have s1:wc.cell? ⟨w.heap.size+1,1,none⟩=some (.int .i64 at_):=r5.cell 1
 have s2:wc.cell? ⟨w.heap.size+1,2,none⟩=some (.string ⟨hd.toArray⟩):=r5.cell 2
 have s3:wc.cell? ⟨w.heap.size+1,3,none⟩=some (.bool en):=r5.cell 3
 have s4:wc.cell? ⟨w.heap.size,0,none⟩=some (.int .i64 0):=r4.cell 0
 have s5:wc.cell? ⟨w.heap.size,1,none⟩=some (.int .i64 0):=r4.cell 1
 have s6:wc.cell? ⟨w.heap.size,2,none⟩=some (.string ⟨#[]⟩):=r4.cell 2
 have s7:wc.cell? ⟨w.heap.size,3,none⟩=some (.bool false):=r4.cell 3
 have y0:=r4.frozen 0
 have y1:=r4.frozen 1
 have y2:=r4.frozen 2
 have y3:=r4.frozen 3
 go_wp2_with fail
 have k4:=(((r4.set 0 (.int .i64 no)).set 1 (.int .i64 at_)).set 2 (.string ⟨hd.toArray⟩)).set 3 (.bool en)
 have w0:=k4.cell 0
 have w1:=k4.cell 1
 have w2:=k4.cell 2
 have w3:=k4.cell 3
 simp at w0 w1 w2 w3
 refine bodyPost_ret (v:=.tuple #[.agg #[.int .i64 no,.int .i64 at_,.string ⟨hd.toArray⟩,.bool en],.bool true]) (by simp[results,results185,go_sem,w0,w1,w2,w3]) rfl ?_
 have z5:Bat≠w.heap.size:=by omega
 have z6:Bno≠w.heap.size:=by omega
 refine⟨by rw[H1.out,H2.out];rfl,?_,?_,?_⟩
 ·exact(((r1.setCell (.inr (.inr (jnd _))) _).setCell (.inr (.inr (jnd _))) _).setCell (.inr (.inr (jnd _))) _).setCell (.inr (.inr (jnd _))) _
 ·exact ja.other (ja.other (ja.other (ja.other r2 z6 _) z6 _) z6 _) z6 _
 rw[H3.out];exact ja.other (ja.other (ja.other (ja.other r3 z5 _) z5 _) z5 _) z5 _
section
attribute [local go_sem] jnn
theorem jig(s:ByteArray)(w:World):
  Calls prog 140 #[.string s] w fun e w'=>e=.returned (.func (.func 185) #[] #[.pointer (some ⟨w.heap.size+1+1,0,none⟩),.pointer (some ⟨w.heap.size,0,none⟩),.pointer (some ⟨w.heap.size+1,0,none⟩)]) /\
   w'=((w.alloc (.cells #[.string s] 9)).alloc (.cells #[.int .i64 0] 3)).alloc (.cells #[.int .i64 0] 3):=by
 go_enter func140,ntmps140
 go_wp2
 go_ret
 exact⟨rfl,rfl⟩
theorem jfc(s:ByteArray)(at_ no:Nat)(Bat Btx Bno:Nat)(w:World)(hat:Boxed w Bat 3 (.int .i64 at_))(htx:Boxed w Btx 9 (.string s))(hno:Boxed w Bno 3 (.int .i64 no))
  (h1:at_<s.size) (h2:no<s.size) (hs:s.size<=4294967295) (d1:Bat≠Btx) (d2:Bat≠Bno) (d3:Btx≠Bno) (hd:List UInt8) (en:Bool) (us:Nat)
  (H1:head (s.data.toList.drop at_)=hd) (H2:nl (s.data.toList.drop at_)=en) (H3:qI (s.data.toList.drop at_)=us) :
  Calls prog 185 #[.pointer (some ⟨Bat,0,none⟩),.pointer (some ⟨Btx,0,none⟩),.pointer (some ⟨Bno,0,none⟩)] w fun e w' =>
   e=.returned (.tuple #[.agg #[.int .i64 no,.int .i64 at_,.string ⟨hd.toArray⟩,.bool en],.bool true])/\Two Bno Bat w w'/\Boxed w' Bno 3 (.int .i64 (no+1:Nat))/\Boxed w' Bat 3 (.int .i64 (at_+us:Nat)):=by
 subst H1 H2 H3
 exact jhJ s at_ no Bat Btx Bno w hat htx hno h1 h2 hs d1 d2 d3
def jl8(B:Nat)(w:World):Nat:=match w.cell? ⟨B,0,none⟩ with | some (.int _ n)=>n.toNat | _=>0
theorem Qn{B:Nat}{w:World}{t:TypeId}{n:Nat}(h:Boxed w B t (.int .i64 n)):jl8 B w=n:=by unfold jl8;rw[h.cell];simp
theorem vf(s:ByteArray)(Bs:Nat)(w:World)(hbox:Boxed w Bs 9 (.string s))(hs:s.size<=4294967295):
  jk8 prog 139 #[.pointer (some ⟨Bs,0,none⟩)] (fun x=>#[.agg (vl x)]) 3 (jf s.data.toList) w:=by
 intro l J Jx W hW hJ hY h0
 have hb:Boxed W Bs 9 (.string s):=(hW.block Bs hbox.lt).trans hbox
 have c0:=hb.cell
 refine callsIn_of_wp func139 rfl trivial ?_ rfl
 simp only[ntmps139,jnV,jni,jnG,Nat.reduceAdd,Nat.reduceSub,jn3,jn4,joa,jn5,jnU,jny]
 gi_wp2_with (refine⟨trivial,?_⟩;gi_at_call 140;refine(callsIn_wide.2 (jig s _)).mono ?_;rintro e w' ⟨rfl,rfl⟩)
 gi_loopw [4] (fun _ wr=>∃pre at_,jf s.data.toList=pre++jQ pre.length at_ (s.data.toList.drop at_)/\at_<=s.size/\pre.length<=at_/\Boxed wr W.heap.size 9 (.string s) /\
   Boxed wr (W.heap.size+1) 3 (.int .i64 (pre.length:Nat))/\Boxed wr (W.heap.size+1+1) 3 (.int .i64 at_)/\J pre wr)
  (fun _ wr=>s.size-jl8 (W.heap.size+1+1) wr)
 case atStart =>
  refine⟨[],0,rfl,jnt _,jnd _,?_,?_,?_,hJ.alloc _ (hJ.alloc _ (hJ.alloc _ h0))⟩
  ·exact((joy W _ _).alloc _).alloc _
  ·have:=(joy (W.alloc (.cells #[.string s] 9)) 3 (.int .i64 0)).alloc (.cells #[.int .i64 0] 3)
   rw[jnB]at this;exact this
  have:=joy ((W.alloc (.cells #[.string s] 9)).alloc (.cells #[.int .i64 0] 3)) 3 (.int .i64 0)
  rw[jnB,jnB]at this;exact this
 case round =>
 obtain⟨pre,at_,hx,ha,hn,b1,b2,b3,hj⟩:=hrel
 by_cases he:at_=s.size
 ·gi_wp2_with (refine⟨trivial,?_⟩;gi_at_call 185;refine(callsIn_wide.2 (jj2 s at_ _ _ _ _ b3 b1 he)).mono ?_;rintro e w' ⟨rfl,h2⟩)
  refine⟨fun _ h=>(by cases h),?_⟩
  gi_wp2
  refine bodyPost_ret (results_none rfl _ _ _) rfl ⟨⟨_,rfl⟩,.inl ?_⟩
  rw[he,jn6 (by rw[<- jnu];exact jnd _),jp,jnR]at hx
  rw[hx]
  exact hJ.alloc _ (hJ _ _ _ hj (h2.turned (by omega) (by omega)))
 have hlt:at_<s.size:=by omega
 have hne:s.data.toList.drop at_≠[]:=by
  intro e;have:=congrArg List.length e;rw[jnr,<- jnu]at this;simp at this;omega
 rw[jx _ _ _ hne,joJ]at hx
 have hu:=qO _ hne
 have hul:=KL (s.data.toList.drop at_)
 rw[jnr,<- jnu]at hul
 generalize hhd:head (s.data.toList.drop at_)=hd at *
 generalize hen:nl (s.data.toList.drop at_)=en at *
 generalize hus:qI (s.data.toList.drop at_)=us at *
 have N:=callsIn_wide (n:=7).2 (jfc s at_ pre.length _ _ _ _ b3 b1 b2 hlt (by omega) hs (by omega) (by omega) (by omega) hd en us hhd hen hus)
 have HX:=jnc hx
 clear hhd hen hus hx hne he
 gi_wp2_with (refine⟨trivial,?_⟩;gi_at_call 185;refine N.mono ?_;clear N;rintro e w' ⟨rfl,h2,h3,h4⟩)
 have hz:=h2.size
 have hz3:=b3.lt
 have jw:J pre w':=hJ _ _ _ hj (h2.turned (by omega) (by omega))
 obtain⟨fn,tmps,assign,body,hy,hR⟩:=hY pre ⟨pre.length,at_,hd,en⟩ _ (w'.alloc (.cells #[.int .i64 pre.length,.int .i64 at_,.string ⟨hd.toArray⟩,.bool en] 164)) HX.out (by simp;omega) (hJ.alloc _ jw)
 dsimp only[vl]at hy
 rw[hy,Oper.uponIn_round]
 refine⟨fun h=>(by cases h),hR.mono ?_⟩
 clear hR hy
 rintro e W3 (⟨rfl,hJ3,hk3⟩|⟨rfl,hJx3⟩)
 ·gi_wp2
  go_roundw
  case rel =>
   refine⟨pre++[⟨pre.length,at_,hd,en⟩],at_+us,?_,by omega,by simp;omega,?_,?_,?_,hJ3⟩
   ·rw[jnx,jo6,jnf];exact HX.out
   ·exact(hk3.same _ (by omega) (by omega)).trans ((h2.box b1 (by omega) (by omega)).alloc _)
   ·rw[jnf];exact(hk3.same _ (by omega) (by omega)).trans (jpv h3 _)
   exact(hk3.same _ (by omega) (by omega)).trans (jpv h4 _)
  case measure =>
  rw[Qn b3,Qn (B:=W.heap.size+1+1) (w:=W3) (n:=at_+us) ((hk3.same _ (by omega) (by omega)).trans (jpv h4 _))]
  omega
 gi_wp2
 refine bodyPost_ret (results_none rfl _ _ _) rfl ⟨⟨_,rfl⟩,.inr ⟨_,⟨jQ (pre.length+1) (at_+us) (List.drop (at_+us) s.data.toList),?_⟩,hJx3⟩⟩
 rw[HX.out,jnx,jo6]
theorem yG(s:ByteArray)(w:World):
  Calls prog 99 #[.string s] w fun e w'=>e=.returned (.func (.func 139) #[] #[.pointer (some ⟨w.heap.size,0,none⟩)])/\w'=w.alloc (.cells #[.string s] 9):=by
 go_enter func99,ntmps99
 go_wp2
 go_ret
 exact⟨rfl,rfl⟩
theorem xZ(w:World)(o:Obj)(t:TypeId)(v:Value):Boxed ((w.alloc o).alloc (.cells #[v] t)) (w.heap.size+1) t v:=by
 have:=joy (w.alloc o) t v
 rwa [jnB]at this
end
section
theorem XZ{s:ByteArray}{c:UInt8}{t:List UInt8}(h:s.data.toList=c::t):s.toList.isEmpty=false/\¬s.toList=[]/\1<=s.size:=by
 rw[jn0,h]
 exact⟨rfl,by simp,by rw[Lib.size_eq,h];simp⟩
theorem Vq{s:ByteArray}(h:s.data.toList=[]):s=⟨#[]⟩:=by
 rw[<- joz s,h]
theorem jfF(c:UInt8):decide (0<=Lib.indexByte [32,9] c)=vM c:=by
 unfold vM
 by_cases h1:c=32
 ·subst h1;decide
 by_cases h2:c=9
 ·subst h2;decide
 have a:((32:UInt8)==c)=false:=by simp[Ne.symm h1]
 have b:((9:UInt8)==c)=false:=by simp[Ne.symm h2]
 simp[Lib.indexByte,a,b,h1,h2]
theorem jko(l:List UInt8)(c:UInt8):decide (0<=Lib.indexByte l c)=l.contains c:=by
 rcases qU l c with ⟨h1,h2⟩|⟨h1,h2⟩
 ·rw[h1];simp[h2]
 rw[h1];simp[h2]
theorem jht(l:List UInt8):Lib.hasPrefix l [35]=ZY l:=by
 unfold Lib.hasPrefix ZY
 cases l with
 | nil=>rfl
 | cons a t=>simp[List.isPrefixOf,Bool.beq_comm]
theorem jgv(w:World):
  Calls prog 188 #[.string ⟨#[]⟩] w fun e w'=>e=.returned (.bool false)/\w=w':=by
 go_enter func188,ntmps188
 go_wp2
 go_ret
 exact⟨rfl,rfl⟩
theorem jd8(s:ByteArray)(c:UInt8)(t:List UInt8)(h:s.data.toList=c::t)(hs:s.size<=maxLen)(w:World):
  Calls prog 188 #[.string s] w fun e w'=>e=.returned (.bool (vM c))/\w=w':=by
 have hz:1<=s.size:=by rw[jnu,h];simp
 have e1:s.extract 0 1=⟨#[c]⟩:=by
  have:=joX s 0 1
  rw[h]at this
  rw[<- joz (s.extract 0 1),this];rfl
 obtain⟨n1,n2,n3⟩:=XZ h
 clear h
 unfold maxLen at hs
 go_enter func188,ntmps188
 go_wp2_with fail
 refine(Tryz.strings_Contains_one ⟨#[32,9]⟩ c _).mono ?_
 rw[show(⟨#[32,9]⟩:ByteArray).data.toList=[32,9] from rfl,jfF]
 rintro e w' ⟨rfl,rfl⟩
 go_wp2
 go_ret
 exact⟨rfl,rfl⟩
theorem KF(s:ByteArray)(hs:s.size<=maxLen)(w:World):
  Calls prog 188 #[.string s] w fun e w'=>e=.returned (.bool (yi s.data.toList))/\w=w':=by
 cases h:s.data.toList with
 | nil=>rw[Vq h];exact jgv w
 | cons c t=>exact jd8 s c t h hs w
theorem xK(s:ByteArray)(c:UInt8)(w:World):
  Calls prog 186 #[.string s,.string ⟨#[c]⟩] w fun e w'=>e=.returned (.bool (yB s.data.toList c))/\w=w':=by
 refine(Tryz.strings_Contains_one s c _).mono ?_
 rw[jko]
 rintro e w' ⟨rfl,rfl⟩
 exact⟨rfl,rfl⟩
theorem xe(s:ByteArray)(w:World):
  Calls prog 109 #[.string s,.string ⟨#[35]⟩] w fun e w'=>e=.returned (.bool (ZY s.data.toList))/\w=w':=by
 refine(Tryz.strings_HasPrefix s ⟨#[35]⟩ _).mono ?_
 rw[show(⟨#[35]⟩:ByteArray).data.toList=[35] from rfl,jht]
 rintro e w' ⟨rfl,rfl⟩
 exact⟨rfl,rfl⟩
theorem jbE(s:ByteArray)(hs:s.size<=9223372036854775807)(w:World):
  Calls prog 187 #[.string s,.string ⟨#[32,9]⟩] w fun e w'=>e=.returned (.string ⟨(Lib.trimS s.data.toList [32,9]).toArray⟩)/\Below w.heap.size w w' :=
 Any.strings_Trim_laid Tryz.lays160 (by kernel_rfl) s ⟨#[32,9]⟩ w hs (by decide) (ascii_of_all (by decide))
theorem jfw(s:ByteArray)(hs:s.size<=maxLen)(w:World):
  Calls prog 189 #[.string s] w fun e w'=>e=.returned (.bool (za s.data.toList))/\w=w':=by
 cases h:s.data.toList with
 | nil =>
  rw[Vq h]
  go_enter func189,ntmps189
  go_wp2
  go_ret
  exact⟨rfl,rfl⟩
 | cons c t =>
 rw[<- h]
 obtain⟨n1,n2,n3⟩:=XZ h
 clear h
 have n4:1<=s.data.toList.length:=by rw[<- jnu];exact n3
 have n5:=jnu s
 have g1:=KF s hs
 unfold maxLen at hs
 by_cases h1:s.size<=32
 ·rw[n5]at h1
  have e1:za s.data.toList=(!yi s.data.toList && !ZY s.data.toList && !yB s.data.toList 58 && !yB s.data.toList 10):=by
   unfold za;rw[decide_eq_true n4,decide_eq_true h1];simp
  rw[e1]
  rw[<- n5]at h1
  clear n5 n4 e1
  cases h2:yi s.data.toList with
  | true =>
   go_enter func189,ntmps189
   go_wp2_with (go_at_call 188;refine(g1 _).mono ?_;rw[h2];rintro e w1 ⟨rfl,rfl⟩)
   go_ret
   exact⟨rfl,rfl⟩
  | false =>
  cases h3:ZY s.data.toList with
  | true =>
   go_enter func189,ntmps189
   go_wp2_with (first | (go_at_call 188;refine(g1 _).mono ?_;rw[h2];rintro e w1 ⟨rfl,rfl⟩) | (go_at_call 109;refine(xe _ _).mono ?_;rw[h3];rintro e w1 ⟨rfl,rfl⟩))
   go_ret
   exact⟨rfl,rfl⟩
  | false =>
  cases h4:yB s.data.toList 58 with
  | true =>
   go_enter func189,ntmps189
   go_wp2_with (first | (go_at_call 188;refine(g1 _).mono ?_;rw[h2];rintro e w1 ⟨rfl,rfl⟩) | (go_at_call 109;refine(xe _ _).mono ?_;rw[h3];rintro e w1 ⟨rfl,rfl⟩) | (go_at_call 186;refine(xK _ _ _).mono ?_;rw[h4];rintro e w1 ⟨rfl,rfl⟩))
   go_ret
   exact⟨rfl,rfl⟩
  | false =>
  cases h5:yB s.data.toList 10
  all_goals
   go_enter func189,ntmps189
   go_wp2_with (first | (go_at_call 188;refine(g1 _).mono ?_;rw[h2];rintro e w1 ⟨rfl,rfl⟩) | (go_at_call 109;refine(xe _ _).mono ?_;rw[h3];rintro e w1 ⟨rfl,rfl⟩) | (go_at_call 186;refine(xK _ _ _).mono ?_;(first | rw[h4] | rw[h5]);rintro e w1 ⟨rfl,rfl⟩))
   go_ret
   exact⟨rfl,rfl⟩
 have e1:za s.data.toList=false:=by
  unfold za;rw[<- n5,decide_eq_false h1];simp
 rw[e1]
 have h1':32<s.size:=by omega
 clear n5 n4 e1
 go_enter func189,ntmps189
 go_wp2
 go_ret
 exact⟨rfl,rfl⟩
theorem Below.drewN{B:Nat}{a w:World}(h:Below B a w)(n:Nat):Below B a (w.drewN n):=⟨h.os,h.tape,h.output,h.size,h.block⟩
def Vy(s:ByteArray):ByteArray:=⟨(Lib.trimS s.data.toList [32,9]).toArray⟩
def jhv(s:ByteArray):ByteArray:=s.extract 0 (before s.data.toList).length
def je2(s:ByteArray):ByteArray:=s.extract ((before s.data.toList).length+1) s.size
theorem Xr(c:UInt8):([32,9]:List UInt8).contains c=vM c:=by
 unfold vM
 by_cases h1:c=32
 ·subst h1;rfl
 by_cases h2:c=9
 ·subst h2;rfl
 simp[h1,h2]
theorem xj{p:UInt8->Bool}:∀{l:List UInt8},l.dropWhile p=[]↔l.all p=true
 | []=>by simp
 | a::l=>by
  rw[List.dropWhile_cons]
  cases h:p a<;>simp[h,xj]
theorem jbD(l:List UInt8):Lib.trimS l [32,9]=[]↔zH l=true:=by
 have e:(fun c=>([32,9]:List UInt8).contains c)=vM:=funext Xr
 unfold Lib.trimS Lib.trimLeftS Lib.trimRightS zH
 rw[e,xj,List.all_reverse]
 constructor
 ·intro h
  have h2:(l.reverse.takeWhile vM++l.reverse.dropWhile vM).all vM=true:=by rw[jo0,h,jo1];rfl
  rw[List.takeWhile_append_dropWhile,List.all_reverse]at h2
  exact h2
 intro h
 have:l.reverse.dropWhile vM=[]:=xj.2 (by rw[List.all_reverse];exact h)
 rw[this];rfl
theorem jbC(s:ByteArray)(hs:s.size<=9223372036854775807)(h:zH s.data.toList=true)(w:World):
  Calls prog 187 #[.string s,.string ⟨#[32,9]⟩] w fun e w'=>e=.returned (.string ⟨#[]⟩)/\Below w.heap.size w w':=by
 have:=jbE s hs w
 rwa [(jbD _).2 h]at this
theorem Vz(s:ByteArray)(hs:s.size<=9223372036854775807)(w:World):
  Calls prog 187 #[.string s,.string ⟨#[32,9]⟩] w fun e w'=>e=.returned (.string (Vy s))/\Below w.heap.size w w':=jbE s hs w
theorem XE(s:ByteArray)(h:zH s.data.toList=false):(Vy s).toList.isEmpty=false/\¬(Vy s).toList=[]:=by
 have:Lib.trimS s.data.toList [32,9]≠[]:=fun e=>by rw[(jbD _).1 e]at h;cases h
 have e:(Vy s).toList=Lib.trimS s.data.toList [32,9]:=by rw[jn0];rfl
 rw[e]
 exact⟨by simpa using this,this⟩
theorem Yf(s:ByteArray):(jhv s).data.toList=before s.data.toList:=by
 unfold jhv
 rw[joX,jop,Nat.sub_zero]
 exact(List.prefix_iff_eq_take.1 (jou _)).symm
theorem je1(s:ByteArray):(jhv s).size<=s.size:=by
 rw[jnu,Yf,jnu]
 exact(jou _).length_le
theorem jak(s:ByteArray)(w:World)(hs:s.size<=maxLen)(h:yB s.data.toList 58=true):
  Calls prog 104 #[.string s,.string ⟨#[58]⟩] w fun e w'=>e=.returned (.tuple #[.string (jhv s),.string (je2 s),.bool true])/\∃n,w'=w.drewN n :=
 WR s 58 w hs (by unfold yB at h;simpa using h)
theorem jiO(s:ByteArray)(w:World)(h:yB s.data.toList 58=false):
  Calls prog 104 #[.string s,.string ⟨#[58]⟩] w fun e w'=>e=.returned (.tuple #[.string s,.string ⟨#[]⟩,.bool false])/\∃n,w'=w.drewN n :=
 jcr s 58 w (by unfold yB at h;simpa using h)
theorem jdo(s:ByteArray)(hs:s.size<=maxLen)(w:World):
  Calls prog 189 #[.string (jhv s)] w fun e w'=>e=.returned (.bool (za (before s.data.toList)))/\w=w':=by
 have:=jfw (jhv s) (jns (je1 s) hs) w
 rwa [Yf]at this
theorem Zo(s:ByteArray)(hs:s.size<=maxLen)(w:World):
  Calls prog 141 #[.string s] w fun e w'=>e=.returned (.int .i64 (jL s.data.toList:Nat))/\Below w.heap.size w w':=by
 have hs2:s.size<=9223372036854775807:=by unfold maxLen at hs;omega
 cases h1:yB s.data.toList 10 with
 | true =>
  have hk:jL s.data.toList=5:=by unfold jL;rw[if_pos h1]
  rw[hk];clear hk
  go_enter func141,ntmps141
  go_wp2_with (first | (go_at_call 186;refine(xK _ _ _).mono ?_;rw[h1];rintro e w1 ⟨rfl,rfl⟩))
  go_ret
  exact⟨rfl,jne _ _⟩
 | false =>
 cases h2:zH s.data.toList with
 | true =>
  have hk:jL s.data.toList=1:=by unfold jL;rw[h1,if_neg (by decide),if_pos h2]
  rw[hk];clear hk
  go_enter func141,ntmps141
  go_wp2_with (first | (go_at_call 186;refine(xK _ _ _).mono ?_;rw[h1];rintro e w1 ⟨rfl,rfl⟩) | (go_at_call 187;refine(jbC s hs2 h2 _).mono ?_;rintro e w1 ⟨rfl,b1⟩))
  go_ret
  exact⟨rfl,b1⟩
 | false =>
 obtain⟨t1,t2⟩:=XE s h2
 have B1:=KF s hs
 cases h3:ZY s.data.toList with
 | true =>
  have hk:jL s.data.toList=2:=by unfold jL;rw[h1,if_neg (by decide),h2,if_neg (by decide),if_pos h3]
  rw[hk];clear hk
  go_enter func141,ntmps141
  go_wp2_with (first | (go_at_call 186;refine(xK _ _ _).mono ?_;rw[h1];rintro e w1 ⟨rfl,rfl⟩) | (go_at_call 187;refine(Vz s hs2 _).mono ?_;rintro e w1 ⟨rfl,b1⟩) | (go_at_call 109;refine(xe _ _).mono ?_;rw[h3];rintro e w2 ⟨rfl,rfl⟩))
  go_ret
  exact⟨rfl,b1⟩
 | false =>
 cases h4:yi s.data.toList with
 | true =>
  have hk:jL s.data.toList=3:=by unfold jL;rw[h1,if_neg (by decide),h2,if_neg (by decide),h3,if_neg (by decide),if_pos h4]
  rw[hk];clear hk
  go_enter func141,ntmps141
  go_wp2_with (first | (go_at_call 186;refine(xK _ _ _).mono ?_;rw[h1];rintro e w1 ⟨rfl,rfl⟩) | (go_at_call 187;refine(Vz s hs2 _).mono ?_;rintro e w1 ⟨rfl,b1⟩) | (go_at_call 109;refine(xe _ _).mono ?_;rw[h3];rintro e w2 ⟨rfl,rfl⟩) | (go_at_call 188;refine(B1 _).mono ?_;rw[h4];rintro e w2 ⟨rfl,rfl⟩))
  go_ret
  exact⟨rfl,b1⟩
 | false =>
 cases h5:yB s.data.toList 58 with
 | false =>
  have hk:jL s.data.toList=5:=by unfold jL;rw[h1,if_neg (by decide),h2,if_neg (by decide),h3,if_neg (by decide),h4,if_neg (by decide),if_neg (by rw[h5];simp)]
  rw[hk];clear hk
  have C:=fun w=>jiO s w h5
  go_enter func141,ntmps141
  go_wp2_with (first | (go_at_call 186;refine(xK _ _ _).mono ?_;rw[h1];rintro e w1 ⟨rfl,rfl⟩) | (go_at_call 187;refine(Vz s hs2 _).mono ?_;rintro e w1 ⟨rfl,b1⟩) | (go_at_call 109;refine(xe _ _).mono ?_;rw[h3];rintro e w2 ⟨rfl,rfl⟩) | (go_at_call 188;refine(B1 _).mono ?_;rw[h4];rintro e w2 ⟨rfl,rfl⟩) | (go_at_call 104;refine(C _).mono ?_;rintro e w2 ⟨rfl,n,rfl⟩))
  go_ret
  exact⟨rfl,Below.drewN b1 n⟩
 | true =>
 have C:=fun w=>jak s w hs h5
 have K:=jdo s hs
 have hk:jL s.data.toList=if za (before s.data.toList)=true then 4 else 5:=by
  unfold jL;rw[h1,if_neg (by decide),h2,if_neg (by decide),h3,if_neg (by decide),h4,if_neg (by decide),h5];simp
 cases h6:za (before s.data.toList)
 all_goals
  rw[h6]at hk
  rw[hk];clear hk
  go_enter func141,ntmps141
  go_wp2_with (first | (go_at_call 186;refine(xK _ _ _).mono ?_;rw[h1];rintro e w1 ⟨rfl,rfl⟩) | (go_at_call 187;refine(Vz s hs2 _).mono ?_;rintro e w1 ⟨rfl,b1⟩) | (go_at_call 109;refine(xe _ _).mono ?_;rw[h3];rintro e w2 ⟨rfl,rfl⟩) | (go_at_call 188;refine(B1 _).mono ?_;rw[h4];rintro e w2 ⟨rfl,rfl⟩) | (go_at_call 104;refine(C _).mono ?_;rintro e w2 ⟨rfl,n,rfl⟩) | (go_at_call 189;refine(K _).mono ?_;rw[h6];rintro e w3 ⟨rfl,rfl⟩))
  go_ret
  exact⟨rfl,Below.drewN b1 n⟩
theorem jiJ(s:ByteArray)(hs:s.size<=maxLen)(h:jL s.data.toList=4)(w:World):
  Calls prog 241 #[.string s] w fun e w'=>e=.returned (.tuple #[.string (jhv s),.string (je2 s),.bool true])/\Below w.heap.size w w':=by
 have h5:yB s.data.toList 58=true:=by
  unfold jL at h
  split at h;· cases h
  split at h;· cases h
  split at h;· cases h
  split at h;· cases h
  split at h
  ·rename_i q;exact q.1
  cases h
 have C:=fun w=>jak s w hs h5
 have K:=Zo s hs
 rw[h]at K
 go_enter func241,ntmps241
 go_wp2_with (first | (go_at_call 141;refine(K _).mono ?_;rintro e w1 ⟨rfl,b1⟩) | (go_at_call 104;refine(C _).mono ?_;rintro e w2 ⟨rfl,n,rfl⟩))
 go_ret3
 exact⟨rfl,Below.drewN b1 n⟩
theorem jlL{l:List UInt8}(h:jL l=4):yB l 10=false/\yB l 58=true/\za (before l)=true:=by
 unfold jL at h
 split at h;· cases h
 rename_i h10
 split at h;· cases h
 split at h;· cases h
 split at h;· cases h
 split at h
 ·rename_i q;exact⟨by simpa using h10,q.1,q.2⟩
 cases h
theorem jlc{l:List UInt8}(h:l≠[]):(B l).toList.isEmpty=false/\¬(B l).toList=[]:=by
 rw[jn0,ju];exact⟨by simpa using h,h⟩
theorem mkB(l:List UInt8):(⟨l.toArray⟩:ByteArray)=B l:=rfl
theorem jfU(k l:List UInt8)(hk:k.length<=100000)(hl:l.length<=100000)(w:World):
  Calls prog 219 #[.string (B k),.string (B l)] w fun e w'=>e=.returned (.string (B (qV k l)))/\w=w':=by
 by_cases h:l=[]
 ·have e:B (qV k l)=B k ++ ⟨#[58]⟩:=by unfold qV;rw[if_pos h];exact(jZ k [58]).symm
  rw[e]
  subst h
  have hz:=jm k
  generalize B k=s at *
  rw[show B []=⟨#[]⟩ from rfl]
  go_enter func219,ntmps219
  go_wp2
  go_ret
  exact⟨rfl,rfl⟩
 have e:B (qV k l)=((B k ++ ⟨#[58]⟩) ++ ⟨#[32]⟩)++B l:=by
  unfold qV;rw[if_neg h]
  rw[show(⟨#[58]⟩:ByteArray)=B [58] from rfl,show(⟨#[32]⟩:ByteArray)=B [32] from rfl,jZ,jZ,jZ];simp
 rw[e]
 obtain⟨n1,n2⟩:=jlc h
 have hz:=jm k
 have hz2:=jm l
 generalize B k=s at *
 generalize B l=t at *
 clear e
 go_enter func219,ntmps219
 go_wp2
 go_ret
 exact⟨rfl,rfl⟩
theorem jjW(l:List UInt8):Lib.hasPrefix l [46]=(l.head?==some 46):=by
 unfold Lib.hasPrefix
 cases l with
 | nil=>rfl
 | cons a t=>simp[List.isPrefixOf,Bool.beq_comm]
theorem jkM(l:List UInt8)(w:World):
  Calls prog 109 #[.string (B l),.string ⟨#[46]⟩] w fun e w'=>e=.returned (.bool (l.head?==some 46))/\w=w':=by
 refine(Tryz.strings_HasPrefix (B l) ⟨#[46]⟩ _).mono ?_
 rw[show(⟨#[46]⟩:ByteArray).data.toList=[46] from rfl,jjW,ju]
 rintro e w' ⟨rfl,rfl⟩
 exact⟨rfl,rfl⟩
theorem ja8(l:List UInt8)(hl:l.length<=100000)(w:World):
  Calls prog 220 #[.string (B l)] w fun e w'=>e=.returned (.string (B (jR l)))/\Below w.heap.size w w':=by
 have hz:=jm l
 cases hb:zH l with
 | true =>
  have e:B (jR l)=⟨#[32,46]⟩++B l:=by
   unfold jR QV;rw[hb];exact(jZ [32,46] l).symm
  rw[e]
  have T:=fun w=>jbC (B l) (by omega) (by rw[ju];exact hb) w
  clear e hb
  generalize B l=s at *
  go_enter func220,ntmps220
  go_wp2_with (go_at_call 187;refine(T _).mono ?_;rintro e w1 ⟨rfl,b1⟩)
  go_ret
  exact⟨rfl,b1⟩
 | false =>
 have T:=fun w=>Vz (B l) (by omega) w
 obtain⟨n1,n2⟩:=XE (B l) (by rw[ju];exact hb)
 have D:=jkM l
 generalize Vy (B l)=tr at *
 cases hd:(l.head?==some 46) with
 | true =>
  have e:B (jR l)=⟨#[32,46]⟩++B l:=by
   unfold jR QV;rw[hb,hd];exact(jZ [32,46] l).symm
  rw[e]
  rw[hd]at D
  clear e hb hd
  generalize B l=s at *
  go_enter func220,ntmps220
  go_wp2_with (first | (go_at_call 187;refine(T _).mono ?_;rintro e w1 ⟨rfl,b1⟩) | (go_at_call 109;refine(D _).mono ?_;rintro e w2 ⟨rfl,rfl⟩))
  go_ret
  exact⟨rfl,b1⟩
 | false =>
 have e:B (jR l)=⟨#[32]⟩++B l:=by
  unfold jR QV;rw[hb,hd];exact(jZ [32] l).symm
 rw[e]
 rw[hd]at D
 clear e hb hd
 generalize B l=s at *
 go_enter func220,ntmps220
 go_wp2_with (first | (go_at_call 187;refine(T _).mono ?_;rintro e w1 ⟨rfl,b1⟩) | (go_at_call 109;refine(D _).mono ?_;rintro e w2 ⟨rfl,rfl⟩))
 go_ret
 exact⟨rfl,b1⟩
def vz(k v:List UInt8):Value:=.agg #[.string (B k),.string (B v)]
attribute [local go_sem] jT jlS jjf
theorem ZD(k v:List UInt8)(hk:k.length<=1000000)(hv:v.length<=1000000)(w:World):
  Calls prog 192 #[vz k v] w fun e w'=>e=.returned (qm (zw k v))/\Below w.heap.size w w':=by
 have K:=fun w=>jfw (B k) (by rw[jm];unfold maxLen;omega) w
 rw[ju]at K
 have hz:=jm v
 unfold zw vz
 generalize B k=s at *
 cases hg:za k with
 | false =>
  rw[hg]at K
  generalize B v=t at *
  go_enter func192,ntmps192
  go_wp2_with (go_at_call 189;refine(K _).mono ?_;rintro e w1 ⟨rfl,rfl⟩)
  go_ret
  exact⟨rfl,(jne _ _).alloc (jnd _) _⟩
 | true =>
 rw[hg]at K
 by_cases h:v.length<=1000
 ·rw[if_pos rfl,if_pos h]
  rw[<- hz]at h
  generalize B v=t at *
  go_enter func192,ntmps192
  go_wp2_with (go_at_call 189;refine(K _).mono ?_;rintro e w1 ⟨rfl,rfl⟩)
  go_ret
  exact⟨rfl,(jne _ _).alloc (jnd _) _⟩
 rw[if_pos rfl,if_neg h]
 rw[<- hz]at h
 generalize B v=t at *
 go_enter func192,ntmps192
 go_wp2_with (go_at_call 189;refine(K _).mono ?_;rintro e w1 ⟨rfl,rfl⟩)
 go_ret
 exact⟨rfl,(jne _ _).alloc (jnd _) _⟩
theorem jaT(l:List UInt8)(h:(10:UInt8)∈l):jI l=l.take (l.takeWhile (· != 10)).length::jI (l.drop ((l.takeWhile (· != 10)).length+1)):=by
 have e:l=l.takeWhile (· != 10)++10::l.drop ((l.takeWhile (· != 10)).length+1):=by
  have a:=zI l
  unfold head nl qI at a
  have hc:l.contains 10=true:=by simpa using h
  unfold head nl at a
  rw[if_pos hc,if_pos hc]at a
  simpa using a
 have hp:(10:UInt8)∉l.takeWhile (· != 10):=fun hm=>by have:=List.all_eq_true.1 (jo1 (l:=l) (p:=(· != 10))) _ hm;simp at this
 have ht:l.take (l.takeWhile (· != 10)).length=l.takeWhile (· != 10):=(List.prefix_iff_eq_take.1 (jou _)).symm
 rw[ht]
 conv=>lhs;rw[e]
 exact XV _ _ hp
theorem Qz:∀(k:Nat) (l:List UInt8),l.count 10=k->Lib.splitK [10] 0 k l=jI l
 | 0,l,h=>by
  have:(10:UInt8)∉l:=List.count_eq_zero.1 h
  rw[XW l this];rfl
 | k+1,l,h=>by
  have hm:(10:UInt8)∈l:=List.count_pos_iff.1 (by omega)
  have hp:=jaT l hm
  have hl:=yI l
  rcases qU l 10 with ⟨_,h2⟩|⟨h1,_⟩
  ·exact absurd hm h2
  unfold Lib.splitK
  rw[Lib.index_one,h1]
  rw[hp]at hl
  have hl2:=yI (l.drop ((l.takeWhile (· != 10)).length+1))
  rw[if_neg (by simp<;>omega),hp]
  simp only[jox,jo4,List.length_singleton]
  rw[Qz k _ (by simp only[jni]at hl;omega)]
theorem Uy(l:List UInt8):Lib.splitB ⟨#[10]⟩ 0 (Lib.countB (B l) ⟨#[10]⟩) (B l)=(jI l).map B/\Lib.countB (B l) ⟨#[10]⟩+1=(jI l).length:=by
 have hc:Lib.countB (B l) ⟨#[10]⟩=l.count 10:=by
  show Lib.count (B l).data.toList [10]=_
  rw[Lib.count_one,ju]
 have h:=Lib.splitB_data ⟨#[10]⟩ 0 (Lib.countB (B l) ⟨#[10]⟩) (B l)
 rw[ju,hc]at h
 rw[hc]
 refine⟨?_,(yI l).symm⟩
 have h2:Lib.splitK (⟨#[10]⟩:ByteArray).data.toList 0 (l.count 10) l=jI l:=Qz _ l rfl
 rw[h2]at h
 rw[<- h,joN]
 conv=>lhs;rw[<- List.map_id (Lib.splitB ⟨#[10]⟩ 0 (l.count 10) (B l))]
 exact jpg fun s _=>(jjr s).symm
theorem jf3:(prog.info? 9).map (fun i=>(i.zero,i.size,i.bytes))=some (some (.string ByteArray.empty),1,16):=by kernel_rfl
theorem jcZ(l:List UInt8)(hl:l.length<=1000000)(w:World):
  Calls prog 218 #[.string (B l),.string ⟨#[10]⟩] w fun e w' =>
   e=.returned (.slice (some ⟨w.heap.size,0,none⟩) (jI l).length (jI l).length)/\w'=w.alloc (.cells (((jI l).map B).map Value.string).toArray 9):=by
 obtain⟨p1,p2⟩:=Uy l
 have hz:=jm l
 have c:=Any.strings_genSplit_core Tryz.lays221 jf3 (B l) ⟨#[10]⟩ 0 (-1) (Lib.countB (B l) ⟨#[10]⟩+1) w (by omega) (by decide) (jnt _)
  (fun x cc hx=>(Tryz.strings_Index_one x 10 _).mono (fun e w' ⟨he,hw⟩=>⟨by rw[he];show _=Ending.returned (Value.int .i64 (Lib.index x.data.toList [10]));rw[Lib.index_one],hw⟩))
  ((Tryz.strings_Count_one (B l) 10 w).mono (fun e w' ⟨he,hw⟩=>⟨by rw[he];show _=Ending.returned (Value.int .i64 ((Lib.count (B l).data.toList [10]:Nat):Int));rw[Lib.count_one];rfl,hw⟩))
  (by decide) (by decide) (by
   have:=Lib.countB_le ⟨#[10]⟩ (by decide) (B l).size (B l) (jnd _)
   rw[if_pos (by decide)];omega)
 rw[Nat.add_sub_cancel,p1]at c
 have e2:Lib.cellsOf ((jI l).map B) (Lib.countB (B l) ⟨#[10]⟩+1)=(((jI l).map B).map Value.string).toArray:=by
  rw[p2,show(jI l).length=((jI l).map B).length by simp];exact Lib.cellsOf_full _
 rw[e2,jnI,p2]at c
 generalize (jI l).length=n at *
 generalize (((jI l).map B).map Value.string).toArray=cs at *
 clear p1 p2 e2
 generalize B l=s at *
 go_enter func218,ntmps218
 go_wp2_with (go_at_call 260;refine c.mono ?_;rintro e w' ⟨rfl,rfl⟩)
 go_ret
 exact⟨rfl,rfl⟩
end
section
theorem vq{w w':World}{base N:Nat}{e:TypeId}{size:Nat}{v:Value}{n:Nat}{xs:List Value}(h:w.ownsRow base e size v n xs)(hb:Below N w w')(hN:w.heap.size<=N):w'.ownsRow base e size v n xs:=by
 refine⟨h.1,?_⟩
 rcases h.2 with hn|⟨g,cap,cur,hv,hg,hc,rest⟩
 ·exact .inl hn
 refine .inr ⟨g,cap,cur,hv,hg,?_,rest⟩
 have:g<w.heap.size:=(Array.getElem?_eq_some_iff.1 hc).1
 exact(hb.block g (by omega)).trans hc
def Vd(w:World)(base:Nat)(v:Value)(ss:List ByteArray):Prop:=w.ownsRow base 9 1 v ss.length (ss.map Value.string)
theorem Vd.kept{w w':World}{base N:Nat}{v:Value}{ss:List ByteArray}(h:Vd w base v ss)(hb:Below N w w')(hN:w.heap.size<=N):Vd w' base v ss:=vq h hb hN
theorem Vd.strs{w:World}{base:Nat}{v:Value}{ss:List ByteArray}(h:Vd w base v ss):Strs w v ss:=by
 rcases jor h with ⟨rfl,hn⟩|⟨g,cap,rfl⟩
 ·have:ss=[]:=by cases ss with | nil=>rfl | cons _ _=>simp at hn
  subst this
  exact Strs.none _ _
 refine⟨_,cap,rfl,(by rcases h.2 with ⟨q,_⟩ | ⟨g',cap',cur,q,_,_,q2,_⟩;cases q;cases q;exact q2),fun i s hs=>⟨g,0,rfl,(joK h g rfl).2,?_⟩⟩
 have hi:i<ss.length:=by
  rcases jnK i ss.length with q|q
  ·exact q
  rw[jnY q]at hs;cases hs
 rw[jnX,jnL h i (by omega),jnF,hs];rfl
theorem Vd.one(w:World)(base:Nat)(hb:base<=w.heap.size)(s:ByteArray):Vd (w.alloc (.cells #[.string s] 9)) base (.slice (some ⟨w.heap.size,0,none⟩) 1 1) [s] :=
 World.ownsRow_lit w #[.string s] 1 hb (by decide) rfl
theorem jeC(W:World)(x:ByteArray)(t:TypeId):∀(j:Nat) u,[Value.string x][j]?=some u->(W.alloc (.cells #[.string x] t)).cell? ((⟨W.heap.size,0,none⟩:Addr).add j)=some u:=by
 intro j u h
 have hadd:(⟨W.heap.size,0,none⟩:Addr).add j=⟨W.heap.size,j,none⟩:=by unfold Addr.add;split<;>simp_all
 rw[hadd,joF _ _ _ _ rfl]
 match j,h with
 | 0,h=>simpa using h
theorem jhP{k v:List UInt8}{p:List UInt8}{r:List (List UInt8)}(h:jI v=p::r):zA k v=qV k p::r.map jR:=by unfold zA;rw[h];rfl
theorem jfs:∀(r:List (List UInt8)) (q:List UInt8),q∈r->q.length<=(r.map List.length).sum
 | [],q,h=>by simp at h
 | a::r,q,h=>by
  rcases List.mem_cons.1 h with rfl|h
  ·simp
  have:=jfs r q h;simp;omega
theorem jhw{v p:List UInt8}{r:List (List UInt8)}(h:jI v=p::r):p.length<=v.length/\(∀q∈r,q.length<=v.length)/\r.length<=v.length:=by
 have a:=Wh v
 rw[h]at a
 simp only[jnH,jom,jni]at a
 refine⟨by omega,fun q hq => ?_,by omega⟩
 have:q.length<=(r.map List.length).sum:=jfs _ _ hq
 omega
attribute [local go_sem] jT
theorem jfm(k v:List UInt8)(hk:k.length<=100000)(hv:v.length<=100000)(w:World)(h:zw k v≠0):
  Calls prog 164 #[vz k v] w fun e w'=>e=.returned (.tuple #[.slice none 0 0,qm (zw k v)])/\Below w.heap.size w w':=by
 have C:=fun w=>ZD k v (by omega) (by omega) w
 rw[ze _ (joC h)]at C ⊢
 generalize zw k v=n at *
 unfold vz at *
 generalize B k=s at *
 generalize B v=t at *
 go_enter func164,ntmps164
 go_wp2_with (go_at_call 192;refine(C _).mono ?_;rintro e w1 ⟨rfl,b1⟩;have c0:=b1.cell (p:=⟨w.heap.size,0,none⟩) (by simp);have c1:=b1.cell (p:=⟨w.heap.size,1,none⟩) (by simp))
 go_ret2
 exact⟨rfl,((jne _ _).alloc (jnd _) _).trans (b1.mono (by simp))⟩
theorem jbb(k l:List UInt8)(hk:k.length<=100000)(hl:l.length<=100000)(w:World):
  Calls prog 219 #[.string (B k),.string (B l)] w fun e w'=>e=.returned (.string (B (qV k l)))/\w'=w :=
 (jfU k l hk hl w).mono fun e w' ⟨a,b⟩=>⟨a,b.symm⟩
theorem jfB:(prog.info? 9).map (fun i=>(i.zero,i.size,i.bytes))=some (some (.string ⟨#[]⟩),1,16):=by kernel_rfl
theorem jfl(k v:List UInt8)(hk:k.length<=100000)(hv:v.length<=100000)(w:World)(h:zw k v=0):
  Calls prog 164 #[vz k v] w fun e w'=>∃sv base,e=.returned (.tuple #[sv,.nilIface])/\Vd w' base sv ((zA k v).map B)/\Below w.heap.size w w':=by
 have C:=fun w=>ZD k v (by omega) (by omega) w
 rw[h]at C
 clear h
 obtain⟨p,r,hp⟩:∃p r,jI v=p::r:=⟨_,_,zv v⟩
 have SP:=fun w=>jcZ v (by omega) w
 rw[hp]at SP
 obtain⟨z1,z2,z3⟩:=jhw hp
 have HL:=jnc (jhP (k:=k) hp)
 clear hp
 have F1:=fun w=>jbb k p (by omega) (by omega) w
 unfold vz at *
 generalize hfl:qV k p=fl at *
 clear hfl
 generalize B k=s at *
 generalize B v=t at *
 obtain⟨i0,hi,hz0,hz1,hz2⟩:=info_parts jfB
 go_enter func164,ntmps164
 go_wp2_with fail
 refine(C _).mono ?_
 rintro e w1 ⟨rfl,b1⟩
 have c0:=b1.cell (p:=⟨w.heap.size,0,none⟩) (by simp)
 have c1:=b1.cell (p:=⟨w.heap.size,1,none⟩) (by simp)
 have hs1:=b1.size
 go_wp2_with fail
 refine(SP _).mono ?_
 rintro e w2 ⟨rfl,hw2⟩
 have q0:w2.cell? ⟨w.heap.size,0,none⟩=some (.string s):=by
  rw[hw2,jo7 _ _ _ (jpE (show w.heap.size<w1.heap.size by have:=hs1;simp at this;omega)),c0,joF _ _ _ _ rfl];rfl
 have PC:∀(j:Nat) x,(p::r)[j]?=some x->w2.cell? ⟨w1.heap.size,j,none⟩=some (.string (B x)):=by
  intro j x hx
  rw[hw2,joF _ _ _ _ rfl]
  simp only[joN,jnl,jnF,hx];rfl
 have hb12:Below w.heap.size w w2:=by
  rw[hw2]
  exact(((jne _ _).alloc (jnd _) _).trans (b1.mono (by simp))).alloc (by simp at hs1;omega) _
 have hlt:w1.heap.size<w2.heap.size:=by rw[hw2];simp
 have e0:=PC 0 p rfl
 have hz9:w.heap.size<w1.heap.size:=by simp at hs1;omega
 have BW:=jnc hb12
 have PCH:=jnc (fun(j:Nat) x (hx:r[j]?=some x)=>PC (j+1) x (by simpa using hx))
 clear hw2 c0 c1 b1 hs1 PC hb12
 generalize w1.heap.size=b0 at *
 clear w1
 rw[jni]
 go_wp2_with fail
 refine wp_region_still_tail 6 (by kernel_rfl) (by kernel_rfl) ?_
 simp only[jph,List.take_zero,joh,jop]
 still_step
 still_step
 still_step
 still_step
 still_step
 still_call (F1 _)
 refine wpStill_nil ?_
 change wpList _ _ _ _ _ w2.drew
 replace hlt:b0<w2.drew.heap.size:=hlt
 replace BW:Hid (Below w.heap.size w w2.drew):=BW.out.drew
 replace PCH:Hid (∀(j:Nat) x,r[j]?=some x->w2.drew.cell? ⟨b0,j+1,none⟩=some (.string (B x))):=PCH
 clear q0 e0 SP C F1
 generalize w2.drew=w3 at *
 have hw3:=BW.out.size
 go_wp2_with fail
 ·subst h
  go_loopw [6,27] (fun v6 i wr=>i=.int .i64 0/\Vd wr w3.heap.size v6 [B fl]/\Below w3.heap.size w3 wr) (fun _ i _=>0)
  case atStart=>exact⟨rfl,Vd.one w3 _ (jnd _) _,(jne _ _).alloc (jnd _) _⟩
  case round =>
  obtain⟨rfl,hown,hb⟩:=hrel
  go_wp2_with fail
  go_ret2
  exact⟨_,_,rfl,by rw[HL.out];exact hown,BW.out.trans (hb.mono hw3)⟩
 go_loopw [6,27] (fun v6 i wr=>∃(k:Nat),k<=r.length/\i=.int .i64 k/\Vd wr w3.heap.size v6 ((fl::(r.take k).map jR).map B)/\Below w3.heap.size w3 wr) (fun _ i _=>r.length-(intOf i).toNat)
 case atStart=>exact⟨0,jnt _,rfl,Vd.one w3 _ (jnd _) _,(jne _ _).alloc (jnd _) _⟩
 case round =>
 obtain⟨k,hkr,rfl,hown,hb⟩:=hrel
 by_cases hkl:k<r.length
 ·obtain⟨x,hx⟩:∃x,r[k]?=some x:=⟨_,jnh hkl⟩
  have hcx:=PCH.out k x hx
  have hcx2:=(hb.cell (p:=⟨b0,k+1,none⟩) hlt).trans hcx
  rw[Nat.add_comm k 1]at hcx2
  have hxl:=z2 x (jnC hx)
  have TK:Hid ((fl::(r.take (k+1)).map jR).map B=(fl::(r.take k).map jR).map B++[B (jR x)]):=by
   show _=_
   rw[jnW,hx];simp
  have FT:=fun w=>ja8 x (by omega) w
  have hll:((fl::(r.take k).map jR).map B).length=k+1:=by simp;omega
  have HLL:=jnc hll
  clear hx hcx
  generalize (fl::(r.take k).map jR).map B=ls at *
  go_wp2_with fail
  refine(FT _).mono ?_
  rintro e w4 ⟨rfl,b4⟩
  have hown4:w4.ownsRow w3.heap.size 9 1 u6 ls.length (ls.map Value.string):=hown.kept b4 (jnd _)
  have hs4:=b4.size
  have hs3:=hb.size
  have HC:=jnc (jeC w4 (B (jR x)) 9)
  have hb4:Below w3.heap.size w3 w4:=hb.trans (b4.mono hs3)
  clear hown b4
  generalize jR x=y at *
  go_wp2_with (at_builtin;refine wpList_append_own _ rfl _ _ 56 rfl w3.heap.size 9 i0 _ 1 16 underlying56 hi hz0 hz1 hz2 rfl (by decide) _ _ _ rfl (hown4.alloc _) ⟨w4.heap.size,0,none⟩ 1 1 _ rfl rfl HC.out ?c2 ?c3 ?c4 ?c5 ?_)
  case c2=>intro u hu;simp at hu;subst hu;rfl
  case c3=>unfold maxLen;omega
  case c4=>omega
  case c5=>simp;omega
  intro v' w5 hown' hgrow _
  obtain⟨g',cap',rfl⟩:=ownsRow_succ hown'
  have hb5:Below w3.heap.size w3 w5:=(hb4.alloc (by omega) _).grown hgrow (by simp;omega) (fun j ej=>(hown4.lt j ej).1)
  go_wp2_with fail
  go_roundw
  case rel =>
   refine⟨k+1,hkl,by go_num,?_,hb5⟩
   rw[TK.out]
   unfold Vd
   rw[jnf,jol,HLL.out];exact hown'
  case measure=>simp[intOf];omega
 obtain rfl:k=r.length:=by omega
 rw[jnP]at hown
 go_wp2_with fail
 go_ret2
 exact⟨_,_,rfl,by rw[HL.out];exact hown,BW.out.trans (hb.mono hw3)⟩
end
end Go.Proofs.YtpibhbjmcmfnmaaGreatDoor
