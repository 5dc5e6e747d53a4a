/- Texts put together:FLM,FLZ. -/
import Derived.Test.YtpibhbjmcmfnmaaGreatDoorBag30
set_option linter.unusedVariables false
set_option maxRecDepth 100000
set_option maxHeartbeats 16000000
namespace Go.Proofs.YtpibhbjmcmfnmaaGreatDoor.Vf
open Go.RowKit Go.Maps Go.Shelf Bk Rp
attribute [local go_sem] jT vL xo
theorem jj0{w:World}{b:Nat}{z:ByteArray}(h:ja w b 9 #[.string z]):Sd.Strs w (.slice (some ⟨b,0,none⟩) 1 1) [z]:=by
 refine⟨_,1,rfl,jnd _,fun i s hs => ?_⟩
 match i with
 | 0 =>
  obtain rfl:z=s:=jng hs
  exact⟨b,0,rfl,h.lt,h.cell 0⟩
 | i+1=>simp at hs
theorem jhL(z x:ByteArray)(w:World)(hT:∀W,Below w.heap.size w W->QX W/\ErrT W):Calls Tryz.prog 5 #[.string z,.string x] w fun e w'=>e=.returned (.bool true)/\Below w.heap.size w w':=by
 have AL:=jnc (jgI w hT)
 have HT:=jnc hT
 clear hT
 by_cases hz:z.size<=200
 rotate_left
 ·have hz':200<(z.size:Int):=by omega
  go_enter Tryz.func5,Tryz.ntmps5
  go_wp2_with fail
  refine AL.out.mono ?_
  rintro e w1 ⟨rfl,b1⟩
  go_wp2_with fail
  go_ret
  exact⟨rfl,b1⟩
 have hz':¬200<(z.size:Int):=by omega
 by_cases hx:x.size<=1000
 rotate_left
 ·have hx':1000<(x.size:Int):=by omega
  go_enter Tryz.func5,Tryz.ntmps5
  go_wp2_with fail
  refine AL.out.mono ?_
  rintro e w1 ⟨rfl,b1⟩
  go_wp2_with fail
  go_ret
  exact⟨rfl,b1⟩
 have hx':¬1000<(x.size:Int):=by omega
 have RG:=fun W=>jeX z W
 have GG:=fun W=>Jh z W
 have NT:=jnc jhG
 have NN:=jnc jhI
 have NC:=jnc Yp
 have NA:=jnc nil_append
 have NS:=jnc fun W=>jhH W x
 have I1:Hid (∀W,Calls Tryz.prog 17 #[qm 1,.int .i64 1] W fun e w'=>e=.returned (.bool true)/\w'=W):=fun W=>Fr.is_any 1 1 (by decide) W
 have I3:Hid (∀W,Calls Tryz.prog 17 #[qm 3,.int .i64 3] W fun e w'=>e=.returned (.bool true)/\w'=W):=fun W=>Fr.is_any 3 3 (by decide) W
 have ON:=jnc fun W=>jhA z W
 simp only[vL,xo]at I1 I3 NC NA NS ON
 have e0:(ByteArray.toList ⟨#[]⟩ != [])=false:=by kernel_rfl
 cases hg:xM z with
 | false =>
  simp only[hg]at RG GG
  replace RG:=jnc RG
  replace GG:=jnc GG
  have OB:=jnc fun p W=>jhB p z W hg
  simp only[vL]at OB
  clear hg
  go_enter Tryz.func5,Tryz.ntmps5
  go_wp2_with fail
  refine AL.out.mono ?_
  rintro e w1 ⟨rfl,b1⟩
  have B1:=jnc b1
  clear b1 AL
  go_wp2_with fail
  refine(RG.out _).mono ?_
  rintro e w1' ⟨rfl,rfl⟩
  go_wp2_with fail
  refine(Wn 1000 w1 (by decide)).mono ?_
  rintro e w2 ⟨rfl,g2,b2,hs⟩
  have B2:=jnc (B1.out.trans (b2.mono B1.out.size))
  clear g2 b2 hs
  go_wp2_with fail
  refine(OB.out _ w2).mono ?_
  rintro e w3 ⟨rfl,b3⟩
  have B3:=jnc (B2.out.trans (b3.mono B2.out.size))
  clear b3
  go_wp2_with fail
  refine(ON.out w3).mono ?_
  rintro e w3' ⟨rfl,rfl⟩
  go_wp2_with fail
  refine(GG.out w3).mono ?_
  rintro e w4 ⟨rfl,b4⟩
  have B4:=jnc (B3.out.trans (b4.mono B3.out.size))
  clear b4
  go_wp2_with fail
  refine(I1.out w4).mono ?_
  rintro e w4a ⟨rfl,rfl⟩
  go_wp2_with fail
  refine(NT.out _).mono ?_
  rintro e w4b ⟨rfl,rfl⟩
  go_wp2_with fail
  refine(NN.out _).mono ?_
  rintro e w4c ⟨rfl,rfl⟩
  go_wp2_with fail
  refine(NC.out _).mono ?_
  rintro e w4d ⟨rfl,rfl⟩
  go_wp2_with fail
  refine(I3.out _).mono ?_
  rintro e w4e ⟨rfl,rfl⟩
  go_wp2_with fail
  refine(NA.out _ _ _ _).mono ?_
  rintro e w4f ⟨rfl,rfl⟩
  go_wp2_with fail
  refine(I3.out _).mono ?_
  rintro e w4g ⟨rfl,rfl⟩
  go_wp2_with fail
  refine(NS.out _).mono ?_
  rintro e w5 ⟨rfl,b5⟩
  have B5:=jnc (B4.out.trans (b5.mono B4.out.size))
  clear b5
  go_wp2_with fail
  refine(I3.out _).mono ?_
  rintro e w5a ⟨rfl,rfl⟩
  go_wp2_with fail
  refine(I1.out _).mono ?_
  rintro e w5b ⟨rfl,rfl⟩
  go_wp2_with fail
  go_ret
  exact⟨rfl,B5.out⟩
 | true =>
 have hgz:zy z=true:=by unfold xM at hg;rw[jnv]at hg;exact hg.2
 simp only[hg]at RG GG
 replace RG:=jnc RG
 replace GG:=jnc GG
 have FF:=jdC 1000 hgz
 have FN:zJ 3 (vk (jV 1000) z):=Yt (vZ 1000 (by decide) (by decide)) (by omega)
 go_enter Tryz.func5,Tryz.ntmps5
 go_wp2_with fail
 refine AL.out.mono ?_
 rintro e w1 ⟨rfl,b1⟩
 have B1:=jnc b1
 clear b1 AL
 go_wp2_with fail
 refine(RG.out _).mono ?_
 rintro e w1' ⟨rfl,rfl⟩
 go_wp2_with fail
 refine(Wn 1000 w1 (by decide)).mono ?_
 rintro e w2 ⟨rfl,g2,b2,hs⟩
 have B2:=jnc (B1.out.trans (b2.mono B1.out.size))
 have OP:=jaW (L:=w1.heap.size) (n:=0) (z:=z) b2.size ⟨_,g2,fun b hb=>by split at hb<;>omega⟩ (vZ 1000 (by decide) (by decide)) (by decide) ⟨rfl,rfl⟩ hg yw.nil rfl FF.saw (FF.read hgz) jdk (by kernel_rfl:jE []=.ok []) rfl (by decide) (jns (yb [] _) (by decide)) (by decide) (fun W hW=>(HT.out W (B1.out.trans (b2.trans hW |>.mono B1.out.size))).1)
 rw[if_pos rfl,show([]:List UInt8).take (jo 0 [] [])=[] from rfl]at OP
 replace OP:=jnc OP
 have HFF:=jnc FF
 have HFN:=jnc FN
 clear g2 b2 hs FF FN hg
 go_wp2_with fail
 refine OP.out.mono ?_
 rintro e w3 ⟨q,rfl,hq,d3,f3,k3⟩
 have B3:=jnc (B2.out.trans (k3.bel.mono B1.out.size))
 have D3:=jnc d3
 have F3:=jnc f3
 clear d3 f3 k3 OP hq
 go_wp2_with fail
 refine(ON.out w3).mono ?_
 rintro e w3' ⟨rfl,rfl⟩
 go_wp2_with fail
 refine(GG.out w3).mono ?_
 rintro e w4 ⟨rfl,b4⟩
 have B4:=jnc (B3.out.trans (b4.mono B3.out.size))
 have D4:=jnc (D3.out.below b4)
 have F4:=jnc (jd F3.out b4 F3.out.lt)
 clear b4
 go_wp2_with fail
 refine(I1.out w4).mono ?_
 rintro e w4a ⟨rfl,rfl⟩
 go_wp2_with fail
 refine(NT.out _).mono ?_
 rintro e w4b ⟨rfl,rfl⟩
 go_wp2_with fail
 refine(NN.out _).mono ?_
 rintro e w4c ⟨rfl,rfl⟩
 go_wp2_with fail
 refine(NC.out _).mono ?_
 rintro e w4d ⟨rfl,rfl⟩
 go_wp2_with fail
 refine(I3.out _).mono ?_
 rintro e w4e ⟨rfl,rfl⟩
 go_wp2_with fail
 refine(NA.out _ _ _ _).mono ?_
 rintro e w4f ⟨rfl,rfl⟩
 go_wp2_with fail
 refine(I3.out _).mono ?_
 rintro e w4g ⟨rfl,rfl⟩
 go_wp2_with fail
 refine(NS.out _).mono ?_
 rintro e w5 ⟨rfl,b5⟩
 have B5:=jnc (B4.out.trans (b5.mono B4.out.size))
 have D5:=jnc (D4.out.below b5)
 have F5:=jnc (jd F4.out b5 F4.out.lt)
 clear b5
 go_wp2_with fail
 refine(I3.out _).mono ?_
 rintro e w5a ⟨rfl,rfl⟩
 go_wp2_with fail
 refine(jfR q _ z _ _ F5.out).mono ?_
 rintro e w5b ⟨rfl,rfl⟩
 have hqq:(z.toList==z.toList)=true:=by simp
 have hee:(B []).toList.isEmpty=true:=by kernel_rfl
 go_wp2_with fail
 refine(qA q _ z _ _ F5.out).mono ?_
 rintro e w5c ⟨rfl,rfl⟩
 obtain⟨T5,hA5,_⟩:=D5.out
 have NM:=jnc (Sd.names_any hA5 HFN.out (by decide) (HFF.out.rising hgz))
 clear hA5
 go_wp2_with fail
 refine NM.out.mono ?_
 rintro e w6 ⟨v,rfl,hS,b6⟩
 obtain⟨w7,hw7⟩:∃y,w6.alloc (.cells #[.string z] 9)=y:=⟨_,rfl⟩
 have b7:Below w6.heap.size w6 w7:=by rw[<- hw7];exact(jne _ _).alloc (jnd _) _
 have Z7:ja w7 w6.heap.size 9 #[.string z]:=by rw[<- hw7];exact ja.new _ _ _
 have hb57:=b6.trans (b7.mono b6.size)
 have B7:=jnc (B5.out.trans (hb57.mono B5.out.size))
 have D7:=jnc (D5.out.below hb57)
 have eS:(vk (jV 1000) z).seen.map (fun x=>bs x.1)=[z]:=by rw[HFF.out.seen];show [bs z.data.toList]=[z];rw[jmG]
 rw[eS]at hS
 have TX:=jnc (Sd.texts_any v _ [z] [z] w7 (hS.below b7 (jnd _)) (jj0 Z7) (by show 1<=1000000;omega) (by show 1<=1000000;omega))
 obtain⟨va,vc,rfl,_,_⟩:=hS
 have HW7:=jnc hw7
 clear b6 b7 hb57 Z7 hw7 NM eS
 go_wp2_with fail
 rw[HW7.out]
 refine TX.out.mono ?_
 rintro e w8 ⟨rfl,b8⟩
 have B8:=jnc (B7.out.trans (b8.mono B7.out.size))
 obtain⟨T8,hA8,_⟩:=D7.out.below b8
 have AC:=jnc (jcG hA8 HFN.out (by decide))
 have h2:=HFF.out.acts
 clear b8 TX hA8
 go_wp2_with fail
 refine AC.out.mono ?_
 rintro e w9 ⟨v9,rfl,_,_,⟨ao,ac,rfl⟩,b9⟩
 have B9:=jnc (B8.out.trans (b9.mono B8.out.size))
 clear b9 AC
 rw[h2]
 go_wp2_with fail
 go_ret
 exact⟨rfl,B9.out⟩
theorem namesCall(z x:ByteArray)(W:World)(_:z.size<=maxLen)(_:x.size<=maxLen)(hT:QX W):
  Calls Tryz.prog 5 #[.string z,.string x] W fun e w'=>e=.returned (.bool true)/\Below W.heap.size W w' :=
 jhL z x W fun W' hW=>⟨hT.below hW (jnd _),(hT.below hW (jnd _)).tabs.err⟩
end Go.Proofs.YtpibhbjmcmfnmaaGreatDoor.Vf
namespace Go.Proofs.YtpibhbjmcmfnmaaGreatDoor.Vf
theorem both:True:=trivial
end Go.Proofs.YtpibhbjmcmfnmaaGreatDoor.Vf
