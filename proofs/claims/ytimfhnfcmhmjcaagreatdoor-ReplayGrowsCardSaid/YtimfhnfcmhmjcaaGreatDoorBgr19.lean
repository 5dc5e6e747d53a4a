/- Texts put together:DJ,DK,DL,DQ,SB,MC,MD,ME,MF,EB,IM,PL,PM,PV. -/
import Derived.Test.YtimfhnfcmhmjcaaGreatDoorBgr18
set_option linter.unusedVariables false
set_option maxRecDepth 100000
set_option maxHeartbeats 16000000
namespace Go.Proofs.YtimfhnfcmhmjcaaGreatDoor.Fr
open Go.RowKit Go.Shelf
attribute [local go_sem] jit
theorem YS{t:List UInt8}(h:yd t):vE t 2 [] 0:=.inr (.inl ⟨h,rfl,rfl,rfl⟩)
theorem xu{t:List UInt8}(h:¬yd t)(h2:¬∃b,qJ t b):vE t 3 [] 0:=.inr (.inr ⟨h,h2,rfl,rfl,rfl⟩)
theorem GG{l:List UInt8}(h:(10:UInt8)∈l):l=head l++10::l.drop ((head l).length+1):=by
 have:=zi l
 have hn:nl l=true:=by unfold nl;simpa using h
 unfold zY at this
 rw[hn,if_pos rfl,if_pos rfl]at this
 simpa using this
def readV(k:Nat)(b:List UInt8)(n:Nat):Ending:=.returned (.tuple #[.int .i64 (k:Int),.string (B b),.int .i64 (n:Int)])
theorem read_any(l:List UInt8)(hl:l.length<=700000)(w:World)(ht:TabsN w):
  Calls Tryz.prog 59 #[.string (B l)] w fun e w'=>∃k b n,vE l k b n/\e=readV k b n/\Below w.heap.size w w':=by
 have C1:=jii (Ul l 10 (by omega) w)
 by_cases h10:(10:UInt8)∈l
 ·have hc:l.contains 10=true:=by simpa using h10
  have hln:(10:UInt8)∉head l:=yh
  have hs:=GG h10
  have eh:l.takeWhile (· != 10)=head l:=rfl
  rw[hc,eh]at C1
  have hh:(head l).length<=700000:=by have:=jfR l;omega
  have A1:=jii (fun w ht=>xN (head l) (by omega) w ht)
  generalize head l=line at *
  generalize l.drop (line.length+1)=r at *
  clear hc eh
  have hr:r.length<=700000:=by have:=congrArg List.length hs;simp at this;omega
  cases hq:jaK line with
  | false =>
   have HO:Hid (vE l 3 [] 0):=by
    have h:=jdC (r:=r) hln (fun h=>by have:=Uu.2 h;rw[hq]at this;cases this)
    rw[<- hs]at h
    exact xu h.1 h.2
   rw[hq]at A1
   clear hq hs hln hr
   go_enter Tryz.func59,Tryz.ntmps59
   go_wp2_with fail
   refine C1.out.mono ?_
   rintro e w1 ⟨rfl,hb1⟩
   go_wp2_with fail
   refine(A1.out _ (ht.below hb1 (jij _))).mono ?_
   rintro e w2 ⟨rfl,hb2⟩
   go_wp2_with fail
   go_ret3
   exact⟨3,[],0,HO.out,rfl,hb1.trans (hb2.mono hb1.size)⟩
  | true =>
  obtain⟨n,f,hH⟩:=Qd hq
  obtain⟨_,hM⟩:=jcS hH
  rw[hq,hM]at A1
  have h2:=hH.lo
  have h5:=hH.hi
  have hfig:=hH.fig
  have hle:=hH.eq
  clear hq hM
  by_cases hlt:r.length<n
  ·have hlt':((B r).size:Int)<n:=by rw[jm];omega
   have HS:=jii (Gi (f:=f) h2 h5 hfig hlt)
   rw[<- hle,<- hs]at HS
   have BB:=jii (fun w=>Qo r n h2 h5 hlt w)
   generalize vp r n=q at *
   clear hs hle hH hln hfig hlt hr
   generalize B r=R at *
   cases q with
   | true =>
    have HO:Hid (vE l 2 [] 0):=YS (HS.out.1.2 rfl)
    go_enter Tryz.func59,Tryz.ntmps59
    go_wp2_with fail
    refine C1.out.mono ?_
    rintro e w1 ⟨rfl,hb1⟩
    go_wp2_with fail
    refine(A1.out _ (ht.below hb1 (jij _))).mono ?_
    rintro e w2 ⟨rfl,hb2⟩
    have hb12:=hb1.trans (hb2.mono hb1.size)
    go_wp2_with fail
    refine(BB.out _).mono ?_
    rintro e w3 ⟨rfl,hb3⟩
    have hb13:=hb12.trans (hb3.mono hb12.size)
    go_wp2_with fail
    refine(Ja _).mono ?_
    rintro e w4 ⟨rfl,rfl⟩
    go_wp2_with fail
    go_ret3
    exact⟨2,[],0,HO.out,rfl,hb13⟩
   | false =>
   have HO:Hid (vE l 3 [] 0):=xu (fun h=>by cases HS.out.1.1 h) HS.out.2
   go_enter Tryz.func59,Tryz.ntmps59
   go_wp2_with fail
   refine C1.out.mono ?_
   rintro e w1 ⟨rfl,hb1⟩
   go_wp2_with fail
   refine(A1.out _ (ht.below hb1 (jij _))).mono ?_
   rintro e w2 ⟨rfl,hb2⟩
   have hb12:=hb1.trans (hb2.mono hb1.size)
   go_wp2_with fail
   refine(BB.out _).mono ?_
   rintro e w3 ⟨rfl,hb3⟩
   have hb13:=hb12.trans (hb3.mono hb12.size)
   go_wp2_with fail
   refine(xw _).mono ?_
   rintro e w4 ⟨rfl,rfl⟩
   go_wp2_with fail
   go_ret3
   exact⟨3,[],0,HO.out,rfl,hb13⟩
  have br:=jm r
  have hlt':¬((B r).size:Int)<n:=by rw[br];omega
  have hnr:(n:Int)<=(B r).size:=by rw[br];omega
  have x1:(B r).extract 0 n=B (r.take n):=ext_take r n
  have x2:(B r).extract n (B r).size=B (r.drop n):=ext_drop r n
  have hb0:(r.take n).length=n:=by simp;omega
  have hrd:r.take n++r.drop n=r:=jiT n r
  have HL:=jii (Zx (f:=f) (b:=r.take n) (r:=r.drop n) h2 h5 hfig hb0)
  rw[hrd,<- hle,<- hs]at HL
  generalize hbd:r.take n=bd at *
  generalize hrs:r.drop n=rs at *
  have HF:=jii (fun w ht=>Qn rs n h5 w ht)
  have HFB:=jii (jb3 (t:=rs) (n:=n))
  have P1:=jii (fun w=>Tryz.strings_HasPrefix (B l) (B (fullR bd)) w)
  have RN:=jii (jbi bd (by omega))
  have RY:=jii (record_yes bd)
  have GD:=jii (fun w=>JZ bd (by omega) w)
  have hel:l=jM n f++10::(bd++rs):=by rw[hrd,<- hle];exact hs
  clear hbd hrs hrd hs hlt hr hle
  have bsz:(B bd).size<=50000:=by rw[jm];omega
  have HX:=jii x1
  have HY:=jii x2
  clear x1 x2 br
  generalize B r=R at *
  generalize hBD:B bd=BD at *
  generalize B rs=RS at *
  have hl1:l.length<=700000:=hl
  cases hg:goodR bd with
  | false =>
   have RN2:=jii (RN.out hg)
   have GD2:=GD.out
   rw[hg]at GD2
   have GD3:=jii GD2
   have HO:Hid (vE l 3 [] 0):=xu (fun h=>by have:=(HL.out.1.1 h).1;rw[hg]at this;cases this) (fun⟨b',h⟩=>by have:=((HL.out.2 b').1 h).2.1;rw[hg]at this;cases this)
   clear GD2 GD RY RN hg hH hln hfig hel hl hl1 P1 HL HF HFB
   go_enter Tryz.func59,Tryz.ntmps59
   go_wp2_with fail
   refine C1.out.mono ?_
   rintro e w1 ⟨rfl,hb1⟩
   go_wp2_with fail
   refine(A1.out _ (ht.below hb1 (jij _))).mono ?_
   rintro e w2 ⟨rfl,hb2⟩
   have hb12:=hb1.trans (hb2.mono hb1.size)
   go_wp2_with fail
   go_quiet (fail)
   go_wp2_with fail
   rw[HX.out,HY.out]
   have ht2:=ht.below hb12 (jij _)
   have hbq:Below w.heap.size w (w2.drewN nq):=⟨hb12.os,hb12.tape,hb12.output,hb12.size,hb12.block⟩
   have htq:=ht.below hbq (jij _)
   generalize w2.drewN nq=w3 at *
   refine(RN2.out _).mono ?_
   rintro e w4 ⟨rfl,hb4⟩
   have hb14:=hbq.trans (hb4.mono hbq.size)
   rw[Xs]
   go_wp2_with fail
   refine(GD3.out _).mono ?_
   rintro e w5 ⟨rfl,hb5⟩
   have hb15:=hb14.trans (hb5.mono hb14.size)
   go_wp2_with fail
   refine(xw _).mono ?_
   rintro e w7 ⟨rfl,rfl⟩
   go_wp2_with fail
   go_ret3
   exact⟨3,[],0,HO.out,rfl,hb15⟩
  | true =>
  have RY2:=jii (RY.out hg)
  have GD2:=GD.out
  rw[hg]at GD2
  have GD3:=jii GD2
  clear GD2 GD RY RN
  have fl:=full_le hg
  have e1:Lib.hasPrefix (B l).data.toList (B (fullR bd)).data.toList=Lib.hasPrefix l (fullR bd):=by rw[jo,jo]
  have fs:=jm (fullR bd)
  generalize hFB:B (fullR bd)=FB at *
  cases hp:Lib.hasPrefix l (fullR bd) with
  | true =>
   have HO:Hid (vE l 1 bd (fullR bd).length):=by
    refine .inl ⟨⟨hg,?_⟩,rfl,rfl⟩
    unfold Lib.hasPrefix at hp
    obtain⟨z,hz⟩:=List.isPrefixOf_iff_prefix.1 hp
    exact⟨z,hz.symm⟩
   have P2:=P1.out
   rw[e1,hp]at P2
   have P3:=jii P2
   clear hp hg e1 hH hln hfig hel hl hl1 P1 P2 HL HF HFB GD3
   rw[<- fs]at HO
   clear fs hFB
   go_enter Tryz.func59,Tryz.ntmps59
   go_wp2_with fail
   refine C1.out.mono ?_
   rintro e w1 ⟨rfl,hb1⟩
   go_wp2_with fail
   refine(A1.out _ (ht.below hb1 (jij _))).mono ?_
   rintro e w2 ⟨rfl,hb2⟩
   have hb12:=hb1.trans (hb2.mono hb1.size)
   go_wp2_with fail
   go_quiet (fail)
   go_wp2_with fail
   rw[HX.out,HY.out]
   have ht2:=ht.below hb12 (jij _)
   have hbq:Below w.heap.size w (w2.drewN nq):=⟨hb12.os,hb12.tape,hb12.output,hb12.size,hb12.block⟩
   have htq:=ht.below hbq (jij _)
   generalize w2.drewN nq=w3 at *
   refine(RY2.out _ htq).mono ?_
   rintro e w4 ⟨rfl,hb4⟩
   have hb14:=hbq.trans (hb4.mono hbq.size)
   go_wp2_with fail
   refine(P3.out _).mono ?_
   rintro e w5 ⟨rfl,rfl⟩
   go_wp2_with fail
   go_ret3
   exact⟨1,bd,FB.size,HO.out,by rw[<- hBD];rfl,hb14⟩
  | false =>
  have P2:=P1.out
  rw[e1,hp]at P2
  have P3:=jii P2
  have hw:¬∃b,qJ l b:=by
   rintro⟨b',h'⟩
   obtain⟨rfl,_,_,_⟩:=(HL.out.2 b').1 h'
   obtain⟨_,more,e⟩:=h'
   have:Lib.hasPrefix l (fullR b')=true:=by unfold Lib.hasPrefix;rw[jjF];exact⟨more,e.symm⟩
   rw[hp]at this;cases this
  have hpt:yd l↔Yd rs n=true:=by
   rw[HL.out.1,HFB.out]
   exact⟨fun h=>h.2,fun h=>⟨hg,h⟩⟩
  have HO:=jii (show(Yd rs n=true->vE l 2 [] 0)/\(Yd rs n=false->vE l 3 [] 0) from
   ⟨fun h=>YS (hpt.2 h),fun h=>xu (fun h'=>by rw[hpt.1 h']at h;cases h) hw⟩)
  generalize Yd rs n=q at *
  clear hp hg e1 hH hln hfig hel hl hl1 P1 P2 HL HFB hw hpt fs hFB
  cases q with
  | true =>
   have HO2:=jii (HO.out.1 rfl)
   go_enter Tryz.func59,Tryz.ntmps59
   go_wp2_with fail
   refine C1.out.mono ?_
   rintro e w1 ⟨rfl,hb1⟩
   go_wp2_with fail
   refine(A1.out _ (ht.below hb1 (jij _))).mono ?_
   rintro e w2 ⟨rfl,hb2⟩
   have hb12:=hb1.trans (hb2.mono hb1.size)
   go_wp2_with fail
   go_quiet (fail)
   go_wp2_with fail
   rw[HX.out,HY.out]
   have ht2:=ht.below hb12 (jij _)
   have hbq:Below w.heap.size w (w2.drewN nq):=⟨hb12.os,hb12.tape,hb12.output,hb12.size,hb12.block⟩
   have htq:=ht.below hbq (jij _)
   generalize w2.drewN nq=w3 at *
   refine(RY2.out _ htq).mono ?_
   rintro e w4 ⟨rfl,hb4⟩
   have hb14:=hbq.trans (hb4.mono hbq.size)
   go_wp2_with fail
   refine(P3.out _).mono ?_
   rintro e w5 ⟨rfl,rfl⟩
   go_wp2_with fail
   refine(GD3.out _).mono ?_
   rintro e w5 ⟨rfl,hb5⟩
   have hb15:=hb14.trans (hb5.mono hb14.size)
   go_wp2_with fail
   refine(HF.out _ (ht.below hb15 (jij _))).mono ?_
   rintro e w6 ⟨rfl,hb6⟩
   have hb16:=hb15.trans (hb6.mono hb15.size)
   go_wp2_with fail
   refine(Ja _).mono ?_
   rintro e w7 ⟨rfl,rfl⟩
   go_wp2_with fail
   go_ret3
   exact⟨2,[],0,HO2.out,rfl,hb16⟩
  | false =>
  have HO2:=jii (HO.out.2 rfl)
  go_enter Tryz.func59,Tryz.ntmps59
  go_wp2_with fail
  refine C1.out.mono ?_
  rintro e w1 ⟨rfl,hb1⟩
  go_wp2_with fail
  refine(A1.out _ (ht.below hb1 (jij _))).mono ?_
  rintro e w2 ⟨rfl,hb2⟩
  have hb12:=hb1.trans (hb2.mono hb1.size)
  go_wp2_with fail
  go_quiet (fail)
  go_wp2_with fail
  rw[HX.out,HY.out]
  have ht2:=ht.below hb12 (jij _)
  have hbq:Below w.heap.size w (w2.drewN nq):=⟨hb12.os,hb12.tape,hb12.output,hb12.size,hb12.block⟩
  have htq:=ht.below hbq (jij _)
  generalize w2.drewN nq=w3 at *
  refine(RY2.out _ htq).mono ?_
  rintro e w4 ⟨rfl,hb4⟩
  have hb14:=hbq.trans (hb4.mono hbq.size)
  go_wp2_with fail
  refine(P3.out _).mono ?_
  rintro e w5 ⟨rfl,rfl⟩
  go_wp2_with fail
  refine(GD3.out _).mono ?_
  rintro e w5 ⟨rfl,hb5⟩
  have hb15:=hb14.trans (hb5.mono hb14.size)
  go_wp2_with fail
  refine(HF.out _ (ht.below hb15 (jij _))).mono ?_
  rintro e w6 ⟨rfl,hb6⟩
  have hb16:=hb15.trans (hb6.mono hb15.size)
  go_wp2_with fail
  refine(xw _).mono ?_
  rintro e w7 ⟨rfl,rfl⟩
  go_wp2_with fail
  go_ret3
  exact⟨3,[],0,HO2.out,rfl,hb16⟩
 have hc:l.contains 10=false:=by simpa using h10
 have eh:l.takeWhile (· != 10)=l:=qK (jbw h10)
 rw[hc,eh]at C1
 have BH:=jii (fun w ht=>Qm l (by omega) w ht)
 have HO:=jii (show(qQ l->vE l 2 [] 0)/\(¬qQ l->vE l 3 [] 0) from
  ⟨jft,fun h=>xu (fun h'=>h ((YU h10).1 h')) (fun⟨b,h'⟩=>VR h10 h')⟩)
 clear hc eh h10
 generalize B (l.drop (l.length+1))=R at *
 go_enter Tryz.func59,Tryz.ntmps59
 go_wp2_with fail
 refine C1.out.mono ?_
 rintro e w1 ⟨rfl,hb1⟩
 go_wp2_with fail
 refine(BH.out _ (ht.below hb1 (jij _))).mono ?_
 rintro e w2 ⟨q,hq,rfl,hb2⟩
 have hb12:=hb1.trans (hb2.mono hb1.size)
 have HQ:=jii hq
 clear hq
 go_wp2_with fail
 cases q with
 | true =>
  have HO2:=jii (HO.out.1 (HQ.out.1 rfl))
  refine(Ja _).mono ?_
  rintro e w7 ⟨rfl,rfl⟩
  go_wp2_with fail
  go_ret3
  exact⟨2,[],0,HO2.out,rfl,hb12⟩
 | false =>
 have HO2:=jii (HO.out.2 (fun h=>by cases HQ.out.2 h))
 refine(xw _).mono ?_
 rintro e w7 ⟨rfl,rfl⟩
 go_wp2_with fail
 go_ret3
 exact⟨3,[],0,HO2.out,rfl,hb12⟩
def b3:List UInt8:=[32,97,10]
def signB(l:List UInt8):Bool:=Lib.hasPrefix l [37]
theorem beginsF_any(s:ByteArray)(hs:s.size<=100000)(w:World):
  Calls Tryz.prog 101 #[.string s] w fun e w'=>e=.returned (.bool (signB s.data.toList&&decide (jz s.data.toList=5)))/\Below w.heap.size w w':=by
 have P1:=jii (fun w=>Tryz.strings_HasPrefix s ⟨#[37]⟩ w)
 have e0:Lib.hasPrefix s.data.toList (⟨#[37]⟩:ByteArray).data.toList=signB s.data.toList:=rfl
 simp only[e0]at P1
 have K1:=jii (fun w=>qM s (by unfold maxLen;omega) w)
 have ek:(((jz s.data.toList:Nat):Int)==5)=decide (jz s.data.toList=5):=by rw[jjm];simp;omega
 generalize signB s.data.toList=q at *
 generalize decide (jz s.data.toList=5)=d at *
 generalize jz s.data.toList=k at *
 cases q with
 | false =>
  go_enter Tryz.func101,Tryz.ntmps101
  go_wp2_with fail
  refine(P1.out _).mono ?_
  rintro e w1 ⟨rfl,rfl⟩
  go_wp2_with fail
  go_ret
  exact⟨rfl,jil _ _⟩
 | true =>
 go_enter Tryz.func101,Tryz.ntmps101
 go_wp2_with fail
 refine(P1.out _).mono ?_
 rintro e w1 ⟨rfl,rfl⟩
 go_wp2_with fail
 refine(K1.out _).mono ?_
 rintro e w2 ⟨rfl,hb⟩
 go_wp2_with fail
 go_ret
 exact⟨by simp,hb⟩
end Go.Proofs.YtimfhnfcmhmjcaaGreatDoor.Fr
namespace Go.Proofs.YtimfhnfcmhmjcaaGreatDoor.Bk
open Go.RowKit Go.Shelf
attribute [local go_sem] jit
def jhV(w:World)(s:ByteArray)(pre:List Ln)(W:World):Prop:=Boxed W w.heap.size 9 (.string s)/\Boxed W (w.heap.size+1) 9 (.string ⟨#[]⟩)/\Below w.heap.size w W/\∀y∈pre,ZX y.text=false
def jib(w:World)(s:ByteArray)(c:Code)(pre:List Ln)(W:World):Prop:=Below w.heap.size w W/\c=.ret/\∃x,pre.find? (fun y=>ZX y.text)=some x/\Boxed W (w.heap.size+1) 9 (.string (s.extract 0 x.at_))
theorem jcJ(w W:World)(u:ByteArray)(tmps:Array Value)(h:Boxed W (w.heap.size+1) 9 (.string u))(hK:W.heap[w.heap.size+3]?=some (.deferred (some [])))(hB:Below w.heap.size w W)(t2:tmps[2]?=some (.pointer (some ⟨w.heap.size+1,0,none⟩))):
  bodyPostM Fence.wide 9 Tryz.prog Tryz.f57 (fun e w'=>e=.returned (.string u)/\Below w.heap.size w w') .ret {tmps:=tmps,defers:=[{target:=.collected (w.heap.size+3),args:=#[]}]} W:=by
 have p1:=grownBy_putObj' W (w.heap.size+3) (.deferred none)
 have zW:w.heap.size+3<W.heap.size:=(Array.getElem?_eq_some_iff.1 hK).1
 have r:Boxed (W.putObj (w.heap.size+3) (.deferred none)) (w.heap.size+1) 9 (.string u):=(p1.block _ (by omega) (fun e=>by have:=jip e;omega)).trans h
 have c:=r.cell
 refine⟨by simp,.inl ⟨_,_,rfl,run_takeDeferred hK,?_⟩⟩
 exact⟨.string u,by simp[results,Tryz.f57,go_sem,t2,c],rfl,hB.trans (belowK_b (w:=w) (jij _) W _ _ _ (by omega) hK rfl rfl)⟩
theorem jeC(s:ByteArray)(hsz:s.size<=100000)(w:World):
  Calls Tryz.prog 57 #[.string s] w fun e w'=>e=.returned (.string (s.extract 0 (xg (jg s.data.toList) s.size)))/\Below w.heap.size w w':=by
 obtain⟨xs,hxs⟩:∃xs,jg s.data.toList=xs:=⟨_,rfl⟩
 have HXS:=jii hxs
 have HH:=fun w b=>qq s b w
 rw[hxs]at HH ⊢
 have FULL:Hid (s.extract 0 s.size=s):=by
  show s.extract 0 s.size=s
  apply jkc
  simp
 have LEN:Hid (∀pre x post,xs=pre++x::post->x.text.length<=s.size/\x.at_<=s.size):=fun pre x post h=>by
  have hj:=jT s.data.toList
  have ha:=(qT s.data.toList pre x post (hxs.trans h)).2
  rw[hxs,h,jiN,jiy]at hj
  have:=congrArg List.length hj
  simp only[jik]at this
  rw[<- jiV]at this
  have hb:x.text.length<=x.bytes.length:=by unfold Ln.bytes;rw[jik];omega
  omega
 clear hxs
 refine callsIn_wide (n:=9).1 ?_
 refine callsIn_of_wp_marks Tryz.func57 rfl trivial ?_ rfl
 simp only[Tryz.ntmps57,ji5,jin,jiJ,Nat.reduceAdd,Nat.reduceSub,ji3,ji4,jje,ji6,jiZ,jiz]
 gi_wp2_with fail
 refine⟨trivial,(callsIn_wide.2 (vx s _)).mono ?_⟩
 rintro e w3 ⟨rfl,rfl⟩
 gi_wp2_with fail
 have k1:=((jjs w 9 (.string s)).alloc (.cells #[.string ⟨#[]⟩] 9)).alloc (.cells #[.string s] 9)
 have k2:=(vX w (.cells #[.string s] 9) 9 (.string ⟨#[]⟩)).alloc (.cells #[.string s] 9)
 have k3:=Jj w (.cells #[.string s] 9) (.cells #[.string ⟨#[]⟩] 9) 9 (.string s)
 have kb:Below w.heap.size w (((w.alloc (.cells #[.string s] 9)).alloc (.cells #[.string ⟨#[]⟩] 9)).alloc (.cells #[.string s] 9)):=(((jil _ w).alloc (jij _) _).alloc (by simp) _).alloc (by simp;omega) _
 have kz:(((w.alloc (.cells #[.string s] 9)).alloc (.cells #[.string ⟨#[]⟩] 9)).alloc (.cells #[.string s] 9)).heap.size=w.heap.size+3:=by simp
 generalize ((w.alloc (.cells #[.string s] 9)).alloc (.cells #[.string ⟨#[]⟩] 9)).alloc (.cells #[.string s] 9)=w1 at *
 have ab:∀k,k<=5->zo (w.heap.size+3) k (jhV w s):=fun k hk pre W W' h ht =>
  ⟨ht.box h.1 (.inl (by omega)),ht.box h.2.1 (.inl (by omega)),h.2.2.1.trans (ht.below (by omega) h.2.2.1.size),h.2.2.2⟩
 refine qS (gf:=159) (lb:=#[.pointer (some ⟨w.heap.size+2,0,none⟩)]) rfl (enters_of Tryz.func159 (by kernel_rfl) rfl) (HH w1 _ k3 (by omega)) (fun _=>rfl)
  (jhV w s) (jib w s) (by rw[kz];exact ab _ (by omega)) (fun c pre W W' h ht=>by
   obtain⟨h1,h2,x,h3,h4⟩:=h
   exact⟨h1.trans (ht.below (by rw[kz];omega) h1.size),h2,x,h3,ht.box h4 (.inl (by rw[kz];omega))⟩) ⟨k1,k2,kb,fun y h=>by cases h⟩
  (fun a pre x a' W=>∃Bx,w.heap.size+3+5<=Bx/\a'={tmps:=(a.tmps.setIfInBounds 6 (.agg (qu x))).setIfInBounds 3 (.pointer (some ⟨Bx,0,none⟩)),defers:=[]}/\ja W Bx 182 (qu x)/\jhV w s pre W)
  ?hM ?assign ?body ?done ?stop
 case hM =>
  rw[kz]
  rintro a pre x a' _ W W' ⟨Bx,h1,h2,h3,h4⟩ ht
  exact⟨Bx,h1,h2,(ht.same Bx h3.lt (.inr (by omega))).trans h3,ab 2 (by omega) pre W W' h4 ht⟩
 case assign =>
  rw[kz]
  intro l pre x post W hx hsz hi
  clear hx
  dsimp only[qu]
  gi_wp2
  exact⟨(qC.refl _ _ W).alloc hsz _,W.heap.size,by omega,rfl,ja.new _ _ _,hi.1.alloc _,hi.2.1.alloc _,hi.2.2.1.alloc hi.2.2.1.size _,hi.2.2.2⟩
 case body =>
  rw[kz]
  rintro l pre x post a' W hx hsz ⟨Bx,hB,rfl,hc,h1,h2,h3,h4⟩
  obtain⟨hl1,hl2⟩:=LEN.out pre x post hx
  clear hx
  simp only[jiC,jjj,jjk,qu]at hc ⊢
  have hne:Bx≠w.heap.size:=by omega
  have p1:W.cell? ⟨Bx,1,none⟩=some (.int .i64 x.at_):=hc.cell 1
  have p2:W.cell? ⟨Bx,2,none⟩=some (.string ⟨x.text.toArray⟩):=hc.cell 2
  have BG:=Fr.beginsF_any ⟨x.text.toArray⟩ (by show x.text.toArray.size<=_;simp;omega) W
  have eb:(Fr.signB (⟨x.text.toArray⟩:ByteArray).data.toList&&decide (jz (⟨x.text.toArray⟩:ByteArray).data.toList=5))=ZX x.text:=rfl
  rw[eb]at BG
  gi_wp2_with fail
  refine⟨trivial,((callsIn_wide.2 BG).inRound l).mono ?_⟩
  rintro e V ⟨rfl,hV⟩
  have st:qC (w.heap.size+3) (3+2) W V:=⟨hV.size,fun r a b=>hV.block r (by omega)⟩
  have g1:Boxed V w.heap.size 9 (.string s):=(hV.block _ h1.lt).trans h1
  have g2:Boxed V (w.heap.size+1) 9 (.string ⟨#[]⟩):=(hV.block _ h2.lt).trans h2
  have g3:Below w.heap.size w V:=h3.trans (hV.mono h3.size)
  cases hbx:ZX x.text with
  | false =>
   gi_wp2
   refine⟨st,g1,g2,g3,fun y hy => ?_⟩
   rcases List.mem_append.1 hy with hy|hy
   ·exact h4 y hy
   rw[List.mem_singleton.1 hy];exact hbx
  | true =>
  have hcV:ja V Bx 182 _:=(hV.block _ hc.lt).trans hc
  have p1':V.cell? ⟨Bx,1,none⟩=some (.int .i64 x.at_):=by rw[hcV.cell];rfl
  have c1:=g1.cell
  have c2:=g2.cell
  have f2:=g2.frozen
  have fnd:(pre++[x]).find? (fun y=>ZX y.text)=some x:=by
   rw[jkt,List.find?_eq_none.2 (fun y hy=>by rw[h4 y hy];simp),Option.none_or,jkD]
   simp[hbx]
  have hl3:(x.at_:Int)<=s.size:=by omega
  gi_wp2
  exact⟨st.setCell (p:=⟨w.heap.size+1,0,none⟩) (.inl (by show w.heap.size+1<_;omega)) _,g3.setCell (p:=⟨w.heap.size+1,0,none⟩) (by show w.heap.size<=w.heap.size+1;omega) _,rfl,x,fnd,jjg _ g2⟩
 case done =>
  rw[kz]
  rintro W ⟨h1,h2,h3,h4⟩ hmark
  have zW:w.heap.size+3<W.heap.size:=(Array.getElem?_eq_some_iff.1 hmark).1
  have c1:=h1.cell
  have c2:=h2.cell
  have f2:=h2.frozen
  have e:xg xs s.size=s.size:=by
   unfold xg
   rw[List.find?_eq_none.2 (fun y hy=>by rw[h4 y hy];simp)]
  have eu:s.extract 0 (xg xs s.size)=s:=by rw[e];exact FULL.out
  gi_wp2
  exact jcJ w _ (s.extract 0 (xg xs s.size)) _ (by rw[eu];exact jjg _ h2) ((jiS _ _ _ _ (by show w.heap.size+3≠w.heap.size+1;omega)).trans hmark) (h3.setCell (p:=⟨w.heap.size+1,0,none⟩) (by show w.heap.size<=w.heap.size+1;omega) _) rfl
 case stop =>
 rw[kz]
 rintro c pre W hpre ⟨h1,rfl,x,h3,h4⟩ hmark
 have e:xg xs s.size=x.at_:=by
  unfold xg
  obtain⟨z,rfl⟩:=hpre
  rw[jkt,h3];rfl
 gi_wp2
 exact jcJ w W (s.extract 0 (xg xs s.size)) _ (by rw[e];exact h4) hmark h1 rfl
theorem jeD(t:List UInt8)(ht:t.length<=100000)(w:World):
  Calls Tryz.prog 57 #[.string (B t)] w fun e w'=>e=.returned (.string (B (vi t)))/\Below w.heap.size w w':=by
 have h:=jeC (B t) (by rw[jm];exact ht) w
 rw[jo,jm,Fr.ext_take]at h
 exact h
end Go.Proofs.YtimfhnfcmhmjcaaGreatDoor.Bk
namespace Go.Proofs.YtimfhnfcmhmjcaaGreatDoor.Hd
open Go.RowKit Go.Shelf
attribute [local go_sem] jit
def MaxL(w:World):Prop:=∃m:Int,w.cell? ⟨1,0,none⟩=some (.int .i64 m)
theorem MaxL.below{w w':World}{N:Nat}(h:MaxL w)(hb:Below N w w')(hN:w.heap.size<=N):MaxL w':=by
 obtain⟨m,hm⟩:=h
 have hlt:1<w.heap.size:=by
  rcases jiK 1 w.heap.size with h|h
  ·exact h
  have:w.heap[1]?=none:=ji1 h
  simp[World.cell?,this]at hm
 exact⟨m,(hb.cell (p:=⟨1,0,none⟩) (by show 1<N;omega)).trans hm⟩
structure Tab(w:World):Prop where
 nums:Fr.TabsN w
 max:MaxL w
theorem Tab.below{w w':World}{N:Nat}(h:Tab w)(hb:Below N w w')(hN:w.heap.size<=N):Tab w':=⟨h.nums.below hb hN,h.max.below hb hN⟩
theorem vz{w:World}(n:Nat)(os:Array Obj):Below w.heap.size w (Go.Sort.grow (w.drewN n) os) :=
 ⟨rfl,rfl,rfl,by rw[Go.Sort.size_grow];exact Nat.le_add_right _ _,fun k hk=>jkz _ _ hk⟩
theorem JY(n:Nat)(hn:n<=9223372036854775807)(w:World)(ht:Tab w):Calls Tryz.prog 150 #[.int .i64 (n:Int)] w fun e w'=>e=.returned (.string (B (Lib.decDigits n)))/\Below w.heap.size w w' :=
 (Tryz.strconv_Itoa n (by omega) (by omega) w ht.nums.pow).mono fun e w' ⟨he,k,os,hw⟩=>⟨by rw[he,jki];rfl,by rw[hw];exact vz k os⟩
theorem Wz(g:Nat)(h1:1<=g)(h2:g<=2147483648)(w:World)(ht:Tab w):
  Calls Tryz.prog 98 #[.int .i64 (g:Int)] w fun e w'=>e=.returned (.tuple #[.string (B (ze g)),.nilIface])/\Below w.heap.size w w':=by
 have IT:=jii (JY g (by omega) w ht)
 have E:Hid ((⟨#[35,37,103,101,110,32]⟩:ByteArray)++B (Lib.decDigits g) ++ ⟨#[10,10]⟩=B (ze g)):=by
  show _=_
  rw[show(⟨#[35,37,103,101,110,32]⟩:ByteArray)=B Yy from rfl,show(⟨#[10,10]⟩:ByteArray)=B [10,10] from rfl,jE,jE]
  unfold ze;simp
 have hs:(B (Lib.decDigits g)).size<=20:=by rw[jm];exact(jct g h2).2
 have q1:¬(g:Int)<1:=by omega
 have q2:¬(2147483648:Int)<g:=by omega
 generalize B (Lib.decDigits g)=d at *
 have s1:((⟨#[35,37,103,101,110,32]⟩:ByteArray)++d).size<=26:=by rw[jji];show 6+_<=_;omega
 clear ht
 go_enter Tryz.func98,Tryz.ntmps98
 go_wp2_with fail
 refine IT.out.mono ?_
 rintro e w1 ⟨rfl,hb⟩
 go_wp2_with fail
 go_ret2
 exact⟨by rw[<- E.out];rfl,hb⟩
theorem Wy(g:Int)(h:g<1\/2147483648<g)(w:World):
  Calls Tryz.prog 98 #[.int .i64 g] w fun e w'=>e=.returned (.tuple #[.string (B []),xl 1])/\w'=w:=by
 by_cases q1:g<1
 ·go_enter Tryz.func98,Tryz.ntmps98
  go_wp2_with fail
  go_ret2
  exact⟨rfl,rfl⟩
 have q2:(2147483648:Int)<g:=by omega
 go_enter Tryz.func98,Tryz.ntmps98
 go_wp2_with fail
 go_ret2
 exact⟨rfl,rfl⟩
theorem VU(g:Nat)(h1:1<=g)(h2:g<=2147483648)(w:World)(ht:Tab w):
  Calls Tryz.prog 55 #[.int .i64 (g:Int)] w fun e w'=>e=.returned (.int .i64 (ze g).length)/\Below w.heap.size w w':=by
 have L:=jii (Wz g h1 h2 w ht)
 have hs:=jm (ze g)
 generalize B (ze g)=d at *
 rw[<- hs]
 clear ht hs
 go_enter Tryz.func55,Tryz.ntmps55
 go_wp2_with fail
 refine L.out.mono ?_
 rintro e w1 ⟨rfl,hb⟩
 go_wp2_with fail
 go_ret
 exact⟨rfl,hb⟩
theorem jfC(g:Int)(h:g<1\/2147483648<g)(w:World):
  Calls Tryz.prog 55 #[.int .i64 g] w fun e w'=>e=.returned (.int .i64 0)/\w'=w:=by
 have L:=jii (Wy g h w)
 have hs:(B []).size=0:=rfl
 go_enter Tryz.func55,Tryz.ntmps55
 go_wp2_with fail
 refine L.out.mono ?_
 rintro e w1 ⟨rfl,rfl⟩
 go_wp2_with fail
 go_ret
 exact⟨rfl,rfl⟩
def genP(t:List UInt8):Nat:=if 1<=qm (figs t)/\qm (figs t)<=2147483648/\Lib.hasPrefix t (ze (qm (figs t)).toNat)=true then (qm (figs t)).toNat else 0
theorem genP_is(t:List UInt8):Jp t (genP t):=jd4 t
theorem jaP(t:List UInt8)(w:World):Calls Tryz.prog 157 #[.string (B t),.string ⟨#[35,37,103,101,110,32]⟩] w fun e w'=>e=.returned (.string (B (Lib.trimPrefix t Yy)))/\w'=w :=
 (Tryz.strings_TrimPrefix (B t) ⟨#[35,37,103,101,110,32]⟩ w).mono fun e w' ⟨he,hw⟩=>⟨by rw[he,jo];rfl,hw⟩
theorem jew(t:List UInt8)(ht:t.length<=1000000)(w:World)(hm:MaxL w):Calls Tryz.prog 105 #[.string (B t),.string ⟨#[10,10]⟩] w fun e w'=>(∃b c,e=.returned (.tuple #[.string (B (Lib.cut t [10,10]).1),.string b,.bool c]))/\Below w.heap.size w w':=by
 obtain⟨m,hm⟩:=hm
 refine(Tryz.strings_Cut (B t) ⟨#[10,10]⟩ m w (by rw[jm];omega) hm).mono ?_
 rintro e w' ⟨rfl,n,rfl⟩
 rw[jo]
 exact⟨⟨_,_,rfl⟩,vf (jil _ _) n⟩
theorem jdt(a b:List UInt8)(w:World):Calls Tryz.prog 110 #[.string (B a),.string (B b)] w fun e w'=>e=.returned (.bool (Lib.hasPrefix a b))/\w'=w :=
 (Tryz.strings_HasPrefix (B a) (B b) w).mono fun e w' ⟨he,hw⟩=>⟨by rw[he,jo,jo],hw⟩
theorem jc7(t p:List UInt8):(Lib.trimPrefix t p).length<=t.length:=by
 unfold Lib.trimPrefix;split
 ·rw[jiw];omega
 omega
theorem jfU(t:List UInt8)(hl:t.length<=100000)(w:World)(ht:Tab w):
  Calls Tryz.prog 99 #[.string (B t)] w fun e w'=>e=.returned (.int .i64 (genP t:Nat))/\Below w.heap.size w w':=by
 have TR:=jii (jaP t)
 have hfl:=jed t
 have htl:=jc7 t Yy
 have CU:=jii (fun W (hb:Below w.heap.size w W)=>jew (Lib.trimPrefix t Yy) (by omega) W (ht.max.below hb (jij _)))
 have AT:=jii (fun W (hb:Below w.heap.size w W)=>Fr.atoi_any (figs t) (by omega) W (ht.nums.below hb (jij _)))
 have PR:=jii (fun g W=>jdt t (ze g) W)
 unfold genP
 rw[show(Lib.cut (Lib.trimPrefix t Yy) [10,10]).1=figs t from rfl]at CU
 generalize figs t=fg at *
 generalize Lib.trimPrefix t Yy=tr at *
 generalize qm fg=v at *
 by_cases hv:1<=v/\v<=2147483648
 ·obtain⟨g,rfl⟩:∃g:Nat,v=g:=⟨v.toNat,by omega⟩
  have LI:=jii (fun W (hb:Below w.heap.size w W)=>Wz g (by omega) (by omega) W (ht.below hb (jij _)))
  have PR:=jii (fun W=>PR.out g W)
  rw[jks]
  cases hp:Lib.hasPrefix t (ze g) with
  | true =>
   rw[if_pos ⟨hv.1,hv.2,rfl⟩]
   rw[hp]at PR
   clear ht hp
   generalize B t=bt at *
   generalize B (ze g)=bh at *
   generalize B fg=bf at *
   generalize B tr=br at *
   go_enter Tryz.func99,Tryz.ntmps99
   go_wp2_with fail
   refine(TR.out _).mono ?_
   rintro e w1 ⟨rfl,rfl⟩
   go_wp2_with fail
   refine(CU.out _ (jil _ _)).mono ?_
   rintro e w2 ⟨⟨b,c,rfl⟩,hb2⟩
   go_wp2_with fail
   refine(AT.out _ hb2).mono ?_
   rintro e w3 ⟨⟨T,q,rfl|rfl⟩,hb3⟩
   all_goals
    have hb4:=hb2.trans (hb3.mono hb2.size)
    go_wp2_with fail
    refine(LI.out _ hb4).mono ?_
    rintro e w4 ⟨rfl,hb5⟩
    have hb6:=hb4.trans (hb5.mono hb4.size)
    go_wp2_with fail
    refine(PR.out _).mono ?_
    rintro e w5 ⟨rfl,rfl⟩
    go_wp2_with fail
    go_ret
    exact⟨rfl,hb6⟩
  | false =>
  rw[if_neg (fun h=>Bool.noConfusion h.2.2)]
  rw[hp]at PR
  clear ht hp
  generalize B t=bt at *
  generalize B (ze g)=bh at *
  generalize B fg=bf at *
  generalize B tr=br at *
  go_enter Tryz.func99,Tryz.ntmps99
  go_wp2_with fail
  refine(TR.out _).mono ?_
  rintro e w1 ⟨rfl,rfl⟩
  go_wp2_with fail
  refine(CU.out _ (jil _ _)).mono ?_
  rintro e w2 ⟨⟨b,c,rfl⟩,hb2⟩
  go_wp2_with fail
  refine(AT.out _ hb2).mono ?_
  rintro e w3 ⟨⟨T,q,rfl|rfl⟩,hb3⟩
  all_goals
   have hb4:=hb2.trans (hb3.mono hb2.size)
   go_wp2_with fail
   refine(LI.out _ hb4).mono ?_
   rintro e w4 ⟨rfl,hb5⟩
   have hb6:=hb4.trans (hb5.mono hb4.size)
   go_wp2_with fail
   refine(PR.out _).mono ?_
   rintro e w5 ⟨rfl,rfl⟩
   go_wp2_with fail
   go_ret
   exact⟨rfl,hb6⟩
 rw[if_neg (fun h=>hv ⟨h.1,h.2.1⟩)]
 have LI:=jii (fun W=>Wy v (by omega) W)
 clear ht PR
 generalize B t=bt at *
 generalize B fg=bf at *
 generalize B tr=br at *
 go_enter Tryz.func99,Tryz.ntmps99
 go_wp2_with fail
 refine(TR.out _).mono ?_
 rintro e w1 ⟨rfl,rfl⟩
 go_wp2_with fail
 refine(CU.out _ (jil _ _)).mono ?_
 rintro e w2 ⟨⟨b,c,rfl⟩,hb2⟩
 go_wp2_with fail
 refine(AT.out _ hb2).mono ?_
 rintro e w3 ⟨⟨T,q,rfl|rfl⟩,hb3⟩
 all_goals
  have hb4:=hb2.trans (hb3.mono hb2.size)
  go_wp2_with fail
  refine(LI.out _).mono ?_
  rintro e w4 ⟨rfl,rfl⟩
  rw[jQ 1 (by omega)]
  go_wp2_with fail
  go_ret
  exact⟨rfl,hb4⟩
def lenP(n:Nat):Nat:=if 1<=n/\n<=2147483648 then (ze n).length else 0
theorem lenP_call(n:Nat)(w:World)(ht:Tab w):Calls Tryz.prog 55 #[.int .i64 (n:Int)] w fun e w'=>e=.returned (.int .i64 (lenP n:Nat))/\Below w.heap.size w w':=by
 unfold lenP
 by_cases h:1<=n/\n<=2147483648
 ·rw[if_pos h];exact VU n h.1 h.2 w ht
 rw[if_neg h]
 refine(jfC n (by omega) w).mono ?_
 rintro e w' ⟨rfl,rfl⟩
 exact⟨rfl,jil _ _⟩
theorem jfE{t:List UInt8}{n:Nat}(h:Jp t n):lenP n<=t.length:=by
 unfold lenP
 split
 ·rename_i hn
  obtain⟨r,rfl⟩:=jfT h hn.1
  simp
 omega
theorem Kr{w W W':World}(h:Below w.heap.size w W)(hb:Below W.heap.size W W'):Below w.heap.size w W':=h.trans (hb.mono h.size)
theorem take_any(t:List UInt8)(hl:t.length<=100000)(w:World)(ht:Tab w):
  Calls Tryz.prog 56 #[.string (B t)] w fun e w'=>e=.returned (.tuple #[.int .i64 (genP t:Nat),.string (B (t.drop (lenP (genP t))))])/\Below w.heap.size w w':=by
 have G:=jii (jfU t hl w ht)
 have hle:=jfE (genP_is t)
 have L:=jii (fun W (hb:Below w.heap.size w W)=>lenP_call (genP t) W (ht.below hb (jij _)))
 have hE:Hid ((B t).extract (lenP (genP t)) (B t).size=B (t.drop (lenP (genP t)))):=by
  show _=_
  have e:=jkk (B t) (lenP (genP t))
  rw[jo]at e
  rw[<- jc4 ((B t).extract _ _),e]
 have hz:=jm t
 rw[<- hz]at hle hl
 generalize lenP (genP t)=k at *
 generalize genP t=g at *
 generalize B t=bt at *
 clear hz ht
 have hki:(k:Int)<=(bt.size:Int):=by omega
 have h0:(0:Int)<=(k:Int):=by omega
 go_enter Tryz.func56,Tryz.ntmps56
 go_wp2_with fail
 refine G.out.mono ?_
 rintro e w1 ⟨rfl,hb1⟩
 have HS:=jii (show ∀W,Below w1.heap.size w1 W->Below w1.heap.size w1 W from fun W h=>h)
 have HL:=jii (fun W (hb:Below w1.heap.size w1 W)=>L.out W (hb1.trans (hb.mono hb1.size)))
 go_wp2_with fail
 go_region_held3 (fun W=>Below w1.heap.size w1 W) ((refine HS.out _ ?_;repeat (first | exact jil _ _ | assumption | (refine Below.drew ?_) | (refine Kr ?_ (by assumption))))) ((go_at_call 55;refine(HL.out _ ?_).mono ?_;(focus (repeat (first | exact jil _ _ | assumption | (refine Below.drew ?_) | (refine Kr ?_ (by assumption)))));rintro e w5 ⟨rfl,hb5⟩))
 all_goals go_wp2_with fail
 all_goals
  go_ret2
  have hb7:Below w1.heap.size w1 w5:=Kr (Below.drew (jil _ _)) hb5
  exact⟨by rw[<- hE.out];rfl,hb1.trans (hb7.mono hb1.size)⟩
end Go.Proofs.YtimfhnfcmhmjcaaGreatDoor.Hd
namespace Go.Proofs.YtimfhnfcmhmjcaaGreatDoor
theorem Ye:∀(fs:List Fld),(∀f∈fs,za f.1 f.2=0)->foldN fs=0
 | [],_=>rfl
 | f::r,h=>by
  unfold foldN
  rw[if_pos (h f jis)]
  exact Ye r (fun x hx=>h x (jir _ hx))
structure GkP(p:PS):Prop where
 fl:∀f∈p.fields,za f.1 f.2=0
 each:∀it∈p.items,(∀f∈it.fields,za f.1 f.2=0)/\(it.kind=3->it.fields.length≠0)
theorem GkP.endField{p:PS}(h:GkP p)(h0:jh p=0):GkP (jd p):=by
 unfold jd
 split
 ·exact h
 rename_i hs
 unfold jh at h0
 rw[if_neg hs]at h0
 have hu:jU p.said=0:=by
  by_cases q:jU p.said=0
  ·exact q
  rw[if_pos q]at h0;exact h0
 refine⟨fun f hf => ?_,h.each⟩
 rcases List.mem_append.1 hf with hf|hf
 ·exact h.fl f hf
 rw[List.mem_singleton.1 hf];exact(XW hu).1
theorem GkP.endItem{t:List UInt8}{p:PS}(h:GkP p)(kind e:Nat)(hk:kind=3->p.fields.length≠0):GkP (jY t p kind e) :=
 ⟨fun f hf=>(by cases hf),fun it hi=>by
  rcases List.mem_append.1 hi with hi|hi
  ·exact h.each it hi
  rw[List.mem_singleton.1 hi]
  exact⟨h.fl,fun q=>hk (by have q':((kind:Nat):Int)=3:=q;omega)⟩⟩
theorem GkP.endBlock{t:List UInt8}{p:PS}(h:GkP p)(e:Nat):GkP (jr t p e):=by
 unfold jr
 split
 ·exact h
 split
 ·exact h.endItem 2 e (fun q=>absurd q (by decide))
 rename_i hl
 exact⟨(h.endItem (t:=t) 3 e (fun _=>hl)).fl,(h.endItem (t:=t) 3 e (fun _=>hl)).each⟩
theorem GkP.went{p:PS}(h:GkP p)(x:Ln):GkP (zv p x):=by
 unfold zv
 split
 ·exact⟨h.fl,h.each⟩
 exact h
theorem GkP.take{t:List UInt8}{p q:PS}{x:Ln}(h:GkP p)(he:jW t p x=.ok q):GkP q:=by
 obtain⟨h1,_,rfl⟩:=vv he
 have h2:GkP (zC p x):=by
  unfold zC
  split
  ·rename_i q;exact(h.went x).endField (h1 q)
  exact h.went x
 unfold xv
 split
 ·exact⟨h2.fl,h2.each⟩
 split
 ·exact⟨((h2.endBlock x.at_).endItem 1 _ (fun q=>absurd q (by decide))).fl,((h2.endBlock x.at_).endItem 1 _ (fun q=>absurd q (by decide))).each⟩
 exact⟨h2.fl,h2.each⟩
theorem GkP.run(t:List UInt8):∀(xs:List Ln) (p q:PS),GkP p->qG t p xs=.ok q->GkP q
 | [],p,q,h,he=>by cases he;exact h
 | x::xs,p,q,h,he=>by
  unfold qG at he
  cases ht:jW t p x with
  | error e=>rw[ht]at he;cases he
  | ok p1 =>
  rw[ht]at he
  exact GkP.run t xs p1 q (h.take ht) he
theorem jdx{t:List UInt8}{its:List It}(h:jA t=.ok its):∀it∈its,it.kind=3->qF it.fields=0:=by
 obtain⟨p,hr,h0,rfl,g,_⟩:=Jb h
 have hs:GkP (jr t (jd p) t.length):=((GkP.run t _ _ _ ⟨(fun f h=>by cases h),(fun it h=>by cases h)⟩ hr).endField h0).endBlock _
 intro it hi h3
 have h40:it.fields.length<=40:=g.each it hi
 obtain⟨h1,h2⟩:=hs.each it hi
 unfold qF
 rw[if_neg (h2 h3),if_neg (by omega)]
 exact Ye _ h1
def szE(es:List En):List (Int×List Fld):=(es.filter fun e=>decide (0<e.2)).map fun e=>(e.2,e.1.fields)
theorem jfb(es:List En):(szE es).length=QZ es:=by unfold szE QZ;rw[jiQ]
def wf:List Ln->Prop
 | []=>True
 | x::xs=>(10:UInt8)∉x.text/\(x.ended=true\/(xs=[]/\x.text≠[]))/\wf xs
def VF(x:Ln):List UInt8×Bool:=(x.text,x.ended)
theorem vO(t r:List UInt8)(h:(10:UInt8)∉t):head (t++10::r)=t:=by
 unfold head
 induction t with
 | nil=>simp
 | cons c t ih =>
 have hc:c≠10:=fun e=>h (by rw[e];exact jis)
 rw[jiz,jjc,if_pos (by simp[hc]),ih (fun hm=>h (jir _ hm))]
theorem Yb(t:List UInt8)(h:(10:UInt8)∉t):head t=t:=by
 unfold head
 induction t with
 | nil=>rfl
 | cons c t ih =>
 have hc:c≠10:=fun e=>h (by rw[e];exact jis)
 rw[jjc,if_pos (by simp[hc]),ih (fun hm=>h (jir _ hm))]
theorem Ww(t:List UInt8)(h:(10:UInt8)∉t):nl t=false:=by
 unfold nl
 rw[Bool.eq_false_iff]
 intro hc
 exact h (by simpa using hc)
theorem Wv(t r:List UInt8):nl (t++10::r)=true:=by unfold nl;simp
theorem QX:∀(xs:List Ln) (no at_:Nat),wf xs->(jF no at_ (xs.flatMap Ln.bytes)).map VF=xs.map VF
 | [],no,at_,_=>by simp[jn]
 | x::xs,no,at_,⟨h1,h2,h3⟩=>by
  rcases h2 with he|⟨rfl,hne⟩
  ·have eb:(x::xs).flatMap Ln.bytes=x.text++10::xs.flatMap Ln.bytes:=by simp[Ln.bytes,he]
   rw[eb,jq _ _ _ (by simp)]
   rw[vO _ _ h1,Wv]
   have hu:zY (x.text++10::xs.flatMap Ln.bytes)=x.text.length+1:=by
    unfold zY;rw[vO _ _ h1,Wv];simp
   have hd:(x.text++10::xs.flatMap Ln.bytes).drop (x.text.length+1)=xs.flatMap Ln.bytes:=by
    rw[show x.text++10::xs.flatMap Ln.bytes=(x.text++[10])++xs.flatMap Ln.bytes by simp]
    exact jjo (by simp)
   rw[hu,hd,jiX,jiX,QX xs _ _ h3]
   simp[VF,he]
  have he:x.ended=false\/x.ended=true:=by cases x.ended<;>simp
  rcases he with he|he
  ·have eb:[x].flatMap Ln.bytes=x.text:=by simp[Ln.bytes,he]
   rw[eb,jq _ _ _ hne,Yb _ h1,Ww _ h1]
   have hu:zY x.text=x.text.length:=by unfold zY;rw[Yb _ h1,Ww _ h1];simp
   rw[hu,jjM,jn]
   simp[VF,he]
  have eb:[x].flatMap Ln.bytes=x.text++10::[]:=by simp[Ln.bytes,he]
  rw[eb,jq _ _ _ (by simp),vO _ _ h1,Wv]
  have hu:zY (x.text++10::[])=x.text.length+1:=by unfold zY;rw[vO _ _ h1,Wv];simp
  rw[hu]
  have hd:(x.text++10::[]).drop (x.text.length+1)=[]:=by rw[List.drop_eq_nil_of_le];simp
  rw[hd,jn]
  simp[VF,he]
theorem Qs:∀(n no at_:Nat) (l:List UInt8),l.length<=n->wf (jF no at_ l)
 | 0,_,_,l,h=>by
  have:l=[]:=List.length_eq_zero_iff.1 (by omega)
  subst this;rw[jn];trivial
 | n+1,no,at_,l,h=>by
  by_cases hl:l=[]
  ·subst hl;rw[jn];trivial
  have hp:=qd l hl
  have hc:=vN l.length no at_ l (jij _)
  rw[jq _ _ _ hl]at hc ⊢
  refine⟨hc _ jis,?_,Qs n _ _ _ (by simp only[jiw];omega)⟩
  cases hn:nl l with
  | true=>exact .inl rfl
  | false =>
  have hh:head l=l:=Yb l (fun hm=>by unfold nl at hn;simp at hn;exact hn hm)
  have hu:zY l=l.length:=by unfold zY;rw[hh,hn];simp
  refine .inr ⟨?_,?_⟩
  ·rw[hu,jjM,jn]
  show head l≠[]
  rw[hh];exact hl
theorem UU(l:List UInt8):wf (jg l):=Qs _ _ _ _ (jij _)
def KT(j:List UInt8)(x:Ln):Ln:={x with text:=j++x.text}
theorem KW(j:List UInt8)(hj:(10:UInt8)∉j):∀xs,wf xs->wf (xs.map (KT j))
 | [],_=>trivial
 | x::xs,⟨h1,h2,h3⟩=>by
  refine⟨fun hm => ?_,?_,KW j hj xs h3⟩
  ·rcases List.mem_append.1 hm with h|h
   ·exact hj h
   exact h1 h
  rcases h2 with h|⟨rfl,h⟩
  ·exact .inl h
  refine .inr ⟨rfl,fun e=>h ?_⟩
  exact(List.append_eq_nil_iff.1 e).2
def dd(p:List UInt8)(ys:List (List UInt8×Bool)):List UInt8×Bool :=
 if ys.all (fun y=>p.isPrefixOf y.1) then (ys.flatMap (fun y=>y.1.drop p.length++if y.2 then [10] else []),true) else ([],false)
theorem jer(j:List UInt8)(hj:(10:UInt8)∉j)(l:List UInt8):
  dd j ((jg ((jg l).flatMap fun x=>j++x.bytes)).map VF)=(l,true):=by
 have e:(jg l).flatMap (fun x=>j++x.bytes)=((jg l).map (KT j)).flatMap Ln.bytes:=by
  rw[List.flatMap_map]
  congr 1
  funext x
  simp only[Ln.bytes,KT,jix]
  rfl
 rw[e]
 rw[show jg (((jg l).map (KT j)).flatMap Ln.bytes)=jF 0 0 (((jg l).map (KT j)).flatMap Ln.bytes) from rfl,QX _ 0 0 (KW j hj _ (UU l))]
 unfold dd
 rw[if_pos]
 ·congr 1
  conv=>rhs;rw[<- jT l]
  rw[jjA,List.flatMap_map]
  congr 1
  funext x
  simp[VF,KT,Ln.bytes]
  rfl
 rw[jj4]
 intro y hy
 obtain⟨x,hx,rfl⟩:=List.mem_map.1 hy
 obtain⟨x,hx,rfl⟩:=List.mem_map.1 hx
 simp[VF,KT]
end Go.Proofs.YtimfhnfcmhmjcaaGreatDoor
namespace Go.Proofs.YtimfhnfcmhmjcaaGreatDoor
open Go.RowKit Go.Shelf
set_option maxRecDepth 1000000
end Go.Proofs.YtimfhnfcmhmjcaaGreatDoor
namespace Go.Proofs.YtimfhnfcmhmjcaaGreatDoor
open Go.RowKit Go.Shelf Go.ChangeShapes Go.WideShapes
attribute [local go_sem] zV
theorem Jf:∀(fs:List Fld),foldN fs=0->∀f∈fs,jR f.1=true/\f.2.length<=1000
 | [],_,f,hf=>by cases hf
 | g::r,h,f,hf=>by
  unfold foldN at h
  split at h
  ·rename_i h0
   rcases List.mem_cons.1 hf with rfl|hf
   ·exact ZU h0
   exact Jf r h f hf
  rename_i h0;exact absurd h h0
end Go.Proofs.YtimfhnfcmhmjcaaGreatDoor
