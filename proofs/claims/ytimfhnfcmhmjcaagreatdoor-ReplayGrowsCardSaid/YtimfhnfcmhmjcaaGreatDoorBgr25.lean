/- Texts put together:GO,GP. -/
import Derived.Test.YtimfhnfcmhmjcaaGreatDoorBgr24
set_option linter.unusedVariables false
set_option maxRecDepth 100000
set_option maxHeartbeats 16000000
namespace Go.Proofs.YtimfhnfcmhmjcaaGreatDoor.Rp
open Go.RowKit Go.Shelf Bk
attribute [local go_sem] jit
def jck:List UInt8:=[65,58,32,49,10]
def exE:List Ed:=[⟨2,1,[]⟩]
def jaj:List It:=[⟨3,[65,58,32,49,10],[([65],[49])]⟩]
theorem Vi:jA jck=.ok jaj:=by kernel_rfl
theorem Ji:qn Dc jck 0 jck [] [] :=
 ⟨Hd.gen_short (by decide),⟨_,Vi⟩,by kernel_rfl,⟨rfl,fun b h=>by cases h⟩,Wt⟩
theorem Kz:(ji exE).length=10:=by kernel_rfl
theorem KB:(qP exE).2=0:=by decide
theorem KA:XU (ji exE)=some exE:=xH.2 ⟨by rw[Kz];decide,KB,fun ed h=>by rw[List.mem_singleton.1 h];exact⟨by decide,by decide⟩,rfl⟩
theorem jak:qp (zP jaj) (zj ([]++[ji exE]))=some ⟨[],2⟩:=by
 have e:zj ([]++[ji exE])=[exE]:=by
  show [vU (ji exE)]=[exE]
  unfold vU
  rw[KA];rfl
 rw[e]
 show qp (zP jaj) [exE]=some (⟨[],2⟩:LS)
 have h:(doB (zP jaj) exE).2=0:=by kernel_rfl
 show(if (doB (zP jaj) exE).2=0 then qp (qH (zP jaj) exE) [] else none)=_
 rw[if_pos h]
 kernel_rfl
def exT:List UInt8:=jck.take (jD 0 jck [])++Fr.fullR (ji exE)
theorem Ud:Fr.goodR (ji exE)=true:=Fr.batch_body KB (by rw[Kz];decide)
theorem Xr:qn Dc exT 0 jck ([]++[ji exE]) []:=Vf Ji Ud (by unfold Dc;rw[KA];rfl)
theorem jci:exT.length<=60000:=by
 have:=Fr.full_le Ud
 have h:(jck.take (jD 0 jck [])).length<=5:=by rw[jiq];exact Nat.min_le_right _ _
 unfold exT
 rw[jik];omega
theorem jf6{w:World}{b:Nat}(h:ja w b 80 #[.int .i64 2,.int .i64 1,.slice none 0 0]):EdV w (.slice (some ⟨b,0,none⟩) 1 1) exE:=by
 refine⟨_,1,rfl,jij _,fun i ed hi => ?_⟩
 match i with
 | 0 =>
  obtain rfl:(⟨2,1,[]⟩:Ed)=ed:=jip hi
  exact⟨b,0,.slice none 0 0,rfl,h.lt,(h.cell 0).trans rfl,(h.cell 1).trans rfl,(h.cell 2).trans rfl,⟨none,0,rfl,jij _,fun i f h=>by simp at h⟩,fun n c e=>by cases e;rfl⟩
 | i+1=>simp[exE]at hi
theorem jcj:Vv exE:=fun ed h=>by
 rw[List.mem_singleton.1 h]
 exact⟨by decide,fun f hf=>by cases hf⟩
theorem XO.yes{w w':World}{t base tail:List UInt8}{n:Nat}{bds:List (List UInt8)}{its:List It}{k:LS}{e:Ending}(h:XO w w' t e)(s:qn Dc t n base bds tail)(hp:jA base=.ok its)(hl:qp (zP its) (zj bds)=some k):
  Below w.heap.size w w'/\∃v lb ev ps,e=.returned (.tuple #[v,ptr lb,.nilIface])/\ye w.heap.size w' v n base bds tail/\zk w.heap.size w' lb ev ps k (base.length+yi (zj bds)):=by
 obtain⟨hb,h⟩:=h
 refine⟨hb,?_⟩
 rcases h with ⟨a,m,u,hbad,_⟩|⟨n',base',bds',tail',v,its',k',lb,ev,ps,s',hp',hl',rfl,h1,h2⟩
 ·exact(hbad.not s hp hl).elim
 obtain⟨rfl,rfl,rfl,rfl⟩:=s.same s'
 rw[hp]at hp'
 injection hp' with e1
 subst e1
 rw[hl]at hl'
 injection hl' with e2
 subst e2
 exact⟨v,lb,ev,ps,rfl,h1,h2⟩
theorem jgo(w:World)(hT:Vt w):Calls Tryz.prog 7 #[] w fun e w'=>e=.returned (.bool true)/\Below w.heap.size w w':=by
 have TB:Hid (∀W,Below w.heap.size w W->Vt W):=fun W hW=>hT.below hW (jij _)
 obtain⟨w1,hw1⟩:∃z,w.alloc (.cells #[.int .i64 2,.int .i64 1,.slice none 0 0] 80)=z:=⟨_,rfl⟩
 have b1:Below w.heap.size w w1:=by rw[<- hw1];exact(jil _ w).alloc (jij _) _
 have C1:ja w1 w.heap.size 80 #[.int .i64 2,.int .i64 1,.slice none 0 0]:=by rw[<- hw1];exact ja.new _ _ _
 have AP:=jii (JK jck (by decide) exE _ w1 (jf6 C1) (by decide) jcj (fun ed h=>by rw[List.mem_singleton.1 h];exact⟨by decide,by decide⟩) (TB.out w1 b1))
 have B1:=jii b1
 have HW1:=jii hw1
 have eB:(⟨#[65,58,32,49,10]⟩:ByteArray)=B jck:=rfl
 clear hT b1 C1 hw1
 go_enter Tryz.func7,Tryz.ntmps7
 rw[eB]
 go_wp2_with fail
 rw[HW1.out]
 refine AP.out.mono ?_
 rintro e w2 ⟨b2,h2⟩
 have B2:=jii (B1.out.trans (b2.mono B1.out.size))
 have hX:e=.returned (.tuple #[.string (B exT),.nilIface]):=by
  rcases h2 with ⟨a,k,u,hb,_⟩|⟨n,base,bds,tail,hS,⟨hc,_⟩|⟨_,hl,_⟩|⟨_,_,rfl⟩⟩
  ·exact(hb.not Ji).elim
  ·exact absurd KB hc
  ·exact absurd (show(ji exE).length<=50000 by rw[Kz];decide) (by omega)
  obtain⟨rfl,rfl,rfl,rfl⟩:=hS.same Ji
  rfl
 subst hX
 have TX:=jii (Wg exT (by have:=jci;omega) (by have:=Jl exT (hl (Hd.genP exT));have:=jci;omega) (fun n base bds tail hS=>by
  obtain⟨_,rfl,rfl,_⟩:=hS.same Xr
  have e:zj ([]++[ji exE])=[exE]:=by
   show [vU (ji exE)]=[exE]
   unfold vU
   rw[KA];rfl
  rw[e];decide) w2 (TB.out w2 B2.out))
 clear AP h2 b2
 go_wp2_with fail
 refine TX.out.mono ?_
 rintro e w3 h3
 obtain⟨b3,v,lb,ev,ps,rfl,hBR,hC⟩:=h3.yes Xr Vi jak
 obtain⟨bv,ev',us,rfl,hBt,hEv⟩:=hBR.is
 obtain⟨ba,bc,rfl,_⟩:=je hBt.row
 obtain⟨ea,ec,rfl,_⟩:=je hEv
 unfold Jk ptr at *
 obtain⟨w4,hw4⟩:∃z,w3.alloc (.cells #[.int .i64 0,.string (B jck),.slice ba 1 bc,.slice ea 1 ec,.string (B [])] 28)=z:=⟨_,rfl⟩
 have b34:Below w3.heap.size w3 w4:=by rw[<- hw4];exact(jil _ _).alloc (jij _) _
 have B4:=jii (B2.out.trans ((b3.trans (b34.mono b3.size)).mono B2.out.size))
 have hC4:=hC.below b34 (jij _)
 have hlen:ps.length<=1000000:=by
  have h1:=congrArg List.length hC.es
  rw[jiQ]at h1
  rw[h1];decide
 have LN:=jhI lb ev ps _ w4 hC4.la.lr hC4.wf hlen
 rw[hC4.es]at LN
 have HLN:=jii LN
 have HC4:=jii hC4
 have HW4:=jii hw4
 clear h3 hBR hBt hEv b3 hC hC4 hw4 b34 LN TX
 unfold ptr at *
 go_wp2_with fail
 rw[HW4.out]
 refine HLN.out.mono ?_
 rintro e w5 ⟨rfl,b5⟩
 have B5:=jii (B4.out.trans (b5.mono B4.out.size))
 have NX:=jii (VS lb ev ps _ w5 (HC4.out.below b5 (jij _)).la.lr (by decide))
 clear b5 HLN
 rw[show((QZ (⟨[],2⟩:LS).es:Nat):Int)=0 from rfl]
 unfold ptr at *
 go_wp2_with fail
 refine NX.out.mono ?_
 rintro e w6 ⟨rfl,rfl⟩
 go_wp2_with fail
 go_ret
 exact⟨rfl,B5.out⟩
theorem XH{b:List UInt8}{eds:List Ed}(bds:List (List UInt8))(h:XU b=some eds):zj (bds++[b])=zj bds++[eds]:=by
 have e:vU b=eds:=by unfold vU;rw[h];rfl
 unfold zj
 rw[jjh,<- e];rfl
theorem xQ(t:List UInt8)(ht:t.length<=60000)(hsum:∀n base bds tail,qn Dc t n base bds tail->base.length+yi (zj bds)<=5000)(w:World)(hT:Vt w):
  Calls Tryz.prog 25 #[.string (B t)] w fun e w'=>XO w w' t e :=
 Wg t (by omega) (by have:=Jl t (hl (Hd.genP t));omega) hsum w hT
theorem jgE{t:List UInt8}(h:t.length<=5000):∀n base bds tail,qn Dc t n base bds tail->base.length+yi (zj bds)<=5000:=fun n base bds tail hS=>by
 have:=(xU hS).2.1;omega
theorem ja0{t':List UInt8}{n:Nat}{base tail:List UInt8}{bds:List (List UInt8)}(h:qn Dc t' n base bds tail)(hs:base.length+yi (zj bds)<=5000):∀n base bds tail,qn Dc t' n base bds tail->base.length+yi (zj bds)<=5000:=fun n' base' bds' tail' hS=>by
 obtain⟨_,rfl,rfl,_⟩:=h.same hS
 exact hs
def jhr(l:LS):ByteArray:=B ((zb (l.es.map Prod.fst)).flatMap It.raw)
structure jhA(w:World)(lb:Nat)(l:LS):Prop where
 text:∀W,Below w.heap.size w W->Calls Tryz.prog 15 #[.pointer (some ⟨lb,0,none⟩)] W fun e w'=>e=.returned (.string (jhr l))/\Below W.heap.size W w'
 next:∀W,Below w.heap.size w W->Calls Tryz.prog 17 #[.pointer (some ⟨lb,0,none⟩)] W fun e w'=>e=.returned (.int .i64 l.next)/\W=w'
 stz:∀W,Below w.heap.size w W->Calls Tryz.prog 19 #[.pointer (some ⟨lb,0,none⟩)] W fun e w'=>∃a c,e=.returned (.slice a (szE l.es).length c)/\Szs w' (.slice a (szE l.es).length c) (szE l.es)/\Below W.heap.size W w'
 small:(szE l.es).length<=1000000/\∀s∈szE l.es,s.2.length<=1000000
theorem Yt{S0:Nat}{w:World}{lb:Nat}{ev:Value}{ps:List Pr}{l:LS}{m:Nat}(C:zk S0 w lb ev ps l m)(hm:m<=10000):jhA w lb l :=
 ⟨fun W hW=>jau (C.below hW (jij _)) hm,fun W hW=>VS lb ev ps _ W (C.below hW (jij _)).la.lr ⟨by have:=C.ok.pos;omega,by have:=C.nx;omega⟩,
  fun W hW=>(Yq (C.below hW (jij _)) hm).mono fun e w' ⟨u,he,hz,hb⟩=>by
   obtain⟨a,c,rfl,_⟩:=_root_.id hz
   exact⟨a,c,he,hz,hb⟩,
  KL C⟩
theorem jhA.below{w w':World}{lb:Nat}{l:LS}(h:jhA w lb l)(hb:Below w.heap.size w w'):jhA w' lb l :=
 ⟨fun W hW=>h.text W (hb.trans (hW.mono hb.size)),fun W hW=>h.next W (hb.trans (hW.mono hb.size)),fun W hW=>h.stz W (hb.trans (hW.mono hb.size)),h.small⟩
theorem jdY(t:List UInt8)(eds:List Ed)(v1:Value)(cut:Int)(w:World)(ha:Yv w v1 eds)(hi:∀ed∈eds,I64 ed.id)(hT:Vt w):
  Calls Tryz.prog 5 #[.string (B t),v1,.int .i64 cut] w fun e w'=>e=.returned (.bool true)/\Below w.heap.size w w':=by
 have AL:=jii (jgo w hT)
 have TB:Hid (∀W,Below w.heap.size w W->Vt W):=fun W hW=>hT.below hW (jij _)
 have hsz:(B t).size=t.length:=jm t
 have HEA:=jii ha
 have HI:=jii hi
 have hqq:∀t:ByteArray,((t.toList==t.toList)=true):=fun t=>by simp
 have hnn:∀t:Int,((t==t)=true):=fun t=>by simp
 obtain⟨va,vac,rfl,_⟩:∃A c,v1=.slice A eds.length c/\True:=by obtain⟨_,A,c,e,_⟩:=ha;exact⟨A,c,e,trivial⟩
 clear ha hi hT
 by_cases hlong:4000<t.length
 ·have q1:(4000:Int)<((B t).size:Int):=by omega
  go_enter Tryz.func5,Tryz.ntmps5
  go_wp2_with fail
  refine AL.out.mono ?_
  rintro e w1 ⟨rfl,b1⟩
  go_wp2_with fail
  go_ret
  exact⟨rfl,b1⟩
 have q1:¬(4000:Int)<((B t).size:Int):=by omega
 go_enter Tryz.func5,Tryz.ntmps5
 go_wp2_with fail
 refine AL.out.mono ?_
 rintro e w1 ⟨rfl,b1⟩
 have B1:=jii b1
 have HV:=jii (jbX eds _ w1 (HEA.out.below b1 (jij _)))
 clear AL b1
 go_wp2_with fail
 refine HV.out.mono ?_
 rintro e w2 ⟨⟨q,rfl,hq⟩,b2⟩
 have B2:=jii (B1.out.trans (b2.mono B1.out.size))
 have HQ:=jii hq
 clear HV b2 hq
 cases q with
 | true =>
  go_wp2_with fail
  go_ret
  exact⟨rfl,B2.out⟩
 | false =>
 have LAq:Hid (Yu eds):=HQ.out (by first | exact rfl | trivial)
 clear HQ
 have la51:eds.length<=51:=LAq.out.1
 have EA:Hid (∀W,Below w.heap.size w W->EdV W (.slice va eds.length vac) eds):=fun W hW=>HEA.out.edv.below hW (jij _)
 have AP:Hid (∀W,Below w.heap.size w W->Calls Tryz.prog 29 #[.string (B t),.slice va eds.length vac] W fun e w'=>jhp W w' t eds e):=fun W hW=>JK t (by omega) eds _ W (EA.out W hW) (by omega) LAq.out.fines.eight HI.out (TB.out W hW)
 have TX:=jii (xQ t (by omega) (jgE (by omega)) w2 (TB.out w2 B2.out))
 go_wp2_with fail
 refine TX.out.mono ?_
 rintro e w3 ⟨b3,h3⟩
 have B3:=jii (B2.out.trans (b3.mono B2.out.size))
 clear TX b3
 rcases h3 with ⟨a,k,u,hbad,rfl,hf⟩|⟨n,base,bds,tail,v,its,k,lb,ev,ps,hS,hp,hl,rfl,hBR,hC⟩
 ·obtain⟨q,_,rfl,_⟩:=hf
  have B4:=jii (B3.out.alloc B3.out.size (.cells #[.int .i64 0,.string ⟨#[]⟩,.slice none 0 0,.slice none 0 0,.string ⟨#[]⟩] 28))
  have eZ:XV=.agg #[.int .i64 0,.string ⟨#[]⟩,.slice none 0 0,.slice none 0 0,.string ⟨#[]⟩]:=rfl
  rw[eZ]
  clear hbad AP
  go_wp2_with fail
  go_ret
  exact⟨rfl,B4.out⟩
 have BR3:=hBR
 obtain⟨bv,ev',us,rfl,hBt,hEv⟩:=hBR.is
 obtain⟨ba,bc,rfl,_⟩:=je hBt.row
 obtain⟨ea,ec,rfl,_⟩:=je hEv
 have PT:=hS.parts
 have hsb:=(xU hS).2.1
 have hWl:jD n base bds<=t.length:=by have:=PT.len;omega
 unfold Jk ptr at *
 obtain⟨w4,hw4⟩:∃z,w3.alloc (.cells #[.int .i64 (n:Int),.string (B base),.slice ba bds.length bc,.slice ea bds.length ec,.string (B tail)] 28)=z:=⟨_,rfl⟩
 obtain⟨b34,C4⟩:=XG hw4
 have B4:=jii (B3.out.trans (b34.mono B3.out.size))
 have HW4:=jii hw4
 have HC4:=jii C4
 have BR4:=jii (BR3.below b34)
 have HCY:=jii (hC.below b34 (jij _))
 have HS:=jii hS
 have HP:=jii hp
 have HL:=jii hl
 have AK:=jii (Yt HCY.out (by omega))
 have DO:=jii (je1 eds _ (EA.out w4 B4.out) la51 LAq.out.fines LAq.out.smalls (TB.out w4 B4.out).tabs.err HCY.out (by omega))
 clear BR3 hBR hBt hEv hS PT b34 C4 hw4 hC hp hl
 unfold ptr at *
 go_wp2_with fail
 rw[HW4.out]
 refine DO.out.mono ?_
 rintro e w5 ⟨b5,h5⟩
 have B5:=jii (B4.out.trans (b5.mono B4.out.size))
 have B45:=jii b5
 have AP5:=jii (AP.out w5 B5.out)
 clear DO b5 AP
 rcases h5 with ⟨h0,u,rfl,hz⟩|⟨h0,hchk,_,lb1,ev1,ps1,g1,rfl,C1,_,own1⟩
 ·
  have hform:(∃z,u=.iface 54 (.int .i64 z))\/∃q,u=.iface 91 (.pointer (some ⟨q,0,none⟩)):=by
   obtain⟨_,⟨rfl,_⟩|⟨_,⟨q,_,rfl,_⟩,_,_⟩⟩:=hz
   ·rw[jQ _ (by omega)];exact .inl ⟨_,rfl⟩
   exact .inr ⟨q,rfl⟩
  clear hz h0
  rcases hform with ⟨z,rfl⟩|⟨q,rfl⟩
  all_goals
   go_wp2_with fail
   refine AP5.out.mono ?_
   rintro e w6 ⟨b6,h6⟩
   have B6:=jii (B5.out.trans (b6.mono B5.out.size))
   have hform:∃X u,e=.returned (.tuple #[.string X,u]):=by
    rcases h6 with ⟨a,k,u,_,rfl,_⟩|⟨n,base,bds,tail,_,⟨_,u,rfl,_⟩|⟨_,_,rfl⟩|⟨_,_,rfl⟩⟩
    ·exact⟨_,_,rfl⟩
    ·exact⟨_,_,rfl⟩
    ·exact⟨_,_,rfl⟩
    exact⟨_,_,rfl⟩
   obtain⟨X,u,rfl⟩:=hform
   clear AP5 h6 b6
   go_wp2_with fail
   go_ret
   exact⟨rfl,B6.out⟩
 obtain⟨g1a,g1c,rfl,_⟩:=je own1
 have AK1:=jii (Yt C1 (by omega))
 have hd0:=congrArg Prod.snd h0
 clear C1 own1 h0
 unfold ptr at *
 go_wp2_with fail
 refine AP5.out.mono ?_
 rintro e w6 ⟨b6,h6⟩
 have B6:=jii (B5.out.trans (b6.mono B5.out.size))
 have B46:=jii (B45.out.trans (b6.mono B45.out.size))
 have AK2:=jii (AK1.out.below b6)
 clear AP5 b6 AK1
 rcases h6 with ⟨a,k,u,hb',_⟩|⟨n',base',bds',tail',hS',h6⟩
 ·exact(hb'.not HS.out).elim
 obtain⟨rfl,rfl,rfl,rfl⟩:=HS.out.same hS'
 clear hS'
 rcases h6 with ⟨hc,_⟩|⟨hc,hbig,rfl⟩|⟨hc,hsmall,rfl⟩
 ·rw[hchk]at hc;exact absurd rfl hc
 ·rw[jQ 11 (by decide)]
  clear hc hbig
  go_wp2_with fail
  go_ret
  exact⟨rfl,B6.out⟩
 have hgd:Fr.goodR (ji eds)=true:=Fr.batch_body hc hsmall
 have hdec:XU (ji eds)=some eds:=xH.2 ⟨hsmall,hc,HI.out,rfl⟩
 have hDc:Dc (ji eds)=true:=by unfold Dc;rw[hdec];rfl
 have hfl:=Fr.full_le hgd
 have hf7:=WX (ji eds)
 obtain⟨kk,hk,hck⟩:=jhN cut (Fr.fullR (ji eds)).length (by omega) (by omega)
 have SC:=jii (jcw HS.out hgd hk)
 have SF:=jii (Vf HS.out hgd hDc)
 have HPL:Hid (qp (zP its) (zj (bds++[ji eds]))=some (qH k eds)):=by
  show _=_
  rw[XH bds hdec,xY HL.out,if_pos hd0]
 have hsm1:base.length+yi (zj (bds++[ji eds]))<=5000:=by
  have e:yi [eds]=eds.length:=rfl
  rw[XH bds hdec,vF,e];omega
 have hslen:(t.take (jD n base bds)++Fr.fullR (ji eds)).length=jD n base bds+(Fr.fullR (ji eds)).length:=by rw[jik,jiq];omega
 have EXC:Hid ((B (t.take (jD n base bds)++Fr.fullR (ji eds))).extract 0 (jD n base bds+kk)=B (t.take (jD n base bds)++(Fr.fullR (ji eds)).take kk)):=by
  show _=_
  rw[Fr.ext_take,jet hWl]
 have hclen:(t.take (jD n base bds)++(Fr.fullR (ji eds)).take kk).length<=60000:=by rw[jik,jiq,jiq];omega
 have hsB:(B (t.take (jD n base bds)++Fr.fullR (ji eds))).size=jD n base bds+(Fr.fullR (ji eds)).length:=by rw[jm,hslen]
 have TF:=jii (xQ _ (by omega) (ja0 SF.out hsm1) w6 (TB.out w6 B6.out))
 have TC:Hid (∀W,Below w.heap.size w W->Calls Tryz.prog 25 #[.string (B (t.take (jD n base bds)++(Fr.fullR (ji eds)).take kk))] W fun e w'=>XO W w' (t.take (jD n base bds)++(Fr.fullR (ji eds)).take kk) e):=fun W hW=>xQ _ hclen (ja0 SC.out (by omega)) W (TB.out W hW)
 have WH:Hid (∀W,Below w4.heap.size w4 W->Calls Tryz.prog 30 #[.agg #[.int .i64 (n:Int),.string (B base),.slice ba bds.length bc,.slice ea bds.length ec,.string (B tail)]] W fun e w'=>e=.returned (.int .i64 (jD n base bds:Nat))/\Below W.heap.size W w'):=fun W hW=>Zf (BR4.out.below hW) (by omega) (TB.out W (B4.out.trans (hW.mono B4.out.size)))
 have q7:¬(100000:Int)<((B (t.take (jD n base bds)++Fr.fullR (ji eds))).size:Int):=by omega
 clear hgd hdec hDc hc hsmall hclen hslen
 generalize hWW:jD n base bds=W at *
 generalize hFR:Fr.fullR (ji eds)=FR at *
 generalize hXX:B (t.take W++FR)=X at *
 go_wp2_with fail
 refine TF.out.mono ?_
 rintro e w7 h7
 obtain⟨b7,v7,lb7,ev7,ps7,rfl,hBR7,hC7⟩:=h7.yes SF.out HP.out HPL.out
 have B7:=jii (B6.out.trans (b7.mono B6.out.size))
 have AK3:=AK2.out.below b7
 obtain⟨bv7,ev7',us7,rfl,hBt7,hEv7⟩:=hBR7.is
 obtain⟨ba7,bc7,rfl,_⟩:=je hBt7.row
 obtain⟨ea7,ec7,rfl,_⟩:=je hEv7
 unfold Jk ptr at *
 have hl1:(bds++[ji eds]).length=bds.length+1:=by simp
 rw[hl1]
 obtain⟨w8,hw8⟩:∃z,w7.alloc (.cells #[.int .i64 (n:Int),.string (B base),.slice ba7 (bds.length+1) bc7,.slice ea7 (bds.length+1) ec7,.string (B [])] 28)=z:=⟨_,rfl⟩
 obtain⟨b78,_⟩:=XG hw8
 have B8:=jii (B7.out.trans (b78.mono B7.out.size))
 have B48:=jii (B46.out.trans ((b7.trans (b78.mono b7.size)).mono B46.out.size))
 have AK8:=jii (AK3.below b78)
 have AS8:=jii (Yt (hC7.below b78 (jij _)) (by omega))
 have HW8:=jii hw8
 have EW8:=jii (WH.out w8 B48.out)
 have kb8:=jb HC4.out B48.out HC4.out.lt
 have k0:=kb8.cell 0
 have k1:=kb8.cell 1
 have k2:=kb8.cell 2
 have k3:=kb8.cell 3
 have k4:=kb8.cell 4
 simp only[jiv,jiu,jio]at k0 k1 k2 k3 k4
 rw[<- hw8]at k0 k1 k2 k3 k4
 clear h7 b7 hBR7 hC7 hBt7 hEv7 b78 hw8 AK3 TF kb8
 go_wp2_with fail
 rw[HW8.out]
 refine EW8.out.mono ?_
 rintro e w9 ⟨rfl,b9⟩
 have B9:=jii (B8.out.trans (b9.mono B8.out.size))
 have B49:=jii (B48.out.trans (b9.mono B48.out.size))
 have B89:=jii b9
 have TC9:=jii (TC.out w9 B9.out)
 clear k0 k1 k2 k3 k4 b9 EW8 TC
 have q8:¬((X.size:Nat):Int)<=(W:Int):=by omega
 have q9:¬(W:Int)<0:=by omega
 have hck2:wrap64 ((IntKind.u64.wrap cut).tmod ((W:Int)+(FR.length:Int)-(W:Int)))=(kk:Int):=by
  rw[show(W:Int)+(FR.length:Int)-(W:Int)=(FR.length:Int) by omega];exact hck
 clear hck
 go_upto_region 16 with fail
 go_wp2_with fail
 rw[EXC.out]
 refine TC9.out.mono ?_
 rintro e w10 h10
 obtain⟨b10,v10,lb10,ev10,ps10,rfl,hBR10,hC10⟩:=h10.yes SC.out HP.out HL.out
 obtain⟨bv10,ev10',us10,rfl,hBt10,hEv10⟩:=hBR10.is
 obtain⟨ba10,bc10,rfl,_⟩:=je hBt10.row
 obtain⟨ea10,ec10,rfl,_⟩:=je hEv10
 unfold Jk ptr at *
 obtain⟨w11,hw11⟩:∃z,w10.alloc (.cells #[.int .i64 (n:Int),.string (B base),.slice ba10 bds.length bc10,.slice ea10 bds.length ec10,.string (B (FR.take kk))] 28)=z:=⟨_,rfl⟩
 obtain⟨b1011,_⟩:=XG hw11
 have b911:=b10.trans (b1011.mono b10.size)
 have b811:=B89.out.trans (b911.mono B89.out.size)
 have B11:=jii (B9.out.trans (b911.mono B9.out.size))
 have A1:=jii (AK8.out.below b811)
 have A2:=jii (AS8.out.below b811)
 have A3:=jii (Yt (hC10.below b1011 (jij _)) (by omega))
 have A0:=jii (AK.out.below (B49.out.trans (b911.mono B49.out.size)))
 have HW11:=jii hw11
 clear h10 b10 hBR10 hC10 hBt10 hEv10 b1011 b911 b811 hw11 TC9 AK AK2 AK8 AS8 HCY BR4
 have e1:=hqq (jhr (qH k eds))
 have e2:=hqq (jhr k)
 have e3:=hnn (qH k eds).next
 have s1:=A1.out.small
 have s0:=A0.out.small
 have S1:=jii s1
 have S0:=jii s0
 clear hqq hnn s1 s0
 generalize hL1:qH k eds=L1 at *
 generalize jhr L1=T1 at *
 go_wp2_with fail
 rw[HW11.out]
 refine(A2.out.text w11 (jil _ _)).mono ?_
 rintro e w12 ⟨rfl,b12⟩
 have C12:=jii b12
 clear b12
 go_wp2_with fail
 refine(A1.out.text w12 C12.out).mono ?_
 rintro e w13 ⟨rfl,b13⟩
 have C13:=jii (C12.out.trans (b13.mono C12.out.size))
 clear b13
 go_wp2_with fail
 refine(A2.out.next w13 C13.out).mono ?_
 rintro e V ⟨rfl,rfl⟩
 go_wp2_with fail
 refine(A1.out.next _ C13.out).mono ?_
 rintro e V ⟨rfl,rfl⟩
 go_wp2_with fail
 refine(A2.out.stz _ C13.out).mono ?_
 rintro e w14 ⟨a1,c1,rfl,z1,b14⟩
 have C14:=jii (C13.out.trans (b14.mono C13.out.size))
 have Z1:=jii z1
 clear b14 z1
 go_wp2_with fail
 refine(A1.out.stz _ C14.out).mono ?_
 rintro e w15 ⟨a2,c2,rfl,z2,b15⟩
 have C15:=jii (C14.out.trans (b15.mono C14.out.size))
 have SM:=jii (jhi (Z1.out.below b15 (jij _)) z2 S1.out.1 S1.out.2)
 clear b15 z2
 go_wp2_with fail
 refine SM.out.mono ?_
 rintro e w16 ⟨u,rfl,rfl,b16⟩
 have C16:=jii (C15.out.trans (b16.mono C15.out.size))
 clear b16 SM
 go_wp2_with fail
 refine(A3.out.text _ C16.out).mono ?_
 rintro e w17 ⟨rfl,b17⟩
 have C17:=jii (C16.out.trans (b17.mono C16.out.size))
 clear b17
 go_wp2_with fail
 refine(A0.out.text _ C17.out).mono ?_
 rintro e w18 ⟨rfl,b18⟩
 have C18:=jii (C17.out.trans (b18.mono C17.out.size))
 clear b18
 go_wp2_with fail
 refine(A3.out.stz _ C18.out).mono ?_
 rintro e w19 ⟨a3,c3,rfl,z3,b19⟩
 have C19:=jii (C18.out.trans (b19.mono C18.out.size))
 have Z3:=jii z3
 clear b19 z3
 go_wp2_with fail
 refine(A0.out.stz _ C19.out).mono ?_
 rintro e w20 ⟨a4,c4,rfl,z4,b20⟩
 have C20:=jii (C19.out.trans (b20.mono C19.out.size))
 have SM:=jii (jhi (Z3.out.below b20 (jij _)) z4 S0.out.1 S0.out.2)
 clear b20 z4
 go_wp2_with fail
 refine SM.out.mono ?_
 rintro e w21 ⟨u,rfl,rfl,b21⟩
 have C21:=jii (B11.out.trans ((C20.out.trans (b21.mono C20.out.size)).mono B11.out.size))
 clear b21 SM
 go_wp2_with fail
 go_ret
 exact⟨rfl,C21.out⟩
open Go.Maps Go.ChangeShapes Go.Joins Go.WideShapes in
theorem growsCall{H:Type}{enc:TypeId×Value->H}(s:ByteArray)(v1:Value)(d1:DataW H)(p1:List MemPlace)(cut:Int)(W:World){b0:Nat}(_:s.size<=maxLen)(hval1:Value.okWide Tryz.prog W .any b0 55 v1){base1:Nat}{sp1:Nat->Bool}{held1:Bool}(h1:DataW.Trod enc Tryz.prog W base1 sp1 held1 55 v1 d1 p1)(_:(Lit.int .i64 cut).wf=true)(hT:Vt W):
  Calls Tryz.prog 5 #[.string s,v1,.int .i64 cut] W fun e w'=>e=.returned (.bool true)/\Below W.heap.size W w':=by
 obtain⟨n1,hn1⟩:=h1
 obtain⟨ao,len,cap,rfl⟩:=okWide_slice Tryz.underlying55 hval1
 obtain⟨as_,hr1,hi⟩:=jcn (v:=.slice ao len cap) hn1
 have h:=jdY s.data.toList as_ _ cut W hr1 hi hT
 rw[jc4]at h
 exact h
end Go.Proofs.YtimfhnfcmhmjcaaGreatDoor.Rp
