/- Texts put together:GU. -/
import Derived.Test.YtbapfpekklcicaaGreatDoorBtx38
set_option linter.unusedVariables false
set_option maxRecDepth 100000
set_option maxHeartbeats 16000000
namespace Go.Proofs.YtbapfpekklcicaaGreatDoor
open Go.RowKit Go.Shelf Tryz
namespace Rp
open Bk
attribute [local go_sem] joY
theorem jiw(t:List UInt8)(w:World)(hT:WY w):
  Calls prog 4 #[.string (B t)] w fun e w'=>e=.returned (.bool true)/\Below w.heap.size w w':=by
 have AL:=joI (jms w hT)
 have TB:Hid (∀W,Below w.heap.size w W->WY W):=fun W hW=>hT.below hW (joJ _)
 have hsz:(B t).size=t.length:=jg t
 have hqq:∀t:ByteArray,((t.toList==t.toList)=true):=fun t=>by simp
 have hnn:∀t:Int,((t==t)=true):=fun t=>by simp
 clear hT
 by_cases hlong:5000<t.length
 ·go_enter func4,ntmps4
  go_wp2_with fail
  refine AL.out.mono ?_
  rintro e w1 ⟨rfl,b1⟩
  go_wp2_with fail
  go_ret
  exact⟨rfl,b1⟩
 have q1:¬(5000:Int)<((B t).size:Int):=by omega
 go_enter func4,ntmps4
 go_wp2_with fail
 refine AL.out.mono ?_
 rintro e w1 ⟨rfl,b1⟩
 have B1:=joI b1
 have TX:=joI (jec t (by omega) (jmI (by omega)) w1 (TB.out w1 b1))
 clear AL b1
 go_wp2_with fail
 refine TX.out.mono ?_
 rintro e w3 ⟨b3,h3⟩
 have B3:=joI (B1.out.trans (b3.mono B1.out.size))
 clear TX b3
 rcases h3 with ⟨a,k,u,hbad,rfl,hf⟩|⟨n,base,bds,tail,v,its,k,lb,ev,ps,hS,hp,hl,rfl,hBR,hC⟩
 ·obtain⟨w4,hw4⟩:∃z,w3.alloc (.cells #[.int .i64 0,.string ⟨#[]⟩,.slice none 0 0,.slice none 0 0,.string ⟨#[]⟩] 28)=z:=⟨_,rfl⟩
  have b34:Below w3.heap.size w3 w4:=by rw[<- hw4];exact(joL _ _).alloc (joJ _) _
  have C4:ja w4 w3.heap.size 28 #[.int .i64 0,.string ⟨#[]⟩,.slice none 0 0,.slice none 0 0,.string ⟨#[]⟩]:=by rw[<- hw4];exact ja.new _ _ _
  have EZ:=vE.fault (hf.mono (joJ _)) hbad.num.1 hbad.num.2
  obtain⟨q,_,rfl,_⟩:=hf
  have RT:=joI (YO t (by omega) w4)
  have B4:=joI (B3.out.trans (b34.mono B3.out.size))
  have HEZ:=joI (EZ.below b34 (joJ _))
  have HC4:=joI C4
  have HBAD:=joI hbad
  have HW4:=joI hw4
  have eZ:Qt=.agg #[.int .i64 0,.string ⟨#[]⟩,.slice none 0 0,.slice none 0 0,.string ⟨#[]⟩]:=rfl
  rw[eZ]
  clear hbad b34 C4 EZ hw4
  go_wp2_with fail
  rw[HW4.out]
  refine RT.out.mono ?_
  rintro e w5 ⟨b5,h5⟩
  have hx:e=.returned (.tuple #[Qt,.agg #[.slice none 0 0,.int .i64 0],.int .i64 a,.int .i64 k]):=by
   rcases h5 with ⟨a',k',hb',rfl⟩|⟨n,base,bds,tail,v,its,k',qv,qs,hS,hp,hl,_⟩
   ·obtain⟨rfl,rfl⟩:=HBAD.out.one hb'
    rfl
   exact(HBAD.out.not hS hp hl).elim
  subst hx
  rw[eZ]
  have B5:=joI (B4.out.trans (b5.mono B4.out.size))
  have HEZ5:=joI (HEZ.out.below b5 (joJ _))
  have HC5:=joI (jb HC4.out b5 HC4.out.lt)
  clear h5 b5 RT HEZ
  obtain⟨w6,hw6⟩:∃z,(w5.alloc (.cells #[.int .i64 0,.string ⟨#[]⟩,.slice none 0 0,.slice none 0 0,.string ⟨#[]⟩] 25)).alloc (.cells #[.slice none 0 0,.int .i64 0] 37)=z:=⟨_,rfl⟩
  have b56:Below w5.heap.size w5 w6:=by rw[<- hw6];exact((joL _ _).alloc (joJ _) _).alloc (by simp) _
  have K6:ja w6 w5.heap.size 25 #[.int .i64 0,.string ⟨#[]⟩,.slice none 0 0,.slice none 0 0,.string ⟨#[]⟩]:=by rw[<- hw6];exact(ja.new _ _ _).alloc _
  have C6:=jb HC5.out b56 HC5.out.lt
  have B6:=joI (B5.out.trans (b56.mono B5.out.size))
  have HZ6:=joI (HEZ5.out.below b56 (joJ _))
  have l0:=C6.cell 0
  have l1:=C6.cell 1
  have l2:=C6.cell 2
  have l4:=C6.cell 4
  have m0:=K6.cell 0
  have m1:=K6.cell 1
  have m2:=K6.cell 2
  have m4:=K6.cell 4
  simp only[joQ,joP,joO]at l0 l1 l2 l4 m0 m1 m2 m4
  have hbz:(((k:Nat):Int) != 0)=true:=by have:=HBAD.out.num.1;simp;omega
  have HW6:=joI hw6
  clear b56 K6 C6 hw6
  go_upto_region 7 with fail
  rw[HW6.out]
  go_wp2_with fail
  refine(jmW HZ6.out).mono ?_
  rintro e V ⟨rfl,rfl⟩
  go_wp2_with fail
  refine(jos HZ6.out).mono ?_
  rintro e V ⟨rfl,rfl⟩
  go_upto_region 9 with fail
  refine wp_region_any (by kernel_rfl) ?_
  refine Kn.wpAny_known [(68,.int .i64 (k:Nat)),(69,.bool true),(70,.bool true),(71,.pointer none),(72,.bool true),(73,.bool true),(74,.bool true),(75,undef),(76,undef),(77,undef),(78,undef),(79,undef),(80,undef),(81,undef),(82,undef),(83,undef),(84,undef),(85,undef),(86,undef),(87,undef),(88,undef),(89,undef),(90,undef),(91,undef),(92,undef),(93,undef),(94,undef),(95,.bool true),(2,.bool true)] (by kernel_rfl) (by kernel_rfl) ?st ?hQ
  case st =>
   repeat (refine And.intro (by first
    | exact Kn.stepO (by kernel_rfl)
    | exact Kn.neqIK (by kernel_rfl) rfl (by kernel_rfl) (by kernel_rfl) hbz
    | exact Kn.binK (by kernel_rfl) rfl rfl rfl (fun ρ w h1 h2=>by simp only[execOp,h1,h2];simp[go_sem])
    | exact Kn.stepA (by kernel_rfl) (by kernel_rfl)) ?_)
   exact trivial
  case hQ =>
  intro w7 hb7
  have B7:=joI (B6.out.trans ((joL _ _).drew.trans hb7 |>.mono B6.out.size))
  simp only[List.foldl,jo3,jpF,jpG]
  go_wp2_with fail
  go_ret
  exact⟨rfl,B7.out⟩
 have BR3:=hBR
 obtain⟨bv,ev',us,rfl,hBt,hEv⟩:=hBR.is
 obtain⟨ba,bc,rfl,_⟩:=je hBt.row
 obtain⟨ea,ec,rfl,_⟩:=je hEv
 have hsb:=(JH hS).2.1
 unfold Qi ptr at *
 obtain⟨w4,hw4⟩:∃z,w3.alloc (.cells #[.int .i64 (n:Int),.string (B base),.slice ba bds.length bc,.slice ea bds.length ec,.string (B tail)] 28)=z:=⟨_,rfl⟩
 obtain⟨b34,C4⟩:=jh2 hw4
 have RT:=joI (YO t (by omega) w4)
 have B4:=joI (B3.out.trans (b34.mono B3.out.size))
 have HCY:=joI (hC.below b34 (joJ _))
 have HC4:=joI C4
 have HS:=joI hS
 have HP:=joI hp
 have HL:=joI hl
 have HW4:=joI hw4
 clear BR3 hBR hBt hEv hS b34 C4 hw4 hC hp hl
 go_wp2_with fail
 rw[HW4.out]
 refine RT.out.mono ?_
 rintro e w5 ⟨b5,h5⟩
 have hx:∃bb bbc eb ebc qa qn qc qs,e=.returned (.tuple #[.agg #[.int .i64 (n:Int),.string (B base),.slice bb bds.length bbc,.slice eb bds.length ebc,.string (B tail)],.agg #[.slice qa qn qc,.int .i64 k.next],.int .i64 (-9),.int .i64 0])/\zK w5 (.slice qa qn qc) qs/\qs.map Prod.fst=k.es:=by
  rcases h5 with ⟨a',k',hb',rfl⟩|⟨n',base',bds',tail',v,its',k',qv,qs,hS',hp',hl',rfl,hBR,hq,hqe⟩
  ·exact(hb'.not HS.out HP.out HL.out).elim
  obtain⟨rfl,rfl,rfl,rfl⟩:=HS.out.same hS'
  have e1:=HP.out.symm.trans hp'
  injection e1 with e1
  subst e1
  have e2:=HL.out.symm.trans hl'
  injection e2 with e2
  subst e2
  obtain⟨bv,ev',us,rfl,hBt,hEv⟩:=hBR.is
  obtain⟨bb,bbc,rfl,_⟩:=je hBt.row
  obtain⟨eb,ebc,rfl,_⟩:=je hEv
  obtain⟨qa,qc,rfl,_⟩:=hq.empty
  exact⟨_,_,_,_,_,_,_,qs,rfl,hq,hqe⟩
 obtain⟨bb,bbc,eb,ebc,qa,qn,qc,qs,rfl,hq,hqe⟩:=hx
 have B5:=joI (B4.out.trans (b5.mono B4.out.size))
 have HC5:=joI (jb HC4.out b5 HC4.out.lt)
 have HCY5:=joI (HCY.out.below b5 (joJ _))
 obtain⟨w6,hw6⟩:∃z,(w5.alloc (.cells #[.int .i64 (n:Int),.string (B base),.slice bb bds.length bbc,.slice eb bds.length ebc,.string (B tail)] 25)).alloc (.cells #[.slice qa qn qc,.int .i64 k.next] 37)=z:=⟨_,rfl⟩
 have b56:Below w5.heap.size w5 w6:=by rw[<- hw6];exact((joL _ _).alloc (joJ _) _).alloc (by simp) _
 have K6:ja w6 w5.heap.size 25 #[.int .i64 (n:Int),.string (B base),.slice bb bds.length bbc,.slice eb bds.length ebc,.string (B tail)]:=by rw[<- hw6];exact(ja.new _ _ _).alloc _
 have M6:ja w6 (w5.heap.size+1) 37 #[.slice qa qn qc,.int .i64 k.next]:=by
  rw[<- hw6]
  have:=ja.new (w5.alloc (.cells #[.int .i64 (n:Int),.string (B base),.slice bb bds.length bbc,.slice eb bds.length ebc,.string (B tail)] 25)) 37 #[.slice qa qn qc,.int .i64 k.next]
  simp only[joZ]at this
  exact this
 have C6:=jb HC5.out b56 HC5.out.lt
 have B6:=joI (B5.out.trans (b56.mono B5.out.size))
 have HY6:=joI (HCY5.out.below b56 (joJ _))
 have HQ6:=joI (hq.below b56 (joJ _))
 have HQE:=joI hqe
 have HM6:=joI M6
 have l0:=C6.cell 0
 have l1:=C6.cell 1
 have l2:=C6.cell 2
 have l4:=C6.cell 4
 have m0:=K6.cell 0
 have m1:=K6.cell 1
 have m2:=K6.cell 2
 have m4:=K6.cell 4
 simp only[joQ,joP,joO]at l0 l1 l2 l4 m0 m1 m2 m4
 have HW6:=joI hw6
 clear h5 b5 RT HCY HCY5 b56 K6 M6 C6 hw6 hq hqe
 go_upto_region 7 with fail
 rw[HW6.out]
 go_wp2_with fail
 refine(jmW (vE.none 0 w6)).mono ?_
 rintro e V ⟨rfl,rfl⟩
 go_wp2_with fail
 refine(jos (vE.none 0 w6)).mono ?_
 rintro e V ⟨rfl,rfl⟩
 go_upto_region 9 with fail
 obtain⟨qm1,qm2,qm3,_⟩:=jox HY6.out (by omega) HQE.out
 have AK:=joI (jmp HY6.out (by omega))
 have DR:Hid (Below w6.heap.size w6 w6.drew):=(joL _ _).drew
 have HS9:Hid (∀W,Below w6.drew.heap.size w6.drew W->W.cell? ⟨w5.heap.size+1,0,none⟩=some (.slice qa qn qc)/\W.cell? ⟨w5.heap.size+1,1,none⟩=some (.int .i64 k.next)):=fun W hW=>by
  have kk:=jb HM6.out (DR.out.trans hW) HM6.out.lt
  exact⟨(kk.cell 0).trans rfl,(kk.cell 1).trans rfl⟩
 have RTX:Hid (∀W,Below w6.drew.heap.size w6.drew W->Calls prog 15 #[.agg #[.slice qa qn qc,.int .i64 k.next]] W fun e w'=>e=.returned (.string (jmG k))/\Below W.heap.size W w'):=fun W hW=>by
  have h:=jaC qs (.slice qa qn qc) k.next W (HQ6.out.below (DR.out.trans hW) (joJ _)) qm1 qm2
  rw[qm3]at h
  exact h
 have hne:((k.next==k.next)=true):=hnn _
 clear qm1 qm2 qm3 l0 l1 l2 l4 m0 m1 m2 m4
 refine wp_region_any (by kernel_rfl) ?_
 refine Kn.wpAny_known [(68,.int .i64 0),(69,.bool false),(70,.bool false),(71,undef),(72,undef),(73,.bool false),(74,.bool false),(75,.int .i64 0),(76,.bool true),(77,.bool true),(78,.pointer (some ⟨lb,0,none⟩)),(79,.bool true),(80,.bool true),(81,.bool true),(82,.pointer (some ⟨lb,0,none⟩)),(83,.string (jmG k)),(84,.agg #[.slice qa qn qc,.int .i64 k.next]),(85,.string (jmG k)),(86,.bool true),(87,.bool true),(88,.bool true),(89,.pointer (some ⟨lb,0,none⟩)),(90,.int .i64 k.next),(91,.pointer (some ⟨w5.heap.size+1,1,none⟩)),(92,.int .i64 k.next),(93,.bool true),(94,.bool true),(95,.bool true),(2,.bool true)] (by kernel_rfl) (by kernel_rfl) ?st ?hQ
 case st =>
  repeat (refine And.intro (by first
   | exact Kn.stepO (by kernel_rfl)
   | exact Kn.callK (by kernel_rfl) rfl (by kernel_rfl) (enters_of (P:=prog) func14 (by kernel_rfl) rfl) (fun W hW=>AK.out.text W (DR.out.trans hW))
   | exact Kn.callK (by kernel_rfl) rfl (by kernel_rfl) (enters_of (P:=prog) func15 (by kernel_rfl) rfl) RTX.out
   | exact Kn.callK (by kernel_rfl) rfl (by kernel_rfl) (enters_of (P:=prog) func16 (by kernel_rfl) rfl) (fun W hW=>(AK.out.next W (DR.out.trans hW)).mono fun e w' ⟨he,hw⟩=>⟨he,by rw[<- hw];exact joL _ _⟩)
   | exact Kn.loadK (by kernel_rfl) rfl rfl (fun W hW=>by simp[go_sem,(HS9.out W hW).1,(HS9.out W hW).2])
   | exact Kn.fieldK (by kernel_rfl) rfl rfl rfl (fun W=>by simp[go_sem])
   | exact Kn.eqlSK (by kernel_rfl) rfl rfl rfl (hqq (jmG k))
   | exact Kn.eqlIK (by kernel_rfl) rfl rfl rfl hne
   | exact Kn.binK (by kernel_rfl) rfl rfl rfl (fun ρ w h1 h2=>by simp only[execOp,h1,h2];simp[go_sem])
   | exact Kn.stepA (by kernel_rfl) (by kernel_rfl)) ?_)
  exact trivial
 case hQ =>
 intro w7 hb7
 have B7:=joI (B6.out.trans ((DR.out.trans hb7).mono B6.out.size))
 simp only[List.foldl,jo3,jpF,jpG]
 go_wp2_with fail
 go_ret
 exact⟨rfl,B7.out⟩
theorem textsCall(s:ByteArray)(W:World)(_:s.size<=maxLen)(a:WY W):
  Calls prog 4 #[.string s] W fun e b=>e=.returned (.bool true)/\Below W.heap.size W b:=by
 have h:=jiw s.data.toList W a;rw[jfB]at h;exact h
end Rp
end Go.Proofs.YtbapfpekklcicaaGreatDoor
