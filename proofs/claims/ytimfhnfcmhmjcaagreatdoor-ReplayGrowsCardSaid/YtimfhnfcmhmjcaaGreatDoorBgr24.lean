/- Texts put together:SG,DP,DT,AM,BD,BE,BF,WQ,BI,BG,EY,AQ,HF,ES,HA,EL,EZ,AS,AT,AU,AW,BJ,AN,AR,FV,BH,HD,HB,HE,SYN,SM,SO,SN,GF,GJ,GM,EX. -/
import Derived.Lib.SliceRun
import Derived.Test.YtimfhnfcmhmjcaaGreatDoorBgr23
set_option linter.unusedVariables false
set_option maxRecDepth 100000
set_option maxHeartbeats 16000000
namespace Go.Proofs.YtimfhnfcmhmjcaaGreatDoor.Bk
open Go.RowKit Go.Shelf
attribute [local go_sem] jit
theorem jae(s:ByteArray)(hsz:50000<s.size)(w:World):
  Calls Tryz.prog 93 #[.string s] w fun e w'=>e=.returned (.bool false)/\Below w.heap.size w w':=by
 have FT:=jii (Fr.fits_any (s.size:Int))
 have hf:decide (2<=(s.size:Int)/\(s.size:Int)<=50000)=false:=by simp;omega
 refine callsIn_wide (n:=9).1 ?_
 refine callsIn_of_wp_marks Tryz.func93 rfl trivial ?_ rfl
 simp only[Tryz.ntmps93,ji5,jin,jiJ,Nat.reduceAdd,Nat.reduceSub,ji3,ji4,jje,ji6,jiZ,jiz]
 have k1:=jjs w 4 (.bool false)
 have kb:Below w.heap.size w (w.alloc (.cells #[.bool false] 4)):=(jil _ w).alloc (jij _) _
 rw[hf]at FT
 gi_wp2_with fail
 refine⟨trivial,(callsIn_wide.2 (FT.out _)).mono ?_⟩
 rintro e w3 ⟨rfl,rfl⟩
 gi_wp2
 have c:=k1.cell
 exact⟨.bool false,by simp[results,Tryz.f93,go_sem,c],rfl,kb⟩
theorem YR(l:List UInt8)(hl:50000<l.length)(w:World):
  Calls Tryz.prog 54 #[.string (B l)] w fun e w'=>e=.returned (.tuple #[.string (B []),xl 2])/\Below w.heap.size w w':=by
 have G1:=jii (jae (B l) (by rw[jm];exact hl) w)
 go_enter Tryz.func54,Tryz.ntmps54
 go_wp2_with fail
 refine G1.out.mono ?_
 rintro e w1 ⟨rfl,hb1⟩
 go_wp2_with fail
 go_ret2
 exact⟨rfl,hb1⟩
def jaH(t:List UInt8)(a k:Nat):Prop :=
 jA (vi (t.drop (hl (Hd.genP t))))=.error (a,k) \/
 (k=10/\∃its bds r,jA (vi (t.drop (hl (Hd.genP t))))=.ok its/\jcW Dc (t.drop (hl (Hd.genP t)+(vi (t.drop (hl (Hd.genP t)))).length)) bds r/\jgw Dc r/\a=bds.length)
theorem jaH.not{t:List UInt8}{a k n:Nat}{base tail:List UInt8}{bds:List (List UInt8)}(h:jaH t a k)(s:qn Dc t n base bds tail):False:=by
 have hn:Hd.genP t=n:=Hd.gen_one (Hd.genP_is t) s.gen
 obtain⟨its,hp⟩:=s.parse
 have hB:=s.isB
 unfold jaH at h
 rw[hn,hB]at h
 rcases h with h|⟨_,_,bds',r,_,h2,h3,_⟩
 ·rw[hp]at h;cases h
 obtain⟨rfl,rfl⟩:=VK h2 s.recd (.inr h3) (.inl s.fin)
 exact jec s.fin h3
theorem jgq.two{w w':World}{t:List UInt8}{e:Ending}(h:jgq w w' t e):Below w.heap.size w w' /\
  ((∃a k u,jaH t a k/\e=.returned (.tuple #[XV,u])/\jl w.heap.size w' u a k)\/∃n base bds tail v,qn Dc t n base bds tail/\e=.returned (.tuple #[v,.nilIface])/\ye w.heap.size w' v n base bds tail):=by
 obtain⟨hb,h⟩:=h
 refine⟨hb,?_⟩
 rcases h with ⟨a,k,u,h1,h2,h3⟩|⟨its,bds,r,u,h1,h2,h3,h4,h5⟩|⟨base,bds,tail,v,h1,h2,h3⟩
 ·exact .inl ⟨a,k,u,.inl h1,h2,h3⟩
 ·exact .inl ⟨_,10,u,.inr ⟨rfl,its,bds,r,h1,h2,h3,rfl⟩,h4,h5⟩
 exact .inr ⟨_,base,bds,tail,v,h1,h2,h3⟩
def jhp(w w':World)(t:List UInt8)(eds:List Ed)(e:Ending):Prop:=Below w.heap.size w w' /\
  ((∃a k u,jaH t a k/\e=.returned (.tuple #[.string (B []),u])/\jl w.heap.size w' u a k) \/
   ∃n base bds tail,qn Dc t n base bds tail /\
    (((qP eds).2≠0/\∃u,e=.returned (.tuple #[.string (B []),u])/\qR w.heap.size w' u (qP eds).1 (qP eds).2) \/
     ((qP eds).2=0/\50000<(ji eds).length/\e=.returned (.tuple #[.string (B []),xl 11])) \/
     ((qP eds).2=0/\(ji eds).length<=50000/\e=.returned (.tuple #[.string (B (t.take (jD n base bds)++Fr.fullR (ji eds))),.nilIface]))))
theorem JK(t:List UInt8)(ht:t.length<=60000)(eds:List Ed)(bv:Value)(w:World)(hE:EdV w bv eds)(hlen:eds.length<=1000000)(hf:Vv eds)(hi:∀ed∈eds,I64 ed.id)(hT:Vt w):
  Calls Tryz.prog 29 #[.string (B t),bv] w fun e w'=>jhp w w' t eds e:=by
 have TB:Hid (∀W,Below w.heap.size w W->Vt W):=fun W hW=>hT.below hW (jij _)
 have hsz:(B t).size=t.length:=jm t
 have RD:=jii (JJ t (by omega) (by have:=Jl t (hl (Hd.genP t));omega) w hT)
 have EV:Hid (∀W,Below w.heap.size w W->EdV W bv eds):=fun W hW=>hE.below hW (jij _)
 have HF:=jii hf
 have HI:=jii hi
 obtain⟨va,vc,rfl,_⟩:∃A c,bv=.slice A eds.length c/\True:=by obtain⟨A,c,e,_⟩:=hE;exact⟨A,c,e,trivial⟩
 clear hT hE hf hi
 go_enter Tryz.func29,Tryz.ntmps29
 go_wp2_with fail
 refine RD.out.mono ?_
 rintro e w1 hr
 obtain⟨b1,h1⟩:=hr.two
 have B1:=jii b1
 clear RD hr b1
 rcases h1 with ⟨a,k,u,hbad,rfl,hf1⟩|⟨n,base,bds,tail,v,hS,rfl,hBR⟩
 ·have hbz:Below w1.heap.size w1 (w1.alloc (.cells #[.int .i64 0,.string ⟨#[]⟩,.slice none 0 0,.slice none 0 0,.string ⟨#[]⟩] 28)):=(jil _ _).alloc (jij _) _
  have B2:=jii (B1.out.trans (hbz.mono B1.out.size))
  have F2:=jii (hf1.below hbz (jij _))
  obtain⟨q,_,rfl,_⟩:=hf1
  have HBAD:=jii hbad
  unfold XV Jk
  clear hbz hbad
  go_wp2_with fail
  go_ret2
  exact⟨B2.out,.inl ⟨a,k,_,HBAD.out,rfl,F2.out⟩⟩
 have BR2:=hBR
 obtain⟨bbv,ev,us,rfl,hBt,hEv⟩:=hBR.is
 obtain⟨ba,bc,rfl,_⟩:=je hBt.row
 obtain⟨ea,ec,rfl,_⟩:=je hEv
 have PT:=hS.parts
 unfold Jk at *
 obtain⟨w3,hw3⟩:∃z,w1.alloc (.cells #[.int .i64 (n:Int),.string (B base),.slice ba bds.length bc,.slice ea bds.length ec,.string (B tail)] 28)=z:=⟨_,rfl⟩
 obtain⟨b23,C3⟩:=XG hw3
 have B3:=jii (B1.out.trans (b23.mono B1.out.size))
 have hWl:jD n base bds<=t.length:=by have:=PT.len;omega
 have WH:Hid (∀W,Below w3.heap.size w3 W->Calls Tryz.prog 30 #[.agg #[.int .i64 (n:Int),.string (B base),.slice ba bds.length bc,.slice ea bds.length ec,.string (B tail)]] W fun e w'=>e=.returned (.int .i64 (jD n base bds:Nat))/\Below W.heap.size W w'):=fun W hW=>Zf ((BR2.below b23).below hW) (by omega) (TB.out W (B3.out.trans (hW.mono B3.out.size)))
 have EN:=jii (Vk eds _ w3 (EV.out w3 B3.out) hlen HF.out HI.out (TB.out w3 B3.out).tabs)
 have HS:=jii hS
 have HC3:=jii C3
 have HW3:=jii hw3
 have EX:Hid ((B t).extract 0 (jD n base bds)=B (t.take (jD n base bds))):=Fr.ext_take _ _
 have RS:Hid (∀e:Ending,∀w',Below w.heap.size w w'->(((qP eds).2≠0/\∃u,e=.returned (.tuple #[.string (B []),u])/\qR w.heap.size w' u (qP eds).1 (qP eds).2)\/((qP eds).2=0/\50000<(ji eds).length/\e=.returned (.tuple #[.string (B []),xl 11]))\/((qP eds).2=0/\(ji eds).length<=50000/\e=.returned (.tuple #[.string (B (t.take (jD n base bds)++Fr.fullR (ji eds))),.nilIface])))->jhp w w' t eds e):=fun e w' hb h=>⟨hb,.inr ⟨n,base,bds,tail,hS,h⟩⟩
 clear BR2 hBR hBt hEv hS PT b23 C3 hw3
 generalize hWW:jD n base bds=W at *
 go_wp2_with fail
 rw[HW3.out]
 refine EN.out.mono ?_
 rintro e w4 ⟨b4,h4⟩
 have B4:=jii (B3.out.trans (b4.mono B3.out.size))
 have HB34:=jii b4
 clear EN b4
 rcases h4 with ⟨hc,rfl⟩|⟨hc,u,rfl,hz⟩
 rotate_left
 ·
  have Z4:=jii (hz.mono (B3.out.size))
  have hform:=hz
  obtain⟨_,hform⟩:=hform
  have hform:(∃z,u=.iface 54 (.int .i64 z))\/∃q,u=.iface 91 (.pointer (some ⟨q,0,none⟩)):=by
   rcases hform with ⟨rfl,_⟩|⟨_,⟨q,_,rfl,_⟩,_,_⟩
   ·rw[jQ _ (by omega)];exact .inl ⟨_,rfl⟩
   exact .inr ⟨q,rfl⟩
  have R4:=jii (RS.out (.returned (.tuple #[.string (B []),u])) w4 B4.out (.inl ⟨hc,u,rfl,Z4.out⟩))
  clear hz RS
  rcases hform with ⟨z,rfl⟩|⟨q,rfl⟩
  all_goals
   go_wp2_with fail
   go_ret2
   exact R4.out
 have hbt:=jm (ji eds)
 by_cases hbig:50000<(ji eds).length
 ·have RC:=jii (YR (ji eds) hbig w4)
  have RSX:Hid (∀w',Below w.heap.size w w'->jhp w w' t eds (.returned (.tuple #[.string (B []),xl 11]))):=fun w' hb=>RS.out _ w' hb (.inr (.inl ⟨hc,hbig,rfl⟩))
  rw[Xs]at RC
  rw[jQ 11 (by decide)]at RSX
  clear RS
  generalize B (ji eds)=X at *
  go_wp2_with fail
  refine RC.out.mono ?_
  rintro e w5 ⟨rfl,b5⟩
  have R5:=jii (RSX.out w5 (B4.out.trans (b5.mono B4.out.size)))
  clear b5 RC
  go_wp2_with fail
  go_ret2
  exact R5.out
 have hgd:Fr.goodR (ji eds)=true:=Fr.batch_body hc (by omega)
 have RC:=jii (Fr.record_yes (ji eds) hgd w4 (TB.out w4 B4.out).nums)
 have hfl:=Fr.full_le hgd
 have hfs:(B (Fr.fullR (ji eds))).size=(Fr.fullR (ji eds)).length:=jm _
 have EX2:Hid (B (t.take W)++B (Fr.fullR (ji eds))=B (t.take W++Fr.fullR (ji eds))):=by show _=_;rw[jE]
 have RSX:Hid (∀w',Below w.heap.size w w'->jhp w w' t eds (.returned (.tuple #[.string (B (t.take W++Fr.fullR (ji eds))),.nilIface]))):=fun w' hb=>RS.out _ w' hb (.inr (.inr ⟨hc,by omega,rfl⟩))
 have htk:(B (t.take W)).size=W:=by rw[jm,jiq];omega
 clear RS hgd hc
 generalize Fr.fullR (ji eds)=FR at *
 generalize B (ji eds)=X at *
 go_wp2_with fail
 refine RC.out.mono ?_
 rintro e w5 ⟨rfl,b5⟩
 have B35:=jii (HB34.out.trans (b5.mono HB34.out.size))
 have B5:=jii (B4.out.trans (b5.mono B4.out.size))
 have k:=jb HC3.out B35.out HC3.out.lt
 have k0:=k.cell 0
 have k1:=k.cell 1
 have k2:=k.cell 2
 have k3:=k.cell 3
 have k4:=k.cell 4
 simp only[jiv,jiu,jio]at k0 k1 k2 k3 k4
 clear b5 RC k
 go_wp2_with fail
 refine(WH.out w5 B35.out).mono ?_
 rintro e w6 ⟨rfl,b6⟩
 have B36:=jii (B35.out.trans (b6.mono B35.out.size))
 have B6:=jii (B5.out.trans (b6.mono B5.out.size))
 have k:=jb HC3.out B36.out HC3.out.lt
 have j0:=k.cell 0
 have j1:=k.cell 1
 have j2:=k.cell 2
 have j3:=k.cell 3
 have j4:=k.cell 4
 simp only[jiv,jiu,jio]at j0 j1 j2 j3 j4
 have q5:¬(120000:Int)<(W:Int)+(FR.length:Int):=by omega
 have q6:(W:Int)<=((B t).size:Int):=by omega
 clear b6 k k0 k1 k2 k3 k4
 go_wp2_with fail
 refine(WH.out w6 B36.out).mono ?_
 rintro e w7 ⟨rfl,b7⟩
 have R7:=jii (RSX.out w7 (B6.out.trans (b7.mono B6.out.size)))
 have hex:((B t).extract 0 W).size=W:=by rw[EX.out];exact htk
 clear b7 RSX
 go_wp2_with fail
 rw[EX.out,EX2.out]
 go_ret2
 exact R7.out
end Go.Proofs.YtimfhnfcmhmjcaaGreatDoor.Bk
namespace Go.Proofs.YtimfhnfcmhmjcaaGreatDoor.Fr
open Go.RowKit Go.Shelf
attribute [local go_sem] jit
end Go.Proofs.YtimfhnfcmhmjcaaGreatDoor.Fr
namespace Go.Proofs.YtimfhnfcmhmjcaaGreatDoor
open Go.RowKit Go.Shelf
attribute [local go_sem] jit
theorem qz(u:Nat)(hu:u<18446744073709551616)(w:World):Calls Tryz.prog 218 #[.int .u64 u] w fun e w'=>e=.returned (.string (B (Lib.decDigits u)))/\w'=w:=by
 induction u using Nat.strongRecOn generalizing w with
 | _ u ih =>
 by_cases h:u<10
 ·rw[jjH h]
  clear ih hu
  obtain rfl|rfl|rfl|rfl|rfl|rfl|rfl|rfl|rfl|rfl:u=0\/u=1\/u=2\/u=3\/u=4\/u=5\/u=6\/u=7\/u=8\/u=9:=by omega
  all_goals
   go_enter Tryz.func218,Tryz.ntmps218
   go_wp2_with fail
   go_ret
   exact⟨by kernel_rfl,rfl⟩
 have q:¬(u:Int)<10:=by omega
 have I1:=jii (ih (u / 10) (by omega) (by omega))
 have I2:=jii (ih (u % 10) (by omega) (by omega))
 rw[Int.natCast_ediv]at I1
 rw[Int.natCast_emod]at I2
 have E:Hid (B (Lib.decDigits (u / 10))++B (Lib.decDigits (u % 10))=B (Lib.decDigits u)):=by
  show _=_
  rw[jE,jjH (i:=u % 10) (by omega)]
  congr 1
  conv=>rhs;rw[Lib.decDigits,dif_neg h]
 have S1:(B (Lib.decDigits (u / 10))).size<=30:=by
  rw[jm,jjK]
  have:=jka (u / 10) (by omega)
  omega
 have S2:(B (Lib.decDigits (u % 10))).size<=30:=by rw[jm,jjH (by omega)];exact(by decide:1<=30)
 clear ih
 generalize B (Lib.decDigits (u / 10))=x at *
 generalize B (Lib.decDigits (u % 10))=y at *
 go_enter Tryz.func218,Tryz.ntmps218
 go_wp2_with fail
 refine(I1.out _).mono ?_
 rintro e w1 ⟨rfl,rfl⟩
 go_wp2_with fail
 refine(I2.out _).mono ?_
 rintro e w1 ⟨rfl,rfl⟩
 go_wp2_with fail
 go_ret
 exact⟨by rw[<- E.out];rfl,rfl⟩
theorem figures_any(n:Int)(hn:I64 n)(w:World):Calls Tryz.prog 173 #[.int .i64 n] w fun e w'=>e=.returned (.string (B (Lib.itoa n)))/\w'=w:=by
 obtain⟨h0,h1⟩:=hn
 by_cases h:n<0
 ·obtain⟨u,rfl⟩:∃u:Nat,n = -((u:Int)+1):=⟨(-n-1).toNat,by omega⟩
  have q : -((u:Int)+1)<0:=by omega
  have w1:IntKind.i64.wrap (-((u:Int)+1)+1) = -(u:Int):=by rw[show -((u:Int)+1)+1 = -(u:Int) by omega];exact jiM _ (by omega)
  have w2:IntKind.i64.wrap (u:Int)=(u:Int):=jiM _ (by omega)
  have w3:IntKind.u64.wrap (u:Int)=(u:Int):=by rw[jjD];omega
  have w4:IntKind.u64.wrap ((u:Int)+1)=(u:Int)+1:=by rw[jjD];omega
  have I1:=jii (qz (u+1) (by omega) w)
  rw[jkB,show((1:Nat):Int)=1 from rfl]at I1
  have E:Hid ((⟨#[45]⟩:ByteArray)++B (Lib.decDigits (u+1))=B (Lib.itoa (-((u:Int)+1)))):=by
   show _=_
   rw[show -((u:Int)+1) = -((u+1:Nat):Int) by omega,Lib.itoa_neg _ (by omega),show(⟨#[45]⟩:ByteArray)=B [45] from rfl,jE];rfl
  have S1:(B (Lib.decDigits (u+1))).size<=30:=by
   rw[jm,jjK]
   have:=jka (u+1) (by omega)
   omega
  generalize B (Lib.decDigits (u+1))=x at *
  go_enter Tryz.func173,Tryz.ntmps173
  go_wp2_with fail
  refine I1.out.mono ?_
  rintro e w1 ⟨rfl,rfl⟩
  go_wp2_with fail
  go_ret
  exact⟨by rw[<- E.out];rfl,rfl⟩
 obtain⟨u,rfl⟩:∃u:Nat,n=(u:Int):=⟨n.toNat,by omega⟩
 have w3:IntKind.u64.wrap (u:Int)=(u:Int):=by rw[jjD];omega
 have I1:=jii (qz u (by omega) w)
 rw[jki]
 generalize B (Lib.decDigits u)=x at *
 go_enter Tryz.func173,Tryz.ntmps173
 go_wp2_with fail
 refine I1.out.mono ?_
 rintro e w1 ⟨rfl,rfl⟩
 go_wp2_with fail
 go_ret
 exact⟨rfl,rfl⟩
end Go.Proofs.YtimfhnfcmhmjcaaGreatDoor
namespace Go.Proofs.YtimfhnfcmhmjcaaGreatDoor
end Go.Proofs.YtimfhnfcmhmjcaaGreatDoor
namespace Go.Proofs.YtimfhnfcmhmjcaaGreatDoor
open Go.RowKit Go.Shelf
end Go.Proofs.YtimfhnfcmhmjcaaGreatDoor
namespace Go.Proofs.YtimfhnfcmhmjcaaGreatDoor
end Go.Proofs.YtimfhnfcmhmjcaaGreatDoor
namespace Go.Proofs.YtimfhnfcmhmjcaaGreatDoor
open Go.RowKit Go.Shelf
namespace FD
def fl(l:Array Bool)(j:Nat):Bool:=l.getD j false
theorem jcB{w:World}{b:Nat}{t:TypeId}{x y:Value}(h:ja w b t #[x,y]):∀j u,[x,y][j]?=some u->w.cell? ((⟨b,0,none⟩:Addr).add j)=some u:=by
 intro j u hj
 have ea:(⟨b,0,none⟩:Addr).add j=⟨b,j,none⟩:=by unfold Addr.add;split<;>simp_all
 rw[ea,h.cell j];simpa using hj
abbrev sl(g n c:Nat):Value:=.slice (some ⟨g,0,none⟩) n c
end FD
end Go.Proofs.YtimfhnfcmhmjcaaGreatDoor
namespace Go.Proofs.YtimfhnfcmhmjcaaGreatDoor
open Go.RowKit Go.Shelf
attribute [local go_sem] jit
end Go.Proofs.YtimfhnfcmhmjcaaGreatDoor
namespace Go.Proofs.YtimfhnfcmhmjcaaGreatDoor
open Go.RowKit Go.Shelf
section
variable {K:Act->World->Prop} {Q:Exit->Act->World->Prop} {o:Oper} {a:Act} {w:World}
end
end Go.Proofs.YtimfhnfcmhmjcaaGreatDoor
namespace Go.Proofs.YtimfhnfcmhmjcaaGreatDoor
open Go.RowKit Go.Shelf
attribute [local go_sem] jit
end Go.Proofs.YtimfhnfcmhmjcaaGreatDoor
namespace Go.Proofs.YtimfhnfcmhmjcaaGreatDoor
open Go.RowKit Go.Shelf
end Go.Proofs.YtimfhnfcmhmjcaaGreatDoor
namespace Go.Proofs.YtimfhnfcmhmjcaaGreatDoor
open Go.RowKit Go.Shelf
attribute [local go_sem] jit
end Go.Proofs.YtimfhnfcmhmjcaaGreatDoor
namespace Go.Proofs.YtimfhnfcmhmjcaaGreatDoor
open Go.RowKit Go.Shelf
end Go.Proofs.YtimfhnfcmhmjcaaGreatDoor
namespace Go.Proofs.YtimfhnfcmhmjcaaGreatDoor
open Go.RowKit Go.Shelf
attribute [local go_sem] jit
end Go.Proofs.YtimfhnfcmhmjcaaGreatDoor
namespace Go.Proofs.YtimfhnfcmhmjcaaGreatDoor
open Go.RowKit Go.Shelf
end Go.Proofs.YtimfhnfcmhmjcaaGreatDoor
namespace Go.Proofs.YtimfhnfcmhmjcaaGreatDoor
open Go.RowKit Go.Shelf
attribute [local go_sem] jit
end Go.Proofs.YtimfhnfcmhmjcaaGreatDoor
namespace Go.Proofs.YtimfhnfcmhmjcaaGreatDoor.Bk
open Go.RowKit Go.Shelf
attribute [local go_sem] jit
theorem jhN(cut:Int)(L:Nat)(h:0<L)(hL:L<=1000000):∃k:Nat,k<L/\wrap64 ((IntKind.u64.wrap cut).tmod (L:Int))=(k:Int):=by
 obtain⟨m,hm⟩:∃m:Nat,IntKind.u64.wrap cut=(m:Int):=⟨(IntKind.u64.wrap cut).toNat,by rw[jjD];omega⟩
 rw[hm]
 have h1:=jj9 m h
 exact⟨m % L,h1,by rw[show(m:Int).tmod (L:Int)=((m % L:Nat):Int) from rfl];exact IntWalk.wrap64_in _ (by omega)⟩
theorem qn.same{t base base' tail tail':List UInt8}{n n':Nat}{bds bds':List (List UInt8)}(h:qn Dc t n base bds tail)(h':qn Dc t n' base' bds' tail'):n=n'/\base=base'/\bds=bds'/\tail=tail':=by
 have e1:=Hd.gen_one h.gen h'.gen
 subst e1
 have e2:base=base':=by rw[<- h.isB,h'.isB]
 subst e2
 obtain⟨e3,e4⟩:=VK h.recd h'.recd (.inl h.fin) (.inl h'.fin)
 exact⟨rfl,rfl,e3,e4⟩
theorem jcw{t base tail b:List UInt8}{n k:Nat}{bds:List (List UInt8)}(h:qn Dc t n base bds tail)(hg:Fr.goodR b=true)(hk:k<(Fr.fullR b).length):qn Dc (t.take (jD n base bds)++(Fr.fullR b).take k) n base bds ((Fr.fullR b).take k):=by
 have:=h.again (jeB b k) (more:=[]) (tail':=(Fr.fullR b).take k) ⟨rfl,fun b h=>by cases h⟩ (Fr.full_begins hg hk)
 rwa [jiO]at this
theorem Vf{t base tail b:List UInt8}{n:Nat}{bds:List (List UInt8)}(h:qn Dc t n base bds tail)(hg:Fr.goodR b=true)(hd:Dc b=true):qn Dc (t.take (jD n base bds)++Fr.fullR b) n base (bds++[b]) []:=by
 refine h.again (.inr ?_) ⟨by simp,fun c hc => ?_⟩ Wt
 ·have:=Ur b []
  rwa [jiO]at this
 rw[List.mem_singleton.1 hc];exact⟨hg,hd⟩
theorem jb8{b:List UInt8}{eds:List Ed}(h:XU b=some eds):eds.length<=40/\Qp eds:=by
 obtain⟨_,h0,_,_⟩:=xH.1 h
 obtain⟨⟨_,h1⟩,h2⟩:=vC h0
 refine⟨h1,fun ed hm => ?_⟩
 have g:=Yc (h2 ed hm)
 exact⟨by have:=g.len;omega,fun f hf=>by have:=g.each f hf;have:=yX this.1;omega⟩
end Go.Proofs.YtimfhnfcmhmjcaaGreatDoor.Bk
namespace Go.Proofs.YtimfhnfcmhmjcaaGreatDoor
open Go.RowKit Go.Shelf
section
variable {K:Act->World->Prop} {Q:Exit->Act->World->Prop} {o:Oper} {a:Act} {w:World}
end
end Go.Proofs.YtimfhnfcmhmjcaaGreatDoor
namespace Go.Proofs.YtimfhnfcmhmjcaaGreatDoor.Bk
open Go.RowKit Go.Shelf
attribute [local go_sem] jit
theorem jet{t r:List UInt8}{W k:Nat}(h:W<=t.length):(t.take W++r).take (W+k)=t.take W++r.take k:=by
 have e:(t.take W).length=W:=by rw[jiq];omega
 rw[jj6,e,Nat.add_sub_cancel_left,ji2 (by omega)]
theorem jhj{lo:Nat}{w:World}{a:Option Addr}{n c:Nat}{us:List Value}(h:w.ownsRow lo 55 1 (.slice a n c) n us){i:Nat}{u:Value}(hu:us[i]?=some u)(hi:i<n):∃g off,a=some ⟨g,off,none⟩/\g<w.heap.size/\w.cell? ⟨g,off+i,none⟩=some u:=by
 rcases jjd h with ⟨e,hn⟩|⟨g,cap,e⟩
 ·omega
 have e2:=e
 injection e2 with e3
 rw[e]at h
 refine⟨g,0,e3,(jjr h g rfl).2,?_⟩
 rw[jiP,jiG h i (by omega)]
 exact hu
end Go.Proofs.YtimfhnfcmhmjcaaGreatDoor.Bk
namespace Go.Proofs.YtimfhnfcmhmjcaaGreatDoor.Rp
open Go.RowKit Go.Shelf Bk
theorem XI:∀(eds:List Ed),eds.length<=(ji eds).length
 | []=>jiD _
 | ed::r=>by
  have ih:=XI r
  have e:ji (ed::r)=edT ed++ji r:=by unfold ji zg edT jk;rw[jiy,jiN]
  have h1:1<=(edT ed).length:=by unfold edT jcp jk;rw[jiy];simp;omega
  rw[e,jik,jin];omega
theorem YD:∀ls:List (List UInt8),(jk ls).length<=(jk (ls.map yW)).length
 | []=>jij _
 | l::r=>by
  have ih:=YD r
  have e1:jk (l::r)=(l++[10])++jk r:=by unfold jk;rw[jiy]
  have e2:jk ((l::r).map yW)=(yW l++[10])++jk (r.map yW):=by unfold jk;rw[jiX,jiy]
  rw[e1,e2];simp only[yW,jik,jin];omega
theorem jha:∀{eds:List Ed} {ed:Ed},ed∈eds->(edT ed).length<=(ji eds).length
 | [],_,h=>by cases h
 | a::r,ed,h=>by
  have e:ji (a::r)=edT a++ji r:=by unfold ji zg edT jk;rw[jiy,jiN]
  rw[e,jik]
  rcases List.mem_cons.1 h with rfl|h
  ·omega
  have:=jha h;omega
theorem Xz{b:List UInt8}(h:Dc b=true):(vU b).length<=51/\Qp (vU b)/\Vu (vU b)/\(vU b).length<=b.length:=by
 unfold Dc at h
 unfold vU
 cases hd:XU b with
 | none=>rw[hd]at h;cases h
 | some eds =>
 obtain⟨h1,h2⟩:=jb8 hd
 obtain⟨h5,_,_,h4⟩:=xH.1 hd
 refine⟨jiI h1 (by decide),h2,fun ed hm => ?_,?_⟩
 ·have a1:(edT ed).length<=(ji eds).length:=jha hm
  have a2:(jO ed.fields).length<=(edT ed).length:=by
   rw[ZL]
   have:=YD (jp ed.fields)
   have e:edT ed=(zt ed.kind ed.id++[10])++jk ((jp ed.fields).map yW):=by unfold edT jcp jk;rw[jiy]
   rw[e,jik];omega
  have:=(h2 ed hm).len
  rw[h4]at a1
  exact⟨by omega,by omega⟩
 show eds.length<=b.length
 have:=XI eds
 rw[h4]at this;exact this
theorem jfX(b:List UInt8):b.length<=(Fr.fullR b).length:=by
 unfold Fr.fullR Fr.recR
 rw[jik,jin,jik];omega
def zj(bds:List (List UInt8)):List (List Ed):=bds.map vU
theorem xK(bds:List (List UInt8)):(zj bds).length=bds.length:=jiQ _
theorem Us:∀(bds:List (List UInt8)),(∀b∈bds,Dc b=true)->yi (zj bds)<=(bds.flatMap Fr.fullR).length
 | [],_=>jiD _
 | b::r,h=>by
  have ih:=Us r (fun x hx=>h x (jir _ hx))
  have h1:=(Xz (h b jis)).2.2.2
  have h2:=jfX b
  have e:yi (zj (b::r))=(vU b).length+yi (zj r):=rfl
  rw[e,jiy,jik];omega
theorem jcI{bds:List (List UInt8)}(h:∀b∈bds,Dc b=true):je2 (zj bds):=fun x hx=>by
 obtain⟨b,hb,rfl⟩:=List.mem_map.1 hx
 obtain⟨h1,h2,h3,_⟩:=Xz (h b hb)
 exact⟨h1,h2,h3⟩
theorem jgk{lo:Nat}{w:World}{bv:Value}{bds:List (List UInt8)}{us:List Value}(h:Vw lo w bv bds us):BtV w bv (zj bds):=by
 obtain⟨A,c,rfl,hle⟩:=je h.row
 refine⟨A,c,by rw[xK],by rw[xK];exact hle,fun i b hi => ?_⟩
 unfold zj at hi
 rw[ji9]at hi
 cases hb:bds[i]? with
 | none=>rw[hb]at hi;cases hi
 | some x =>
 rw[hb]at hi
 obtain rfl:vU x=b:=jip hi
 have hlt:=(List.getElem?_eq_some_iff.1 hb).1
 obtain⟨u,hu⟩:∃u,us[i]?=some u:=⟨_,jim (by rw[h.len];exact hlt)⟩
 obtain⟨g,off,e,hg,hc⟩:=jhj h.row hu hlt
 obtain⟨fvs,ho⟩:=h.each i x u hb hu
 exact⟨g,off,u,e,hg,hc,ho.edv⟩
theorem xU{t base tail:List UInt8}{n:Nat}{bds:List (List UInt8)}(h:qn Dc t n base bds tail):je2 (zj bds)/\base.length+yi (zj bds)<=t.length/\bds.length<=t.length:=by
 have hd:∀b∈bds,Dc b=true:=fun b hb=>(h.recd.good b hb).2
 have h1:=Us bds hd
 have h2:=h.parts.len
 have h3:=Yr bds
 unfold jD at h2
 exact⟨jcI hd,by omega,by omega⟩
end Go.Proofs.YtimfhnfcmhmjcaaGreatDoor.Rp
namespace Go.Proofs.YtimfhnfcmhmjcaaGreatDoor.Rp
open Go.RowKit Go.Shelf Bk
attribute [local go_sem] jit
def Yw(w w':World)(s:List UInt8)(bs:List (List Ed))(p u:Value):Prop:=Below w.heap.size w w' /\
  ((∃a n,jA s=.error (a,n)/\p=.pointer none/\jl w.heap.size w' u a n) \/
   (∃its i,jA s=.ok its/\vY (zP its) bs i/\p=.pointer none/\jl w.heap.size w' u i 10) \/
   (∃its k lb ev ps,jA s=.ok its/\qp (zP its) bs=some k/\p=ptr lb/\u=.nilIface/\zk w.heap.size w' lb ev ps k (s.length+yi bs)))
theorem XE{lo lo':Nat}{w:World}{lb:Nat}{ev:Value}{ps:List Pr}{l:LS}{m:Nat}(h:zk lo w lb ev ps l m)(hl:lo'<=lo):zk lo' w lb ev ps l m :=
 ⟨h.la,h.es,h.ok,h.sz,jiI hl h.lb0,fun b e=>jiI hl (h.ev0 b e),h.len,h.nx⟩
theorem Yw.low{w w1 w':World}{s:List UInt8}{bs:List (List Ed)}{p u:Value}(h:Yw w1 w' s bs p u)(hb:Below w.heap.size w w1):Yw w w' s bs p u:=by
 obtain⟨b,h⟩:=h
 have hz:=hb.size
 refine⟨hb.trans (b.mono hz),?_⟩
 rcases h with ⟨a,n,h1,h2,h3⟩|⟨its,i,h1,h2,h3,h4⟩|⟨its,k,lb,ev,ps,h1,h2,h3,h4,h5⟩
 ·exact .inl ⟨a,n,h1,h2,h3.mono hz⟩
 ·exact .inr (.inl ⟨its,i,h1,h2,h3,h4.mono hz⟩)
 exact .inr (.inr ⟨its,k,lb,ev,ps,h1,h2,h3,h4,XE h5 hz⟩)
theorem Yw.form{w w':World}{s:List UInt8}{bs:List (List Ed)}{p u:Value}(h:Yw w w' s bs p u):(∃q:Option Addr,p=.pointer q)/\(u=.nilIface\/∃q,u=.iface 91 (.pointer (some ⟨q,0,none⟩))):=by
 obtain⟨_,⟨a,n,_,rfl,q,_,rfl,_⟩|⟨its,i,_,_,rfl,q,_,rfl,_⟩|⟨its,k,lb,ev,ps,_,_,rfl,rfl,_⟩⟩:=h
 ·exact⟨⟨_,rfl⟩,.inr ⟨q,rfl⟩⟩
 ·exact⟨⟨_,rfl⟩,.inr ⟨q,rfl⟩⟩
 exact⟨⟨_,rfl⟩,.inl rfl⟩
theorem Uw.beh{w w':World}{s:List UInt8}{bs:List (List Ed)}{e:Ending}(h:Uw w w' s bs e):∃(p:Value) (n:Int) (a:Option Addr) (m c:Nat) (u:Value),e=.returned (.tuple #[.agg #[p,.int .i64 n,.slice a m c],u])/\Yw w w' s bs p u:=by
 obtain⟨b,⟨a,n,u,h1,rfl,h3⟩|⟨its,i,u,h1,h2,rfl,h4⟩|⟨its,k,lb,ev,ps,gv,us,h1,h2,rfl,h5,h6⟩⟩:=h
 ·exact⟨_,_,_,_,_,_,rfl,b,.inl ⟨a,n,h1,rfl,h3⟩⟩
 ·exact⟨_,_,_,_,_,_,rfl,b,.inr (.inl ⟨its,i,h1,h2,rfl,h4⟩)⟩
 obtain⟨ga,gc,rfl,_⟩:=je h6.row
 exact⟨_,_,_,_,_,_,rfl,b,.inr (.inr ⟨its,k,lb,ev,ps,h1,h2,rfl,rfl,h5⟩)⟩
theorem Yw.only{w w1 w' w'':World}{s:List UInt8}{bs:List (List Ed)}{p u:Value}{b:Nat}{T:TypeId}{cur:Array Value}(h:Yw w1 w' s bs p u)(o:jB (· = b) w' w'')(hc:ja w' b T cur)(hn:∀x∈cur,∀s,x ≠ .string s)(hT:T≠94)(hT2:T≠102)(hT3:113≠T)(hb:Below w.heap.size w w1)(hw:w.heap.size<=b):Yw w w'' s bs p u:=by
 obtain⟨b1,h⟩:=h.low hb
 refine⟨b1.trans (o.to_below b1.size (fun r hr e=>by omega)),?_⟩
 have FA:∀{a n:Nat},jl w.heap.size w' u a n->jl w.heap.size w'' u a n:=fun hf=>by
  obtain⟨q,h1,h2,h3⟩:=hf
  refine⟨q,h1,h2,h3.only o (fun e => ?_)⟩
  subst e
  have e2:=hc.symm.trans h3
  injection e2 with e3
  injection e3 with _ e4
  exact hT e4
 rcases h with ⟨a,n,h1,h2,h3⟩|⟨its,i,h1,h2,h3,h4⟩|⟨its,k,lb,ev,ps,h1,h2,h3,h4,h5⟩
 ·exact .inl ⟨a,n,h1,h2,FA h3⟩
 ·exact .inr (.inl ⟨its,i,h1,h2,h3,FA h4⟩)
 refine .inr (.inr ⟨its,k,lb,ev,ps,h1,h2,h3,h4,h5.only o ?_⟩)
 rintro r (rfl|h|h|⟨p,hp,hne,h⟩|⟨p,hp,_⟩) e
 ·subst e
  have e2:=hc.symm.trans h5.la.lr.head
  injection e2 with e3
  injection e3 with _ e4
  exact hT2 e4
 ·exact ju h5.la.lr.ents.row hc hT3 (by rw[h,e])
 ·cases h
 ·exact jb6 (h5.la.lr.ents.each p hp).1 hne (by rw[h,e]) hc hn
 cases hp
theorem Yw.grow{w w' w'':World}{s:List UInt8}{bs:List (List Ed)}{p u:Value}(h:Yw w w' s bs p u)(hb:Below w'.heap.size w' w''):Yw w w'' s bs p u:=by
 obtain⟨b,h⟩:=h
 have FA:∀{a n:Nat},jl w.heap.size w' u a n->jl w.heap.size w'' u a n:=fun hf=>by
  obtain⟨q,h1,h2,h3⟩:=hf
  exact⟨q,h1,h2,jb h3 hb h3.lt⟩
 refine⟨b.trans (hb.mono b.size),?_⟩
 rcases h with ⟨a,n,h1,h2,h3⟩|⟨its,i,h1,h2,h3,h4⟩|⟨its,k,lb,ev,ps,h1,h2,h3,h4,h5⟩
 ·exact .inl ⟨a,n,h1,h2,FA h3⟩
 ·exact .inr (.inl ⟨its,i,h1,h2,h3,FA h4⟩)
 exact .inr (.inr ⟨its,k,lb,ev,ps,h1,h2,h3,h4,h5.below hb (jij _)⟩)
theorem jh9{w w1 W w5:World}{s:List UInt8}{bs:List (List Ed)}{p u:Value}{o:Obj}(hb:Below w.heap.size w w1)(hW:Below w1.heap.size w1 W)(h:Yw W w5 s bs p u):Yw w (w5.alloc o) s bs p u :=
 (h.low (hb.trans (hW.mono hb.size))).grow ((jil _ _).alloc (jij _) _)
theorem jh2{w w1 W w5:World}{s:List UInt8}{bs:List (List Ed)}{p u i v:Value}(hb:Below w.heap.size w w1)(hW:Below w1.heap.size w1 W)(h:Yw W w5 s bs p u)(hc:ja w5 w1.heap.size 87 #[.pointer none,.int .i64 0,.slice none 0 0]):
  Yw w (((w5.setCell ⟨w1.heap.size,0,none⟩ p).setCell ⟨w1.heap.size,1,none⟩ i).setCell ⟨w1.heap.size,2,none⟩ v) s bs p u/\ja (((w5.setCell ⟨w1.heap.size,0,none⟩ p).setCell ⟨w1.heap.size,1,none⟩ i).setCell ⟨w1.heap.size,2,none⟩ v) w1.heap.size 87 #[p,i,v]:=by
 obtain⟨h1,h2⟩:=jhu hc p i v
 exact⟨h.only h2 hc (by intro x hx s;simp at hx;rcases hx with rfl | rfl | rfl<;>exact fun h=>by cases h) (by decide) (by decide) (by decide) (hb.trans (hW.mono hb.size)) hb.size,h1⟩
theorem Vp(gen:Int)(s:List UInt8)(bs:List (List Ed))(A:Option Addr)(c:Nat)(ea:Option Addr)(en ec:Nat)(tl:ByteArray)(n:Nat)(hn:n<=bs.length)(w:World)(hs:s.length+yi bs<=5000)(hl:bs.length<=100000)(hv:BtV w (.slice A bs.length c) bs)(hb:je2 bs)(hg:ErrT w):
  Calls Tryz.prog 22 #[jav gen s A bs.length c ea en ec tl,.int .i64 (n:Nat)] w fun e w'=>∃p u,e=.returned (.tuple #[p,u])/\Yw w w' s (bs.take n) p u:=by
 obtain⟨w1,hw1⟩:∃z,w.alloc (.cells #[.int .i64 gen,.string (B s),.slice A bs.length c,.slice ea en ec,.string tl] 28)=z:=⟨_,rfl⟩
 have b1:Below w.heap.size w w1:=by rw[<- hw1];exact(jil _ w).alloc (jij _) _
 have C1:ja w1 w.heap.size 28 #[.int .i64 gen,.string (B s),.slice A bs.length c,.slice ea en ec,.string tl]:=by rw[<- hw1];exact ja.new _ _ _
 have hcap:bs.length<=c:=by
  obtain⟨_,_,e',hc,_⟩:=hv
  injection e' with _ _ e3
  omega
 have hst:=YG bs n
 have PA:Hid (∀W,Below w1.heap.size w1 W->Calls Tryz.prog 40 #[.string (B s),.slice A n c] W fun e w'=>Uw W w' s (bs.take n) e):=fun W hW=>by
  have hB:=b1.trans (hW.mono b1.size)
  exact VM s (bs.take n) _ W (by omega) (by rw[jiq];omega) (BtV.take (hv.below hB (jij _)) hn) (hb.take n) (hg.below hB (jij _))
 have d0:decide ((n:Int)<0)=false:=by simp
 have d1:decide (((bs.length:Nat):Int)<(n:Int))=false:=by simp;omega
 have q1:¬((n:Int)<0):=by omega
 have q2:¬((bs.length:Int)<(n:Int)):=by omega
 have q3:(n:Int)<=(c:Int):=by omega
 have k1:=C1.cell 1
 have k2:=C1.cell 2
 simp only[jiv,jiu,jio]at k1 k2
 have HB1:=jii b1
 have HW1:=jii hw1
 have HC1:=jii C1
 clear hv hb hg b1 C1 hw1 hst
 unfold jav
 go_enter Tryz.func22,Tryz.ntmps22
 go_upto_region 3 with fail
 rw[HW1.out]
 have DR:Hid (Below w1.heap.size w1 w1.drew):=(jil _ _).drew
 have AR:Hid (Below w1.heap.size w1 (w1.alloc (.cells #[.pointer none,.int .i64 0,.slice none 0 0] 87)).drew):=((jil _ _).alloc (jij _) _).drew
 have ARC:=jii (show ja (w1.alloc (.cells #[.pointer none,.int .i64 0,.slice none 0 0] 87)).drew w1.heap.size 87 #[.pointer none,.int .i64 0,.slice none 0 0] from(ja.new _ _ _).drew)
 have k1':∀o,(w1.alloc o).cell? ⟨w.heap.size,1,none⟩=some (.string (B s)):=fun o=>((HC1.out.alloc o).cell 1).trans rfl
 have k2':∀o,(w1.alloc o).cell? ⟨w.heap.size,2,none⟩=some (.slice A bs.length c):=fun o=>((HC1.out.alloc o).cell 2).trans rfl
 go_cut [6,7] (fun c d wx=>∃pb q i v,c=.pointer (some ⟨pb,0,none⟩)/\Yw w wx s (bs.take n) (.pointer q) d/\ja wx pb 87 #[.pointer q,i,v])
 case first =>
  go_region_law (go_simp;go_at_call 40;first
   | (refine(PA.out _ DR.out).mono ?_;rintro e w5 h5;obtain⟨p5,nx,a5,m5,c5,u5,rfl,hB⟩:=h5.beh;obtain⟨⟨q5,rfl⟩,_⟩:=hB.form;have H5:=jii hB;clear h5 hB)
   | (refine(PA.out _ AR.out).mono ?_;rintro e w5 h5;obtain⟨p5,nx,a5,m5,c5,u5,rfl,hB⟩:=h5.beh;obtain⟨⟨q5,rfl⟩,_⟩:=hB.form;have kk:=jb ARC.out hB.1 ARC.out.lt;have t0:=kk.cell 0;have t1:=kk.cell 1;have t2:=kk.cell 2;have tf0:=kk.frozen 0;have tf1:=kk.frozen 1;have tf2:=kk.frozen 2;simp only[jiv,jiu,jio]at t0 t1 t2;have HK:=jii kk;have H5:=jii hB;clear h5 hB kk))
  all_goals (try go_wp2_with fail)
  all_goals go_meet
  all_goals first
   | exact⟨_,_,_,_,rfl,jh9 HB1.out DR.out H5.out,ja.new _ _ _⟩
   | exact⟨_,_,_,_,rfl,(jh2 HB1.out AR.out H5.out HK.out).1,(jh2 HB1.out AR.out H5.out HK.out).2⟩
 case rest =>
 obtain⟨pb,q,i,v,rfl,hB,hC⟩:=hcut
 have c0:=hC.cell 0
 simp only[jiv,jiu]at c0
 have HB:=jii hB
 clear hB hC
 go_wp2_with fail
 go_ret2
 exact⟨_,_,rfl,HB.out⟩
theorem jdB(gen:Int)(s:List UInt8)(bs:List (List Ed))(A:Option Addr)(c:Nat)(ea:Option Addr)(en ec:Nat)(tl:ByteArray)(w:World)(hs:s.length+yi bs<=5000)(hl:bs.length<=100000)(hv:BtV w (.slice A bs.length c) bs)(hb:je2 bs)(hg:ErrT w):
  Calls Tryz.prog 10 #[jav gen s A bs.length c ea en ec tl] w fun e w'=>∃p u,e=.returned (.tuple #[p,u])/\Yw w w' s bs p u:=by
 obtain⟨w1,hw1⟩:∃z,w.alloc (.cells #[.int .i64 gen,.string (B s),.slice A bs.length c,.slice ea en ec,.string tl] 28)=z:=⟨_,rfl⟩
 have b1:Below w.heap.size w w1:=by rw[<- hw1];exact(jil _ w).alloc (jij _) _
 have C1:ja w1 w.heap.size 28 #[.int .i64 gen,.string (B s),.slice A bs.length c,.slice ea en ec,.string tl]:=by rw[<- hw1];exact ja.new _ _ _
 have BE:=Vp gen s bs A c ea en ec tl bs.length (jij _) w1 hs hl (hv.below b1 (jij _)) hb (hg.below b1 (jij _))
 rw[jiL]at BE
 unfold jav at BE
 have HBE:=jii BE
 have k0:=C1.cell 0
 have k1:=C1.cell 1
 have k2:=C1.cell 2
 have k3:=C1.cell 3
 have k4:=C1.cell 4
 simp only[jiv,jiu,jio]at k0 k1 k2 k3 k4
 have HB1:=jii b1
 have HW1:=jii hw1
 clear hv hb hg b1 C1 hw1 BE
 unfold jav
 go_enter Tryz.func10,Tryz.ntmps10
 go_wp2_with fail
 rw[HW1.out]
 refine HBE.out.mono ?_
 rintro e w2 ⟨p,u,rfl,h2⟩
 have H2:=jii (h2.low HB1.out)
 clear h2 HBE
 go_wp2_with fail
 go_ret2
 exact⟨_,_,rfl,H2.out⟩
theorem Gm{fn:Func}{p u z:Tmp}{ty:TypeId}(h:fn.results=#[.cell p ty,.tmp u,.tmp z])(tmps:Array Value)(P:Program)(w:World):
  (results fn tmps).run P w=((asAddr (tmps.getD p undef)).run P w).andThen fun a w₁=>((loadVar ty a).run P w₁).andThen fun v w₂=>.ok (.tuple #[v,tmps.getD u undef,tmps.getD z undef]) w₂:=by
 simp only[results,h]
 simp[Sem.run_bind,Result.andThen]
theorem jbg{fn:Func}{p u z:Tmp}(h:fn.results=#[.cell p 28,.tmp u,.tmp z])(tmps:Array Value)(w:World)(b:Nat)(cur:Array Value)(hp:tmps.getD p undef=.pointer (some ⟨b,0,none⟩))
  (hc:ja w b 28 cur) (hz:cur.size=5):(results fn tmps).run Tryz.prog w=.ok (.tuple #[.agg cur,tmps.getD u undef,tmps.getD z undef]) w:=by
 have L:=run_loadVar_row (P:=Tryz.prog) w b 28 28 cur (0,0) _ hc Tryz.underlying28 rfl (by rw[hz];kernel_rfl)
 rw[Gm h,hp]
 show((loadVar _ _).run _ _).andThen _=_
 rw[L];rfl
def KU(t:List UInt8)(a k:Nat):Prop:=jaH t a k\/∃n base bds tail its,qn Dc t n base bds tail/\jA base=.ok its/\vY (zP its) (zj bds) a/\k=10
theorem KU.not{t:List UInt8}{a k n:Nat}{base tail:List UInt8}{bds:List (List UInt8)}{its:List It}{l:LS}(h:KU t a k)(s:qn Dc t n base bds tail)(hp:jA base=.ok its)(hl:qp (zP its) (zj bds)=some l):False:=by
 rcases h with h|⟨_,_,_,_,its',s',h2,h3,rfl⟩
 ·exact h.not s
 obtain⟨_,rfl,rfl,_⟩:=s.same s'
 rw[hp]at h2
 injection h2 with e
 subst e
 exact h3.not hl
def XO(w w':World)(t:List UInt8)(e:Ending):Prop:=Below w.heap.size w w' /\
  ((∃a k u,KU t a k/\e=.returned (.tuple #[XV,.pointer none,u])/\jl w.heap.size w' u a k) \/
   (∃n base bds tail v its k lb ev ps,qn Dc t n base bds tail/\jA base=.ok its/\qp (zP its) (zj bds)=some k/\e=.returned (.tuple #[v,ptr lb,.nilIface])/\ye w.heap.size w' v n base bds tail/\zk w.heap.size w' lb ev ps k (base.length+yi (zj bds))))
theorem ye.low{lo lo':Nat}{w:World}{v:Value}{n:Nat}{base tail:List UInt8}{bds:List (List UInt8)}(h:ye lo w v n base bds tail)(hl:lo'<=lo):ye lo' w v n base bds tail:=by
 obtain⟨bv,ev,us,h1,h2,h3⟩:=h.is
 refine⟨bv,ev,us,h1,⟨jC h2.row hl,fun i b u e1 e2 => ?_⟩,jC h3 hl⟩
 obtain⟨fvs,ho⟩:=h2.each i b u e1 e2
 exact⟨fvs,jC ho.row hl,ho.len,fun j ed fv h1 h2=>jC (ho.each j ed fv h1 h2) hl⟩
theorem ye.box{lo:Nat}{w w':World}{v:Value}{n:Nat}{base tail:List UInt8}{bds:List (List UInt8)}{b:Nat}{T:TypeId}{cur:Array Value}(h:ye lo w v n base bds tail)(hc:ja w b T cur)(o:jB (· = b) w w')(t0:55≠T)(t1:80≠T)(t2:155≠T)(t3:3≠T):ye lo w' v n base bds tail:=by
 obtain⟨bv,ev,us,h1,h2,h3⟩:=h.is
 exact⟨bv,ev,us,h1,h2.box hc t0 t1 t2 o,jJ h3 o (fun r e q=>ju h3 hc t3 (by rw[e,q]))⟩
theorem jf1{w:World}{v:Value}{fs:List Fld}{b:Nat}{T:TypeId}{cur:Array Value}(h:yH w v fs)(hne:fs≠[])(hb:v.ownBlock=some b)(hc:ja w b T cur)(hn:∀(j:Nat) (x y:ByteArray),cur[j]?=some (.string x)->cur[j+1]?≠some (.string y)):False:=by
 obtain⟨A,cap,rfl,hle,hcs⟩:=h
 obtain⟨f,hf⟩:∃f,fs[0]?=some f:=by
  cases fs with
  | nil=>exact absurd rfl hne
  | cons a r=>exact⟨a,rfl⟩
 obtain⟨b',off,rfl,_,c0,c1⟩:=hcs 0 f hf
 have e:b'=b:=by cases hb;rfl
 subst e
 rw[Nat.zero_mul,jkl,hc.cell off]at c0
 rw[Nat.zero_mul,jkl,hc.cell (off+1)]at c1
 exact hn off _ _ c0 c1
theorem jeA(n:Int)(x y:ByteArray)(a b:Option Addr)(an ac bn bc:Nat):∀(j:Nat) (u v:ByteArray),(#[.int .i64 n,.string x,.slice a an ac,.slice b bn bc,.string y]:Array Value)[j]?=some (.string u)->(#[.int .i64 n,.string x,.slice a an ac,.slice b bn bc,.string y]:Array Value)[j+1]?≠some (.string v):=by
 intro j u v h1 h2
 match j with
 | 0=>simp at h1
 | 1=>simp at h2
 | 2=>simp at h1
 | 3=>simp at h1
 | 4=>simp at h2
 | j+5=>simp at h1
theorem Wg(t:List UInt8)(ht:t.length<=100000)(hbs:(vi (t.drop (hl (Hd.genP t)))).length<=60000)(hsum:∀n base bds tail,qn Dc t n base bds tail->base.length+yi (zj bds)<=5000)(w:World)(hT:Vt w):
  Calls Tryz.prog 25 #[.string (B t)] w fun e w'=>XO w w' t e:=by
 obtain⟨w0,hw0⟩:∃z,w.alloc (.cells #[.int .i64 0,.string ⟨#[]⟩,.slice none 0 0,.slice none 0 0,.string ⟨#[]⟩] 28)=z:=⟨_,rfl⟩
 have hb0:Below w.heap.size w w0:=by rw[<- hw0];exact(jil _ w).alloc (jij _) _
 have hz0:w0.heap.size=w.heap.size+1:=by rw[<- hw0];simp
 have C0:ja w0 w.heap.size 28 #[.int .i64 0,.string ⟨#[]⟩,.slice none 0 0,.slice none 0 0,.string ⟨#[]⟩]:=by rw[<- hw0];exact ja.new _ _ _
 have TB:Hid (∀W,Below w.heap.size w W->Vt W):=fun W hW=>hT.below hW (jij _)
 have RD:=jii (JJ t ht hbs w0 (TB.out w0 hb0))
 have HB0:=jii hb0
 have HC0:=jii C0
 have HW0:=jii hw0
 have HZ0:=jii hz0
 have HSUM:=jii hsum
 clear hT hb0 C0 hw0 hz0 hbs hsum
 go_enter Tryz.func25,Tryz.ntmps25
 go_wp2_with fail
 rw[HW0.out]
 refine RD.out.mono ?_
 rintro e w1 hr
 obtain⟨b1,h1⟩:=hr.two
 have B1:=jii (HB0.out.trans (b1.mono HB0.out.size))
 have hl01:=HB0.out.size
 have C1:=jii (jb HC0.out b1 HC0.out.lt)
 have hs01:=b1.size
 clear RD hr b1
 rcases h1 with ⟨a,k,u,hbad,rfl,hf⟩|⟨n,base,bds,tail,v,hS,rfl,hBR⟩
 ·obtain⟨q,hq,rfl,hqc⟩:=hf
  obtain⟨w2,hw2⟩:∃z,w1.alloc (.cells #[.int .i64 0,.string ⟨#[]⟩,.slice none 0 0,.slice none 0 0,.string ⟨#[]⟩] 28)=z:=⟨_,rfl⟩
  have b12:Below w1.heap.size w1 w2:=by rw[<- hw2];exact(jil _ _).alloc (jij _) _
  have C2:=jb C1.out b12 C1.out.lt
  obtain⟨P2,o2⟩:=jfq C2 (.int .i64 0) (.string ⟨#[]⟩) (.slice none 0 0) (.slice none 0 0) (.string ⟨#[]⟩)
  have B2:=B1.out.trans (b12.mono B1.out.size)
  have BF:=jii (B2.trans (o2.to_below B2.size (fun r hr e=>by omega)))
  have HP2:=jii P2
  have HF:=jii (show jl w.heap.size _ (.iface 91 (.pointer (some ⟨q,0,none⟩))) a k from⟨q,by omega,rfl,(jb hqc b12 hqc.lt).only o2 (fun e=>by have:=HZ0.out;omega)⟩)
  have HBAD:=jii hbad
  have c0:=C2.cell 0
  have c1:=C2.cell 1
  have c2:=C2.cell 2
  have c3:=C2.cell 3
  have c4:=C2.cell 4
  have f0:=C2.frozen 0
  have f1:=C2.frozen 1
  have f2:=C2.frozen 2
  have f3:=C2.frozen 3
  have f4:=C2.frozen 4
  simp only[jiv,jiu,jio]at c0 c1 c2 c3 c4
  have HW2:=jii hw2
  rw[<- hw2]at c0 c1 c2 c3 c4 f0 f1 f2 f3 f4
  have eZ:XV=.agg #[.int .i64 0,.string ⟨#[]⟩,.slice none 0 0,.slice none 0 0,.string ⟨#[]⟩]:=rfl
  rw[eZ]
  clear hqc hbad b12 C2 P2 o2 B2 hw2
  go_wp2_with fail
  rw[HW2.out]
  refine bodyPost_ret (jbg rfl _ _ w.heap.size _ rfl HP2.out rfl) rfl ?_
  exact⟨BF.out,.inl ⟨a,k,_,.inl HBAD.out,rfl,HF.out⟩⟩
 have BR2:=hBR
 obtain⟨bv,ev,us,rfl,hBt,hEv⟩:=hBR.is
 obtain⟨ba,bc,rfl,_⟩:=je hBt.row
 obtain⟨ea,ec,rfl,_⟩:=je hEv
 obtain⟨its,hp⟩:=hS.parse
 obtain⟨sb1,sb2,sb3⟩:=xU hS
 unfold Jk at *
 obtain⟨w2,hw2⟩:∃z,w1.alloc (.cells #[.int .i64 (n:Int),.string (B base),.slice ba bds.length bc,.slice ea bds.length ec,.string (B tail)] 28)=z:=⟨_,rfl⟩
 obtain⟨b12,C2⟩:=XG hw2
 have B2:=jii (B1.out.trans (b12.mono B1.out.size))
 have OF:=jdB (n:Int) base (zj bds) ba bc ea bds.length ec (B tail) w2 (HSUM.out _ _ _ _ hS) (by rw[xK];omega) (by rw[xK];exact(jgk hBt).below b12 (jij _)) sb1 (TB.out w2 B2.out).tabs.err
 rw[xK]at OF
 unfold jav at OF
 have HOF:=jii OF
 have HC2:=jii C2
 have HCR2:=jii (jb C1.out b12 C1.out.lt)
 have HBR:=jii (ye.low (BR2.below b12) hl01)
 have HW2:=jii hw2
 have HS:=jii hS
 have HP:=jii hp
 have hlt2:=C2.lt
 clear BR2 hBR hBt hEv b12 C2 hw2 OF hS hp sb1 sb2
 go_wp2_with fail
 rw[HW2.out]
 refine HOF.out.mono ?_
 rintro e w3 ⟨p,u,rfl,h3⟩
 have hb3:=h3.1
 have B3:=jii (B2.out.trans (hb3.mono B2.out.size))
 have C3:=jb HC2.out hb3 hlt2
 have CR3:=jb HCR2.out hb3 HCR2.out.lt
 have BR3:=HBR.out.below hb3
 obtain⟨hpf,huf⟩:=h3.form
 have H3:=jii h3
 have l0:=CR3.cell 0
 have l1:=CR3.cell 1
 have l2:=CR3.cell 2
 have l3:=CR3.cell 3
 have l4:=CR3.cell 4
 have f0:=CR3.frozen 0
 have f1:=CR3.frozen 1
 have f2:=CR3.frozen 2
 have f3:=CR3.frozen 3
 have f4:=CR3.frozen 4
 have c0:=C3.cell 0
 have c1:=C3.cell 1
 have c2:=C3.cell 2
 have c3:=C3.cell 3
 have c4:=C3.cell 4
 simp only[jiv,jiu,jio]at l0 l1 l2 l3 l4 c0 c1 c2 c3 c4
 have h23:=hb3.size
 have h12:=B2.out.size
 have hzz:=HZ0.out
 rcases h3 with ⟨_,⟨a,m,hpe,_⟩|⟨its',i,hpe,hrf,rfl,hfa⟩|⟨its',k,lb,ev3,ps3,hpe,hpl,rfl,rfl,hCY⟩⟩
 ·rw[HP.out]at hpe;cases hpe
 ·rw[HP.out]at hpe
  injection hpe with e1
  subst e1
  obtain⟨q,hq,rfl,hqc⟩:=hfa
  obtain⟨P3,o3⟩:=jfq CR3 (.int .i64 0) (.string ⟨#[]⟩) (.slice none 0 0) (.slice none 0 0) (.string ⟨#[]⟩)
  have BF:=jii (B3.out.trans (o3.to_below B3.out.size (fun r hr e=>by omega)))
  have HP3:=jii P3
  have HF:=jii (show jl w.heap.size _ (.iface 91 (.pointer (some ⟨q,0,none⟩))) i 10 from⟨q,by omega,rfl,hqc.only o3 (fun e=>by omega)⟩)
  have HRF:=jii hrf
  clear hb3 C3 CR3 BR3 H3 hrf hqc P3 o3 HOF hpf huf
  go_wp2_with fail
  refine bodyPost_ret (jbg rfl _ _ w.heap.size _ rfl HP3.out rfl) rfl ?_
  exact⟨BF.out,.inl ⟨i,10,_,.inr ⟨_,_,_,_,its,HS.out,HP.out,HRF.out,rfl⟩,rfl,HF.out⟩⟩
 rw[HP.out]at hpe
 injection hpe with e1
 subst e1
 obtain⟨P3,o3⟩:=jfq CR3 (.int .i64 (n:Int)) (.string (B base)) (.slice ba bds.length bc) (.slice ea bds.length ec) (.string (B tail))
 have BF:=jii (B3.out.trans (o3.to_below B3.out.size (fun r hr e=>by omega)))
 have HP3:=jii P3
 have HBR3:=jii (ye.box BR3 CR3 o3 (by decide) (by decide) (by decide) (by decide))
 have HC3:=jii (XE (hCY.only o3 (S0:=w2.heap.size) (by
  rintro r (rfl|h|h|⟨p,hp,hne,h⟩|⟨p,hp,_⟩) e
  ·have:=hCY.lb0;omega
  ·have:=hCY.ev0 r h;omega
  ·cases h
  ·exact jf1 (hCY.la.lr.ents.each p hp).1 hne (by rw[h,e]) CR3 (jeA _ _ _ _ _ _ _ _ _)
  cases hp)) h12)
 have HPL:=jii hpl
 clear hb3 C3 CR3 BR3 H3 hpl hCY P3 o3 HOF hpf huf
 unfold ptr at *
 go_wp2_with fail
 refine bodyPost_ret (jbg rfl _ _ w.heap.size _ rfl HP3.out rfl) rfl ?_
 exact⟨BF.out,.inr ⟨n,base,bds,tail,_,its,k,lb,ev3,ps3,HS.out,HP.out,HPL.out,rfl,HBR3.out,HC3.out⟩⟩
end Go.Proofs.YtimfhnfcmhmjcaaGreatDoor.Rp
namespace Go.Proofs.YtimfhnfcmhmjcaaGreatDoor
open Go.RowKit Go.Shelf
attribute [local go_sem] jit
end Go.Proofs.YtimfhnfcmhmjcaaGreatDoor
