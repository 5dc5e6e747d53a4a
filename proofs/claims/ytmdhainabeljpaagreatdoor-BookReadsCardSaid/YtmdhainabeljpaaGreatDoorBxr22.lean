/- Texts put together:FU,QD,QE,QF. -/
import Derived.Test.YtmdhainabeljpaaGreatDoorBxr16
import Derived.Test.YtmdhainabeljpaaGreatDoorBxr21
set_option linter.unusedVariables false
set_option maxRecDepth 100000
set_option maxHeartbeats 16000000
namespace Go.Proofs.YtmdhainabeljpaaGreatDoor
open Go.RowKit Go.Shelf
theorem vn(a:List UInt8)(r:List (List UInt8))(v:Value)(w:World)(hs:Strs w v ((a::r).map B))(hl:∀l∈a::r,l.length<=100000)(hn:(a::r).length<=100000)(hj:(zy (a::r)).length<=1000000)(hka:jk a=4):
  Calls Tryz.prog 48 #[v] w fun e w'=>e=.returned (.tuple #[zi (jF (a::r)) (jE (a::r)),.int .i64 (jo (a::r):Nat)])/\Below w.heap.size w w':=by
 obtain⟨A,cap,rfl,hle,hc⟩:=hs
 have hcb:=jeC hc
 clear hc
 obtain⟨b,off,rfl,hbb,hca⟩:=hcb 0 a rfl
 have PCH:=jh5 (fun(j:Nat) x (hx:r[j]?=some x)=>(show w.cell? ⟨b,off+(j+1),none⟩=some (.string (B x)) by
  obtain⟨b',off',e,_,h⟩:=hcb (j+1) x (by simpa using hx)
  cases e;exact h))
 rw[jj0]at hca
 clear hcb
 have hal:=hl a (by simp)
 have hlr:∀x∈r,x.length<=100000:=fun x hx=>hl x (jif _ hx)
 have RK:=fun w=>zL (B a) (by rw[je];omega) w
 rw[ji,hka]at RK
 obtain⟨k1,k2,k3⟩:=jfV hka
 have RC:=fun w=>Ye (B a) (by rw[je];omega) w (by rw[ji];exact k1) (by rw[ji];exact k2) (by rw[ji];exact k3)
 rw[jgK,je4]at RC
 rw[jiA,jic]at *
 have hnz:((r.length:Int)+1==0)=false:=by rw[beq_eq_false_iff_ne];omega
 have haz:(qB a).length<=a.length:=by unfold qB;rw[jik];omega
 have hA0:B (vA a r 0)=B (qP (qB a)):=by unfold vA;rfl
 unfold zi
 clear k1 k2 k3 hl
 generalize hX:B a=X at *
 clear hX
 generalize hK:B (before a)=KB at *
 have HK:=jh5 hK
 clear hK
 go_enter Tryz.func48,Tryz.ntmps48
 go_wp2_with fail
 refine(RK _).mono ?_
 rintro e w1 ⟨rfl,b1⟩
 have R1:=jb (jd.new w 71 #[.string ⟨#[]⟩,.string ⟨#[]⟩]) b1 (by simp)
 have hb1:Below w.heap.size w w1:=((jh8 _ _).alloc (jh6 _) _).trans (b1.mono (by simp))
 have hca1:=(hb1.cell (p:=⟨b,off,none⟩) hbb).trans hca
 have hs1:=b1.size
 simp only[jiO]at hs1
 clear b1 hca RK
 go_wp2_with fail
 refine(RC _).mono ?_
 rintro e w2 ⟨rfl,b2⟩
 have R2:=jb R1 b2 (by omega)
 have BW:=jh5 (hb1.trans (b2.mono (by omega)))
 clear b2 R1 hb1 hca1 RC
 rcases hac:qB a with _|⟨c,t⟩
 ·rw[hac]at hA0
  have HA0:Hid (B (vA a r 0)=⟨#[]⟩):=hA0
  rw[show B []=⟨#[]⟩ from rfl]
  clear hA0 hac
  go_wp2_with fail
  go_loopw [5,7] (fun s i wr=>∃n:Nat,n<=r.length/\i=.int .i64 ((n:Int)+1)/\s=.string (B (vA a r n))/\Zh 3 r=Zh 3 (r.drop n)/\jd wr w.heap.size 71 #[.string ⟨#[]⟩,.string ⟨#[]⟩]/\Below w.heap.size w wr) (fun _ i _=>r.length+1-(intOf i).toNat)
  case atStart=>exact⟨0,jii _,rfl,by rw[HA0.out],rfl,R2,BW.out⟩
  case round =>
  obtain⟨n,hnr,rfl,rfl,hG,hR,hb⟩:=hrel
  have hal:=Ux a r n
  have hs3:=hb.size
  have hRl:=hR.lt
  by_cases hlt:n<r.length
  ·obtain⟨x,hx⟩:∃x,r[n]?=some x:=⟨_,jia hlt⟩
   have hcx:=(hb.cell (p:=⟨b,off+(n+1),none⟩) hbb).trans (PCH.out n x hx)
   have hxl:=hlr x (jim hx)
   have hxz:=je x
   have RK:=fun w=>zL (B x) (by omega) w
   rw[ji]at RK
   have STEP:=Vz a r n x hx
   rw[Vx r n x hx]at hG
   by_cases hk3:jk x=3
   ·obtain⟨c,d,t,rfl⟩:=jdZ hk3
    have G2:Hid (Zh 3 r=Zh 3 (r.drop (n+1))):=by show _=_;rw[hG,hk3];simp
    rw[hk3]at RK
    rw[jjZ]at STEP
    have hex:=ZH c (d::t)
    have hex2:=ZH d t
    have z1:(B (c::d::t)).size=t.length+2:=by rw[je];rfl
    have z2:(B (d::t)).size=t.length+1:=by rw[je];rfl
    have z3:(B t).size=t.length:=je t
    have htl:t.length<=1000000:=by simp only[jic]at hxl;omega
    rw[z1]at hex
    rw[z2]at hex2
    have hd0:∀h:0<(B (d::t)).size,(B (d::t))[0]'h=d:=fun _=>rfl
    have hdp:0<(B (d::t)).size:=by omega
    have hcp:0<(B (c::d::t)).size:=by omega
    have q2:=zV (c:=d) (d:=46) 46 rfl
    have y1:=je (vA a r n)
    have y2:(B (vA a r n) ++ ⟨#[10]⟩).size=(vA a r n).length+1:=by rw[show(⟨#[10]⟩:ByteArray)=B [10] from rfl,jj,je];simp
    have hal2:(vA a r n).length<=1000000:=by omega
    clear hx hG hk3 hxz hal
    by_cases hd:d=46
    ·have SB:Hid (B (vA a r (n+1))=(B (vA a r n) ++ ⟨#[10]⟩)++B t):=by
      show _=_
      rw[STEP,show(⟨#[10]⟩:ByteArray)=B [10] from rfl,jj,jj];simp[jY,hd]
     have hdb:(d==46)=true:=by simp[hd]
     rw[hdb]at q2
     clear STEP hd
     generalize B (vA a r n)=acc at *
     generalize B (c::d::t)=X at *
     generalize B (d::t)=Y at *
     generalize B t=Z at *
     go_wp2_with fail
     refine(RK _).mono ?_
     rintro e w4 ⟨rfl,b4⟩
     have hcx4:=(b4.cell (p:=⟨b,off+(n+1),none⟩) (jih hbb hs3)).trans hcx
     have R4:=jb hR b4 (by omega)
     have hb4:=hb.trans (b4.mono hs3)
     clear hR b4 hcx hb
     go_wp2_with fail
     go_roundw
     case rel=>exact⟨n+1,hlt,by go_num,by rw[SB.out],G2.out,R4,hb4⟩
     case measure=>simp[intOf];omega
    have SB:Hid (B (vA a r (n+1))=(B (vA a r n) ++ ⟨#[10]⟩)++B (d::t)):=by
     show _=_
     rw[STEP,show(⟨#[10]⟩:ByteArray)=B [10] from rfl,jj,jj];simp[jY,hd]
    have hdb:(d==46)=false:=by simp[hd]
    rw[hdb]at q2
    clear STEP hd
    generalize B (vA a r n)=acc at *
    generalize B (c::d::t)=X at *
    generalize B (d::t)=Y at *
    generalize B t=Z at *
    go_wp2_with fail
    refine(RK _).mono ?_
    rintro e w4 ⟨rfl,b4⟩
    have hcx4:=(b4.cell (p:=⟨b,off+(n+1),none⟩) (jih hbb hs3)).trans hcx
    have R4:=jb hR b4 (by omega)
    have hb4:=hb.trans (b4.mono hs3)
    clear hR b4 hcx hb
    go_wp2_with fail
    go_roundw
    case rel=>exact⟨n+1,hlt,by go_num,by rw[SB.out],G2.out,R4,hb4⟩
    case measure=>simp[intOf];omega
   have hF:VB (a::r)=false:=by
    rw[yk hka,hG];simp[hk3]
   obtain⟨e1,e2,e3⟩:=vE hF
   have ET:Hid (jo (a::r)=2/\jF (a::r)=[]/\jE (a::r)=[]):=⟨e1,e2,e3⟩
   have hki:((jk x:Int) != 3)=true:=by simp;omega
   clear hx hG hk3 e1 e2 e3 hF STEP
   generalize jk x=kx at *
   generalize B (vA a r n)=acc at *
   generalize B x=X at *
   go_wp2_with fail
   refine(RK _).mono ?_
   rintro e w4 ⟨rfl,b4⟩
   have R4:=jb hR b4 (by omega)
   have hb4:=hb.trans (b4.mono hs3)
   have c0:=R4.cell 0
   have c1:=R4.cell 1
   have f0:=R4.frozen 0
   have f1:=R4.frozen 1
   simp only[jie,jid,jib]at c0 c1
   have RE:=(R4.set 0 (.string ⟨#[]⟩)).set 1 (.string ⟨#[]⟩)
   rw[Gf]at RE
   clear hR b4 hcx hb
   go_wp2_with fail
   refine bodyPost_ret (vQ rfl _ _ w.heap.size _ rfl RE rfl) rfl ?_
   obtain⟨e1,e2,e3⟩:=ET.out
   exact⟨by rw[e1,e2,e3];rfl,(hb4.setCell (jh6 _) _).setCell (jh6 _) _⟩
  obtain rfl:n=r.length:=by omega
  rw[XN]at *
  rw[ji6]at hG
  have hF:VB (a::r)=true:=by rw[yk hka,hG];rfl
  have c0:=hR.cell 0
  have c1:=hR.cell 1
  have f0:=hR.frozen 0
  have f1:=hR.frozen 1
  simp only[jie,jid,jib]at c0 c1
  have hvz:=je (zy (a::r))
  by_cases hlen:(zy (a::r)).length<=1000
  ·have ET:Hid _:=yi hF hlen
   have RE:=(hR.set 0 (.string KB)).set 1 (.string (B (zy (a::r))))
   rw[Gf]at RE
   rw[<- hvz]at hlen
   clear hF hG
   generalize hV:B (zy (a::r))=V at *
   have HV:=jh5 hV
   clear hV
   go_wp2_with fail
   refine bodyPost_ret (vQ rfl _ _ w.heap.size _ rfl RE rfl) rfl ?_
   obtain⟨e1,e2,e3⟩:=ET.out
   exact⟨by rw[e1,e2,e3,HV.out,HK.out];rfl,(hb.setCell (jh6 _) _).setCell (jh6 _) _⟩
  have ET:Hid _:=vF hF hlen
  have RE:=(hR.set 0 (.string ⟨#[]⟩)).set 1 (.string ⟨#[]⟩)
  rw[Gf]at RE
  rw[<- hvz]at hlen
  clear hF hG
  generalize B (zy (a::r))=V at *
  go_wp2_with fail
  refine bodyPost_ret (vQ rfl _ _ w.heap.size _ rfl RE rfl) rfl ?_
  obtain⟨e1,e2,e3⟩:=ET.out
  exact⟨by rw[e1,e2,e3];rfl,(hb.setCell (jh6 _) _).setCell (jh6 _) _⟩
 rw[hac]at hA0 haz
 have hyz:=je (c::t)
 have htl:t.length<=1000000:=by simp only[jic]at haz;omega
 have z1:(B (c::t)).size=t.length+1:=hyz
 have hex:=ZH c t
 rw[z1]at hex
 have hd0:∀h:0<(B (c::t)).size,(B (c::t))[0]'h=c:=fun _=>rfl
 have hdp:0<(B (c::t)).size:=by omega
 have q2:=zV (c:=c) (d:=32) 32 rfl
 have hAA:(c=32/\B (vA a r 0)=B t)\/(c≠32/\B (vA a r 0)=B (c::t)):=by
  by_cases h:c=32
  ·exact .inl ⟨h,by rw[hA0];unfold qP;rw[h];rfl⟩
  exact .inr ⟨h,by rw[hA0];unfold qP;simp[h]⟩
 clear hA0 hac hyz haz
 have y1:=je t
 generalize B (c::t)=Y0 at *
 generalize B t=Z0 at *
 rcases hAA with ⟨hc,hA0⟩|⟨hc,hA0⟩
 ·have hcb:(c==32)=true:=by simp[hc]
  rw[hcb]at q2
  have HA0:=jh5 hA0
  clear hA0 hc
  go_wp2_with fail
  go_loopw [5,7] (fun s i wr=>∃n:Nat,n<=r.length/\i=.int .i64 ((n:Int)+1)/\s=.string (B (vA a r n))/\Zh 3 r=Zh 3 (r.drop n)/\jd wr w.heap.size 71 #[.string ⟨#[]⟩,.string ⟨#[]⟩]/\Below w.heap.size w wr) (fun _ i _=>r.length+1-(intOf i).toNat)
  case atStart=>exact⟨0,jii _,rfl,by rw[HA0.out],rfl,R2,BW.out⟩
  case round =>
  obtain⟨n,hnr,rfl,rfl,hG,hR,hb⟩:=hrel
  have hal:=Ux a r n
  have hs3:=hb.size
  have hRl:=hR.lt
  by_cases hlt:n<r.length
  ·obtain⟨x,hx⟩:∃x,r[n]?=some x:=⟨_,jia hlt⟩
   have hcx:=(hb.cell (p:=⟨b,off+(n+1),none⟩) hbb).trans (PCH.out n x hx)
   have hxl:=hlr x (jim hx)
   have hxz:=je x
   have RK:=fun w=>zL (B x) (by omega) w
   rw[ji]at RK
   have STEP:=Vz a r n x hx
   rw[Vx r n x hx]at hG
   by_cases hk3:jk x=3
   ·obtain⟨c,d,t,rfl⟩:=jdZ hk3
    have G2:Hid (Zh 3 r=Zh 3 (r.drop (n+1))):=by show _=_;rw[hG,hk3];simp
    rw[hk3]at RK
    rw[jjZ]at STEP
    have hex:=ZH c (d::t)
    have hex2:=ZH d t
    have z1:(B (c::d::t)).size=t.length+2:=by rw[je];rfl
    have z2:(B (d::t)).size=t.length+1:=by rw[je];rfl
    have z3:(B t).size=t.length:=je t
    have htl:t.length<=1000000:=by simp only[jic]at hxl;omega
    rw[z1]at hex
    rw[z2]at hex2
    have hd0:∀h:0<(B (d::t)).size,(B (d::t))[0]'h=d:=fun _=>rfl
    have hdp:0<(B (d::t)).size:=by omega
    have hcp:0<(B (c::d::t)).size:=by omega
    have q2:=zV (c:=d) (d:=46) 46 rfl
    have y1:=je (vA a r n)
    have y2:(B (vA a r n) ++ ⟨#[10]⟩).size=(vA a r n).length+1:=by rw[show(⟨#[10]⟩:ByteArray)=B [10] from rfl,jj,je];simp
    have hal2:(vA a r n).length<=1000000:=by omega
    clear hx hG hk3 hxz hal
    by_cases hd:d=46
    ·have SB:Hid (B (vA a r (n+1))=(B (vA a r n) ++ ⟨#[10]⟩)++B t):=by
      show _=_
      rw[STEP,show(⟨#[10]⟩:ByteArray)=B [10] from rfl,jj,jj];simp[jY,hd]
     have hdb:(d==46)=true:=by simp[hd]
     rw[hdb]at q2
     clear STEP hd
     generalize B (vA a r n)=acc at *
     generalize B (c::d::t)=X at *
     generalize B (d::t)=Y at *
     generalize B t=Z at *
     go_wp2_with fail
     refine(RK _).mono ?_
     rintro e w4 ⟨rfl,b4⟩
     have hcx4:=(b4.cell (p:=⟨b,off+(n+1),none⟩) (jih hbb hs3)).trans hcx
     have R4:=jb hR b4 (by omega)
     have hb4:=hb.trans (b4.mono hs3)
     clear hR b4 hcx hb
     go_wp2_with fail
     go_roundw
     case rel=>exact⟨n+1,hlt,by go_num,by rw[SB.out],G2.out,R4,hb4⟩
     case measure=>simp[intOf];omega
    have SB:Hid (B (vA a r (n+1))=(B (vA a r n) ++ ⟨#[10]⟩)++B (d::t)):=by
     show _=_
     rw[STEP,show(⟨#[10]⟩:ByteArray)=B [10] from rfl,jj,jj];simp[jY,hd]
    have hdb:(d==46)=false:=by simp[hd]
    rw[hdb]at q2
    clear STEP hd
    generalize B (vA a r n)=acc at *
    generalize B (c::d::t)=X at *
    generalize B (d::t)=Y at *
    generalize B t=Z at *
    go_wp2_with fail
    refine(RK _).mono ?_
    rintro e w4 ⟨rfl,b4⟩
    have hcx4:=(b4.cell (p:=⟨b,off+(n+1),none⟩) (jih hbb hs3)).trans hcx
    have R4:=jb hR b4 (by omega)
    have hb4:=hb.trans (b4.mono hs3)
    clear hR b4 hcx hb
    go_wp2_with fail
    go_roundw
    case rel=>exact⟨n+1,hlt,by go_num,by rw[SB.out],G2.out,R4,hb4⟩
    case measure=>simp[intOf];omega
   have hF:VB (a::r)=false:=by
    rw[yk hka,hG];simp[hk3]
   obtain⟨e1,e2,e3⟩:=vE hF
   have ET:Hid (jo (a::r)=2/\jF (a::r)=[]/\jE (a::r)=[]):=⟨e1,e2,e3⟩
   have hki:((jk x:Int) != 3)=true:=by simp;omega
   clear hx hG hk3 e1 e2 e3 hF STEP
   generalize jk x=kx at *
   generalize B (vA a r n)=acc at *
   generalize B x=X at *
   go_wp2_with fail
   refine(RK _).mono ?_
   rintro e w4 ⟨rfl,b4⟩
   have R4:=jb hR b4 (by omega)
   have hb4:=hb.trans (b4.mono hs3)
   have c0:=R4.cell 0
   have c1:=R4.cell 1
   have f0:=R4.frozen 0
   have f1:=R4.frozen 1
   simp only[jie,jid,jib]at c0 c1
   have RE:=(R4.set 0 (.string ⟨#[]⟩)).set 1 (.string ⟨#[]⟩)
   rw[Gf]at RE
   clear hR b4 hcx hb
   go_wp2_with fail
   refine bodyPost_ret (vQ rfl _ _ w.heap.size _ rfl RE rfl) rfl ?_
   obtain⟨e1,e2,e3⟩:=ET.out
   exact⟨by rw[e1,e2,e3];rfl,(hb4.setCell (jh6 _) _).setCell (jh6 _) _⟩
  obtain rfl:n=r.length:=by omega
  rw[XN]at *
  rw[ji6]at hG
  have hF:VB (a::r)=true:=by rw[yk hka,hG];rfl
  have c0:=hR.cell 0
  have c1:=hR.cell 1
  have f0:=hR.frozen 0
  have f1:=hR.frozen 1
  simp only[jie,jid,jib]at c0 c1
  have hvz:=je (zy (a::r))
  by_cases hlen:(zy (a::r)).length<=1000
  ·have ET:Hid _:=yi hF hlen
   have RE:=(hR.set 0 (.string KB)).set 1 (.string (B (zy (a::r))))
   rw[Gf]at RE
   rw[<- hvz]at hlen
   clear hF hG
   generalize hV:B (zy (a::r))=V at *
   have HV:=jh5 hV
   clear hV
   go_wp2_with fail
   refine bodyPost_ret (vQ rfl _ _ w.heap.size _ rfl RE rfl) rfl ?_
   obtain⟨e1,e2,e3⟩:=ET.out
   exact⟨by rw[e1,e2,e3,HV.out,HK.out];rfl,(hb.setCell (jh6 _) _).setCell (jh6 _) _⟩
  have ET:Hid _:=vF hF hlen
  have RE:=(hR.set 0 (.string ⟨#[]⟩)).set 1 (.string ⟨#[]⟩)
  rw[Gf]at RE
  rw[<- hvz]at hlen
  clear hF hG
  generalize B (zy (a::r))=V at *
  go_wp2_with fail
  refine bodyPost_ret (vQ rfl _ _ w.heap.size _ rfl RE rfl) rfl ?_
  obtain⟨e1,e2,e3⟩:=ET.out
  exact⟨by rw[e1,e2,e3];rfl,(hb.setCell (jh6 _) _).setCell (jh6 _) _⟩
 have hcb:(c==32)=false:=by simp[hc]
 rw[hcb]at q2
 have HA0:=jh5 hA0
 clear hA0 hc
 go_wp2_with fail
 go_loopw [5,7] (fun s i wr=>∃n:Nat,n<=r.length/\i=.int .i64 ((n:Int)+1)/\s=.string (B (vA a r n))/\Zh 3 r=Zh 3 (r.drop n)/\jd wr w.heap.size 71 #[.string ⟨#[]⟩,.string ⟨#[]⟩]/\Below w.heap.size w wr) (fun _ i _=>r.length+1-(intOf i).toNat)
 case atStart=>exact⟨0,jii _,rfl,by rw[HA0.out],rfl,R2,BW.out⟩
 case round =>
 obtain⟨n,hnr,rfl,rfl,hG,hR,hb⟩:=hrel
 have hal:=Ux a r n
 have hs3:=hb.size
 have hRl:=hR.lt
 by_cases hlt:n<r.length
 ·obtain⟨x,hx⟩:∃x,r[n]?=some x:=⟨_,jia hlt⟩
  have hcx:=(hb.cell (p:=⟨b,off+(n+1),none⟩) hbb).trans (PCH.out n x hx)
  have hxl:=hlr x (jim hx)
  have hxz:=je x
  have RK:=fun w=>zL (B x) (by omega) w
  rw[ji]at RK
  have STEP:=Vz a r n x hx
  rw[Vx r n x hx]at hG
  by_cases hk3:jk x=3
  ·obtain⟨c,d,t,rfl⟩:=jdZ hk3
   have G2:Hid (Zh 3 r=Zh 3 (r.drop (n+1))):=by show _=_;rw[hG,hk3];simp
   rw[hk3]at RK
   rw[jjZ]at STEP
   have hex:=ZH c (d::t)
   have hex2:=ZH d t
   have z1:(B (c::d::t)).size=t.length+2:=by rw[je];rfl
   have z2:(B (d::t)).size=t.length+1:=by rw[je];rfl
   have z3:(B t).size=t.length:=je t
   have htl:t.length<=1000000:=by simp only[jic]at hxl;omega
   rw[z1]at hex
   rw[z2]at hex2
   have hd0:∀h:0<(B (d::t)).size,(B (d::t))[0]'h=d:=fun _=>rfl
   have hdp:0<(B (d::t)).size:=by omega
   have hcp:0<(B (c::d::t)).size:=by omega
   have q2:=zV (c:=d) (d:=46) 46 rfl
   have y1:=je (vA a r n)
   have y2:(B (vA a r n) ++ ⟨#[10]⟩).size=(vA a r n).length+1:=by rw[show(⟨#[10]⟩:ByteArray)=B [10] from rfl,jj,je];simp
   have hal2:(vA a r n).length<=1000000:=by omega
   clear hx hG hk3 hxz hal
   by_cases hd:d=46
   ·have SB:Hid (B (vA a r (n+1))=(B (vA a r n) ++ ⟨#[10]⟩)++B t):=by
     show _=_
     rw[STEP,show(⟨#[10]⟩:ByteArray)=B [10] from rfl,jj,jj];simp[jY,hd]
    have hdb:(d==46)=true:=by simp[hd]
    rw[hdb]at q2
    clear STEP hd
    generalize B (vA a r n)=acc at *
    generalize B (c::d::t)=X at *
    generalize B (d::t)=Y at *
    generalize B t=Z at *
    go_wp2_with fail
    refine(RK _).mono ?_
    rintro e w4 ⟨rfl,b4⟩
    have hcx4:=(b4.cell (p:=⟨b,off+(n+1),none⟩) (jih hbb hs3)).trans hcx
    have R4:=jb hR b4 (by omega)
    have hb4:=hb.trans (b4.mono hs3)
    clear hR b4 hcx hb
    go_wp2_with fail
    go_roundw
    case rel=>exact⟨n+1,hlt,by go_num,by rw[SB.out],G2.out,R4,hb4⟩
    case measure=>simp[intOf];omega
   have SB:Hid (B (vA a r (n+1))=(B (vA a r n) ++ ⟨#[10]⟩)++B (d::t)):=by
    show _=_
    rw[STEP,show(⟨#[10]⟩:ByteArray)=B [10] from rfl,jj,jj];simp[jY,hd]
   have hdb:(d==46)=false:=by simp[hd]
   rw[hdb]at q2
   clear STEP hd
   generalize B (vA a r n)=acc at *
   generalize B (c::d::t)=X at *
   generalize B (d::t)=Y at *
   generalize B t=Z at *
   go_wp2_with fail
   refine(RK _).mono ?_
   rintro e w4 ⟨rfl,b4⟩
   have hcx4:=(b4.cell (p:=⟨b,off+(n+1),none⟩) (jih hbb hs3)).trans hcx
   have R4:=jb hR b4 (by omega)
   have hb4:=hb.trans (b4.mono hs3)
   clear hR b4 hcx hb
   go_wp2_with fail
   go_roundw
   case rel=>exact⟨n+1,hlt,by go_num,by rw[SB.out],G2.out,R4,hb4⟩
   case measure=>simp[intOf];omega
  have hF:VB (a::r)=false:=by
   rw[yk hka,hG];simp[hk3]
  obtain⟨e1,e2,e3⟩:=vE hF
  have ET:Hid (jo (a::r)=2/\jF (a::r)=[]/\jE (a::r)=[]):=⟨e1,e2,e3⟩
  have hki:((jk x:Int) != 3)=true:=by simp;omega
  clear hx hG hk3 e1 e2 e3 hF STEP
  generalize jk x=kx at *
  generalize B (vA a r n)=acc at *
  generalize B x=X at *
  go_wp2_with fail
  refine(RK _).mono ?_
  rintro e w4 ⟨rfl,b4⟩
  have R4:=jb hR b4 (by omega)
  have hb4:=hb.trans (b4.mono hs3)
  have c0:=R4.cell 0
  have c1:=R4.cell 1
  have f0:=R4.frozen 0
  have f1:=R4.frozen 1
  simp only[jie,jid,jib]at c0 c1
  have RE:=(R4.set 0 (.string ⟨#[]⟩)).set 1 (.string ⟨#[]⟩)
  rw[Gf]at RE
  clear hR b4 hcx hb
  go_wp2_with fail
  refine bodyPost_ret (vQ rfl _ _ w.heap.size _ rfl RE rfl) rfl ?_
  obtain⟨e1,e2,e3⟩:=ET.out
  exact⟨by rw[e1,e2,e3];rfl,(hb4.setCell (jh6 _) _).setCell (jh6 _) _⟩
 obtain rfl:n=r.length:=by omega
 rw[XN]at *
 rw[ji6]at hG
 have hF:VB (a::r)=true:=by rw[yk hka,hG];rfl
 have c0:=hR.cell 0
 have c1:=hR.cell 1
 have f0:=hR.frozen 0
 have f1:=hR.frozen 1
 simp only[jie,jid,jib]at c0 c1
 have hvz:=je (zy (a::r))
 by_cases hlen:(zy (a::r)).length<=1000
 ·have ET:Hid _:=yi hF hlen
  have RE:=(hR.set 0 (.string KB)).set 1 (.string (B (zy (a::r))))
  rw[Gf]at RE
  rw[<- hvz]at hlen
  clear hF hG
  generalize hV:B (zy (a::r))=V at *
  have HV:=jh5 hV
  clear hV
  go_wp2_with fail
  refine bodyPost_ret (vQ rfl _ _ w.heap.size _ rfl RE rfl) rfl ?_
  obtain⟨e1,e2,e3⟩:=ET.out
  exact⟨by rw[e1,e2,e3,HV.out,HK.out];rfl,(hb.setCell (jh6 _) _).setCell (jh6 _) _⟩
 have ET:Hid _:=vF hF hlen
 have RE:=(hR.set 0 (.string ⟨#[]⟩)).set 1 (.string ⟨#[]⟩)
 rw[Gf]at RE
 rw[<- hvz]at hlen
 clear hF hG
 generalize B (zy (a::r))=V at *
 go_wp2_with fail
 refine bodyPost_ret (vQ rfl _ _ w.heap.size _ rfl RE rfl) rfl ?_
 obtain⟨e1,e2,e3⟩:=ET.out
 exact⟨by rw[e1,e2,e3];rfl,(hb.setCell (jh6 _) _).setCell (jh6 _) _⟩
def jgy(w:World)(v:Value)(xs:List Ln):Prop :=
 ∃A cap,v=.slice A xs.length cap/\xs.length<=cap/\∀(i:Nat) (x:Ln),xs[i]?=some x->∃b off,A=some ⟨b,off,none⟩/\b<w.heap.size/\w.cell? ⟨b,off+i*4+1+1,none⟩=some (.string (B x.text))/\w.cell? ⟨b,off+i*4+1+1+1,none⟩=some (.bool x.ended)
theorem jgy.below{w w':World}{v:Value}{xs:List Ln}{n:Nat}(h:jgy w v xs)(hb:Below n w w')(hn:w.heap.size<=n):jgy w' v xs:=by
 obtain⟨A,cap,hv,hle,hc⟩:=h
 refine⟨A,cap,hv,hle,fun i x hi => ?_⟩
 obtain⟨b,off,hA,hlt,c0,c1⟩:=hc i x hi
 have hlt':=jih hlt hn
 exact⟨b,off,hA,jih hlt hb.size,(hb.cell (p:=⟨b,off+i*4+1+1,none⟩) hlt').trans c0,(hb.cell (p:=⟨b,off+i*4+1+1+1,none⟩) hlt').trans c1⟩
def jgu(w:World)(v:Value)(xs:List Ln):Prop :=
 ∃A cap,v=.slice A xs.length cap/\xs.length<=cap/\∀(i:Nat) (x:Ln),xs[i]?=some x->∃b off,A=some ⟨b,off,none⟩/\b<w.heap.size/\w.cell? ⟨b,off+i,none⟩=some (.int .i64 (jk x.text:Nat))
theorem jgu.below{w w':World}{v:Value}{xs:List Ln}{n:Nat}(h:jgu w v xs)(hb:Below n w w')(hn:w.heap.size<=n):jgu w' v xs:=by
 obtain⟨A,cap,hv,hle,hc⟩:=h
 refine⟨A,cap,hv,hle,fun i x hi => ?_⟩
 obtain⟨b,off,hA,hlt,c0⟩:=hc i x hi
 exact⟨b,off,hA,jih hlt hb.size,(hb.cell (p:=⟨b,off+i,none⟩) (jih hlt hn)).trans c0⟩
def ve(xs:List Ln):List Value:=xs.map fun x=>.int .i64 (jk x.text:Nat)
theorem jaI {w : World} {base : Nat} {v : Value} {xs : List Ln} (h : w.ownsRow base 3 1 v xs.length (ve xs)) : jgu w v xs := by
  rcases jiY h with ⟨e, hn⟩ | ⟨g, cap, e⟩
  . have : xs = [] := List.length_eq_zero_iff.1 hn
    rw [e, this]
    exact ⟨none, 0, rfl, jh6 _, fun i it hi => by simp at hi⟩
  refine ⟨some ⟨g, 0, none⟩, cap, e, (by rcases h.2 with ⟨q, _⟩ | ⟨g', cap', cur, q, _, _, q2, _⟩; · rw [e] at q; cases q
                                         rw [e] at q; cases q; exact q2), fun i x hi => ?_⟩
  have hlt : i < xs.length := by
    rcases jir i xs.length with q | q
    . exact q
    rw [jis q] at hi; cases hi
  rw [e] at h
  refine ⟨g, 0, rfl, (jje h g rfl).2, ?_⟩
  rw [jiH, jin h i (by omega)]
  unfold ve
  rw [ji3, hi]; rfl
theorem jaE {w : World} {base : Nat} {v : Value} {xs : List Ln} (h : w.ownsRow base 60 4 v xs.length (cellsOf xs)) : jgy w v xs := by
  rcases jiY h with ⟨e, hn⟩ | ⟨g, cap, e⟩
  . have : xs = [] := List.length_eq_zero_iff.1 hn
    rw [e, this]
    exact ⟨none, 0, rfl, jh6 _, fun i it hi => by simp at hi⟩
  refine ⟨some ⟨g, 0, none⟩, cap, e, (by rcases h.2 with ⟨q, _⟩ | ⟨g', cap', cur, q, _, _, q2, _⟩; · rw [e] at q; cases q
                                         rw [e] at q; cases q; exact q2), fun i x hi => ?_⟩
  have hlt : i < xs.length := by
    rcases jir i xs.length with q | q
    . exact q
    rw [jis q] at hi; cases hi
  rw [e] at h
  have hx : xs = xs.take i ++ x :: xs.drop (i + 1) := by
    have e := jiB hlt
    rw [jia hlt] at hi
    rw [jh9 hi] at e
    rw [<- e, jiy]
  have hti : (xs.take i).length = i := by rw [jiE]; omega
  have c2 : (cellsOf xs)[i * 4 + 2]? = some (.string ⟨x.text.toArray⟩) := by
    have := qU (xs.take i) x (xs.drop (i + 1)) 2 (by decide)
    rw [hti, <- hx] at this
    exact this
  have c3 : (cellsOf xs)[i * 4 + 3]? = some (.bool x.ended) := by
    have := qU (xs.take i) x (xs.drop (i + 1)) 3 (by decide)
    rw [hti, <- hx] at this
    exact this
  refine ⟨g, 0, rfl, (jje h g rfl).2, ?_, ?_⟩
  . rw [jiH, jin h (i * 4 + 1 + 1) (by omega)]; exact c2
  rw [jiH, jin h (i * 4 + 1 + 1 + 1) (by omega)]; exact c3
def vN(xs:List Ln)(i:Nat):Nat:=if i=0 then 0 else match xs[i-1]? with | some x=>jk x.text | none=>0
theorem ja9(xs:List Ln)(v:Value)(i:Nat)(w:World)(h:jgu w v xs)(hi:i<xs.length)(hn:xs.length<=1000000):
  Calls Tryz.prog 96 #[v,.int .i64 i] w fun e w'=>e=.returned (.bool (decide (vN xs i=4\/vN xs i=3)))/\w=w':=by
 obtain⟨A,cap,rfl,hle,hc⟩:=h
 by_cases h0:i=0
 ·subst h0
  have e:decide (vN xs 0=4\/vN xs 0=3)=false:=rfl
  rw[e]
  clear hc
  go_enter Tryz.func96,Tryz.ntmps96
  go_wp2
  go_ret
  exact⟨rfl,rfl⟩
 obtain⟨j,rfl⟩:∃j,i=j+1:=⟨i-1,by omega⟩
 obtain⟨y,hy⟩:∃y,xs[j]?=some y:=⟨_,jia (by omega)⟩
 obtain⟨b,off,rfl,hbb,c0⟩:=hc j y hy
 have hp:vN xs (j+1)=jk y.text:=by unfold vN;rw[if_neg (by omega),Nat.add_sub_cancel,hy]
 rw[hp]
 have e1:IntKind.i64.wrap (((j+1:Nat):Int)-1)=(j:Int):=by rw[jiz _ (by omega)];omega
 have e2:(((j+1:Nat):Int)-1)=(j:Int):=by omega
 have e3:(0:Int)<((j+1:Nat):Int):=by omega
 clear hc hp hy
 rcases JL y.text with hk|hk|hk|hk|hk
 all_goals
  rw[hk]at c0 ⊢
  go_enter Tryz.func96,Tryz.ntmps96
  go_wp2
  go_ret
  exact⟨rfl,rfl⟩
theorem jb7{xs:List Ln}{k:Nat}{x:Ln}(h:xs[k]?=some x):zv (xs.drop k)=if jk x.text=3 then x.text::zv (xs.drop (k+1)) else []:=by
 have hlt:k<xs.length:=by
  rcases jir k xs.length with q|q
  ·exact q
  rw[jis q]at h;cases h
 have e:=jiB hlt
 rw[jia hlt]at h
 rw[jh9 h]at e
 rw[e];rfl
theorem jdv(W:World)(x:List UInt8):∀(j:Nat) u,[Value.string (B x)][j]?=some u->(W.alloc (.cells #[.string (B x)] 9)).cell? ((⟨W.heap.size,0,none⟩:Addr).add j)=some u:=zl W _ [.string (B x)]
theorem QA(xs:List Ln)(lv kv:Value)(i:Nat)(x:Ln)(w:World)(hL:jgy w lv xs)(hK:jgu w kv xs)(hx:xs[i]?=some x)(hn:xs.length<=100000):
  Calls Tryz.prog 49 #[lv,kv,.int .i64 i] w fun e w'=>∃v,e=.returned v/\qY w' w.heap.size v ((x.text::zv (xs.drop (i+1))).map B)/\Below w.heap.size w w':=by
 obtain⟨i0,hi,hz0,hz1,hz2⟩:=info_parts QZ
 have hlt0:i<xs.length:=by
  rcases jir i xs.length with q|q
  ·exact q
  rw[jis q]at hx;cases hx
 obtain⟨A,cap,rfl,hle,hc⟩:=hL
 obtain⟨A',cap',rfl,hle',hc'⟩:=hK
 have HC:=jh5 hc
 have HC':=jh5 hc'
 obtain⟨b,off,rfl,hbb,c0,_⟩:=hc i x hx
 clear hc hc'
 have own1:qY (w.alloc (.cells #[.string (B x.text)] 9)) w.heap.size (.slice (some ⟨w.heap.size,0,none⟩) 1 1) [B x.text]:=qY.one w _ (jh6 _) _
 go_enter Tryz.func49,Tryz.ntmps49
 go_wp2_with fail
 go_loopw [7,8] (fun u j wr=>∃(k:Nat) (ls:List (List UInt8)),i<k/\k<=xs.length/\j=.int .i64 k/\qY wr w.heap.size u ((x.text::ls).map B)/\ls.length<=k/\ls++zv (xs.drop k)=zv (xs.drop (i+1))/\Below w.heap.size w wr) (fun _ j _=>xs.length-(intOf j).toNat)
 case atStart=>exact⟨i+1,[],by omega,by omega,by go_num,own1,by simp,rfl,(jh8 _ _).alloc (jh6 _) _⟩
 case round =>
 obtain⟨k,ls,hik,hk,rfl,hown,hll,hls,hb⟩:=hrel
 have hzb:=hb.size
 by_cases hlt:k<xs.length
 ·obtain⟨y,hy⟩:∃y,xs[k]?=some y:=⟨_,jia hlt⟩
  obtain⟨b1,off1,e,hb1,d0,_⟩:=HC.out k y hy
  cases e
  obtain⟨b2,off2,rfl,hb2,d1⟩:=HC'.out k y hy
  replace d0:=(hb.cell (p:=⟨b,off+k*4+1+1,none⟩) hb1).trans d0
  replace d1:=(hb.cell (p:=⟨b2,off2+k,none⟩) hb2).trans d1
  rw[jb7 hy]at hls
  by_cases h3:jk y.text=3
  ·rw[if_pos h3]at hls
   rw[h3]at d1
   have hown':wr.ownsRow w.heap.size 9 1 u7 ((x.text::ls).map B).length (((x.text::ls).map B).map Value.string):=hown
   have hlen:((x.text::ls).map B).length=ls.length+1:=by simp
   rw[hlen]at hown'
   have HV:=jh5 (jdv wr y.text)
   have HLS:=jh5 hls
   clear hown hy hls HC HC' c0
   go_wp2_with (at_builtin;refine wpList_append_own _ rfl _ _ 77 rfl w.heap.size 9 i0 _ 1 16 Tryz.underlying77 hi hz0 hz1 hz2 rfl (by decide) _ _ _ rfl (hown'.alloc _) ⟨wr.heap.size,0,none⟩ 1 1 _ rfl rfl HV.out ?c2 ?c3 ?c4 ?c5 ?_)
   case c2=>intro u hu;simp at hu;subst hu;rfl
   case c3=>unfold maxLen;omega
   case c4=>omega
   case c5=>simp;omega
   intro v' w3 hown3 hgrow _
   obtain⟨g',cap3,rfl⟩:=ownsRow_succ hown3
   have hb3:Below w.heap.size w w3:=(hb.alloc (by omega) _).grown hgrow (by simp;omega) (fun j ej=>(hown'.lt j ej).1)
   go_wp2_with fail
   go_roundw
   case rel =>
    refine⟨k+1,ls++[y.text],by omega,hlt,by go_num,?_,by simp;omega,by rw[jip];exact HLS.out,hb3⟩
    unfold qY
    have e2:((x.text::(ls++[y.text])).map B).length=ls.length+1+1:=by simp
    have e3:((x.text::(ls++[y.text])).map B).map Value.string=((x.text::ls).map B).map Value.string++[.string (B y.text)]:=by simp
    rw[e2,e3,show((x.text::ls).map B).map Value.string++[.string (B y.text)]=Value.string (B x.text)::(List.map (Value.string∘B) ls++[Value.string (B y.text)]) by simp];exact hown3
   case measure=>simp[intOf];omega
  rw[if_neg h3,jix]at hls
  have d2:(((jk y.text:Nat):Int)==3)=false:=beq_eq_false_iff_ne.2 (by omega)
  have HO:=jh5 hown
  have HLS:=jh5 hls
  clear hown hy HC HC' c0 hls
  go_wp2_with fail
  go_ret
  exact⟨_,rfl,by rw[<- HLS.out];exact HO.out,hb⟩
 obtain rfl:k=xs.length:=by omega
 rw[ji0 (jh6 _)]at hls
 have HLS:=jh5 (show ls=zv (xs.drop (i+1)) by rw[<- hls];show ls=ls++[];simp)
 have HO:=jh5 hown
 clear hown HC HC' c0 hls
 go_wp2_with fail
 go_ret
 exact⟨_,rfl,by rw[<- HLS.out];exact HO.out,hb⟩
def qp(prev fields records:Nat)(x:Ln)(xs:List Ln):Nat :=
 if jk x.text=5\/(jk x.text=3/\¬(prev=4\/prev=3))\/x.ended=false then 2
 else if jk x.text≠4 then 0
 else if jo (x.text::zv xs)≠0 then jo (x.text::zv xs)
 else if 40<=fields\/(fields=0/\400<=records) then 11 else 0
theorem jbp(s:RS)(x:Ln)(xs:List Ln):ze s x xs=qp s.prev s.fields.length s.records x xs:=rfl
theorem jbq(xs:List Ln)(lv kv:Value)(i:Nat)(x:Ln)(fields records:Nat)(w:World)(hL:jgy w lv xs)(hK:jgu w kv xs)(hx:xs[i]?=some x)(hn:xs.length<=100000)(hf:fields<=1000000)(hr:records<=1000000)
  (hs:((x.text::zv (xs.drop (i+1))).map List.length).sum<=90000) (hs2:(x.text::zv (xs.drop (i+1))).length<=90000) :
  Calls Tryz.prog 47 #[lv,kv,.int .i64 i,.int .i64 fields,.int .i64 records] w fun e w'=>e=.returned (.int .i64 (qp (vN xs i) fields records x (xs.drop (i+1)):Nat))/\Below w.heap.size w w':=by
 have hlt0:i<xs.length:=by
  rcases jir i xs.length with q|q
  ·exact q
  rw[jis q]at hx;cases hx
 have BH:=jh5 (ja9 xs kv i w hK hlt0 (by omega))
 have SD:=jh5 (QA xs lv kv i x w hL hK hx hn)
 have hLc:=hL
 have hKc:=hK
 obtain⟨A,cap,rfl,hle,hc⟩:=hL
 obtain⟨A',cap',rfl,hle',hc'⟩:=hK
 obtain⟨b,off,rfl,hbb,c0,c1⟩:=hc i x hx
 obtain⟨b',off',rfl,hbb',d0⟩:=hc' i x hx
 clear hc hc' hLc hKc
 rcases JL x.text with hk|hk|hk|hk|hk
 ·rw[hk]at d0
  cases he:x.ended with
  | false =>
   have e:qp (vN xs i) fields records x (xs.drop (i+1))=2:=by unfold qp;rw[if_pos (.inr (.inr he))]
   rw[e];rw[he]at c1
   clear e BH SD hs
   go_enter Tryz.func47,Tryz.ntmps47
   go_wp2
   go_ret
   exact⟨rfl,jh8 _ _⟩
  | true =>
  have e:qp (vN xs i) fields records x (xs.drop (i+1))=0:=by unfold qp;rw[if_neg (by rw[hk,he];simp),if_pos (by omega)]
  rw[e];rw[he]at c1
  clear e BH SD hs
  go_enter Tryz.func47,Tryz.ntmps47
  go_wp2
  go_ret
  exact⟨rfl,jh8 _ _⟩
 ·rw[hk]at d0
  cases he:x.ended with
  | false =>
   have e:qp (vN xs i) fields records x (xs.drop (i+1))=2:=by unfold qp;rw[if_pos (.inr (.inr he))]
   rw[e];rw[he]at c1
   clear e BH SD hs
   go_enter Tryz.func47,Tryz.ntmps47
   go_wp2
   go_ret
   exact⟨rfl,jh8 _ _⟩
  | true =>
  have e:qp (vN xs i) fields records x (xs.drop (i+1))=0:=by unfold qp;rw[if_neg (by rw[hk,he];simp),if_pos (by omega)]
  rw[e];rw[he]at c1
  clear e BH SD hs
  go_enter Tryz.func47,Tryz.ntmps47
  go_wp2
  go_ret
  exact⟨rfl,jh8 _ _⟩
 ·rw[hk]at d0
  by_cases hp:vN xs i=4\/vN xs i=3
  ·rw[decide_eq_true hp]at BH
   cases he:x.ended with
   | false =>
    have e:qp (vN xs i) fields records x (xs.drop (i+1))=2:=by unfold qp;rw[if_pos (.inr (.inr he))]
    rw[e];rw[he]at c1
    clear e SD hs hp
    go_enter Tryz.func47,Tryz.ntmps47
    go_wp2_with fail
    refine BH.out.mono ?_
    rintro e w1 ⟨rfl,rfl⟩
    go_wp2
    go_ret
    exact⟨rfl,jh8 _ _⟩
   | true =>
   have e:qp (vN xs i) fields records x (xs.drop (i+1))=0:=by
    unfold qp;rw[if_neg (by rintro(h | ⟨_,h⟩ | h);omega;exact h hp;rw[he]at h;cases h),if_pos (by omega)]
   rw[e];rw[he]at c1
   clear e SD hs hp
   go_enter Tryz.func47,Tryz.ntmps47
   go_wp2_with fail
   refine BH.out.mono ?_
   rintro e w1 ⟨rfl,rfl⟩
   go_wp2
   go_ret
   exact⟨rfl,jh8 _ _⟩
  rw[decide_eq_false hp]at BH
  have e:qp (vN xs i) fields records x (xs.drop (i+1))=2:=by unfold qp;rw[if_pos (.inr (.inl ⟨hk,hp⟩))]
  rw[e]
  clear e SD hs hp
  go_enter Tryz.func47,Tryz.ntmps47
  go_wp2_with fail
  refine BH.out.mono ?_
  rintro e w1 ⟨rfl,rfl⟩
  go_wp2
  go_ret
  exact⟨rfl,jh8 _ _⟩
 ·rw[hk]at d0
  cases he:x.ended with
  | false =>
   have e:qp (vN xs i) fields records x (xs.drop (i+1))=2:=by unfold qp;rw[if_pos (.inr (.inr he))]
   rw[e];rw[he]at c1
   clear e BH SD hs
   go_enter Tryz.func47,Tryz.ntmps47
   go_wp2
   go_ret
   exact⟨rfl,jh8 _ _⟩
  | true =>
  rw[he]at c1
  obtain⟨ls,hls⟩:∃ls,x.text::zv (xs.drop (i+1))=ls:=⟨_,rfl⟩
  have e:qp (vN xs i) fields records x (xs.drop (i+1))=if jo ls≠0 then jo ls else if 40<=fields\/(fields=0/\400<=records) then 11 else 0:=by
   unfold qp;rw[if_neg (by rw[hk,he];simp),if_neg (by omega),hls]
  have UF:=jh5 (fun w' v' (h:Strs w' v' ((x.text::zv (xs.drop (i+1))).map B))=>vn x.text (zv (xs.drop (i+1))) v' w' h (fun l hl=>by have:=Yz _ _ hl;omega) (by omega) (by have:=xG (x.text::zv (xs.drop (i+1)));omega) hk)
  rw[hls]at SD UF hs hs2
  have hun:=Zf ls
  rw[e]
  clear e BH hls
  obtain⟨N,hN⟩:∃N,(if jo ls≠0 then jo ls else if 40<=fields\/(fields=0/\400<=records) then 11 else 0)=N:=⟨_,rfl⟩
  rw[hN]
  have HN:=jh5 hN
  clear hN
  unfold zi at UF
  generalize jo ls=un at *
  generalize jF ls=uk at *
  generalize jE ls=uv at *
  go_enter Tryz.func47,Tryz.ntmps47
  go_wp2_with fail
  refine SD.out.mono ?_
  rintro e w1 ⟨sv,rfl,hown,b1⟩
  have hst:=hown.strs
  obtain⟨Av,capv,rfl,_,_⟩:=id hst
  have U1:=jh5 (UF.out w1 _ hst)
  rw[jiA]at U1
  have hz1:=b1.size
  clear hown hst SD UF
  go_wp2_with fail
  refine U1.out.mono ?_
  rintro e w2 ⟨rfl,b2⟩
  have hb2:=b1.trans (b2.mono hz1)
  have hz2:=hb2.size
  have hba:=hb2.alloc hz2 (.cells #[.string (B uk),.string (B uv)] 71)
  clear U1 b1 b2
  by_cases hu:un=0
  ·subst hu
   by_cases h40:40<=fields
   ·have h9:N=11:=by rw[<- HN.out,if_neg (by simp),if_pos (.inl h40)]
    subst h9
    clear HN
    go_wp2
    go_ret
    exact⟨rfl,hba⟩
   by_cases h0:fields=0
   ·subst h0
    by_cases h400:400<=records
    ·have h9:N=11:=by rw[<- HN.out,if_neg (by simp),if_pos (.inr ⟨rfl,h400⟩)]
     subst h9
     clear HN
     go_wp2
     go_ret
     exact⟨rfl,hba⟩
    have h9:N=0:=by rw[<- HN.out,if_neg (by simp),if_neg (by omega)]
    subst h9
    clear HN
    go_wp2
    go_ret
    exact⟨rfl,hba⟩
   have h9:N=0:=by rw[<- HN.out,if_neg (by simp),if_neg (by omega)]
   subst h9
   clear HN
   have z1:((fields:Int)==0)=false:=beq_eq_false_iff_ne.2 (by omega)
   go_wp2
   go_ret
   exact⟨rfl,hba⟩
  have h9:N=un:=by rw[<- HN.out,if_pos hu]
  subst h9
  clear HN
  have z1:((N:Int) != 0)=true:=by simp;omega
  go_wp2
  go_ret
  exact⟨rfl,hba⟩
 have e:qp (vN xs i) fields records x (xs.drop (i+1))=2:=by unfold qp;rw[if_pos (.inl hk)]
 rw[e];rw[hk]at d0
 clear e BH SD hs
 go_enter Tryz.func47,Tryz.ntmps47
 go_wp2
 go_ret
 exact⟨rfl,jh8 _ _⟩
end Go.Proofs.YtmdhainabeljpaaGreatDoor
