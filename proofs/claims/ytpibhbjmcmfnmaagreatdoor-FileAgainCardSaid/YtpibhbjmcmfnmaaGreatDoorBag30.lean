/- Texts put together:FLP,FLQ,FLK,FLR,FLN,FLL. -/
import Derived.ChangeSlices
import Derived.ChangeMaps5
import Derived.Deep.Slices
import Derived.Deep.Fields
import Derived.ChangeSame
import Derived.Test.YtpibhbjmcmfnmaaGreatDoorBag29
set_option linter.unusedVariables false
set_option maxRecDepth 100000
set_option maxHeartbeats 16000000
namespace Go.Proofs.YtpibhbjmcmfnmaaGreatDoor.Vf
open Go.RowKit Go.Maps Go.Shelf Bk Rp
attribute [local go_sem] jT vL
def jcJ(L p:Nat)(D D1:ji)(w0:World)(i:Nat)(W:World):Prop :=
 if i<=1 then jD L W p D/\jO L w0 W else if i=2 then jD L W p D1/\jO L w0 W else False
theorem jcJ.kq{L p i:Nat}{D D1:ji}{w0 W:World}(h:jcJ L p D D1 w0 i W)(q:Nat):Kq L q w0 W:=by
 unfold jcJ at h
 split at h
 ·exact h.2.kq q
 split at h
 ·exact h.2.kq q
 exact h.elim
def Yes(t:List UInt8):Prop:=∃m base bds tail its k,qL Dc t m base bds tail/\jE base=.ok its/\qS (qE its) (zM bds)=some k
theorem jka{L n q p:Nat}{D:ji}{z t0:ByteArray}{t:List UInt8}{w:World}(hL:L<=w.heap.size)
  (h:vB w q p z t0) (hd:jD L w p D) (hf:zJ n D) (hn:n<=200000) (hz:zy z=true) (hr:yx D z=(B t,0))
  (hY:¬Yes t) (ht:t.length<=100000) (hbs:(vn (t.drop (hl (Hd.genP t)))).length<=60000) (hsum:∀n base bds tail,qL Dc t n base bds tail->base.length+Jc (zM bds)<=5000) (hT:∀W,Below L w W->QX W) :
  Calls Tryz.prog 35 #[.pointer (some ⟨q,0,none⟩)] w fun e w'=>(∃T d,e=.returned (.iface T d))/\Below w.heap.size w w':=by
 have hzs:=xL hz
 have RD:=fun W (hW:Below w.heap.size w W)=>XS hd hf (by omega) z (by omega) W hW
 rw[hr]at RD
 replace RD:=jnc RD
 obtain⟨w1,hw1⟩:∃x,w.alloc (.cells #[.pointer (some ⟨q,0,none⟩)] 33)=x:=⟨_,rfl⟩
 have b1:Below w.heap.size w w1:=by rw[<- hw1];exact(jne _ w).alloc (jnd _) _
 have P1:ja w1 w.heap.size 33 #[.pointer (some ⟨q,0,none⟩)]:=by rw[<- hw1];exact ja.new _ _ _
 have BX:Hid (∀W,Below w1.heap.size w1 W->W.cell? ⟨w.heap.size,0,none⟩=some (.pointer (some ⟨q,0,none⟩))):=fun W hW=>(jd P1 hW P1.lt).cell 0
 have F1:=jd h b1 h.lt
 have C0:Hid (∀W,Below w1.heap.size w1 W->W.cell? ⟨q,0,none⟩=some (.pointer (some ⟨p,0,none⟩))):=fun W hW=>(jd F1 hW F1.lt).cell 0
 have C1:Hid (∀W,Below w1.heap.size w1 W->W.cell? ⟨q,1,none⟩=some (.string z)):=fun W hW=>(jd F1 hW F1.lt).cell 1
 have B1:=jnc b1
 have HW1:=jnc hw1
 have HP1:=jnc P1
 have HF1:=jnc F1
 have HD:=jnc hd
 have HFI:=jnc hf
 have HTT:=jnc hT
 have HLL:=jnc hL
 clear h hd hf hr b1 hw1 P1 F1 hT hL
 go_enter Tryz.func35,Tryz.ntmps35
 go_upto_region 1 with fail
 rw[HW1.out]
 refine wp_region_any (by kernel_rfl) ?_
 refine Kn.wpAny_known [(9,.pointer (some ⟨q,0,none⟩)),(10,.pointer (some ⟨q,0,none⟩)),(11,.pointer (some ⟨q,0,none⟩)),(12,.pointer (some ⟨q,0,none⟩)),(13,.pointer (some ⟨p,0,none⟩)),(14,.pointer (some ⟨q,0,none⟩)),(15,.pointer (some ⟨q,0,none⟩)),(16,.pointer (some ⟨q,0,none⟩)),(17,.pointer (some ⟨q,1,none⟩)),(18,.string z),(19,.tuple #[.string (B t),.nilIface]),(8,.tuple #[.string (B t),.nilIface]),(20,.string (B t)),(21,.nilIface),(3,.string (B t)),(4,.nilIface)] (by kernel_rfl) (by kernel_rfl) ?st ?hQ
 case st =>
  repeat (refine And.intro (by first
   | exact Kn.loadK (T:=33) (b:=w.heap.size) (i:=0) (by kernel_rfl) rfl (by kernel_rfl) (fun W hw=>by simp[go_sem,BX.out W (yk hw)])
   | exact Kn.fieldK (b:=q) (i:=0) (j:=0) (by kernel_rfl) rfl (by kernel_rfl) rfl (fun w=>by simp[go_sem])
   | exact Kn.fieldK (b:=q) (i:=0) (j:=1) (by kernel_rfl) rfl (by kernel_rfl) rfl (fun w=>by simp[go_sem])
   | exact Kn.nilK (by kernel_rfl) rfl (by kernel_rfl)
   | exact Kn.loadK (T:=31) (b:=q) (i:=0) (by kernel_rfl) rfl (by kernel_rfl) (fun w hw=>by simp[go_sem,C0.out w (yk hw)])
   | exact Kn.loadK (T:=9) (b:=q) (i:=1) (by kernel_rfl) rfl (by kernel_rfl) (fun w hw=>by simp[go_sem,C1.out w (yk hw)])
   | exact Kn.call2K (u:=.pointer (some ⟨p,0,none⟩)) (z:=.string z) (by kernel_rfl) rfl (by kernel_rfl) (by kernel_rfl) (enters_of Tryz.func26 (by kernel_rfl) rfl) (fun W hW=>RD.out W (B1.out.trans ((yk hW).mono B1.out.size)))
   | exact Kn.extK (vs:=#[.string (B t),.nilIface]) (by kernel_rfl) rfl (by kernel_rfl) rfl
   | exact Kn.stepA (by kernel_rfl) (by kernel_rfl)) ?_)
  exact trivial
 case hQ =>
 intro w2 b2
 replace b2:=yk b2
 have B2:=jnc (B1.out.trans (b2.mono B1.out.size))
 have TX:=jnc (KO t ht hbs hsum w2 (HTT.out w2 (B2.out.mono HLL.out)))
 have bx2:=BX.out w2 b2
 have HB2:=jnc b2
 clear b2 RD
 simp only[List.foldl,jnq,jnM,jnN]
 go_wp2_with fail
 refine TX.out.mono ?_
 rintro e w3 h3
 rcases h3 with ⟨b3,⟨a,kk,u,_,rfl,fq,_,rfl,_⟩|⟨m,base,bds,tail,v,its,k,lb,ev,ps,hS,hp,hk,_⟩⟩
 rotate_left
 ·exact(hY ⟨m,base,bds,tail,its,k,hS,hp,hk⟩).elim
 have B3:=jnc (B2.out.trans (b3.mono B2.out.size))
 obtain⟨w4,hw4⟩:∃z,w3.alloc (.cells #[.int .i64 0,.string (B []),.slice none 0 0,.slice none 0 0,.string (B [])] 73)=z:=⟨_,rfl⟩
 have b4:Below w3.heap.size w3 w4:=by rw[<- hw4];exact(jne _ _).alloc (jnd _) _
 have B4:=jnc (B3.out.trans (b4.mono B3.out.size))
 have HW4:=jnc hw4
 clear b3 b4 hw4 TX
 unfold jaG Ql
 go_wp2_with fail
 go_ret
 rw[HW4.out]
 exact⟨⟨_,_,rfl⟩,B4.out⟩
theorem jjZ{L n p:Nat}{D:ji}{z:ByteArray}{t:List UInt8}{w:World}(hL:L<=w.heap.size)
  (hd:jD L w p D) (hf:zJ n D) (hn:n<=100000) (hc:Uj D) (hg:xM z=true) (hri:yw D.seen) (has:Xl D (Ud z)=false) (hsaw:Xl (vk D z) z=true) (hr:yx (vk D z) z=(B t,0))
  (hY:¬Yes t) (ht:t.length<=100000) (hbs:(vn (t.drop (hl (Hd.genP t)))).length<=60000) (hsum:∀n base bds tail,qL Dc t n base bds tail->base.length+Jc (zM bds)<=5000) (hT:∀W,Below L w W->QX W) :
  Calls Tryz.prog 9 #[.pointer (some ⟨p,0,none⟩),.string z] w fun e w'=>(∃T d,e=.returned (.tuple #[.pointer none,.iface T d]))/\Below L w w':=by
 have hz:zy z=true:=by unfold xM at hg;rw[jnv]at hg;exact hg.2
 have hzs:=xL hz
 have GG:=jnc (Jh z w)
 rw[hg]at GG
 have HD:=jnc hd
 have HFI:=jnc hf
 have HC:=jnc hc
 have HTT:=jnc hT
 have HLL:=jnc hL
 have HRI:=jnc hri
 have HAS:=jnc has
 have HSW:=jnc hsaw
 have HRR:=jnc hr
 clear hd hf hc hT hL hri has hsaw hr
 go_enter Tryz.func9,Tryz.ntmps9
 go_wp2_with fail
 refine GG.out.mono ?_
 rintro e w1 ⟨rfl,b1⟩
 obtain⟨w2,hw2⟩:∃x,w1.alloc (.cells #[.pointer (some ⟨p,0,none⟩),.string z,.string ⟨#[]⟩] 69)=x:=⟨_,rfl⟩
 obtain⟨q,hq⟩:∃x,w1.heap.size=x:=⟨_,rfl⟩
 have b12:Below w1.heap.size w1 w2:=by rw[<- hw2];exact(jne _ _).alloc (jnd _) _
 have F2:vB w2 q p z ⟨#[]⟩:=by rw[<- hw2,<- hq];exact ja.new _ _ _
 have B2:=jnc (b1.trans (b12.mono b1.size))
 have hqw:w.heap.size<=q:=by rw[<- hq];exact b1.size
 have HF2:=jnc F2
 have HW2:=jnc hw2
 have HQ:=jnc hq
 clear b1 b12 hw2 F2 GG hq
 go_upto_region 4 with fail
 rw[HW2.out,HQ.out]
 have C0:Hid (∀W,Below w2.heap.size w2 W->W.cell? ⟨q,0,none⟩=some (.pointer (some ⟨p,0,none⟩))):=fun W hW=>(jd HF2.out hW HF2.out.lt).cell 0
 have C1:Hid (∀W,Below w2.heap.size w2 W->W.cell? ⟨q,1,none⟩=some (.string z)):=fun W hW=>(jd HF2.out hW HF2.out.lt).cell 1
 refine wp_region_any (by kernel_rfl) ?_
 refine Kn.wpAny_known_tail 12 3 [(21,.pointer (some ⟨q,0,none⟩)),(22,.pointer (some ⟨q,0,none⟩)),(23,.pointer (some ⟨q,0,none⟩)),(24,zl p z),(25,.func (.func 33) #[zl p z] #[]),(26,.pointer (some ⟨q,0,none⟩)),(27,.pointer (some ⟨q,0,none⟩)),(28,.pointer (some ⟨q,0,none⟩)),(29,zl p z),(30,.func (.func 34) #[zl p z] #[]),(31,.pointer (some ⟨q,0,none⟩)),(32,.func (.func 35) #[.pointer (some ⟨q,0,none⟩)] #[])] (by kernel_rfl) (by decide) rfl (by kernel_rfl) (by kernel_rfl) (by kernel_rfl) (by kernel_rfl) (by kernel_rfl) ?st ?hQ
 case st =>
  unfold zl
  repeat (refine And.intro (by first
   | exact Kn.fieldK (b:=q) (i:=0) (j:=0) (by kernel_rfl) rfl (by kernel_rfl) rfl (fun w=>by simp[go_sem])
   | exact Kn.nilK (by kernel_rfl) rfl (by kernel_rfl)
   | exact Kn.loadK (T:=67) (b:=q) (i:=0) (by kernel_rfl) rfl (by kernel_rfl) (fun w hw=>by simp[go_sem,C0.out w (yk hw),C1.out w (yk hw)])
   | exact Kn.capK (u:=.agg #[.pointer (some ⟨p,0,none⟩),.string z]) (fn:=.func 33) (by kernel_rfl) rfl (by kernel_rfl) rfl
   | exact Kn.capK (u:=.agg #[.pointer (some ⟨p,0,none⟩),.string z]) (fn:=.func 34) (by kernel_rfl) rfl (by kernel_rfl) rfl
   | exact Kn.capK (u:=.pointer (some ⟨q,0,none⟩)) (fn:=.func 35) (by kernel_rfl) rfl (by kernel_rfl) rfl
   | exact Kn.stepA (by kernel_rfl) (by kernel_rfl)) ?_)
  exact trivial
 case hQ =>
 intro w3 b3
 replace b3:=yk b3
 obtain⟨w4,hw4⟩:∃x,w3.alloc (.cells #[.func (.func 33) #[zl p z] #[],.func (.func 34) #[zl p z] #[],.func (.func 35) #[.pointer (some ⟨q,0,none⟩)] #[]] 78)=x:=⟨_,rfl⟩
 have b34:Below w3.heap.size w3 w4:=by rw[<- hw4];exact(jne _ _).alloc (jnd _) _
 have A4:ja w4 w3.heap.size 78 #[.func (.func 33) #[zl p z] #[],.func (.func 34) #[zl p z] #[],.func (.func 35) #[.pointer (some ⟨q,0,none⟩)] #[]]:=by rw[<- hw4];exact ja.new _ _ _
 have b24:=b3.trans (b34.mono b3.size)
 have B4:=jnc (B2.out.trans (b24.mono B2.out.size))
 have F4:=jd HF2.out b24 HF2.out.lt
 have D4:=HD.out.below B4.out
 have hL4:L<=w4.heap.size:=jns HLL.out B4.out.size
 have hne:w3.heap.size≠q:=by have:=HF2.out.lt;have:=b3.size;omega
 have CAL:=Gk (z:=z) HC.out hz
 have FMA:=Yt (z:=z) HFI.out (by omega)
 have DD:=jnc (jab [(33,#[zl p z],#[]),(34,#[zl p z],#[]),(35,#[.pointer (some ⟨q,0,none⟩)],#[])] (jcJ L p D (vk D z) w4) (fun _ W=>Below L w4 W) w3.heap.size (by show 3<=1000;omega)
  (fun i W hst j x hx=>by
   rw[((hst.kq q).cells A4 (by decide) hne).cell]
   match j with
   | 0=>obtain rfl:=jng hx;rfl
   | 1=>obtain rfl:=jng hx;rfl
   | 2=>obtain rfl:=jng hx;rfl
   | j+3=>simp at hx)
  (fun x hx=>by
   simp only[joS,jpc,or_false]at hx
   rcases hx with rfl|rfl|rfl
   ·exact enters_of Tryz.func33 (by kernel_rfl) rfl
   ·exact enters_of Tryz.func34 (by kernel_rfl) rfl
   exact enters_of Tryz.func35 (by kernel_rfl) rfl)
  (fun i x W hx hst=>by
   have hLW:L<=W.heap.size:=jns hL4 (hst.kq q).bel.size
   match i with
   | 0 =>
    obtain rfl:=jng hx
    replace hst:jD L W p D/\jO L w4 W:=hst
    refine(jam hst.1 HFI.out (by omega) HRI.out (by omega) HAS.out).mono ?_
    rintro e W' ⟨rfl,hb⟩
    exact⟨_,rfl,.inl ⟨rfl,hst.1.below hb,hst.2.then_ hb (jns hL4 (jnd _))⟩⟩
   | 1 =>
    obtain rfl:=jng hx
    replace hst:jD L W p D/\jO L w4 W:=hst
    refine(Ys hst.1 hLW HFI.out (by omega) HC.out HRI.out hz).mono ?_
    rintro e W' ⟨rfl,h1,h2⟩
    exact⟨_,rfl,.inl ⟨rfl,h1,hst.2.trans h2⟩⟩
   | 2 =>
    obtain rfl:=jng hx
    replace hst:jD L W p (vk D z)/\jO L w4 W:=hst
    refine(jka hLW (hst.2.cells F4 (by decide)) hst.1 FMA (by omega) hz HRR.out hY ht hbs hsum (fun W' hW'=>HTT.out W' ((B4.out.mono HLL.out).trans (hst.2.bel.trans hW')))).mono ?_
    rintro e W' ⟨⟨T,d,rfl⟩,hb⟩
    exact⟨_,rfl,.inr ⟨⟨T,d,rfl⟩,hst.2.bel.trans (hb.mono hLW)⟩⟩
   | i+3=>simp at hx) w4 ⟨D4,jO.refl _ _⟩)
 have HW4:=jnc hw4
 clear b3 b34 A4 b24 F4 D4 CAL FMA C0 C1 hw4
 simp only[List.foldl,jnq,jnM,jnN,joh,jop]
 go_wp2_with fail
 rw[HW4.out]
 refine DD.out.mono ?_
 rintro e w5 ⟨u,rfl,⟨rfl,h⟩|⟨⟨T,d,rfl⟩,h⟩⟩
 ·exact absurd h (by show ¬False;exact id)
 have R:=jnc ((B4.out.mono HLL.out).trans h)
 clear h DD
 go_wp2_with fail
 go_ret2
 exact⟨⟨_,_,rfl⟩,R.out⟩
end Go.Proofs.YtpibhbjmcmfnmaaGreatDoor.Vf
namespace Go.Proofs.YtpibhbjmcmfnmaaGreatDoor.Vf
open Go.RowKit Go.Maps Go.ChangeShapes Go.Joins Go.WideShapes
structure jmP(W:World)(v:Value)(ks:List Int)(ad:Addr):Prop where
 val:∃ao cap,v=.slice ao ks.length cap/\(0<ks.length->ao=some ad)
 cells:∀w',Below W.heap.size W w'->∀j (h:j<ks.length),w'.cell? (ad.add j)=some (.int .i64 ks[j])
 wf:∀k∈ks,(Lit.int .i64 k).wf=true
theorem jkj{H:Type}{enc:TypeId×Value->H}{W:World}{base:Nat}{sp:Nat->Bool}{held:Bool}{fuel:Nat}{v:Value}{x:DataW H×List MemPlace}(h:DataW.trod enc Tryz.prog W base sp held fuel 23 [v]=some x):
  ∃ks ad,jmP W v ks ad/\ks.length<=maxLen:=by
 rcases open_ints Tryz.underlying23 Tryz.underlying3 (by kernel_rfl) h with ⟨e,_⟩|⟨a,len,cap,zs,e,_,hl,hm,hz,_,hc,hw⟩
 ·obtain rfl:v=.slice none 0 0:=by simpa using e
  exact⟨[],⟨0,0,none⟩,⟨⟨none,0,rfl,fun h=>by simp at h⟩,fun _ _ j h=>by simp at h,fun k hk=>by cases hk⟩,jnt _⟩
 obtain rfl:v=.slice (some a) len cap:=by simpa using e
 have hlz:len<=zs.length:=by rw[hz];split<;>omega
 have hlen:(zs.take len).length=len:=by rw[jnk];omega
 refine⟨zs.take len,a,⟨⟨some a,cap,by rw[hlen],fun _=>rfl⟩,fun w' hb j hj => ?_,fun k hk=>hw k (jog hk)⟩,by rw[hlen];omega⟩
 have hjz:j<zs.length:=by omega
 have h1:=hc j hjz
 have hbl:(a.add j).block<W.heap.size:=World.block_lt_of_cell? W _ h1
 rw[hb.cell hbl,h1,List.getElem_take]
 simp[List.getD,hjz]
theorem jjk{cs:List Value}(h:cs.length=3):∃c0 c1 c2,cs=[c0,c1,c2]:=by
 match cs,h with
 | [c0,c1,c2],_=>exact⟨_,_,_,rfl⟩
structure jla(W:World)(units dir:Int)(keep:Value)(ks:List Int)(ad:Addr):Prop where
 ints:jmP W keep ks ad
 len:ks.length<=maxLen
 wu:(Lit.int .i64 units).wf=true
 wd:(Lit.int .i64 dir).wf=true
theorem jl4{H:Type}{enc:TypeId×Value->H}{W:World}{base:Nat}{sp:Nat->Bool}{held:Bool}{fuel:Nat}{cs:List Value}{x:DataW H×List MemPlace}(h:DataW.trod enc Tryz.prog W base sp held fuel 27 cs=some x):
  ∃units dir keep ks ad,cs=[.int .i64 units,.int .i64 dir,keep]/\jla W units dir keep ks ad:=by
 obtain⟨xs,m,_,_,hl,hxl,hf⟩:=DataW.trod_struct Tryz.underlying27 h
 have hl3:cs.length=3:=hl.trans (by kernel_rfl)
 obtain⟨c0,c1,c2,rfl⟩:=jjk hl3
 have k3:Tryz.prog.cellsOf 3=1:=by kernel_rfl
 have k38:Tryz.prog.cellsOf 23=1:=by kernel_rfl
 have hx:∀i,i<3->∃y,xs[i]?=some y:=fun i hi=>⟨_,jnh (by rw[hxl];exact hi)⟩
 obtain⟨y0,e0⟩:=hx 0 (by decide)
 obtain⟨y1,e1⟩:=hx 1 (by decide)
 obtain⟨y2,e2⟩:=hx 2 (by decide)
 have q0:DataW.trod enc Tryz.prog W base sp held m 3 (List.take (Tryz.prog.cellsOf 3) [c0,c1,c2])=_:=hf 0 _ rfl
 have q1:DataW.trod enc Tryz.prog W base sp held m 3 (List.take (Tryz.prog.cellsOf 3) [c1,c2])=_:=hf 1 _ rfl
 have q2:DataW.trod enc Tryz.prog W base sp held m 23 (List.take (Tryz.prog.cellsOf 23) [c2])=_:=hf 2 _ rfl
 rw[k3,e0]at q0
 rw[k3,e1]at q1
 rw[k38,e2]at q2
 obtain⟨u,f0,_,w0⟩:=DataW.trod_int Tryz.underlying3 q0
 obtain⟨n,f1,_,w1⟩:=DataW.trod_int Tryz.underlying3 q1
 obtain⟨ks,ad,hi,hkl⟩:=jkj q2
 simp at f0 f1
 subst f0 f1
 exact⟨u,n,c2,ks,ad,rfl,⟨hi,hkl,w0,w1⟩⟩
theorem jl2{H:Type}{enc:TypeId×Value->H}{v:Value}{d:DataW H}{p:List MemPlace}{W:World}{b0:Nat}(hval:Value.okWide Tryz.prog W .any b0 27 v){base:Nat}{sp:Nat->Bool}{held:Bool}(h:DataW.Trod enc Tryz.prog W base sp held 27 v d p):
  ∃units dir keep ks ad,v=.agg #[.int .i64 units,.int .i64 dir,keep]/\jla W units dir keep ks ad:=by
 obtain⟨n,hn⟩:=h
 obtain⟨cs,rfl,_⟩:=Go.WideShapes.okWide_struct Tryz.underlying27 hval
 obtain⟨units,dir,keep,ks,ad,e,ho⟩:=jl4 hn
 refine⟨units,dir,keep,ks,ad,?_,ho⟩
 rw[show cs=cs.toList.toArray by simp]
 rw[show cs.toList=[.int .i64 units,.int .i64 dir,keep] from e]
theorem jl5{L n p:Nat}{w W0:World}{D:ji}{keep:Value}{ks:List Int}{ad:Addr}(h:jD L w p D)(hL:L<=w.heap.size)(hf:zJ n D)(hn:n<=300000)(m:Int)(hw:(Lit.int .i64 m).wf=true)(hi:jmP W0 keep ks ad)(hb:Below W0.heap.size W0 w)(hWL:W0.heap.size<=L)(hkl:ks.length<=1000000):
  Calls Tryz.prog 16 #[.pointer (some ⟨p,0,none⟩),.int .i64 m,keep] w fun e w'=>e=.returned (.tuple #[])/\jD L w' p (jah D m ks)/\jO L w w':=by
 obtain⟨ao,cap,rfl,hao⟩:=hi.val
 exact ZX h hL fun T hA hTL _=>jgl hA hf hn m hw ks ao ad cap hao (fun w' ho j hj=>hi.cells w' (hb.trans (ho.to_below (jns hWL hL) (fun r hr hn=>by have:=hTL r hn;omega))) j hj) hi.wf hkl
end Go.Proofs.YtpibhbjmcmfnmaaGreatDoor.Vf
namespace Go.Proofs.YtpibhbjmcmfnmaaGreatDoor.Vf
open Go.RowKit Go.Maps Go.Shelf Bk Rp
attribute [local go_sem] jT vL
theorem jdJ:Xk exE:=fun ed h=>by
 rw[List.mem_singleton.1 h]
 exact⟨by decide,fun f hf=>by cases hf⟩
theorem jdI:Xg exE:=fun ed h=>by
 rw[List.mem_singleton.1 h]
 exact⟨by decide,by decide⟩
theorem jgI(w:World)(hT:∀W,Below w.heap.size w W->QX W/\ErrT W):Calls Tryz.prog 6 #[] w fun e w'=>e=.returned (.bool true)/\Below w.heap.size w w':=by
 have BG:=jnc (jap 1000 (B Uh) w (by decide) (by decide) (by rw[jm];decide) jmC)
 have HT:=jnc hT
 have eB:(⟨#[65,58,32,49,10,37,97,109]⟩:ByteArray)=B Uh:=rfl
 clear hT
 go_enter Tryz.func6,Tryz.ntmps6
 rw[eB]
 go_wp2_with fail
 refine BG.out.mono ?_
 rintro e w1 ⟨p,rfl,d1,b1⟩
 have eM:vk (jd9 1000 (B Uh)) zf=jd9 1000 (B Uh):=if_pos (by kernel_rfl)
 have OP:=jaW (L:=w.heap.size) (z:=zf) b1.size d1 (WZ (by decide) (by decide)) (by rw[jm];decide) ⟨by kernel_rfl,by kernel_rfl⟩ (by kernel_rfl) jiu (by kernel_rfl) (by rw[eM];kernel_rfl) (by rw[eM];exact exR) jit Qf rfl (by decide) (by have:=yb Uh (hl (Hd.genP Uh));have e:Uh.length=8:=rfl;omega) (by decide) (fun W hW=>(HT.out W (b1.trans hW)).1)
 rw[eM,if_neg (by decide),show ZW (jd9 1000 (B Uh)) zf (jo 0 [65,58,32,49,10] [])=exD from rfl,show Uh.take (jo 0 [65,58,32,49,10] [])=jiv from rfl]at OP
 replace OP:=jnc OP
 have B1:=jnc b1
 clear b1 d1 BG eM
 go_wp2_with fail
 refine OP.out.mono ?_
 rintro e w2 ⟨q,rfl,hq,d2,f2,k2⟩
 have B2:=jnc (B1.out.trans k2.bel)
 have RD:=jjT d2 jje (by decide) zf (by decide)
 rw[jmU]at RD
 replace RD:=jnc RD
 have D2:=jnc d2
 have F2:=jnc f2
 have HQ:=jnc (jns B1.out.size hq)
 clear d2 f2 k2 OP hq
 go_wp2_with fail
 refine RD.out.mono ?_
 rintro e w3 ⟨rfl,b3⟩
 have B3:=jnc (B2.out.trans (b3.mono B2.out.size))
 have D3:=jnc (D2.out.below b3)
 have F3:=jnc (jd F2.out b3 F2.out.lt)
 have T3:=jnc (qA q p zf (B jiv) w3 F3.out)
 have s1:((B jiv).toList==[65,58,32,49,10])=true:=by kernel_rfl
 clear b3 RD
 go_wp2_with fail
 refine T3.out.mono ?_
 rintro e w3' ⟨rfl,rfl⟩
 obtain⟨w4,hw4⟩:∃x,w3.alloc (.cells #[.int .i64 2,.int .i64 1,.slice none 0 0] 63)=x:=⟨_,rfl⟩
 have b4:Below w3.heap.size w3 w4:=by rw[<- hw4];exact(jne _ _).alloc (jnd _) _
 have E4:ja w4 w3.heap.size 63 #[.int .i64 2,.int .i64 1,.slice none 0 0]:=by rw[<- hw4];exact ja.new _ _ _
 have B4:=jnc (B3.out.trans (b4.mono B3.out.size))
 have AP:=jnc (jgF (L:=w.heap.size) (q:=q) B4.out.size HQ.out (jd F3.out b4 F3.out.lt) (D3.out.below b4) jje (by decide) (by decide) jmU jdK Qf rfl (by decide) (by decide) (jkH E4) (by decide) jdJ jdI (fun ed h=>by rw[List.mem_singleton.1 h];exact⟨by decide,by decide⟩) (by kernel_rfl) jkI (by rw[jkG];decide) (r:=jdH) rfl (by rw[GS];decide) exW exS (fun W hW=>HT.out W (B4.out.trans hW)))
 have HW4:=jnc hw4
 clear hw4 b4 E4 T3
 go_wp2_with fail
 rw[HW4.out]
 refine AP.out.mono ?_
 rintro e w5 ⟨rfl,d5,f5,k5⟩
 have B5:=jnc (B4.out.trans k5.bel)
 have T5:=jnc (qA q p zf (B (jiv++jdH)) w5 f5)
 have hsz:((B (jiv++jdH)).size:Int)=42:=by rw[jm,jnf,GS];rfl
 clear d5 f5 k5 AP
 go_wp2_with fail
 refine T5.out.mono ?_
 rintro e w5' ⟨rfl,rfl⟩
 go_wp2_with fail
 go_ret
 exact⟨rfl,B5.out⟩
end Go.Proofs.YtpibhbjmcmfnmaaGreatDoor.Vf
namespace Go.Proofs.YtpibhbjmcmfnmaaGreatDoor.Vf
open Go.RowKit Go.Maps Go.Shelf Bk Rp
attribute [local go_sem] jT vL xo
theorem xz(u room:Int)(t:ByteArray)(acts:List qM):vk (qJ u room t acts) zf=qJ u room t acts:=if_pos rfl
theorem Yl{L n p m:Nat}{u room:Int}{acts:List qM}{t base tail:List UInt8}{bds:List (List UInt8)}{its:List It}{k:LS}{w:World}(hL:L<=w.heap.size)
  (hd:jD L w p (qJ u room (B t) acts)) (hf:zJ n (qJ u room (B t) acts)) (hn:n<=100000)
  (hS:qL Dc t m base bds tail) (hp:jE base=.ok its) (hk:qS (qE its) (zM bds)=some k) (ht:t.length<=5000) (hT:∀W,Below L w W->QX W) :
  Calls Tryz.prog 9 #[.pointer (some ⟨p,0,none⟩),.string zf] w fun e w'=>∃q u' acts',e=.returned (.tuple #[.pointer (some ⟨q,0,none⟩),.nilIface])/\w.heap.size<=q/\jD L w' p (qJ u' room (B (t.take (jo m base bds))) acts')/\zJ (n+3) (qJ u' room (B (t.take (jo m base bds))) acts')/\(tail=[]->u'=u/\acts'=acts)/\vB w' q p zf (B (t.take (jo m base bds)))/\jO L w w':=by
 have hle:jo m base bds<=t.length:=by have:=hS.parts.len;omega
 have OP:=jaW (z:=zf) hL hd hf hn (Ye u room (B t) acts) (by kernel_rfl) (Yd u room (B t) acts) rfl (by rw[xz];rfl) (by rw[xz];exact Zh u room (B t) acts) hS hp hk (by omega) (by have:=yb t (hl (Hd.genP t));omega) (by have:=(ZO hS).2.1;omega) hT
 rw[xz]at OP
 refine OP.mono ?_
 rintro e w' ⟨q,rfl,hq,h1,h2,h3⟩
 by_cases htl:tail=[]
 ·have e2:t.take (jo m base bds)=t:=jnD (by have:=hS.parts.len;rw[htl]at this;simp at this;omega)
  rw[if_pos htl]at h1
  rw[e2]at h2 ⊢
  exact⟨q,u,acts,rfl,hq,h1,hf.mono (by omega),fun _=>⟨rfl,rfl⟩,h2,h3⟩
 rw[if_neg htl]at h1
 obtain⟨u',acts',e⟩:=jeW u room t acts (jo m base bds) hle (by omega)
 have hf2:zJ (n+3) (ZW (qJ u room (B t) acts) zf (jo m base bds)):=Zd (WS hf zf _) zf
 rw[e]at h1 hf2
 exact⟨q,u',acts',rfl,hq,h1,hf2,fun h=>absurd h htl,h2,h3⟩
theorem jiY(t:List UInt8)(units dir:Int)(keep:Value)(ks:List Int)(ad:Addr)(w:World)(hC:jla w units dir keep ks ad)(_:t.length<=maxLen)(hT:∀W,Below w.heap.size w W->QX W/\ErrT W):
  Calls Tryz.prog 4 #[.string (B t),.agg #[.int .i64 units,.int .i64 dir,keep]] w fun e w'=>e=.returned (.bool true)/\Below w.heap.size w w':=by
 obtain⟨ao,cap,rfl,hao⟩:=hC.ints.val
 obtain⟨w0,hw0⟩:∃x,w.alloc (.cells #[.int .i64 units,.int .i64 dir,.slice ao ks.length cap] 27)=x:=⟨_,rfl⟩
 have b0:Below w.heap.size w w0:=by rw[<- hw0];exact(jne _ _).alloc (jnd _) _
 have K0:ja w0 w.heap.size 27 #[.int .i64 units,.int .i64 dir,.slice ao ks.length cap]:=by rw[<- hw0];exact ja.new _ _ _
 have AL:=jnc (jgI w0 fun W hW=>hT W (b0.trans (hW.mono b0.size)))
 have HT:=jnc hT
 have HC:=jnc hC
 have HK0:=jnc K0
 have HW0:=jnc hw0
 have B0:=jnc b0
 have hbt:((B t).size:Int)=(t.length:Int):=by rw[jm]
 clear hT hC K0 hw0 b0
 go_enter Tryz.func4,Tryz.ntmps4
 go_wp2_with fail
 rw[HW0.out]
 refine AL.out.mono ?_
 rintro e w1 ⟨rfl,b1⟩
 have B1:=jnc (B0.out.trans (b1.mono B0.out.size))
 have K1:=jnc (jd HK0.out b1 HK0.out.lt)
 have k2:w1.cell? ⟨w.heap.size,2,none⟩=some (.slice ao ks.length cap):=K1.out.cell 2
 clear b1 AL
 by_cases ht:t.length<=4000
 rotate_left
 ·have ht':(4000:Int)<(t.length:Int):=by omega
  go_wp2_with fail
  all_goals (first | (go_ret;exact⟨rfl,B1.out⟩) | skip)
 have ht':¬(4000:Int)<(t.length:Int):=by omega
 by_cases hk:ks.length<=40
 rotate_left
 ·have hk':(40:Int)<(ks.length:Int):=by omega
  go_wp2_with fail
  all_goals (first | (go_ret;exact⟨rfl,B1.out⟩) | skip)
 have hk':¬(40:Int)<(ks.length:Int):=by omega
 obtain⟨hBO,u0,acts0,hBR⟩:=jiR (B t) (by rw[jm];omega)
 have BG:=jap 1073741824 (B t) w1 (by decide) (by decide) (by rw[jm];omega) hBO
 have FB:=WZ (room:=1073741824) (t:=B t) (by decide) (by decide)
 rw[hBR]at BG FB
 rw[jm]at FB
 replace BG:=jnc BG
 have FB':=jnc (FB.mono (show 2*t.length+6<=9000 by omega))
 clear FB hBR hBO
 go_wp2_with fail
 refine BG.out.mono ?_
 rintro e w2 ⟨p,rfl,d2,b2⟩
 have D2:=jnc d2
 have B2:=jnc b2
 have TL:Hid (∀W,Below w1.heap.size w1 W->QX W):=fun W hW=>(HT.out W (B1.out.trans (hW.mono B1.out.size))).1
 clear d2 b2 BG k2
 by_cases hY:Yes t
 rotate_left
 ·have ON:=jnc (jjZ (L:=w1.heap.size) (z:=zf) B2.out.size D2.out FB'.out (by decide) (Ye _ _ _ _) (by kernel_rfl) (Yd _ _ _ _) rfl (by rw[xz];rfl) (by rw[xz];exact Zh _ _ _ _) hY (by omega) (by have:=yb t (hl (Hd.genP t));omega) (fun n base bds tail hS=>by have:=(ZO hS).2.1;omega) (fun W hW=>TL.out W (B2.out.trans hW)))
  go_wp2_with fail
  refine ON.out.mono ?_
  rintro e w3 ⟨⟨T,d,rfl⟩,b3⟩
  have B3:=jnc (B1.out.trans ((B2.out.trans b3).mono B1.out.size))
  clear b3 ON
  go_wp2_with fail
  go_ret
  exact⟨rfl,B3.out⟩
 obtain⟨m,base,bds,tail,its,k,hS,hp,hpl⟩:=hY
 have O1:=jnc (Yl (L:=w1.heap.size) B2.out.size D2.out FB'.out (by decide) hS hp hpl (by omega) (fun W hW=>TL.out W (B2.out.trans hW)))
 obtain⟨s,hs⟩:∃x,x=t.take (jo m base bds):=⟨_,rfl⟩
 have hle:jo m base bds<=t.length:=by have:=hS.parts.len;omega
 have hsl:s.length=jo m base bds:=by rw[hs,jnk];omega
 have hst:s.length<=t.length:=by omega
 have hpre:t.take s.length=s:=by rw[hsl,<- hs]
 have hS2:qL Dc s m base bds []:=by
  have h:=hS.again (x:=[]) (more:=[]) (tail':=[]) (.inl rfl) ⟨rfl,fun b h=>by cases h⟩ Wi
  rw[jnR,jnR]at h
  rw[hs];exact h
 have hse:s.take (jo m base bds)=s:=jnD (by omega)
 rw[<- hs]at O1
 go_wp2_with fail
 refine O1.out.mono ?_
 rintro e w3 ⟨q1,u,acts,rfl,hq1,d3,f3,_,h3,k3⟩
 have B3:=jnc (B2.out.trans k3.bel)
 have D3:=jnc d3
 have F3:=jnc (f3.mono (show 9000+3<=9010 by omega))
 have H3:=jnc h3
 obtain⟨T3a,hA3,_⟩:=D3.out
 have AC0:Hid (∀W,jD w1.heap.size W p (qJ u 1073741824 (B s) acts)->Calls Tryz.prog 18 #[.pointer (some ⟨p,0,none⟩)] W fun e w'=>∃v,e=.returned v/\(∃ao cap,v=.slice ao acts.length cap)/\Below W.heap.size W w'):=fun W hd=>by
  obtain⟨T',hA',_⟩:=hd
  exact(jcG hA' F3.out (by decide)).mono fun e w' ⟨v,h1,_,_,h4,h5⟩=>⟨v,h1,h4,h5⟩
 clear d3 f3 h3 k3 O1 hA3
 go_wp2_with fail
 refine(AC0.out w3 D3.out).mono ?_
 rintro e w4 ⟨v4,rfl,⟨a4,c4,rfl⟩,b4⟩
 have B4:=jnc (B3.out.trans (b4.mono B3.out.size))
 have D4:=jnc (D3.out.below b4)
 have H4:=jnc (jd H3.out b4 H3.out.lt)
 clear b4
 have O2:=Yl (L:=w1.heap.size) B4.out.size D4.out F3.out (by decide) hS2 hp hpl (by omega) (fun W hW=>TL.out W (B4.out.trans hW))
 rw[hse]at O2
 replace O2:=jnc O2
 go_wp2_with fail
 refine O2.out.mono ?_
 rintro e w5 ⟨q2,u5,acts5,rfl,hq2,d5,f5,hu5,h5,k5⟩
 obtain⟨rfl,rfl⟩:=hu5 trivial
 have B5:=jnc (B4.out.trans k5.bel)
 have D5:=jnc d5
 have G5:=jnc h5
 have H5:=jnc (k5.cells H4.out (by decide))
 clear d5 f5 h5 k5 O2 hu5
 have xx:((B s).toList != (B s).toList)=false:=by simp
 go_wp2_with fail
 refine(qA q2 p zf (B s) w5 G5.out).mono ?_
 rintro e w5a ⟨rfl,rfl⟩
 go_wp2_with fail
 refine(qA q1 p zf (B s) w5 H5.out).mono ?_
 rintro e w5b ⟨rfl,rfl⟩
 go_wp2_with fail
 refine(AC0.out w5 D5.out).mono ?_
 rintro e w6 ⟨v6,rfl,⟨a6,c6,rfl⟩,b6⟩
 have B6:=jnc (B5.out.trans (b6.mono B5.out.size))
 have D6:=jnc (D5.out.below b6)
 have G6:=jnc (jd G5.out b6 G5.out.lt)
 have H6:=jnc (jd H5.out b6 H5.out.lt)
 clear b6
 go_wp2_with fail
 refine(Qi G6.out D6.out F3.out (by decide) (by decide) (Zh _ _ _ _)).mono ?_
 rintro e w7 ⟨rfl,b7⟩
 have B7:=jnc (B6.out.trans (b7.mono B6.out.size))
 have D7:=jnc (D6.out.below b7)
 have H7:=jnc (jd H6.out b7 H6.out.lt)
 clear b7
 go_wp2_with fail
 refine(Qi H7.out D7.out F3.out (by decide) (by decide) (Zh _ _ _ _)).mono ?_
 rintro e w8 ⟨rfl,b8⟩
 have B8:=jnc (B7.out.trans (b8.mono B7.out.size))
 have D8:=jnc (D7.out.below b8)
 have H8:=jnc (jd H7.out b8 H7.out.lt)
 have K8:=jd K1.out B8.out K1.out.lt
 have c1:w8.cell? ⟨w.heap.size,1,none⟩=some (.int .i64 dir):=K8.cell 1
 have c2:w8.cell? ⟨w.heap.size,2,none⟩=some (.slice ao ks.length cap):=K8.cell 2
 have CR:=jl5 (L:=w1.heap.size) D8.out B8.out.size F3.out (by decide) dir HC.out.wd HC.out.ints (B1.out.trans (B8.out.mono B1.out.size)) B1.out.size (by omega)
 rw[jc8]at CR
 replace CR:=jnc CR
 clear b8 K8
 go_wp2_with fail
 refine CR.out.mono ?_
 rintro e w9 ⟨rfl,d9,k9⟩
 have B9:=jnc (B8.out.trans k9.bel)
 have D9:=jnc d9
 have H9:=jnc (k9.cells H8.out (by decide))
 clear d9 k9 CR c1 c2
 have O3:=Yl (L:=w1.heap.size) B9.out.size D9.out F3.out (by decide) hS2 hp hpl (by omega) (fun W hW=>TL.out W (B9.out.trans hW))
 rw[hse]at O3
 replace O3:=jnc O3
 go_wp2_with fail
 refine O3.out.mono ?_
 rintro e w10 ⟨q3,u10,acts10,rfl,hq3,d10,f10,hu10,h10,k10⟩
 obtain⟨rfl,rfl⟩:=hu10 trivial
 have B10:=jnc (B9.out.trans k10.bel)
 have D10:=jnc d10
 have T3:Hid (∀W,Below w10.heap.size w10 W->vB W q3 p zf (B s)):=fun W hW=>jd h10 hW h10.lt
 have h1:=k10.cells H9.out (by decide)
 have T1:Hid (∀W,Below w10.heap.size w10 W->vB W q1 p zf (B s)):=fun W hW=>jd h1 hW h1.lt
 have AC:Hid (∀W,Below w10.heap.size w10 W->Calls Tryz.prog 18 #[.pointer (some ⟨p,0,none⟩)] W fun e w'=>∃v,e=.returned v/\(∃ao cap,v=.slice ao acts10.length cap)/\Below W.heap.size W w'):=fun W hW=>AC0.out W (D10.out.below hW)
 clear d10 f10 h10 k10 O3 hu10 h1
 go_upto_region 17 with fail
 refine wp_region_any (by kernel_rfl) ?_
 refine Kn.wpAny_some_tail 34 1 [(78,.val (.nilIface)),(79,.val (.bool true)),(80,.val (.bool true)),(81,.val (.pointer (some ⟨q3,0,none⟩))),(82,.val (.string (B s))),(83,.val (.pointer (some ⟨q1,0,none⟩))),(84,.val (.string (B s))),(85,.val (.bool true)),(86,.val (.bool true)),(87,.val (.bool true)),(88,.val (.pointer (some ⟨p,0,none⟩))),(89,.pr fun v _=>∃ao cap,v=.slice ao acts10.length cap),(90,.kn (.int .i64 (acts10.length:Nat))),(91,.val (.int .i64 (acts10.length:Nat))),(92,.val (.bool true)),(93,.val (.bool true)),(94,.kn (.bool true)),(95,.val (.pointer (some ⟨q1,0,none⟩))),(96,.val (.string (B s))),(97,.val (.int .i64 (s.length:Nat))),(98,.val (.string (B t))),(99,.val (.int .i64 (t.length:Nat))),(100,.val (.bool true)),(101,.val (.bool true)),(102,.val (.bool true)),(103,.val (.string (B t))),(104,.val (.pointer (some ⟨q1,0,none⟩))),(105,.val (.string (B s))),(106,.val (.int .i64 (s.length:Nat))),(107,.val (.string (B s))),(108,.val (.pointer (some ⟨q1,0,none⟩))),(109,.val (.string (B s))),(110,.val (.bool true)),(111,.val (.bool true))] (by kernel_rfl) (by decide) rfl (by kernel_rfl) (by kernel_rfl) (by kernel_rfl) (by kernel_rfl) (by kernel_rfl) ?hm ?st ?hQ
 case hm =>
  simp only[Kn.monos]
  exact⟨fun v x y _ h=>h,trivial⟩
 case st =>
  refine And.intro ⟨Kn.stepA (by kernel_rfl) (by kernel_rfl),by kernel_rfl⟩ ?_
  refine And.intro ⟨Kn.binK (u:=.nilIface) (z:=.nilIface) (by kernel_rfl) rfl (by kernel_rfl) (by kernel_rfl) (fun ρ w h1 h2=>by simp only[execOp,h1,h2];simp[go_sem]),by kernel_rfl⟩ ?_
  refine And.intro ⟨Kn.stepA (by kernel_rfl) (by kernel_rfl),by kernel_rfl⟩ ?_
  refine And.intro ⟨Kn.stepA (by kernel_rfl) (by kernel_rfl),by kernel_rfl⟩ ?_
  refine And.intro ⟨Kn.callK (u:=.pointer (some ⟨q3,0,none⟩)) (by kernel_rfl) rfl (by kernel_rfl) (enters_of Tryz.func13 (by kernel_rfl) rfl) (fun W hW=>(qA q3 p zf (B s) W (T3.out W (yk hW))).mono fun e w' ⟨h1,h2⟩=>⟨h1,by rw[<- h2];exact jne _ _⟩),by kernel_rfl⟩ ?_
  refine And.intro ⟨Kn.stepA (by kernel_rfl) (by kernel_rfl),by kernel_rfl⟩ ?_
  refine And.intro ⟨Kn.callK (u:=.pointer (some ⟨q1,0,none⟩)) (by kernel_rfl) rfl (by kernel_rfl) (enters_of Tryz.func13 (by kernel_rfl) rfl) (fun W hW=>(qA q1 p zf (B s) W (T1.out W (yk hW))).mono fun e w' ⟨h1,h2⟩=>⟨h1,by rw[<- h2];exact jne _ _⟩),by kernel_rfl⟩ ?_
  refine And.intro ⟨Kn.eqlSK (m:=B s) (n:=B s) (by kernel_rfl) rfl (by kernel_rfl) (by kernel_rfl) (by simp),by kernel_rfl⟩ ?_
  refine And.intro ⟨Kn.stepA (by kernel_rfl) (by kernel_rfl),by kernel_rfl⟩ ?_
  refine And.intro ⟨Kn.stepA (by kernel_rfl) (by kernel_rfl),by kernel_rfl⟩ ?_
  refine And.intro ⟨Kn.stepA (by kernel_rfl) (by kernel_rfl),by kernel_rfl⟩ ?_
  refine And.intro ⟨by kernel_rfl,fun a W K hW dep _ hK => ?pa⟩ ?_
  case pa =>
   obtain⟨u1,e1,z1⟩:=dep ⟨10,.data⟩ (by simp) rfl 88 rfl
   have z1':u1=.pointer (some ⟨p,0,none⟩):=z1
   subst z1'
   exact Vk (T:=fun v W'=>(∃ao cap,v=.slice ao acts10.length cap)/\Below W.heap.size W W') 18 rfl (evT e1) (enters_of Tryz.func18 (by kernel_rfl) rfl) ((AC.out W (yk hW)).mono fun e w' ⟨v,he,hs,hb⟩=>⟨v,he,hs,hb⟩) (fun v w' hv=>hK v w' hv.2 hv.1)
  refine And.intro ⟨by kernel_rfl,fun a W K hW dep _ hK => ?pb⟩ ?_
  case pb =>
   obtain⟨u1,e1,ao,cap,z1⟩:=dep ⟨11,.data⟩ (by simp) rfl 89 rfl
   subst z1
   have ev:=evT e1
   exact QL (by simp only[execOp];show _=_;generalize a.eval=ρ at ev ⊢;simp[go_sem,ev]) (hK _ _ (jne _ _) rfl)
  refine And.intro ⟨Kn.stepA (by kernel_rfl) (by kernel_rfl),by kernel_rfl⟩ ?_
  refine And.intro ⟨Kn.eqlIK (m:=(acts10.length:Nat)) (n:=(acts10.length:Nat)) (by kernel_rfl) rfl (by kernel_rfl) (by kernel_rfl) (by simp),by kernel_rfl⟩ ?_
  refine And.intro ⟨Kn.stepA (by kernel_rfl) (by kernel_rfl),by kernel_rfl⟩ ?_
  refine And.intro ⟨by kernel_rfl,fun a W K hW dep _ hK => ?pc⟩ ?_
  case pc =>
   obtain⟨u1,e1,z1⟩:=dep ⟨15,.data⟩ (by simp) rfl 93 rfl
   have z1':u1=.bool true:=z1
   subst z1'
   have ev:=evT e1
   exact QL (by simp only[execOp];rw[ev];simp[go_sem]) (hK _ _ (jne _ _) rfl)
  refine And.intro ⟨Kn.stepA (by kernel_rfl) (by kernel_rfl),by kernel_rfl⟩ ?_
  refine And.intro ⟨Kn.callK (u:=.pointer (some ⟨q1,0,none⟩)) (by kernel_rfl) rfl (by kernel_rfl) (enters_of Tryz.func13 (by kernel_rfl) rfl) (fun W hW=>(qA q1 p zf (B s) W (T1.out W (yk hW))).mono fun e w' ⟨h1,h2⟩=>⟨h1,by rw[<- h2];exact jne _ _⟩),by kernel_rfl⟩ ?_
  refine And.intro ⟨Kn.lenK (s:=B s) (by kernel_rfl) rfl (by kernel_rfl) (by rw[jm]),by kernel_rfl⟩ ?_
  refine And.intro ⟨Kn.stepA (by kernel_rfl) (by kernel_rfl),by kernel_rfl⟩ ?_
  refine And.intro ⟨Kn.lenK (s:=B t) (by kernel_rfl) rfl (by kernel_rfl) (by rw[jm]),by kernel_rfl⟩ ?_
  refine And.intro ⟨Kn.binK (u:=.int .i64 (s.length:Nat)) (z:=.int .i64 (t.length:Nat)) (by kernel_rfl) rfl (by kernel_rfl) (by kernel_rfl) (fun ρ w h1 h2=>by simp only[execOp,h1,h2];simp[go_sem,hst]),by kernel_rfl⟩ ?_
  refine And.intro ⟨Kn.stepA (by kernel_rfl) (by kernel_rfl),by kernel_rfl⟩ ?_
  refine And.intro ⟨Kn.stepA (by kernel_rfl) (by kernel_rfl),by kernel_rfl⟩ ?_
  refine And.intro ⟨Kn.stepA (by kernel_rfl) (by kernel_rfl),by kernel_rfl⟩ ?_
  refine And.intro ⟨Kn.stepA (by kernel_rfl) (by kernel_rfl),by kernel_rfl⟩ ?_
  refine And.intro ⟨Kn.callK (u:=.pointer (some ⟨q1,0,none⟩)) (by kernel_rfl) rfl (by kernel_rfl) (enters_of Tryz.func13 (by kernel_rfl) rfl) (fun W hW=>(qA q1 p zf (B s) W (T1.out W (yk hW))).mono fun e w' ⟨h1,h2⟩=>⟨h1,by rw[<- h2];exact jne _ _⟩),by kernel_rfl⟩ ?_
  refine And.intro ⟨Kn.lenK (s:=B s) (by kernel_rfl) rfl (by kernel_rfl) (by rw[jm]),by kernel_rfl⟩ ?_
  refine And.intro ⟨Kn.sliceK (s:=B t) (j:=s.length) (by kernel_rfl) rfl (by kernel_rfl) (by kernel_rfl) (by rw[jm];exact hst) (by rw[jf5];simp[hpre]),by kernel_rfl⟩ ?_
  refine And.intro ⟨Kn.stepA (by kernel_rfl) (by kernel_rfl),by kernel_rfl⟩ ?_
  refine And.intro ⟨Kn.callK (u:=.pointer (some ⟨q1,0,none⟩)) (by kernel_rfl) rfl (by kernel_rfl) (enters_of Tryz.func13 (by kernel_rfl) rfl) (fun W hW=>(qA q1 p zf (B s) W (T1.out W (yk hW))).mono fun e w' ⟨h1,h2⟩=>⟨h1,by rw[<- h2];exact jne _ _⟩),by kernel_rfl⟩ ?_
  refine And.intro ⟨Kn.eqlSK (m:=B s) (n:=B s) (by kernel_rfl) rfl (by kernel_rfl) (by kernel_rfl) (by simp),by kernel_rfl⟩ ?_
  refine And.intro ⟨Kn.stepA (by kernel_rfl) (by kernel_rfl),by kernel_rfl⟩ ?_
  exact trivial
 case hQ =>
 rintro f w11 _ b11
 have B11:=jnc (B10.out.trans ((yk b11).mono B10.out.size))
 clear b11
 simp only[Kn.fin,List.foldl,jnq,jnM,jnN,joh,jop]
 go_wp2_with fail
 go_ret
 exact⟨rfl,B1.out.trans (B11.out.mono B1.out.size)⟩
theorem againCall{H:Type}{enc:TypeId×Value->H}(s:ByteArray)(v1:Value)(d1:DataW H)(p1:List MemPlace)(W:World){b0:Nat}(hs:s.size<=maxLen)(hval1:Value.okWide Tryz.prog W .any b0 27 v1){base1:Nat}{sp1:Nat->Bool}{held1:Bool}(h1:DataW.Trod enc Tryz.prog W base1 sp1 held1 27 v1 d1 p1)(hT:QX W):
  Calls Tryz.prog 4 #[.string s,v1] W fun e w'=>e=.returned (.bool true)/\Below W.heap.size W w':=by
 obtain⟨units,dir,keep,ks,ad,rfl,hC⟩:=jl2 hval1 h1
 have h:=jiY s.data.toList units dir keep ks ad W hC (by rw[<- jnu];exact hs) fun W' hW=>⟨hT.below hW (jnd _),(hT.below hW (jnd _)).tabs.err⟩
 rw[jjr]at h
 exact h
end Go.Proofs.YtpibhbjmcmfnmaaGreatDoor.Vf
namespace Go.Proofs.YtpibhbjmcmfnmaaGreatDoor.Vf
open Go.RowKit Go.Maps
theorem jjS(s:ByteArray)(hs:s.size<=1000)(w:World):Calls Tryz.prog 54 #[.string s] w fun e w'=>e=.returned (.bool (zy s))/\w=w':=by
 by_cases hlen:1<=s.size/\s.size<=20
 ·obtain⟨h1,h2⟩:=hlen
  have d1:decide ((s.size:Int)<1)=false:=decide_eq_false (by omega)
  have d2:decide (20<(s.size:Int))=false:=decide_eq_false (by omega)
  have hg:zy s=s.data.toList.all xN:=by unfold zy;simp[h1,h2]
  rw[hg]
  clear hg
  generalize hB0:s.data.toList.all xN=B
  have HB:=jnc hB0
  clear hB0
  go_enter Tryz.func54,Tryz.ntmps54
  go_wp2
  go_loopw [3] (fun i wr=>∃k:Nat,k<=s.size/\i=.int .i64 k/\wr=w/\∀c∈s.data.toList.take k,xN c=true) (fun i _=>s.size-(intOf i).toNat)
  case atStart=>exact⟨0,jnt _,rfl,rfl,by simp⟩
  case round =>
  obtain⟨k,hk,rfl,rfl,hpre⟩:=hrel
  by_cases hlt:k<s.size
  ·have hl':k<s.data.toList.length:=by rw[<- jnu];exact hlt
   have HP:=jnc hpre
   clear hpre
   have hx:s.data.toList[k]=s[k]:=rfl
   have hgd:xN s[k]=true↔(97<=s[k].toNat/\s[k].toNat<=122)\/(48<=s[k].toNat/\s[k].toNat<=57)\/s[k].toNat=46:=by
    unfold xN;simp[or_assoc]
   have HX:=jnc hx
   clear hx
   by_cases hgc:xN s[k]=true
   ·have HN:Hid (∀c∈s.data.toList.take (k+1),xN c=true):=fun c hc=>by
     rw[joo hl']at hc
     rcases List.mem_append.1 hc with h|h
     ·exact HP.out c h
     rw[List.mem_singleton.1 h,HX.out];exact hgc
    have hin:=hgd.1 hgc
    clear hgc hgd HP HX
    by_cases a1:97<=s[k].toNat
    all_goals by_cases a2:s[k].toNat<=122
    all_goals by_cases a3:48<=s[k].toNat
    all_goals by_cases a4:s[k].toNat<=57
    all_goals by_cases a5:s[k].toNat=46
    all_goals try omega
    all_goals clear hin
    all_goals
     go_wp2
     go_roundw
     case rel=>exact⟨k+1,by omega,by go_num,trivial,HN.out⟩
     case measure=>simp[intOf];omega
   have hin:¬((97<=s[k].toNat/\s[k].toNat<=122)\/(48<=s[k].toNat/\s[k].toNat<=57)\/s[k].toNat=46):=fun h=>hgc (hgd.2 h)
   have hall:s.data.toList.all xN=false:=by
    rw[List.all_eq_false]
    exact⟨_,jn8 hl',by rw[HX.out];exact hgc⟩
   obtain rfl:B=false:=HB.out.symm.trans hall
   clear hgc hgd HP HX hall HB
   by_cases a1:97<=s[k].toNat
   all_goals by_cases a2:s[k].toNat<=122
   all_goals by_cases a3:48<=s[k].toNat
   all_goals by_cases a4:s[k].toNat<=57
   all_goals by_cases a5:s[k].toNat=46
   all_goals try omega
   all_goals clear hin
   all_goals go_wp2
   all_goals first | (exfalso;rename_i h;simp at h;omega) | (go_ret;exact⟨rfl,rfl⟩)
  obtain rfl:k=s.size:=by omega
  have hall:s.data.toList.all xN=true:=by
   rw[jnZ]
   intro c hc
   exact hpre c (by rw[jnD (by rw[<- jnu];exact jnd _)];exact hc)
  obtain rfl:B=true:=HB.out.symm.trans hall
  clear hpre hall HB
  go_wp2
  go_ret
  exact⟨rfl,rfl⟩
 have hg:zy s=false:=by unfold zy;simp;omega
 rw[hg]
 rcases(show s.size<1\/(1<=s.size/\20<s.size) by omega) with h|⟨h,h2⟩
 ·have d1:decide ((s.size:Int)<1)=true:=decide_eq_true (by omega)
  go_enter Tryz.func54,Tryz.ntmps54
  go_wp2
  go_ret
  exact⟨rfl,rfl⟩
 have d1:decide ((s.size:Int)<1)=false:=decide_eq_false (by omega)
 have d2:decide (20<(s.size:Int))=true:=decide_eq_true (by omega)
 go_enter Tryz.func54,Tryz.ntmps54
 go_wp2
 go_ret
 exact⟨rfl,rfl⟩
end Go.Proofs.YtpibhbjmcmfnmaaGreatDoor.Vf
namespace Go.Proofs.YtpibhbjmcmfnmaaGreatDoor.Vf
open Go.RowKit Go.Maps Go.Shelf Bk Rp
attribute [local go_sem] jT vL xo
theorem jhG(w:World):Calls Tryz.prog 13 #[.pointer none] w fun e w'=>e=.returned (.string ⟨#[]⟩)/\w=w':=by
 go_enter Tryz.func13,Tryz.ntmps13
 go_wp2_with fail
 go_ret
 exact⟨rfl,rfl⟩
theorem jhI(w:World):Calls Tryz.prog 23 #[.pointer none] w fun e w'=>e=.returned (.string ⟨#[]⟩)/\w=w':=by
 go_enter Tryz.func23,Tryz.ntmps23
 go_wp2_with fail
 go_ret
 exact⟨rfl,rfl⟩
theorem Yp(w:World):Calls Tryz.prog 19 #[.pointer none] w fun e w'=>e=.returned (qm 3)/\w=w':=by
 go_enter Tryz.func19,Tryz.ntmps19
 go_wp2_with fail
 go_ret
 exact⟨rfl,rfl⟩
theorem nil_append(w:World)(a:Option Addr)(n c:Nat):Calls Tryz.prog 12 #[.pointer none,.slice a n c] w fun e w'=>e=.returned (qm 3)/\w=w':=by
 have K:=jnc (Yp w)
 rw[xo]at K
 go_enter Tryz.func12,Tryz.ntmps12
 go_wp2_with fail
 refine K.out.mono ?_
 rintro e w' ⟨rfl,rfl⟩
 go_wp2_with fail
 go_ret
 exact⟨rfl,rfl⟩
theorem jhH(w:World)(x:ByteArray):Calls Tryz.prog 11 #[.pointer none,.string x] w fun e w'=>e=.returned (qm 3)/\Below w.heap.size w w':=by
 have K:Hid (∀W,Calls Tryz.prog 19 #[.pointer none] W fun e w'=>e=.returned (.iface 46 (.int .i64 3))/\W=w'):=Yp
 go_enter Tryz.func11,Tryz.ntmps11
 go_wp2_with fail
 refine(K.out _).mono ?_
 rintro e w' ⟨rfl,rfl⟩
 go_wp2_with fail
 go_ret
 exact⟨rfl,(jne _ _).alloc (jnd _) _⟩
theorem jeX(z:ByteArray)(w:World):Calls Tryz.prog 20 #[.string z] w fun e w'=>e=.returned (.bool (xM z))/\w=w':=by
 by_cases hz:z.size<=16
 ·have hz':(z.size:Int)<=16:=by omega
  have G:xM z=zy z:=by unfold xM;rw[decide_eq_true hz];rfl
  have K:=jnc (jjS z (by omega) w)
  rw[G]
  go_enter Tryz.func20,Tryz.ntmps20
  go_wp2_with fail
  refine K.out.mono ?_
  rintro e w' ⟨rfl,rfl⟩
  go_wp2_with fail
  go_ret
  exact⟨rfl,rfl⟩
 have hz':¬(z.size:Int)<=16:=by omega
 have G:xM z=false:=by unfold xM;rw[decide_eq_false hz];rfl
 rw[G]
 go_enter Tryz.func20,Tryz.ntmps20
 go_wp2_with fail
 go_ret
 exact⟨rfl,rfl⟩
theorem jhA(z:ByteArray)(w:World):Calls Tryz.prog 9 #[.pointer none,.string z] w fun e w'=>e=.returned (.tuple #[.pointer none,qm 1])/\w=w':=by
 go_enter Tryz.func9,Tryz.ntmps9
 go_wp2_with fail
 go_ret2
 exact⟨rfl,rfl⟩
theorem jhB(p:Nat)(z:ByteArray)(w:World)(hg:xM z=false):Calls Tryz.prog 9 #[.pointer (some ⟨p,0,none⟩),.string z] w fun e w'=>e=.returned (.tuple #[.pointer none,qm 1])/\Below w.heap.size w w':=by
 have K:=jnc (Jh z w)
 rw[hg]at K
 go_enter Tryz.func9,Tryz.ntmps9
 go_wp2_with fail
 refine K.out.mono ?_
 rintro e w' ⟨rfl,hb⟩
 go_wp2_with fail
 go_ret2
 exact⟨rfl,hb⟩
structure Xh(D:ji)(z:ByteArray):Prop where
 seen:D.seen=[(z.data.toList,0)]
 files:D.files=[QB]
 acts:D.acts.length=2
 gone:D.gone=false
theorem jdC(r:Int){z:ByteArray}(hz:zy z=true):Xh (vk (jV r) z) z:=by
 have hne:z.data.toList≠[]:=by
  unfold zy at hz
  simp at hz
  have h1:=hz.1.1
  intro e
  have h0:z.size=0:=by rw[jnu z,e];rfl
  omega
 have hs:Xl (jV r) z=false:=rfl
 obtain⟨h1,h2⟩:=ZC (D:=jV r) ⟨rfl,rfl⟩ hz hs
 have e1:(jJ (jV r) z).1={jbi (jV r) ⟨1,z,⟨#[]⟩,⟨#[]⟩,0⟩ with waits:=[]++[⟨⟨#[]⟩,z,0⟩],files:=[]++[QB]}:=by
  have e:zm (jV r).gone [z]=0:=by unfold zm;simp[hz,jV]
  unfold jJ
  rw[if_neg (by rw[e];exact fun q=>q rfl),if_neg (by show ¬(ya (jV r).seen z.data.toList).isSome=true;exact fun q=>by cases q),if_pos (show xX (jV r)=true from rfl)]
  rfl
 have e2:(jJ (jV r) z).1.seen=[(z.data.toList,0)]:=by
  rw[e1]
  show ve ([]:List UInt8) z.data.toList 0 []=_
  unfold ve
  rw[if_neg hne]
  rfl
 unfold vk
 rw[if_neg (by rw[hs];decide)]
 have e3:(zx (jJ (jV r) z).1).1={jbi (jJ (jV r) z).1 ⟨7,⟨#[]⟩,⟨#[]⟩,⟨#[]⟩,0⟩ with sure:=(jJ (jV r) z).1.seen,waits:=[]}:=by
  unfold zx
  rw[if_neg (by rw[h2.gone];decide),if_pos h2.can]
 rw[e3]
 refine⟨e2,?_,?_,?_⟩
 ·show(jJ (jV r) z).1.files=_
  rw[e1];rfl
 ·show((jJ (jV r) z).1.acts++[_]).length=2
  rw[e1];rfl
 show(jJ (jV r) z).1.gone=false
 exact h2.gone
theorem Xh.saw{D:ji}{z:ByteArray}(h:Xh D z):Xl D z=true:=by
 unfold Xl ya;rw[h.seen];simp
theorem Xh.read{D:ji}{z:ByteArray}(h:Xh D z)(hz:zy z=true):yx D z=(B [],0):=by
 have e:zP D z []=(0,0):=by
  rw[jav h.gone hz]
  unfold ya;rw[h.seen];simp
 unfold yx
 rw[if_neg (by rw[h.gone];decide),if_neg (by rw[e];exact fun q=>q rfl),e,h.files]
 rfl
theorem Xh.rising{D:ji}{z:ByteArray}(h:Xh D z)(hz:zy z=true):yw D.seen:=by
 have hne:z.data.toList≠[]:=by
  unfold zy at hz
  simp at hz
  have h1:=hz.1.1
  intro e
  have h0:z.size=0:=by rw[jnu z,e];rfl
  omega
 rw[h.seen]
 exact⟨by simp,fun x hx=>by rw[List.mem_singleton.1 hx];exact hne⟩
theorem jdk:qL Dc [] 0 [] [] []:=⟨Hd.gen_short (by decide),⟨_,(by kernel_rfl:jE []=.ok [])⟩,by kernel_rfl,⟨rfl,fun b h=>by cases h⟩,Wi⟩
end Go.Proofs.YtpibhbjmcmfnmaaGreatDoor.Vf
