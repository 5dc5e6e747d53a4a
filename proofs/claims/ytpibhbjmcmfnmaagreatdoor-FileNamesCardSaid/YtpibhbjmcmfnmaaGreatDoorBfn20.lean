/- Texts put together:GI,CA,CP,AB,DA,MA,MB,DB. -/
import Derived.Lib.AtoiAll
import Derived.Lib.ItoaLen
import Derived.Lib.CutLaws
import Derived.Test.YtpibhbjmcmfnmaaGreatDoorBfn19
set_option linter.unusedVariables false
set_option maxRecDepth 100000
set_option maxHeartbeats 16000000
namespace Go.Proofs.YtpibhbjmcmfnmaaGreatDoor
open Go.RowKit Go.Shelf Tryz
abbrev jnN:=@List.isPrefixOf_iff_prefix
abbrev jnU:=@Nat.xor_lt_two_pow
abbrev joa:=@Nat.testBit_xor
abbrev jog:=@Nat.mod_lt
abbrev joh:=@List.append_cancel_left
abbrev joo:=@Nat.xor_assoc
abbrev jow:=@Nat.eq_of_testBit_eq
namespace Rp
attribute [local go_sem] jmk
theorem jbW{fn:Func}{p u:Tmp}{ty:TypeId}(h:fn.results=#[.cell p ty,.tmp u])(tmps:Array Value)(P:Program)(w:World):
  (results fn tmps).run P w=((asAddr (tmps.getD p undef)).run P w).andThen fun a w₁=>((loadVar ty a).run P w₁).andThen fun v w₂=>.ok (.tuple #[v,tmps.getD u undef]) w₂:=by
 simp only[results,h]
 simp[Sem.run_bind,Result.andThen]
theorem jdD{fn:Func}{p u:Tmp}(h:fn.results=#[.cell p 228,.tmp u])(tmps:Array Value)(w:World)(b:Nat)(cur:Array Value)(hp:tmps.getD p undef=.pointer (some ⟨b,0,none⟩))
  (hc:ja w b 228 cur) (hz:cur.size=3):(results fn tmps).run prog w=.ok (.tuple #[.agg cur,tmps.getD u undef]) w:=by
 have L:=run_loadVar_row (P:=prog) w b 228 228 cur (0,0) _ hc underlying228 rfl (by rw[hz];kernel_rfl)
 rw[jbW h,hp]
 show((loadVar _ _).run _ _).andThen _=_
 rw[L];rfl
theorem jkL{W:World}{b:Nat}{T:TypeId}{a0 a1 a2:Value}(h:ja W b T #[a0,a1,a2])(v0 v1 v2:Value):
  ja (((W.setCell ⟨b,0,none⟩ v0).setCell ⟨b,1,none⟩ v1).setCell ⟨b,2,none⟩ v2) b T #[v0,v1,v2]/\jt (· = b) W (((W.setCell ⟨b,0,none⟩ v0).setCell ⟨b,1,none⟩ v1).setCell ⟨b,2,none⟩ v2):=by
 have k:=((h.set 0 v0).set 1 v1).set 2 v2
 refine⟨by simpa [List.setIfInBounds_toArray,List.set]using k,(((jt.refl (· = b) W).cellS 0 v0).cellS 1 v1).cellS 2 v2⟩
theorem jgh{w w':World}{s:List UInt8}{its:List It}{e:Ending}(h:OfR w s e w')(hp:jI s=.ok its)(hs:s.length<=60000):
  Below w.heap.size w w'/\∃lb ev ps,e=.returned (.tuple #[ptr lb,.nilIface])/\zP w.heap.size w' lb ev ps (vd its) s.length:=by
 obtain⟨b1,lb,ev,ps,rfl,hlb,hev,hla,hps⟩:=h.yes hp
 have h1:=xJ hp
 have hlen:(vd its).es.length<=s.length/\(vd its).next<=(s.length:Int)+1:=by
  have h2:(vd its).es.length=its.length:=Qy 1 its
  have h3:=(JW 1 its).2
  have h4:(vd its).next=jR 1 its:=rfl
  omega
 refine⟨b1,lb,ev,ps,rfl,hla,hps,jiQ hp,fun e he => ?_,hlb,hev,hlen.1,hlen.2⟩
 have h2:e.1∈its:=by rw[<- Zv 1 its];exact jnB he
 obtain⟨q1,q2⟩:=h1.2.2 _ h2
 exact⟨by omega,by omega⟩
theorem je8{S0:Nat}{w:World}{lb:Nat}{ev:Value}{ps:List Pr}{l:LS}{m b:Nat}{T:TypeId}{cur:Array Value}(C:zP S0 w lb ev ps l m)(hc:ja w b T cur)(hn:∀x∈cur,∀s,x ≠ .string s)(hb:b<S0):∀r,Yy lb ev ps (.slice none 0 0) [] r->r≠b:=by
 rintro r (rfl|h|h|⟨p,hp,hne,h⟩|⟨p,hp,_⟩) e
 ·have:=C.lb0;omega
 ·have:=C.ev0 r h;omega
 ·cases h
 ·exact jeE (C.la.lr.ents.each p hp).1 hne (by rw[h,e]) hc hn
 cases hp
def jjE:Value:=.agg #[.pointer none,.int .i64 0,.slice none 0 0]
def jby(w w':World)(s:List UInt8)(bs:List (List Ed))(e:Ending):Prop:=Below w.heap.size w w' /\
  ((∃a n u,jI s=.error (a,n)/\e=.returned (.tuple #[jjE,u])/\jn w.heap.size w' u a n) \/
   (∃its i u,jI s=.ok its/\yP (vd its) bs i/\e=.returned (.tuple #[jjE,u])/\jn w.heap.size w' u i 10) \/
   (∃its k lb ev ps gv us,jI s=.ok its/\vu (vd its) bs=some k/\e=.returned (.tuple #[.agg #[ptr lb,.int .i64 (vd its).next,gv],.nilIface])/\zP w.heap.size w' lb ev ps k (s.length+JE bs)/\Ux w.heap.size w' gv (ja2 (vd its) bs) us))
theorem jl0{w w7:World}(hB:Below w.heap.size w w7)(C7:ja w7 w.heap.size 228 #[.pointer none,.int .i64 0,.slice none 0 0])(k:Nat)(X:World)
  (hX:X=(((w7.alloc (.cells #[.int .i64 (k:Int),.iface 46 (.int .i64 10)] 135)).setCell ⟨w.heap.size,0,none⟩ (.pointer none)).setCell ⟨w.heap.size,1,none⟩ (.int .i64 0)).setCell ⟨w.heap.size,2,none⟩ (.slice none 0 0)) :
  Below w.heap.size w X/\ja X w.heap.size 228 #[.pointer none,.int .i64 0,.slice none 0 0]/\jn w.heap.size X (.iface 133 (.pointer (some ⟨w7.heap.size,0,none⟩))) k 10:=by
 subst hX
 have hF:=ja.new w7 135 #[.int .i64 (k:Int),.iface 46 (.int .i64 10)]
 have hb:=hB.alloc hB.size (.cells #[.int .i64 (k:Int),.iface 46 (.int .i64 10)] 135)
 obtain⟨h1,h2⟩:=jkL (C7.alloc (.cells #[.int .i64 (k:Int),.iface 46 (.int .i64 10)] 135)) (.pointer none) (.int .i64 0) (.slice none 0 0)
 have hlt:=C7.lt
 exact⟨hb.trans (h2.to_below hb.size (fun r hr e=>by omega)),h1,⟨w7.heap.size,hB.size,rfl,by rw[jX 10 (by decide)];exact hF.only h2 (fun e=>by omega)⟩⟩
theorem XW(s:List UInt8)(bs:List (List Ed))(v:Value)(w:World)(hs:s.length+JE bs<=5000)(hn:bs.length<=100000)(hv:BtV w v bs)(hb:jhT bs)(hg:ErrT w):
  Calls prog 154 #[.string (B s),v] w fun e w'=>jby w w' s bs e:=by
 obtain⟨w0,hw0⟩:∃z,w.alloc (.cells #[.pointer none,.int .i64 0,.slice none 0 0] 228)=z:=⟨_,rfl⟩
 have hb0:Below w.heap.size w w0:=by rw[<- hw0];exact(jmc _ w).alloc (jma _) _
 have hz0:w0.heap.size=w.heap.size+1:=by rw[<- hw0];simp
 have C0:ja w0 w.heap.size 228 #[.pointer none,.int .i64 0,.slice none 0 0]:=by rw[<- hw0];exact ja.new _ _ _
 have OF:=jl9 (jjX (B s) (by rw[jq];omega) w0)
 rw[ju]at OF
 have HB0:=jl9 hb0
 have HC0:=jl9 C0
 have HW0:=jl9 hw0
 have HZ0:=jl9 hz0
 have BV:Hid (∀W,Below w.heap.size w W->BtV W v bs/\ErrT W):=fun W hW=>⟨hv.below hW (jma _),hg.below hW (jma _)⟩
 have HBS:=jl9 hb
 obtain⟨A,cap,rfl,hcap,_⟩:=_root_.id hv
 clear hb0 C0 hw0 hz0 hv hg hb
 go_enter func154,ntmps154
 go_wp2_with fail
 rw[HW0.out]
 refine OF.out.mono ?_
 rintro e w1 hof
 clear OF
 cases hp:jI s with
 | error an =>
  obtain⟨a,n⟩:=an
  obtain⟨b1,u,rfl,hf⟩:=hof.no hp
  obtain⟨q,hq,rfl,hqc⟩:=hf
  have B1:=jl9 (HB0.out.trans (b1.mono HB0.out.size))
  have C1:=jd HC0.out b1 HC0.out.lt
  obtain⟨P1,o1⟩:=jkL C1 (.pointer none) (.int .i64 0) (.slice none 0 0)
  have HP1:=jl9 P1
  have BF:=jl9 (B1.out.trans (o1.to_below B1.out.size (fun r hr e=>by omega)))
  have hq1:w.heap.size+1<=q:=by have:=HZ0.out;omega
  have HF:=jl9 (show jn w.heap.size _ (.iface 133 (.pointer (some ⟨q,0,none⟩))) a n from⟨q,by omega,rfl,hqc.only o1 (fun e=>by omega)⟩)
  have c0:=C1.cell 0
  have c1:=C1.cell 1
  have c2:=C1.cell 2
  have f0:=C1.frozen 0
  have f1:=C1.frozen 1
  have f2:=C1.frozen 2
  simp only[jmh,jmm,jmg]at c0 c1 c2
  have HP:=jl9 hp
  clear hof hqc b1 C1 P1 o1 hp
  go_wp2_with fail
  refine bodyPost_ret (jdD rfl _ _ w.heap.size _ rfl HP1.out rfl) rfl ?_
  exact⟨BF.out,.inl ⟨a,n,_,HP.out,rfl,HF.out⟩⟩
 | ok its =>
 obtain⟨b1,lb,ev,ps,rfl,CY⟩:=jgh hof hp (by omega)
 have B1:=jl9 (HB0.out.trans (b1.mono HB0.out.size))
 have C1:=jl9 (jd HC0.out b1 HC0.out.lt)
 have hlo0:=HB0.out.size
 have HCY:=jl9 CY
 have NX:=jl9 (jgm lb ev ps _ w1 CY.la.lr ⟨by have:=CY.ok.pos;omega,by have:=CY.nx;omega⟩)
 have HP:=jl9 hp
 have hz1:=b1.size
 clear hof hp b1 CY
 unfold ptr at *
 go_wp2_with fail
 refine NX.out.mono ?_
 rintro e w1' ⟨rfl,rfl⟩
 obtain⟨w2,hw2⟩:∃z,w1.alloc (.cells #[.pointer (some ⟨lb,0,none⟩),.int .i64 (vd its).next,.slice none 0 0] 228)=z:=⟨_,rfl⟩
 have b12:Below w1.heap.size w1 w2:=by rw[<- hw2];exact(jmc _ _).alloc (jma _) _
 have C2:ja w2 w1.heap.size 228 #[.pointer (some ⟨lb,0,none⟩),.int .i64 (vd its).next,.slice none 0 0]:=by rw[<- hw2];exact ja.new _ _ _
 have B2:=jl9 (B1.out.trans (b12.mono B1.out.size))
 have CR2:=jl9 (jd C1.out b12 (by have:=HZ0.out;omega))
 have PL2:=jl9 (show Uv w0.heap.size w2 w1.heap.size (vd its).next (vd its) (s.length+JE (bs.take 0)) (ja2 (vd its) (bs.take 0)) from⟨⟨lb,ev,ps,_,[],C2,by simpa [JE]using HCY.out.below b12 (jma _),Ux.nil _ _⟩,hz1⟩)
 have HW2:=jl9 hw2
 have hlow:w.heap.size<w0.heap.size:=by have:=HZ0.out;omega
 generalize hl0:vd its=l0 at *
 clear NX HCY b12 C2 hw2
 go_wp2_with fail
 rw[HW2.out]
 go_loopw [26] (fun iv wr=>∃(i:Nat) (k:LS),i<=bs.length/\iv=.int .i64 (i:Nat)/\vu l0 (bs.take i)=some k/\Below w.heap.size w wr/\ja wr w.heap.size 228 #[.pointer none,.int .i64 0,.slice none 0 0]/\Uv w0.heap.size wr w1.heap.size l0.next k (s.length+JE (bs.take i)) (ja2 l0 (bs.take i))) (fun iv _=>bs.length-(intOf iv).toNat)
 case atStart=>exact⟨0,l0,jmo _,rfl,rfl,B2.out,CR2.out,PL2.out⟩
 case round =>
 obtain⟨i,k,hi,rfl,hpl,hb,hC,hP⟩:=hrel
 by_cases hlt:i<bs.length
 ·obtain⟨x,hx⟩:∃x,bs[i]?=some x:=⟨_,jmd hlt⟩
  obtain⟨hbv,hge⟩:=BV.out wr hb
  obtain⟨A',cap',e',_,hc⟩:=_root_.id hbv
  obtain⟨g,off,u,eA,hgl,cg,hu⟩:=hc i x hx
  injection e' with e1 e2 e3
  subst e1
  subst e3
  subst eA
  obtain⟨ua,uc,rfl,_⟩:=_root_.id hu
  have hst:=KV bs i
  have hDO:=jl9 (jhL hP x _ hu (HBS.out x (jmx hx)) hge (by omega) (by rw[jex,jmi];omega))
  have HCR:=jl9 hC
  have HB:=jl9 hb
  have HPL:=jl9 hpl
  have HX:=jl9 hx
  clear hP hC hb hpl hx hbv hge hc hu hst
  go_wp2_with fail
  refine hDO.out.mono ?_
  rintro e w5 ⟨b5,h5⟩
  have B5:=jl9 (HB.out.trans (b5.mono (by omega)))
  have C5:=jd HCR.out b5 hlow
  rcases h5 with ⟨h0,rfl⟩|⟨h0,rfl,hP5⟩
  ·
   have RF:=jl9 (show yP l0 bs i from⟨k,x,HPL.out,HX.out,h0⟩)
   have CA:=jl9 (jl0 B5.out C5 i)
   have c0:=C5.cell 0
   have c1:=C5.cell 1
   have c2:=C5.cell 2
   simp only[jmh,jmm,jmg]at c0 c1 c2
   have d0:∀o,(w5.alloc o).cell? ⟨w.heap.size,0,none⟩=_:=fun o=>((C5.alloc o).cell 0).trans rfl
   have d1:∀o,(w5.alloc o).cell? ⟨w.heap.size,1,none⟩=_:=fun o=>((C5.alloc o).cell 1).trans rfl
   have d2:∀o,(w5.alloc o).cell? ⟨w.heap.size,2,none⟩=_:=fun o=>((C5.alloc o).cell 2).trans rfl
   have g0:∀o,(w5.alloc o).frozen? ⟨w.heap.size,0,none⟩=false:=fun o=>(C5.alloc o).frozen 0
   have g1:∀o,(w5.alloc o).frozen? ⟨w.heap.size,1,none⟩=false:=fun o=>(C5.alloc o).frozen 1
   have g2:∀o,(w5.alloc o).frozen? ⟨w.heap.size,2,none⟩=false:=fun o=>(C5.alloc o).frozen 2
   clear b5 C5 hDO h0
   go_wp2_with fail
   refine bodyPost_ret (jdD rfl _ _ w.heap.size _ rfl (CA.out _ rfl).2.1 rfl) rfl ?_
   exact⟨(CA.out _ rfl).1,.inr (.inl ⟨its,i,_,HP.out,by rw[hl0];exact RF.out,rfl,(CA.out _ rfl).2.2⟩)⟩
  have HC5:=jl9 C5
  have HP5:=jl9 hP5
  have PN:Hid (vu l0 (bs.take (i+1))=some (vQ k x)):=by
   show _=_
   rw[XG HX.out,YV HPL.out,if_pos h0]
  have GN:Hid (ja2 l0 (bs.take (i+1))=ja2 l0 (bs.take i)++[zp k x]):=by
   show _=_
   rw[XG HX.out,ja1 _ _ _ _ HPL.out]
  have SN:Hid (JE (bs.take (i+1))=JE (bs.take i)+x.length):=jh3 HX.out
  clear b5 C5 hP5 hDO h0
  go_wp2_with fail
  go_roundw
  case rel=>exact⟨i+1,vQ k x,hlt,by go_num,PN.out,B5.out,HC5.out,by rw[GN.out,SN.out,<- jnM];exact HP5.out⟩
  case measure=>simp[intOf];omega
 have hil:bs.take i=bs:=jmH (by omega)
 rw[hil]at hpl hP
 obtain⟨⟨lbk,evk,psk,gvk,usk,cK,CK,GK⟩,_⟩:=hP
 obtain⟨ga,gc,rfl,_⟩:=jf GK.row
 obtain⟨PE,oE⟩:=jkL hC (ptr lbk) (.int .i64 l0.next) (.slice ga (ja2 l0 bs).length gc)
 have KE:=CK.only oE (fun r hr e=>je8 CK hC (by intro x hx s;simp at hx;rcases hx with rfl | rfl | rfl<;>exact fun h=>by cases h) hlow r hr e)
 have GE:=GK.box hC (by decide) (by decide) oE
 have HKE:=jl9 (show zP w.heap.size _ lbk evk psk k (s.length+JE bs) from⟨KE.la,KE.es,KE.ok,KE.sz,by have:=KE.lb0;omega,fun b e=>by have:=KE.ev0 b e;omega,KE.len,KE.nx⟩)
 have HGE:=jl9 (show Ux w.heap.size _ _ (ja2 l0 bs) usk from⟨ze GE.row (by omega),fun i g u h1 h2=>ze (GE.each i g u h1 h2) (by omega)⟩)
 have HPE:=jl9 PE
 have BE:=jl9 (hb.trans (oE.to_below hb.size (fun r hr e=>by omega)))
 have HPL:=jl9 hpl
 have c0:=hC.cell 0
 have c1:=hC.cell 1
 have c2:=hC.cell 2
 have f0:=hC.frozen 0
 have f1:=hC.frozen 1
 have f2:=hC.frozen 2
 have d0:=cK.cell 0
 have d1:=cK.cell 1
 have d2:=cK.cell 2
 simp only[jmh,jmm,jmg]at c0 c1 c2 d0 d1 d2
 clear hpl cK CK GK PE oE KE GE hb hC
 unfold ptr at *
 go_wp2_with fail
 refine bodyPost_ret (jdD rfl _ _ w.heap.size _ rfl HPE.out rfl) rfl ?_
 exact⟨BE.out,.inr (.inr ⟨its,k,lbk,evk,psk,_,usk,HP.out,by rw[hl0];exact HPL.out,by rw[hl0];rfl,HKE.out,by rw[hl0];exact HGE.out⟩)⟩
end Rp
namespace Sm.M
def st(x:Nat):Nat:=if x / 2147483648=1 then (x*2 % 4294967296) ^^^ 79764919 else x*2 % 4294967296
def stn:Nat->Nat->Nat
 | 0,x=>x
 | n+1,x=>stn n (st x)
def jiU(x c:Nat):Nat:=stn 8 (x ^^^ (c*16777216))
def feed(x:Nat)(l:List UInt8):Nat:=l.foldl (fun x c=>jiU x c.toNat) x
theorem jib(x:Nat):st x<4294967296:=by
 unfold st
 split
 ·exact jnU (n:=32) (jog _ (by decide)) (by decide)
 exact jog _ (by decide)
theorem stn_lt(n x:Nat)(h:x<4294967296):stn n x<4294967296:=by
 induction n generalizing x with
 | zero=>exact h
 | succ n ih=>exact ih _ (jib x)
theorem stn_succ(n x:Nat):stn (n+1) x=st (stn n x):=by
 induction n generalizing x with
 | zero=>rfl
 | succ n ih=>show stn (n+1) (st x)=st (stn n (st x));exact ih _
theorem jg0(x c:Nat)(h:x<4294967296)(hc:c<256):jiU x c<4294967296 :=
 stn_lt _ _ (jnU (n:=32) h (by omega))
theorem feed_lt(l:List UInt8)(x:Nat)(h:x<4294967296):feed x l<4294967296:=by
 induction l generalizing x with
 | nil=>exact h
 | cons c l ih=>exact ih _ (jg0 x _ h c.toNat_lt)
theorem feed_append(x:Nat)(l r:List UInt8):feed x (l++r)=feed (feed x l) r:=by
 simp[feed,List.foldl_append]
theorem feed_snoc(x:Nat)(l:List UInt8)(c:UInt8):feed x (l++[c])=jiU (feed x l) c.toNat:=by
 simp[feed,List.foldl_append]
theorem tb(x i:Nat)(h:x<4294967296):(x*2 % 4294967296).testBit i=(decide (i<32)&&decide (0<i)&&x.testBit (i-1)):=by
 have:(x*2 % 4294967296)=(x <<< 1) % 2 ^ 32:=by rw[Nat.shiftLeft_eq]
 rw[this,Nat.testBit_mod_two_pow,Nat.testBit_shiftLeft]
 by_cases h1:i<32<;>by_cases h2:0<i<;>simp[h1,h2]<;>omega
theorem top(x:Nat)(h:x<4294967296):(x / 2147483648=1)↔x.testBit 31=true:=by
 rw[Nat.testBit_eq_decide_div_mod_eq,show 2 ^ 31=2147483648 from rfl]
 simp;omega
theorem jie(x y:Nat)(hx:x<4294967296)(hy:y<4294967296):(x ^^^ y)*2 % 4294967296=(x*2 % 4294967296) ^^^ (y*2 % 4294967296):=by
 apply jow
 intro i
 rw[tb _ _ (jnU (n:=32) hx hy),joa,joa,tb _ _ hx,tb _ _ hy]
 cases decide (i<32)<;>cases decide (0<i)<;>simp
theorem jjM(x y:Nat)(hx:x<4294967296)(hy:y<4294967296):st (x ^^^ y)=st x ^^^ st y:=by
 have hxy:x ^^^ y<4294967296:=jnU (n:=32) hx hy
 unfold st
 rw[jie x y hx hy]
 simp only[top x hx,top y hy,top _ hxy,joa]
 generalize x*2 % 4294967296=a
 generalize y*2 % 4294967296=b
 generalize 79764919=p
 cases x.testBit 31<;>cases y.testBit 31<;>simp
 ·rw[joo]
 ·rw[joo,joo,Nat.xor_comm b p]
 rw[joo,Nat.xor_comm p,joo,Nat.xor_self,Nat.xor_zero]
theorem jh5(n x y:Nat)(hx:x<4294967296)(hy:y<4294967296):stn n (x ^^^ y)=stn n x ^^^ stn n y:=by
 induction n generalizing x y with
 | zero=>rfl
 | succ n ih=>show stn n (st _)=_;rw[jjM x y hx hy,ih _ _ (jib x) (jib y)];rfl
theorem jjN(x:Nat)(h:x<2147483648):st x=x*2:=by
 unfold st;rw[if_neg (by omega)];omega
theorem jh6(n x:Nat)(h:x*2 ^ n<4294967296):stn n x=x*2 ^ n:=by
 induction n generalizing x with
 | zero=>simp[stn]
 | succ n ih =>
 have e:x*2 ^ (n+1)=x*2*2 ^ n:=by rw[Nat.pow_succ,Nat.mul_comm (2 ^ n) 2,Nat.mul_assoc]
 have hx:x<2147483648:=by
  have:=Nat.one_le_two_pow (n:=n)
  have h2:x*2*1<=x*2*2 ^ n:=Nat.mul_le_mul_left _ this
  omega
 show stn n (st x)=_
 rw[jjN x hx,ih _ (by rw[<- e];exact h),e]
theorem four(x:Nat)(hx:x<4294967296):stn 4 x=(x*16 % 4294967296) ^^^ stn 4 (x / 268435456*268435456):=by
 have e:x=(x / 268435456*268435456) ^^^ (x % 268435456):=by
  have h:=Nat.two_pow_add_eq_or_of_lt (i:=28) (b:=x % 268435456) (jog _ (by decide)) (x / 268435456)
  have h2:x / 268435456*268435456 ^^^ x % 268435456=2 ^ 28*(x / 268435456)+x % 268435456:=by
   rw[Nat.mul_comm,show(268435456:Nat)=2 ^ 28 from rfl]
   apply jow
   intro i
   rw[h,joa,Nat.testBit_or,Nat.testBit_two_pow_mul,Nat.testBit_mod_two_pow]
   by_cases hi:i<28
   ·simp[hi,Nat.not_le.2 hi]
   simp[hi]
  omega
 have hh:x / 268435456*268435456<4294967296:=by omega
 have hl:x % 268435456<4294967296:=by omega
 conv=>lhs;rw[e]
 rw[jh5 4 _ _ hh hl,jh6 4 (x % 268435456) (by omega),Nat.xor_comm]
 congr 1
 omega
theorem m24(c:Nat)(h:c<256):c*16777216<4294967296:=by omega
theorem m16(c:Nat)(h:c<256):c*65536<16777216:=by omega
theorem a1(t:Nat):t*65536*256=t*16777216:=by omega
theorem a2(t:Nat):t*256*256=t*65536:=by omega
theorem up(y:Nat)(h:y<16777216):y<4294967296:=by omega
theorem z24(p y:Nat)(h:p*16777216=y)(hy:y<16777216):p=0/\y=0:=by omega
end Sm.M
namespace Sm
def cat(ss:List ByteArray):List UInt8:=ss.flatMap (·.data.toList)
theorem jhj(ss:List ByteArray)(k:Nat)(s:ByteArray)(h:ss[k]?=some s):cat (ss.take (k+1))=cat (ss.take k)++s.data.toList:=by
 have hk:k<ss.length:=by
  rcases jmF k ss.length with h'|h'
  ·exact h'
  rw[jmZ h']at h;cases h
 rw[jnk hk,cat,jmL]
 have:ss[k]=s:=by rw[jmd hk]at h;injection h
 rw[this]
 simp[cat]
def M.crc(l:List UInt8):Nat:=4294967295-M.feed 4294967295 l
theorem M.crc_lt(l:List UInt8):M.crc l<4294967296:=by unfold M.crc;omega
def dg(n:Nat):UInt8:=if n<10 then UInt8.ofNat (48+n) else UInt8.ofNat (87+n)
def figs(x:Nat):ByteArray:=⟨#[dg (x / 268435456 % 16),dg (x / 16777216 % 16),dg (x / 1048576 % 16),dg (x / 65536 % 16),dg (x / 4096 % 16),dg (x / 256 % 16),dg (x / 16 % 16),dg (x % 16)]⟩
def val(c:Nat):Option Nat:=if 48<=c/\c<=57 then some (c-48) else if 97<=c/\c<=102 then some (c-87) else none
def DIG:List UInt8:=[48,49,50,51,52,53,54,55,56,57,97,98,99,100,101,102]
def ix(c:Nat):Int:=match val c with | some d=>d | none => -1
theorem jjG{c d:Nat}(h:val c=some d):d<16:=by
 unfold val at h
 split at h
 ·injection h;omega
 split at h
 ·injection h;omega
 cases h
def tk(acc:Nat):List UInt8->Option Nat
 | []=>some acc
 | c::l=>match val c.toNat with
  | none=>none
  | some d=>tk (acc*16 % 4294967296+d) l
def takes(l:List UInt8):Option Nat:=if l.length=8 then tk 0 l else none
theorem jkt:∀(c:Fin 256) (k:Fin 16),((dg k.val).toNat=c.val)↔(val c.val=some k.val):=by decide +kernel
theorem jjH{n:Nat}(h:n<16):val (dg n).toNat=some n:=by
 exact(jkt ⟨(dg n).toNat,(dg n).toNat_lt⟩ ⟨n,h⟩).1 rfl
theorem KR(acc n:Nat)(l:List UInt8)(h:n<16):tk acc (dg n::l)=tk (acc*16 % 4294967296+n) l:=by
 rw[tk,jjH h]
theorem takes_figs(x:Nat)(hx:x<4294967296):takes (figs x).data.toList=some x:=by
 unfold takes
 rw[if_pos (show(figs x).data.toList.length=8 from rfl)]
 have e:(figs x).data.toList=[dg (x / 268435456 % 16),dg (x / 16777216 % 16),dg (x / 1048576 % 16),dg (x / 65536 % 16),dg (x / 4096 % 16),dg (x / 256 % 16),dg (x / 16 % 16),dg (x % 16)]:=rfl
 rw[e,KR _ _ _ (by omega),KR _ _ _ (by omega),KR _ _ _ (by omega),KR _ _ _ (by omega),KR _ _ _ (by omega),KR _ _ _ (by omega),KR _ _ _ (by omega),KR _ _ _ (by omega)]
 rw[show 0*16 % 4294967296+x / 268435456 % 16=x / 268435456 by omega,show x / 268435456*16 % 4294967296+x / 16777216 % 16=x / 16777216 by omega,
  show x / 16777216*16 % 4294967296+x / 1048576 % 16=x / 1048576 by omega,show x / 1048576*16 % 4294967296+x / 65536 % 16=x / 65536 by omega,
  show x / 65536*16 % 4294967296+x / 4096 % 16=x / 4096 by omega,show x / 4096*16 % 4294967296+x / 256 % 16=x / 256 by omega,
  show x / 256*16 % 4294967296+x / 16 % 16=x / 16 by omega,show x / 16*16 % 4294967296+x % 16=x by omega]
 rfl
end Sm
section
open Go.Lib
theorem Kp{u:Nat}(h:u<10):(UInt8.ofNat (48+u)).toNat=48+u:=by
 rw[UInt8.toNat_ofNat'];omega
theorem vF(u:Nat):∀c∈decDigits u,48<=c.toNat/\c.toNat<=57:=by
 induction u using Nat.strongRecOn with
 | _ u ih =>
 intro c hc
 by_cases h:u<10
 ·rw[decDigits_one h]at hc
  rw[List.mem_singleton.1 hc,Kp h];omega
 rw[decDigits,dif_neg h]at hc
 rcases List.mem_append.1 hc with hc|hc
 ·exact ih (u / 10) (by omega) c hc
 rw[List.mem_singleton.1 hc,Kp (by omega)];omega
theorem jbh(u:Nat):decDigits u≠[]:=by
 intro h
 have:=decDigits_length u
 have:=nDigits_pos u
 rw[h]at *;simp at *;omega
theorem YZ(c:UInt8):∀(l:List UInt8) (acc:Nat),parseUint10 acc (l++[c])=(match parseUint10 acc l with | .ok a=>parseUint10 a [c] | NumEnd.syntax=>NumEnd.syntax | .range=>.range)
 | [],acc=>rfl
 | d::r,acc=>by
  show parseUint10 acc (d::(r++[c]))=_
  unfold parseUint10
  split
  ·split
   ·rfl
   split
   ·rfl
   exact YZ c r _
  rfl
theorem JO(u:Nat)(hu:u<18446744073709551616):parseUint10 0 (decDigits u)=.ok u:=by
 induction u using Nat.strongRecOn with
 | _ u ih =>
 by_cases h:u<10
 ·rw[decDigits_one h]
  unfold parseUint10
  rw[Kp h,if_pos (by omega),if_neg (by omega),if_neg (by omega)]
  unfold parseUint10
  congr 1;omega
 rw[decDigits,dif_neg h,YZ,ih (u / 10) (by omega) (by omega)]
 show parseUint10 (u / 10) _=_
 unfold parseUint10
 rw[Kp (show u % 10<10 by omega),if_pos (by omega),if_neg (by omega),if_neg (by omega)]
 unfold parseUint10
 congr 1;omega
def I64(n:Int):Prop := -9223372036854775808<=n/\n<=9223372036854775807
theorem jfh{n:Int}(h:I64 n):atoiAll (itoa n)=.ok n:=by
 obtain⟨h0,h1⟩:=h
 unfold itoa
 by_cases hn:n<0
 ·rw[if_pos hn]
  unfold atoiAll
  have e45:(45:UInt8).toNat=45:=rfl
  simp only[e45,or_true,if_true]
  have hm:parseMag (decDigits n.natAbs)=.ok n.natAbs:=by
   unfold parseMag
   rw[if_neg (jbh _),JO _ (by omega)]
  rw[hm]
  simp only[not_true,false_and,if_false,true_and]
  rw[if_neg (by omega)]
  congr 1;omega
 rw[if_neg hn]
 have hm:parseMag (decDigits n.toNat)=.ok n.toNat:=by
  unfold parseMag
  rw[if_neg (jbh _),JO _ (by omega)]
 cases hd:decDigits n.toNat with
 | nil=>exact absurd hd (jbh _)
 | cons c r =>
 have hc:=vF n.toNat c (by rw[hd];exact jml)
 unfold atoiAll
 simp only
 rw[if_neg (by omega),<- hd,hm]
 simp only
 rw[if_neg (by omega),if_neg (by omega),if_neg (by omega)]
 congr 1;omega
def qH(l:List UInt8):Int:=match atoiAll l with | .ok v=>v | NumEnd.syntax=>0 | .range=>atoiSat l
theorem yt{n:Int}(h:I64 n):qH (itoa n)=n:=by unfold qH;rw[jfh h]
theorem jce(n:Int):∀c∈itoa n,c.toNat=45\/(48<=c.toNat/\c.toNat<=57):=by
 intro c hc
 unfold itoa at hc
 split at hc
 ·rcases List.mem_cons.1 hc with rfl|hc
  ·exact .inl rfl
  exact .inr (vF _ c hc)
 exact .inr (vF _ c hc)
theorem jiz{n:Int}{c:UInt8}(h1:c.toNat≠45)(h2:c.toNat<48\/57<c.toNat):c∉itoa n:=fun hc=>by
 have:=jce n c hc
 omega
theorem jgw{a b:Int}(ha:I64 a)(hb:I64 b)(h:itoa a=itoa b):a=b:=by
 rw[<- yt ha,<- yt hb,h]
end
namespace Fr
open Go.Lib
def sp:Bool->List UInt8->Bool
 | _,[]=>true
 | s,c::l=>(!s || c==32)&&sp (c==10) l
def yI(s:Bool)(l:List UInt8):Bool:=match l.getLast? with | none=>s | some c=>c==10
def vW(l:List UInt8):Bool:=l.getLast?==some 10
def goodR(l:List UInt8):Bool:=decide (2<=l.length)&&decide (l.length<=50000)&&vW l&&sp true l
def AMD:List UInt8:=[37,97,109,101,110,100,32]
def END:List UInt8:=[37,101,110,100,32]
def zq(n:Nat)(f:List UInt8):List UInt8:=AMD++(decDigits n++32::f)
def qo(n:Nat):List UInt8:=END++(decDigits n++[10])
def recR(n:Nat)(f b:List UInt8):List UInt8:=zq n f++10::(b++qo n)
def xu(b:List UInt8):List UInt8:=(Sm.figs (Sm.M.crc b)).data.toList
def fullR(b:List UInt8):List UInt8:=recR b.length (xu b) b
def UW(f:List UInt8):Prop:=∃x,Sm.takes f=some x
structure Uw(l:List UInt8)(n:Nat)(f:List UInt8):Prop where
 lo:2<=n
 hi:n<=50000
 fig:UW f
 eq:l=zq n f
def xF(t:List UInt8):Prop:=∃n f b z,goodR b=true/\b.length=n/\UW f/\t++z=recR n f b/\z≠[]
def vr(t b:List UInt8):Prop:=goodR b=true/\∃more,t=fullR b++more
def yv(t:List UInt8)(k:Nat)(b:List UInt8)(n:Nat):Prop :=
 (vr t b/\k=1/\n=(fullR b).length)\/(xF t/\k=2/\b=[]/\n=0)\/(¬xF t/\(¬∃b,vr t b)/\k=3/\b=[]/\n=0)
theorem ji7{a b:Nat}(ha:a<18446744073709551616)(hb:b<18446744073709551616)(h:decDigits a=decDigits b):a=b:=by
 have h1:=JO a ha
 rw[h,JO b hb]at h1
 injection h1 with h1
 exact h1.symm
theorem yM{n:Nat}(h:¬n<10):decDigits n=decDigits (n / 10)++[UInt8.ofNat (48+n % 10)]:=by rw[decDigits,dif_neg h]
theorem QB{n:Nat}(h:n<=99999):(decDigits n).length<=5:=by
 have step:∀(k m:Nat),(m<10 ^ k->(decDigits m).length<=k)->∀u,u<10 ^ (k+1)->(u / 10=m\/u<10)->(decDigits u).length<=k+1:=by
  intro k m ih u hu hm
  by_cases h10:u<10
  ·rw[decDigits_one h10];simp
  rcases hm with hm|hm
  ·rw[yM h10,jmb,hm]
   have:m<10 ^ k:=by rw[Nat.pow_succ]at hu;omega
   have:=ih this
   simp;omega
  exact absurd hm h10
 have h0:∀k u:Nat,1<=k->u<10 ^ k->(decDigits u).length<=k:=by
  intro k
  induction k with
  | zero=>intro u hk;omega
  | succ k ih =>
  intro u _ hu
  by_cases hk:k=0
  ·subst hk
   rw[decDigits_one (by simpa using hu)];simp
  exact step k (u / 10) (ih (u / 10) (by omega)) u hu (.inl rfl)
 exact h0 5 n (by omega) (by omega)
theorem jcJ:∀(n:Nat) (ds r:List UInt8),ds≠[]->ds++r=decDigits n->∃v,ds=decDigits v/\v<=n/\(1<=n->1<=v):=by
 intro n
 induction n using Nat.strongRecOn with
 | _ n ih =>
 intro ds r hd h
 by_cases h10:n<10
 ·rw[decDigits_one h10]at h
  cases ds with
  | nil=>exact absurd rfl hd
  | cons c ds =>
  have hl:=congrArg List.length h
  simp only[jmb,jme,jmB]at hl
  obtain⟨rfl,rfl⟩:ds=[]/\r=[]:=by constructor<;>apply jnb<;>omega
  exact⟨n,by rw[decDigits_one h10];simpa using h,jma _,id⟩
 rcases List.eq_nil_or_concat r with rfl|⟨r0,x,rfl⟩
 ·exact⟨n,by simpa using h,jma _,id⟩
 rw[yM h10,List.concat_eq_append,<- jmA]at h
 have h1:=(List.append_inj' h rfl).1
 obtain⟨v,e,hv,h1v⟩:=ih (n / 10) (by omega) ds r0 hd h1
 exact⟨v,e,by omega,fun _=>h1v (by omega)⟩
theorem jg9(n:Nat):(10:UInt8)∉decDigits n:=fun h=>by have:=vF n _ h;simp at this
theorem Kr(n:Nat):(32:UInt8)∉decDigits n:=fun h=>by have:=vF n _ h;simp at this
theorem Vw{f:List UInt8}(h:UW f):f.length=8:=by
 obtain⟨x,h⟩:=h
 unfold Sm.takes at h
 split at h
 ·assumption
 cases h
def jjr(c:UInt8):Bool:=(Sm.val c.toNat).isSome
theorem jhw:∀(l:List UInt8) (acc:Nat),(∃x,Sm.tk acc l=some x)↔l.all jjr=true
 | [],acc=>by simp[Sm.tk]
 | c::l,acc=>by
  unfold Sm.tk
  cases hv:Sm.val c.toNat with
  | none=>simp[jjr,hv]
  | some d=>simp only[jn5,jjr,hv,Option.isSome_some,jnL];exact jhw l _
theorem QA{f:List UInt8}:UW f↔f.length=8/\f.all jjr=true:=by
 unfold UW Sm.takes
 by_cases h:f.length=8
 ·simp only[h,if_true,true_and];exact jhw f 0
 simp[h]
theorem jkc{c:UInt8}(h:jjr c=true):c≠10/\c≠32:=by
 constructor<;>(rintro rfl;revert h;decide)
theorem jgW{f:List UInt8}(h:UW f):(10:UInt8)∉f:=fun hm=>(jkc (List.all_eq_true.1 (QA.1 h).2 _ hm)).1 rfl
theorem vv(b:List UInt8):UW (xu b):=⟨_,Sm.takes_figs _ (Sm.M.crc_lt b)⟩
theorem vN{n:Nat}{f:List UInt8}(h:UW f):(10:UInt8)∉zq n f:=by
 unfold zq AMD
 have:=jg9 n
 have:=jgW h
 simp_all
theorem split_at{m:UInt8}:∀{a b x y:List UInt8},m∉a->m∉b->a++m::x=b++m::y->a=b/\x=y
 | [],[],x,y,_,_,h=>by simpa using h
 | [],c::b,x,y,_,hb,h=>by simp at h;exact absurd (h.1▸jml) hb
 | c::a,[],x,y,ha,_,h=>by simp at h;exact absurd (h.1▸jml) ha
 | c::a,d::b,x,y,ha,hb,h=>by
  simp only[jmu,List.cons.injEq]at h
  obtain⟨rfl,h⟩:=h
  obtain⟨rfl,rfl⟩:=split_at (fun q=>ha (jmj _ q)) (fun q=>hb (jmj _ q)) h
  exact⟨rfl,rfl⟩
theorem Kd{n n':Nat}{f f':List UInt8}(hn:n<=50000)(hn':n'<=50000)(h:zq n f=zq n' f'):n=n'/\f=f':=by
 unfold zq at h
 have h1:=joh h
 obtain⟨h2,h3⟩:=split_at (Kr n) (Kr n') h1
 exact⟨ji7 (by omega) (by omega) h2,h3⟩
end Fr
namespace Hd
open Go.Lib
def jao:List UInt8:=[35,37,103,101,110,32]
def qZ(g:Nat):List UInt8:=jao++(decDigits g++[10,10])
def Of(t:List UInt8)(g:Nat):Prop:=1<=g/\g<=2147483648/\∃r,t=qZ g++r
def Yw(t:List UInt8)(n:Nat):Prop:=Of t n\/(n=0/\∀g,¬Of t g)
theorem je1(n:Nat):(10:UInt8)∉decDigits n:=fun h=>by have:=vF n _ h;simp at this
theorem ji5{a b:Nat}(ha:a<=2147483648)(hb:b<=2147483648)(h:decDigits a=decDigits b):a=b:=by
 have e:itoa (a:Int)=itoa (b:Int):=by rw[itoa_nonneg,itoa_nonneg,h]
 have:=jgw (by constructor<;>omega) (by constructor<;>omega) e
 omega
theorem zA(g:Nat)(r:List UInt8):qZ g++r=jao++(decDigits g++10::(10::r)):=by unfold qZ;simp
theorem jaZ{a b:Nat}(ha:a<=2147483648)(hb:b<=2147483648){r q:List UInt8}(h:qZ a++r=qZ b++q):a=b/\r=q:=by
 rw[zA,zA]at h
 obtain⟨h1,h2⟩:=Fr.split_at (je1 a) (je1 b) (joh h)
 exact⟨ji5 ha hb h1,by simpa using h2⟩
theorem jjW{t:List UInt8}{a b:Nat}(h:Of t a)(h':Of t b):a=b:=by
 obtain⟨_,h2,r,e⟩:=h
 obtain⟨_,h4,q,e'⟩:=h'
 exact(jaZ h2 h4 (e.symm.trans e')).1
theorem gen_one{t:List UInt8}{a b:Nat}(h:Yw t a)(h':Yw t b):a=b:=by
 rcases h with h|⟨rfl,h⟩<;>rcases h' with h'|⟨rfl,h'⟩
 ·exact jjW h h'
 ·exact absurd h (h' _)
 ·exact absurd h' (h _)
 rfl
theorem je0(g:Nat)(hg:g<=2147483648):1<=(decDigits g).length/\(decDigits g).length<=20:=by
 constructor
 ·have:=jbh g
  cases h:decDigits g with
  | nil=>exact absurd h this
  | cons a l=>simp
 rw[decDigits_length];exact nDigits_le20 g (by omega)
theorem jgE(g:Nat)(hg:g<=2147483648):9<=(qZ g).length/\(qZ g).length<=28:=by
 have:=je0 g hg
 unfold qZ jao
 simp only[jmb,jme,jmB];omega
theorem Kd{a b:Nat}(ha:a<=2147483648)(hb:b<=2147483648):qZ a=qZ b↔a=b :=
 ⟨fun h=>(jaZ (r:=[]) (q:=[]) ha hb (by rw[h])).1,fun h=>by rw[h]⟩
theorem jaW:∀(ds r:List UInt8),(10:UInt8)∉ds->index (ds++10::10::r) [10,10]=ds.length
 | [],r,_=>by simp[index]
 | c::ds,r,h=>by
  have hc:c≠10:=fun e=>h (by simp[e])
  have ih:=jaW ds r (fun q=>h (jmj _ q))
  have hp:List.isPrefixOf [10,10] (c::(ds++10::10::r))=false:=by
   have hb:((10:UInt8)==c)=false:=by simpa using fun e=>hc e.symm
   simp[List.isPrefixOf,hb]
  rw[jmu,index,hp,ih]
  simp only[joc,if_false]
  rw[if_neg (by simp)]
  simp
theorem jku(ds r:List UInt8)(h:(10:UInt8)∉ds):(cut (ds++10::10::r) [10,10]).1=ds:=by
 unfold cut
 rw[jaW ds r h,if_pos (by omega)]
 simp
theorem jdj(r:List UInt8):trimPrefix (jao++r) jao=r:=by
 unfold trimPrefix hasPrefix jao
 rw[if_pos (by simp[List.isPrefixOf])]
 simp
def figs(t:List UInt8):List UInt8:=(cut (trimPrefix t jao) [10,10]).1
theorem jiT{t:List UInt8}{g:Nat}(h:Of t g):figs t=decDigits g:=by
 obtain⟨_,_,r,rfl⟩:=h
 unfold figs
 rw[zA,jdj,jku _ _ (je1 g)]
theorem jgV(t:List UInt8):(figs t).length<=t.length:=by
 unfold figs cut
 split
 ·rw[jmi]
  unfold trimPrefix;split
  ·rw[jmn];omega
  omega
 show(trimPrefix t jao).length<=_
 unfold trimPrefix;split
 ·rw[jmn];omega
 omega
theorem Wq{t:List UInt8}{g:Nat}(h1:1<=g)(h2:g<=2147483648):hasPrefix t (qZ g)=true↔Of t g:=by
 unfold hasPrefix
 rw[jnN]
 exact⟨fun⟨r,e⟩=>⟨h1,h2,r,e.symm⟩,fun⟨_,_,r,e⟩=>⟨r,e.symm⟩⟩
theorem jgL(t:List UInt8):Yw t (if 1<=qH (figs t)/\qH (figs t)<=2147483648/\hasPrefix t (qZ (qH (figs t)).toNat)=true then (qH (figs t)).toNat else 0):=by
 split
 ·rename_i h
  obtain⟨h1,h2,h3⟩:=h
  exact .inl ((Wq (by omega) (by omega)).1 h3)
 rename_i h
 refine .inr ⟨rfl,fun g hg=>h ?_⟩
 have e:=jiT hg
 have hv:qH (figs t)=g:=by
  rw[e,<- itoa_nonneg]
  obtain⟨h1,h2,_⟩:=hg
  exact yt (by constructor<;>omega)
 rw[hv]
 have h1:=hg.1
 have h2:=hg.2.1
 refine⟨by omega,by omega,?_⟩
 rw[jnz]
 exact(Wq h1 h2).2 hg
theorem gen_lt{t:List UInt8}{n:Nat}(h:Yw t n):n<=2147483648:=by
 rcases h with h|⟨rfl,_⟩
 ·exact h.2.1
 omega
theorem jiK{t:List UInt8}{n:Nat}(h:Yw t n)(hn:1<=n):∃r,t=qZ n++r:=by
 rcases h with h|⟨rfl,_⟩
 ·exact h.2.2
 omega
theorem gen_short{t:List UInt8}(h:t.length<9):Yw t 0:=.inr ⟨rfl,by
 rintro g ⟨h1,h2,r,rfl⟩
 have:=jgE g h2
 simp only[jmb]at h;omega⟩
def two(g:Nat):List It:=[⟨2,jao++(decDigits g++[10]),[]⟩,⟨1,[10],[]⟩]
end Hd
namespace Fr
open Go.Lib
theorem qm:∀(a b:List UInt8) (s:Bool),sp s (a++b)=(sp s a&&sp (yI s a) b)
 | [],b,s=>by simp[sp,yI]
 | c::a,b,s=>by
  have e:yI s (c::a)=yI (c==10) a:=by
   unfold yI
   rw[List.getLast?_cons]
   cases a.getLast?<;>simp
  simp only[jmu,sp,qm a b (c==10),e,Bool.and_assoc]
theorem ZZ(a b:List UInt8)(s:Bool)(h:b≠[]):yI s (a++b)=yI true b:=by
 unfold yI
 rw[List.getLast?_append]
 cases hb:b.getLast? with
 | none=>exact absurd (List.getLast?_eq_none_iff.1 hb) h
 | some c=>simp
theorem JH:∀(k:Nat) (s:Bool),sp s (List.replicate k 32)=true
 | 0,s=>by cases s<;>rfl
 | k+1,s=>by rw[List.replicate_succ];unfold sp;rw[JH k];simp
theorem xo(k:Nat)(s:Bool):yI s (List.replicate k 32)=(s&&decide (k=0)):=by
 cases k with
 | zero=>simp[yI]
 | succ k=>unfold yI;rw[List.getLast?_replicate];simp
theorem good_iff{l:List UInt8}:goodR l=true↔2<=l.length/\l.length<=50000/\vW l=true/\sp true l=true:=by unfold goodR;simp[and_assoc]
theorem Gz{n:Nat}(h2:2<=n)(h5:n<=50000):goodR (List.replicate (n-1) 32++[10])=true:=by
 rw[good_iff,qm,JH,xo]
 have:¬n-1=0:=by omega
 refine⟨by simp;omega,by simp;omega,by simp[vW],?_⟩
 simp[sp,this]
def vZ(t:List UInt8)(n:Nat):Bool:=sp true t && !(yI true t&&decide (n-t.length<2))
theorem Ul{t:List UInt8}{n:Nat}(h2:2<=n)(h5:n<=50000)(hl:t.length<n):(∃z,goodR (t++z)=true/\(t++z).length=n)↔vZ t n=true:=by
 unfold vZ
 constructor
 ·rintro⟨z,hg,hz⟩
  obtain⟨_,_,h3,h4⟩:=good_iff.1 hg
  rw[qm]at h4
  simp only[jmv]at h4 ⊢
  refine⟨h4.1,?_⟩
  cases hf:yI true t with
  | false=>rfl
  | true =>
  rw[hf]at h4
  rw[jmb]at hz
  by_cases hk:n-t.length<2
  ·exfalso
   obtain⟨c,rfl⟩:∃c,z=[c]:=by
    match z,hz with
    | [],hz=>simp at hz;omega
    | [c],_=>exact⟨c,rfl⟩
    | a::b::z,hz=>simp at hz;omega
   have h5:=h4.2
   unfold vW at h3
   simp[sp]at h3 h5
   subst h3
   cases h5
  simp[hk]
 intro h
 simp only[jmv]at h
 refine⟨List.replicate (n-t.length-1) 32++[10],?_,by simp;omega⟩
 rw[good_iff]
 refine⟨by simp;omega,by simp;omega,by simp[vW],?_⟩
 rw[qm,h.1,jnL,qm,JH,xo]
 cases hf:yI true t with
 | false=>simp[sp]
 | true =>
 have h2:=h.2
 rw[hf]at h2
 have:¬n-t.length-1=0:=by simp at h2;omega
 simp[sp,this]
theorem jfc{t:List UInt8}{n:Nat}(h2:2<=n)(h5:n<=50000)(hl:t.length<n):goodR (t++(List.replicate (n-t.length-1) 32++[10]))=vZ t n:=by
 rw[jm8]
 constructor
 ·intro h
  exact(Ul h2 h5 hl).1 ⟨_,h,by simp;omega⟩
 intro h
 unfold vZ at h
 simp only[jmv]at h
 rw[good_iff]
 refine⟨by simp;omega,by simp;omega,by simp[vW],?_⟩
 rw[qm,h.1,jnL,qm,JH,xo]
 cases hf:yI true t with
 | false=>simp[sp]
 | true =>
 have h2:=h.2
 rw[hf]at h2
 have:¬n-t.length-1=0:=by simp at h2;omega
 simp[sp,this]
def vA(l:List UInt8):Prop:=∃n f z,2<=n/\n<=50000/\UW f/\l++z=zq n f
theorem Jb{a b z:List UInt8}(h:a++z=b)(k:Nat)(hk:a.length<=k):∃y,a++y=b.take k:=⟨z.take (k-a.length),by rw[<- h,List.take_append,jmH hk]⟩
theorem qO(n:Nat)(f b:List UInt8):recR n f b=zq n f++10::(b++qo n):=rfl
theorem Wo{t:List UInt8}(h:(10:UInt8)∉t):xF t↔vA t:=by
 constructor
 ·rintro⟨n,f,b,z,hg,hn,hf,he,hz⟩
  obtain⟨h2,h5,_,_⟩:=good_iff.1 hg
  refine⟨n,f,?_⟩
  by_cases hl:t.length<=(zq n f).length
  ·obtain⟨y,hy⟩:=Jb he (zq n f).length hl
   rw[qO,List.take_left]at hy
   exact⟨y,by omega,by omega,hf,hy⟩
  exfalso
  have h1:(zq n f++[10]).length<=t.length:=by simp;omega
  have e:zq n f++[10]++(b++qo n)=t++z:=by rw[he,qO];simp
  obtain⟨y,hy⟩:=Jb e t.length h1
  rw[List.take_left]at hy
  exact h (by rw[<- hy];simp)
 rintro⟨n,f,z,h2,h5,hf,he⟩
 refine⟨n,f,List.replicate (n-1) 32++[10],z++10::((List.replicate (n-1) 32++[10])++qo n),Gz h2 h5,by simp;omega,hf,?_,by simp⟩
 rw[qO,<- he];simp
theorem Kb{t b:List UInt8}(h:(10:UInt8)∉t):¬vr t b:=by
 rintro⟨_,more,rfl⟩
 exact h (by unfold fullR;rw[qO];simp)
theorem jgj{l r:List UInt8}(hl:(10:UInt8)∉l)(h:¬∃n f,Uw l n f):¬xF (l++10::r)/\¬∃b,vr (l++10::r) b:=by
 constructor
 ·rintro⟨n,f,b,z,hg,hn,hf,he,hz⟩
  obtain⟨h2,h5,_,_⟩:=good_iff.1 hg
  rw[qO,jmA,jmu]at he
  exact h ⟨n,f,by omega,by omega,hf,(split_at hl (vN hf) he).1⟩
 rintro⟨b,hg,more,he⟩
 obtain⟨h2,h5,_,_⟩:=good_iff.1 hg
 unfold fullR at he
 rw[qO,jmA,jmu]at he
 exact h ⟨b.length,xu b,h2,h5,vv b,(split_at hl (vN (vv b)) he).1⟩
theorem QX{n:Nat}{f r:List UInt8}(h2:2<=n)(h5:n<=50000)(hf:UW f):xF (zq n f++10::r)↔∃b z,goodR b=true/\b.length=n/\r++z=b++qo n/\z≠[]:=by
 constructor
 ·rintro⟨n',f',b,z,hg,hn,hf',he,hz⟩
  obtain⟨h2',h5',_,_⟩:=good_iff.1 hg
  rw[qO,jmA,jmu]at he
  obtain⟨e1,e2⟩:=split_at (vN hf) (vN hf') he
  obtain⟨rfl,rfl⟩:=Kd h5 (by omega) e1
  exact⟨b,z,hg,hn,e2,hz⟩
 rintro⟨b,z,hg,hn,he,hz⟩
 exact⟨n,f,b,z,hg,hn,hf,by rw[qO,<- he];simp,hz⟩
theorem ZO{n:Nat}{f r b:List UInt8}(h2:2<=n)(h5:n<=50000)(hf:UW f):vr (zq n f++10::r) b↔goodR b=true/\b.length=n/\xu b=f/\∃more,r=b++(qo n++more):=by
 constructor
 ·rintro⟨hg,more,he⟩
  obtain⟨h2',h5',_,_⟩:=good_iff.1 hg
  unfold fullR at he
  rw[qO,jmA,jmu]at he
  obtain⟨e1,e2⟩:=split_at (vN hf) (vN (vv b)) he
  obtain⟨rfl,rfl⟩:=Kd h5 (by omega) e1
  exact⟨hg,rfl,rfl,more,by rw[e2];simp⟩
 rintro⟨hg,rfl,rfl,more,rfl⟩
 exact⟨hg,more,by unfold fullR;rw[qO];simp⟩
theorem jbS{n:Nat}{f r:List UInt8}(h2:2<=n)(h5:n<=50000)(hf:UW f)(hl:r.length<n):(xF (zq n f++10::r)↔vZ r n=true)/\¬∃b,vr (zq n f++10::r) b:=by
 constructor
 ·rw[QX h2 h5 hf,<- Ul h2 h5 hl]
  constructor
  ·rintro⟨b,z,hg,hn,he,hz⟩
   obtain⟨y,hy⟩:=Jb he b.length (by omega)
   rw[List.take_left]at hy
   exact⟨y,by rw[hy];exact hg,by rw[hy];exact hn⟩
  rintro⟨z,hg,hz⟩
  exact⟨r++z,z++qo n,hg,hz,by simp,by intro q;have:=(List.append_eq_nil_iff.1 q).2;simp[qo,END]at this⟩
 rintro⟨b,h⟩
 obtain⟨_,hn,_,more,rfl⟩:=(ZO h2 h5 hf).1 h
 simp at hl;omega
theorem Vf{n:Nat}{f b r:List UInt8}(h2:2<=n)(h5:n<=50000)(hf:UW f)(hl:b.length=n):
  (xF (zq n f++10::(b++r))↔goodR b=true/\∃z,r++z=qo n/\z≠[])/\(∀b',vr (zq n f++10::(b++r)) b'↔b'=b/\goodR b=true/\xu b=f/\∃more,r=qo n++more):=by
 constructor
 ·rw[QX h2 h5 hf]
  constructor
  ·rintro⟨b',z,hg,hn,he,hz⟩
   rw[jmA]at he
   obtain⟨rfl,e2⟩:=List.append_inj he (by omega)
   exact⟨hg,z,e2,hz⟩
  rintro⟨hg,z,he,hz⟩
  exact⟨b,z,hg,hl,by rw[jmA,he],hz⟩
 intro b'
 rw[ZO h2 h5 hf]
 constructor
 ·rintro⟨hg,hn,hfg,more,he⟩
  obtain⟨rfl,e2⟩:=List.append_inj he (by omega)
  exact⟨rfl,hg,hfg,more,e2⟩
 rintro⟨rfl,hg,hfg,more,rfl⟩
 exact⟨hg,hl,hfg,more,rfl⟩
theorem xS{t b:List UInt8}(h:vr t b):¬xF t:=by
 obtain⟨hg,more,rfl⟩:=h
 obtain⟨h2,h5,_,_⟩:=good_iff.1 hg
 intro hp
 have e:fullR b++more=zq b.length (xu b)++10::(b++(qo b.length++more)):=by unfold fullR;rw[qO];simp
 rw[e]at hp
 obtain⟨_,z,hz,h0⟩:=(Vf h2 h5 (vv b) rfl).1.1 hp
 have:=congrArg List.length hz
 simp only[jmb]at this
 exact h0 (jnb (by omega))
theorem KJ{t b b':List UInt8}(h:vr t b)(h':vr t b'):b=b':=by
 obtain⟨hg,more,rfl⟩:=h
 obtain⟨h2,h5,_,_⟩:=good_iff.1 hg
 have e:fullR b++more=zq b.length (xu b)++10::(b++(qo b.length++more)):=by unfold fullR;rw[qO];simp
 rw[e]at h'
 exact(((Vf h2 h5 (vv b) rfl).2 b').1 h').1.symm
theorem full_begins{b:List UInt8}(hg:goodR b=true){k:Nat}(hk:k<(fullR b).length):xF ((fullR b).take k) :=
 ⟨b.length,xu b,b,(fullR b).drop k,hg,rfl,vv b,jmQ _ _,fun q=>by have:=congrArg List.length q;simp at this;omega⟩
end Fr
end Go.Proofs.YtpibhbjmcmfnmaaGreatDoor
