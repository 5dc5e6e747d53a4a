/- Texts put together:GI,CA,CP,AB,DA,MA,MB,DB. -/
import Derived.Lib.AtoiAll
import Derived.Lib.ItoaLen
import Derived.Lib.CutLaws
import Derived.Test.YtpibhbjmcmfnmaaGreatDoorBag19
set_option linter.unusedVariables false
set_option maxRecDepth 100000
set_option maxHeartbeats 16000000
namespace Go.Proofs.YtpibhbjmcmfnmaaGreatDoor
open Go.RowKit Go.Shelf Tryz
abbrev joU:=@List.isPrefixOf_iff_prefix
abbrev jo2:=@Nat.xor_lt_two_pow
abbrev jo9:=@List.eq_nil_or_concat
abbrev jpa:=@List.concat_eq_append
abbrev jpj:=@Nat.testBit_xor
abbrev jpp:=@Nat.mod_lt
abbrev jpq:=@List.take_left
abbrev jpr:=@List.append_cancel_left
abbrev jpx:=@Nat.xor_assoc
abbrev jpH:=@Nat.eq_of_testBit_eq
namespace Rp
attribute [local go_sem] jnn
theorem jc5{fn:Func}{p u:Tmp}{ty:TypeId}(h:fn.results=#[.cell p ty,.tmp u])(tmps:Array Value)(P:Program)(w:World):
  (results fn tmps).run P w=((asAddr (tmps.getD p undef)).run P w).andThen fun a w₁=>((loadVar ty a).run P w₁).andThen fun v w₂=>.ok (.tuple #[v,tmps.getD u undef]) w₂:=by
 simp only[results,h]
 simp[Sem.run_bind,Result.andThen]
theorem jeR{fn:Func}{p u:Tmp}(h:fn.results=#[.cell p 228,.tmp u])(tmps:Array Value)(w:World)(b:Nat)(cur:Array Value)(hp:tmps.getD p undef=.pointer (some ⟨b,0,none⟩))
  (hc:ja w b 228 cur) (hz:cur.size=3):(results fn tmps).run prog w=.ok (.tuple #[.agg cur,tmps.getD u undef]) w:=by
 have L:=run_loadVar_row (P:=prog) w b 228 228 cur (0,0) _ hc underlying228 rfl (by rw[hz];kernel_rfl)
 rw[jc5 h,hp]
 show((loadVar _ _).run _ _).andThen _=_
 rw[L];rfl
theorem jmg{W:World}{b:Nat}{T:TypeId}{a0 a1 a2:Value}(h:ja W b T #[a0,a1,a2])(v0 v1 v2:Value):
  ja (((W.setCell ⟨b,0,none⟩ v0).setCell ⟨b,1,none⟩ v1).setCell ⟨b,2,none⟩ v2) b T #[v0,v1,v2]/\jv (· = b) W (((W.setCell ⟨b,0,none⟩ v0).setCell ⟨b,1,none⟩ v1).setCell ⟨b,2,none⟩ v2):=by
 have k:=((h.set 0 v0).set 1 v1).set 2 v2
 refine⟨by simpa [List.setIfInBounds_toArray,List.set]using k,(((jv.refl (· = b) W).cellS 0 v0).cellS 1 v1).cellS 2 v2⟩
theorem jhC{w w':World}{s:List UInt8}{its:List It}{e:Ending}(h:OfR w s e w')(hp:jE s=.ok its)(hs:s.length<=60000):
  Below w.heap.size w w'/\∃lb ev ps,e=.returned (.tuple #[ptr lb,.nilIface])/\qb w.heap.size w' lb ev ps (qE its) s.length:=by
 obtain⟨b1,lb,ev,ps,rfl,hlb,hev,hla,hps⟩:=h.yes hp
 have h1:=Je hp
 have hlen:(qE its).es.length<=s.length/\(qE its).next<=(s.length:Int)+1:=by
  have h2:(qE its).es.length=its.length:=Vo 1 its
  have h3:=(Zu 1 its).2
  have h4:(qE its).next=jX 1 its:=rfl
  omega
 refine⟨b1,lb,ev,ps,rfl,hla,hps,jkB hp,fun e he => ?_,hlb,hev,hlen.1,hlen.2⟩
 have h2:e.1∈its:=by rw[<- Qa 1 its];exact joH he
 obtain⟨q1,q2⟩:=h1.2.2 _ h2
 exact⟨by omega,by omega⟩
theorem jgq{S0:Nat}{w:World}{lb:Nat}{ev:Value}{ps:List Pr}{l:LS}{m b:Nat}{T:TypeId}{cur:Array Value}(C:qb S0 w lb ev ps l m)(hc:ja w b T cur)(hn:∀x∈cur,∀s,x ≠ .string s)(hb:b<S0):∀r,Xv lb ev ps (.slice none 0 0) [] r->r≠b:=by
 rintro r (rfl|h|h|⟨p,hp,hne,h⟩|⟨p,hp,_⟩) e
 ·have:=C.lb0;omega
 ·have:=C.ev0 r h;omega
 ·cases h
 ·exact jfS (C.la.lr.ents.each p hp).1 hne (by rw[h,e]) hc hn
 cases hp
def jlm:Value:=.agg #[.pointer none,.int .i64 0,.slice none 0 0]
def jcH(w w':World)(s:List UInt8)(bs:List (List Ed))(e:Ending):Prop:=Below w.heap.size w w' /\
  ((∃a n u,jE s=.error (a,n)/\e=.returned (.tuple #[jlm,u])/\jr w.heap.size w' u a n) \/
   (∃its i u,jE s=.ok its/\xm (qE its) bs i/\e=.returned (.tuple #[jlm,u])/\jr w.heap.size w' u i 10) \/
   (∃its k lb ev ps gv us,jE s=.ok its/\qS (qE its) bs=some k/\e=.returned (.tuple #[.agg #[ptr lb,.int .i64 (qE its).next,gv],.nilIface])/\qb w.heap.size w' lb ev ps k (s.length+Jc bs)/\jaC w.heap.size w' gv (jcc (qE its) bs) us))
theorem jm6{w w7:World}(hB:Below w.heap.size w w7)(C7:ja w7 w.heap.size 228 #[.pointer none,.int .i64 0,.slice none 0 0])(k:Nat)(X:World)
  (hX:X=(((w7.alloc (.cells #[.int .i64 (k:Int),.iface 46 (.int .i64 10)] 135)).setCell ⟨w.heap.size,0,none⟩ (.pointer none)).setCell ⟨w.heap.size,1,none⟩ (.int .i64 0)).setCell ⟨w.heap.size,2,none⟩ (.slice none 0 0)) :
  Below w.heap.size w X/\ja X w.heap.size 228 #[.pointer none,.int .i64 0,.slice none 0 0]/\jr w.heap.size X (.iface 133 (.pointer (some ⟨w7.heap.size,0,none⟩))) k 10:=by
 subst hX
 have hF:=ja.new w7 135 #[.int .i64 (k:Int),.iface 46 (.int .i64 10)]
 have hb:=hB.alloc hB.size (.cells #[.int .i64 (k:Int),.iface 46 (.int .i64 10)] 135)
 obtain⟨h1,h2⟩:=jmg (C7.alloc (.cells #[.int .i64 (k:Int),.iface 46 (.int .i64 10)] 135)) (.pointer none) (.int .i64 0) (.slice none 0 0)
 have hlt:=C7.lt
 exact⟨hb.trans (h2.to_below hb.size (fun r hr e=>by omega)),h1,⟨w7.heap.size,hB.size,rfl,by rw[ze 10 (by decide)];exact hF.only h2 (fun e=>by omega)⟩⟩
theorem Wg(s:List UInt8)(bs:List (List Ed))(v:Value)(w:World)(hs:s.length+Jc bs<=5000)(hn:bs.length<=100000)(hv:BtV w v bs)(hb:jjq bs)(hg:ErrT w):
  Calls prog 154 #[.string (B s),v] w fun e w'=>jcH w w' s bs e:=by
 obtain⟨w0,hw0⟩:∃z,w.alloc (.cells #[.pointer none,.int .i64 0,.slice none 0 0] 228)=z:=⟨_,rfl⟩
 have hb0:Below w.heap.size w w0:=by rw[<- hw0];exact(jne _ w).alloc (jnd _) _
 have hz0:w0.heap.size=w.heap.size+1:=by rw[<- hw0];simp
 have C0:ja w0 w.heap.size 228 #[.pointer none,.int .i64 0,.slice none 0 0]:=by rw[<- hw0];exact ja.new _ _ _
 have OF:=jnc (jlD (B s) (by rw[jm];omega) w0)
 rw[ju]at OF
 have HB0:=jnc hb0
 have HC0:=jnc C0
 have HW0:=jnc hw0
 have HZ0:=jnc hz0
 have BV:Hid (∀W,Below w.heap.size w W->BtV W v bs/\ErrT W):=fun W hW=>⟨hv.below hW (jnd _),hg.below hW (jnd _)⟩
 have HBS:=jnc hb
 obtain⟨A,cap,rfl,hcap,_⟩:=_root_.id hv
 clear hb0 C0 hw0 hz0 hv hg hb
 go_enter func154,ntmps154
 go_wp2_with fail
 rw[HW0.out]
 refine OF.out.mono ?_
 rintro e w1 hof
 clear OF
 cases hp:jE s with
 | error an =>
  obtain⟨a,n⟩:=an
  obtain⟨b1,u,rfl,hf⟩:=hof.no hp
  obtain⟨q,hq,rfl,hqc⟩:=hf
  have B1:=jnc (HB0.out.trans (b1.mono HB0.out.size))
  have C1:=je HC0.out b1 HC0.out.lt
  obtain⟨P1,o1⟩:=jmg C1 (.pointer none) (.int .i64 0) (.slice none 0 0)
  have HP1:=jnc P1
  have BF:=jnc (B1.out.trans (o1.to_below B1.out.size (fun r hr e=>by omega)))
  have hq1:w.heap.size+1<=q:=by have:=HZ0.out;omega
  have HF:=jnc (show jr w.heap.size _ (.iface 133 (.pointer (some ⟨q,0,none⟩))) a n from⟨q,by omega,rfl,hqc.only o1 (fun e=>by omega)⟩)
  have c0:=C1.cell 0
  have c1:=C1.cell 1
  have c2:=C1.cell 2
  have f0:=C1.frozen 0
  have f1:=C1.frozen 1
  have f2:=C1.frozen 2
  simp only[jnl,jnp,jnj]at c0 c1 c2
  have HP:=jnc hp
  clear hof hqc b1 C1 P1 o1 hp
  go_wp2_with fail
  refine bodyPost_ret (jeR rfl _ _ w.heap.size _ rfl HP1.out rfl) rfl ?_
  exact⟨BF.out,.inl ⟨a,n,_,HP.out,rfl,HF.out⟩⟩
 | ok its =>
 obtain⟨b1,lb,ev,ps,rfl,CY⟩:=jhC hof hp (by omega)
 have B1:=jnc (HB0.out.trans (b1.mono HB0.out.size))
 have C1:=jnc (je HC0.out b1 HC0.out.lt)
 have hlo0:=HB0.out.size
 have HCY:=jnc CY
 have NX:=jnc (jhK lb ev ps _ w1 CY.la.lr ⟨by have:=CY.ok.pos;omega,by have:=CY.nx;omega⟩)
 have HP:=jnc hp
 have hz1:=b1.size
 clear hof hp b1 CY
 unfold ptr at *
 go_wp2_with fail
 refine NX.out.mono ?_
 rintro e w1' ⟨rfl,rfl⟩
 obtain⟨w2,hw2⟩:∃z,w1.alloc (.cells #[.pointer (some ⟨lb,0,none⟩),.int .i64 (qE its).next,.slice none 0 0] 228)=z:=⟨_,rfl⟩
 have b12:Below w1.heap.size w1 w2:=by rw[<- hw2];exact(jne _ _).alloc (jnd _) _
 have C2:ja w2 w1.heap.size 228 #[.pointer (some ⟨lb,0,none⟩),.int .i64 (qE its).next,.slice none 0 0]:=by rw[<- hw2];exact ja.new _ _ _
 have B2:=jnc (B1.out.trans (b12.mono B1.out.size))
 have CR2:=jnc (je C1.out b12 (by have:=HZ0.out;omega))
 have PL2:=jnc (show jaA w0.heap.size w2 w1.heap.size (qE its).next (qE its) (s.length+Jc (bs.take 0)) (jcc (qE its) (bs.take 0)) from⟨⟨lb,ev,ps,_,[],C2,by simpa [Jc]using HCY.out.below b12 (jnd _),jaC.nil _ _⟩,hz1⟩)
 have HW2:=jnc hw2
 have hlow:w.heap.size<w0.heap.size:=by have:=HZ0.out;omega
 generalize hl0:qE its=l0 at *
 clear NX HCY b12 C2 hw2
 go_wp2_with fail
 rw[HW2.out]
 go_loopw [26] (fun iv wr=>∃(i:Nat) (k:LS),i<=bs.length/\iv=.int .i64 (i:Nat)/\qS l0 (bs.take i)=some k/\Below w.heap.size w wr/\ja wr w.heap.size 228 #[.pointer none,.int .i64 0,.slice none 0 0]/\jaA w0.heap.size wr w1.heap.size l0.next k (s.length+Jc (bs.take i)) (jcc l0 (bs.take i))) (fun iv _=>bs.length-(intOf iv).toNat)
 case atStart=>exact⟨0,l0,jnt _,rfl,rfl,B2.out,CR2.out,PL2.out⟩
 case round =>
 obtain⟨i,k,hi,rfl,hpl,hb,hC,hP⟩:=hrel
 by_cases hlt:i<bs.length
 ·obtain⟨x,hx⟩:∃x,bs[i]?=some x:=⟨_,jnh hlt⟩
  obtain⟨hbv,hge⟩:=BV.out wr hb
  obtain⟨A',cap',e',_,hc⟩:=_root_.id hbv
  obtain⟨g,off,u,eA,hgl,cg,hu⟩:=hc i x hx
  injection e' with e1 e2 e3
  subst e1
  subst e3
  subst eA
  obtain⟨ua,uc,rfl,_⟩:=_root_.id hu
  have hst:=Ut bs i
  have hDO:=jnc (jab hP x _ hu (HBS.out x (jnC hx)) hge (by omega) (by rw[jfK,jnk];omega))
  have HCR:=jnc hC
  have HB:=jnc hb
  have HPL:=jnc hpl
  have HX:=jnc hx
  clear hP hC hb hpl hx hbv hge hc hu hst
  go_wp2_with fail
  refine hDO.out.mono ?_
  rintro e w5 ⟨b5,h5⟩
  have B5:=jnc (HB.out.trans (b5.mono (by omega)))
  have C5:=je HCR.out b5 hlow
  rcases h5 with ⟨h0,rfl⟩|⟨h0,rfl,hP5⟩
  ·
   have RF:=jnc (show xm l0 bs i from⟨k,x,HPL.out,HX.out,h0⟩)
   have CA:=jnc (jm6 B5.out C5 i)
   have c0:=C5.cell 0
   have c1:=C5.cell 1
   have c2:=C5.cell 2
   simp only[jnl,jnp,jnj]at c0 c1 c2
   have d0:∀o,(w5.alloc o).cell? ⟨w.heap.size,0,none⟩=_:=fun o=>((C5.alloc o).cell 0).trans rfl
   have d1:∀o,(w5.alloc o).cell? ⟨w.heap.size,1,none⟩=_:=fun o=>((C5.alloc o).cell 1).trans rfl
   have d2:∀o,(w5.alloc o).cell? ⟨w.heap.size,2,none⟩=_:=fun o=>((C5.alloc o).cell 2).trans rfl
   have g0:∀o,(w5.alloc o).frozen? ⟨w.heap.size,0,none⟩=false:=fun o=>(C5.alloc o).frozen 0
   have g1:∀o,(w5.alloc o).frozen? ⟨w.heap.size,1,none⟩=false:=fun o=>(C5.alloc o).frozen 1
   have g2:∀o,(w5.alloc o).frozen? ⟨w.heap.size,2,none⟩=false:=fun o=>(C5.alloc o).frozen 2
   clear b5 C5 hDO h0
   go_wp2_with fail
   refine bodyPost_ret (jeR rfl _ _ w.heap.size _ rfl (CA.out _ rfl).2.1 rfl) rfl ?_
   exact⟨(CA.out _ rfl).1,.inr (.inl ⟨its,i,_,HP.out,by rw[hl0];exact RF.out,rfl,(CA.out _ rfl).2.2⟩)⟩
  have HC5:=jnc C5
  have HP5:=jnc hP5
  have PN:Hid (qS l0 (bs.take (i+1))=some (ym k x)):=by
   show _=_
   rw[KP HX.out,XT HPL.out,if_pos h0]
  have GN:Hid (jcc l0 (bs.take (i+1))=jcc l0 (bs.take i)++[zD k x]):=by
   show _=_
   rw[KP HX.out,jcb _ _ _ _ HPL.out]
  have SN:Hid (Jc (bs.take (i+1))=Jc (bs.take i)+x.length):=jjC HX.out
  clear b5 C5 hP5 hDO h0
  go_wp2_with fail
  go_roundw
  case rel=>exact⟨i+1,ym k x,hlt,by go_num,PN.out,B5.out,HC5.out,by rw[GN.out,SN.out,<- joT];exact HP5.out⟩
  case measure=>simp[intOf];omega
 have hil:bs.take i=bs:=jnD (by omega)
 rw[hil]at hpl hP
 obtain⟨⟨lbk,evk,psk,gvk,usk,cK,CK,GK⟩,_⟩:=hP
 obtain⟨ga,gc,rfl,_⟩:=jg GK.row
 obtain⟨PE,oE⟩:=jmg hC (ptr lbk) (.int .i64 l0.next) (.slice ga (jcc l0 bs).length gc)
 have KE:=CK.only oE (fun r hr e=>jgq CK hC (by intro x hx s;simp at hx;rcases hx with rfl | rfl | rfl<;>exact fun h=>by cases h) hlow r hr e)
 have GE:=GK.box hC (by decide) (by decide) oE
 have HKE:=jnc (show qb w.heap.size _ lbk evk psk k (s.length+Jc bs) from⟨KE.la,KE.es,KE.ok,KE.sz,by have:=KE.lb0;omega,fun b e=>by have:=KE.ev0 b e;omega,KE.len,KE.nx⟩)
 have HGE:=jnc (show jaC w.heap.size _ _ (jcc l0 bs) usk from⟨zk GE.row (by omega),fun i g u h1 h2=>zk (GE.each i g u h1 h2) (by omega)⟩)
 have HPE:=jnc PE
 have BE:=jnc (hb.trans (oE.to_below hb.size (fun r hr e=>by omega)))
 have HPL:=jnc hpl
 have c0:=hC.cell 0
 have c1:=hC.cell 1
 have c2:=hC.cell 2
 have f0:=hC.frozen 0
 have f1:=hC.frozen 1
 have f2:=hC.frozen 2
 have d0:=cK.cell 0
 have d1:=cK.cell 1
 have d2:=cK.cell 2
 simp only[jnl,jnp,jnj]at c0 c1 c2 d0 d1 d2
 clear hpl cK CK GK PE oE KE GE hb hC
 unfold ptr at *
 go_wp2_with fail
 refine bodyPost_ret (jeR rfl _ _ w.heap.size _ rfl HPE.out rfl) rfl ?_
 exact⟨BE.out,.inr (.inr ⟨its,k,lbk,evk,psk,_,usk,HP.out,by rw[hl0];exact HPL.out,by rw[hl0];rfl,HKE.out,by rw[hl0];exact HGE.out⟩)⟩
end Rp
namespace Sm.M
def st(x:Nat):Nat:=if x / 2147483648=1 then (x*2 % 4294967296) ^^^ 79764919 else x*2 % 4294967296
def stn:Nat->Nat->Nat
 | 0,x=>x
 | n+1,x=>stn n (st x)
def jkF(x c:Nat):Nat:=stn 8 (x ^^^ (c*16777216))
def feed(x:Nat)(l:List UInt8):Nat:=l.foldl (fun x c=>jkF x c.toNat) x
theorem jjK(x:Nat):st x<4294967296:=by
 unfold st
 split
 ·exact jo2 (n:=32) (jpp _ (by decide)) (by decide)
 exact jpp _ (by decide)
theorem stn_lt(n x:Nat)(h:x<4294967296):stn n x<4294967296:=by
 induction n generalizing x with
 | zero=>exact h
 | succ n ih=>exact ih _ (jjK x)
theorem stn_succ(n x:Nat):stn (n+1) x=st (stn n x):=by
 induction n generalizing x with
 | zero=>rfl
 | succ n ih=>show stn (n+1) (st x)=st (stn n (st x));exact ih _
theorem jis(x c:Nat)(h:x<4294967296)(hc:c<256):jkF x c<4294967296 :=
 stn_lt _ _ (jo2 (n:=32) h (by omega))
theorem feed_lt(l:List UInt8)(x:Nat)(h:x<4294967296):feed x l<4294967296:=by
 induction l generalizing x with
 | nil=>exact h
 | cons c l ih=>exact ih _ (jis x _ h c.toNat_lt)
theorem feed_append(x:Nat)(l r:List UInt8):feed x (l++r)=feed (feed x l) r:=by
 simp[feed,List.foldl_append]
theorem feed_snoc(x:Nat)(l:List UInt8)(c:UInt8):feed x (l++[c])=jkF (feed x l) c.toNat:=by
 simp[feed,List.foldl_append]
theorem tb(x i:Nat)(h:x<4294967296):(x*2 % 4294967296).testBit i=(decide (i<32)&&decide (0<i)&&x.testBit (i-1)):=by
 have:(x*2 % 4294967296)=(x <<< 1) % 2 ^ 32:=by rw[Nat.shiftLeft_eq]
 rw[this,Nat.testBit_mod_two_pow,Nat.testBit_shiftLeft]
 by_cases h1:i<32<;>by_cases h2:0<i<;>simp[h1,h2]<;>omega
theorem top(x:Nat)(h:x<4294967296):(x / 2147483648=1)↔x.testBit 31=true:=by
 rw[Nat.testBit_eq_decide_div_mod_eq,show 2 ^ 31=2147483648 from rfl]
 simp;omega
theorem jjO(x y:Nat)(hx:x<4294967296)(hy:y<4294967296):(x ^^^ y)*2 % 4294967296=(x*2 % 4294967296) ^^^ (y*2 % 4294967296):=by
 apply jpH
 intro i
 rw[tb _ _ (jo2 (n:=32) hx hy),jpj,jpj,tb _ _ hx,tb _ _ hy]
 cases decide (i<32)<;>cases decide (0<i)<;>simp
theorem jlv(x y:Nat)(hx:x<4294967296)(hy:y<4294967296):st (x ^^^ y)=st x ^^^ st y:=by
 have hxy:x ^^^ y<4294967296:=jo2 (n:=32) hx hy
 unfold st
 rw[jjO x y hx hy]
 simp only[top x hx,top y hy,top _ hxy,jpj]
 generalize x*2 % 4294967296=a
 generalize y*2 % 4294967296=b
 generalize 79764919=p
 cases x.testBit 31<;>cases y.testBit 31<;>simp
 ·rw[jpx]
 ·rw[jpx,jpx,Nat.xor_comm b p]
 rw[jpx,Nat.xor_comm p,jpx,Nat.xor_self,Nat.xor_zero]
theorem jjE(n x y:Nat)(hx:x<4294967296)(hy:y<4294967296):stn n (x ^^^ y)=stn n x ^^^ stn n y:=by
 induction n generalizing x y with
 | zero=>rfl
 | succ n ih=>show stn n (st _)=_;rw[jlv x y hx hy,ih _ _ (jjK x) (jjK y)];rfl
theorem jlw(x:Nat)(h:x<2147483648):st x=x*2:=by
 unfold st;rw[if_neg (by omega)];omega
theorem jjF(n x:Nat)(h:x*2 ^ n<4294967296):stn n x=x*2 ^ n:=by
 induction n generalizing x with
 | zero=>simp[stn]
 | succ n ih =>
 have e:x*2 ^ (n+1)=x*2*2 ^ n:=by rw[Nat.pow_succ,Nat.mul_comm (2 ^ n) 2,Nat.mul_assoc]
 have hx:x<2147483648:=by
  have:=Nat.one_le_two_pow (n:=n)
  have h2:x*2*1<=x*2*2 ^ n:=Nat.mul_le_mul_left _ this
  omega
 show stn n (st x)=_
 rw[jlw x hx,ih _ (by rw[<- e];exact h),e]
theorem four(x:Nat)(hx:x<4294967296):stn 4 x=(x*16 % 4294967296) ^^^ stn 4 (x / 268435456*268435456):=by
 have e:x=(x / 268435456*268435456) ^^^ (x % 268435456):=by
  have h:=Nat.two_pow_add_eq_or_of_lt (i:=28) (b:=x % 268435456) (jpp _ (by decide)) (x / 268435456)
  have h2:x / 268435456*268435456 ^^^ x % 268435456=2 ^ 28*(x / 268435456)+x % 268435456:=by
   rw[Nat.mul_comm,show(268435456:Nat)=2 ^ 28 from rfl]
   apply jpH
   intro i
   rw[h,jpj,Nat.testBit_or,Nat.testBit_two_pow_mul,Nat.testBit_mod_two_pow]
   by_cases hi:i<28
   ·simp[hi,Nat.not_le.2 hi]
   simp[hi]
  omega
 have hh:x / 268435456*268435456<4294967296:=by omega
 have hl:x % 268435456<4294967296:=by omega
 conv=>lhs;rw[e]
 rw[jjE 4 _ _ hh hl,jjF 4 (x % 268435456) (by omega),Nat.xor_comm]
 congr 1
 omega
theorem m24(c:Nat)(h:c<256):c*16777216<4294967296:=by omega
theorem m16(c:Nat)(h:c<256):c*65536<16777216:=by omega
theorem a1(t:Nat):t*65536*256=t*16777216:=by omega
theorem a2(t:Nat):t*256*256=t*65536:=by omega
theorem up(y:Nat)(h:y<16777216):y<4294967296:=by omega
theorem z24(p y:Nat)(h:p*16777216=y)(hy:y<16777216):p=0/\y=0:=by omega
end Sm.M
namespace Sm
def cat(ss:List ByteArray):List UInt8:=ss.flatMap (·.data.toList)
theorem jiP(ss:List ByteArray)(k:Nat)(s:ByteArray)(h:ss[k]?=some s):cat (ss.take (k+1))=cat (ss.take k)++s.data.toList:=by
 have hk:k<ss.length:=by
  rcases jnK k ss.length with h'|h'
  ·exact h'
  rw[jnY h']at h;cases h
 rw[joo hk,cat,jnO]
 have:ss[k]=s:=by rw[jnh hk]at h;injection h
 rw[this]
 simp[cat]
def M.crc(l:List UInt8):Nat:=4294967295-M.feed 4294967295 l
theorem M.crc_lt(l:List UInt8):M.crc l<4294967296:=by unfold M.crc;omega
def dg(n:Nat):UInt8:=if n<10 then UInt8.ofNat (48+n) else UInt8.ofNat (87+n)
def figs(x:Nat):ByteArray:=⟨#[dg (x / 268435456 % 16),dg (x / 16777216 % 16),dg (x / 1048576 % 16),dg (x / 65536 % 16),dg (x / 4096 % 16),dg (x / 256 % 16),dg (x / 16 % 16),dg (x % 16)]⟩
def val(c:Nat):Option Nat:=if 48<=c/\c<=57 then some (c-48) else if 97<=c/\c<=102 then some (c-87) else none
def DIG:List UInt8:=[48,49,50,51,52,53,54,55,56,57,97,98,99,100,101,102]
def ix(c:Nat):Int:=match val c with | some d=>d | none => -1
theorem jlp{c d:Nat}(h:val c=some d):d<16:=by
 unfold val at h
 split at h
 ·injection h;omega
 split at h
 ·injection h;omega
 cases h
def tk(acc:Nat):List UInt8->Option Nat
 | []=>some acc
 | c::l=>match val c.toNat with
  | none=>none
  | some d=>tk (acc*16 % 4294967296+d) l
def takes(l:List UInt8):Option Nat:=if l.length=8 then tk 0 l else none
theorem jl0:∀(c:Fin 256) (k:Fin 16),((dg k.val).toNat=c.val)↔(val c.val=some k.val):=by decide +kernel
theorem jlq{n:Nat}(h:n<16):val (dg n).toNat=some n:=by
 exact(jl0 ⟨(dg n).toNat,(dg n).toNat_lt⟩ ⟨n,h⟩).1 rfl
theorem Up(acc n:Nat)(l:List UInt8)(h:n<16):tk acc (dg n::l)=tk (acc*16 % 4294967296+n) l:=by
 rw[tk,jlq h]
theorem takes_figs(x:Nat)(hx:x<4294967296):takes (figs x).data.toList=some x:=by
 unfold takes
 rw[if_pos (show(figs x).data.toList.length=8 from rfl)]
 have e:(figs x).data.toList=[dg (x / 268435456 % 16),dg (x / 16777216 % 16),dg (x / 1048576 % 16),dg (x / 65536 % 16),dg (x / 4096 % 16),dg (x / 256 % 16),dg (x / 16 % 16),dg (x % 16)]:=rfl
 rw[e,Up _ _ _ (by omega),Up _ _ _ (by omega),Up _ _ _ (by omega),Up _ _ _ (by omega),Up _ _ _ (by omega),Up _ _ _ (by omega),Up _ _ _ (by omega),Up _ _ _ (by omega)]
 rw[show 0*16 % 4294967296+x / 268435456 % 16=x / 268435456 by omega,show x / 268435456*16 % 4294967296+x / 16777216 % 16=x / 16777216 by omega,
  show x / 16777216*16 % 4294967296+x / 1048576 % 16=x / 1048576 by omega,show x / 1048576*16 % 4294967296+x / 65536 % 16=x / 65536 by omega,
  show x / 65536*16 % 4294967296+x / 4096 % 16=x / 4096 by omega,show x / 4096*16 % 4294967296+x / 256 % 16=x / 256 by omega,
  show x / 256*16 % 4294967296+x / 16 % 16=x / 16 by omega,show x / 16*16 % 4294967296+x % 16=x by omega]
 rfl
end Sm
section
open Go.Lib
theorem WJ{u:Nat}(h:u<10):(UInt8.ofNat (48+u)).toNat=48+u:=by
 rw[UInt8.toNat_ofNat'];omega
theorem qG(u:Nat):∀c∈decDigits u,48<=c.toNat/\c.toNat<=57:=by
 induction u using Nat.strongRecOn with
 | _ u ih =>
 intro c hc
 by_cases h:u<10
 ·rw[decDigits_one h]at hc
  rw[List.mem_singleton.1 hc,WJ h];omega
 rw[decDigits,dif_neg h]at hc
 rcases List.mem_append.1 hc with hc|hc
 ·exact ih (u / 10) (by omega) c hc
 rw[List.mem_singleton.1 hc,WJ (by omega)];omega
theorem jcq(u:Nat):decDigits u≠[]:=by
 intro h
 have:=decDigits_length u
 have:=nDigits_pos u
 rw[h]at *;simp at *;omega
theorem XX(c:UInt8):∀(l:List UInt8) (acc:Nat),parseUint10 acc (l++[c])=(match parseUint10 acc l with | .ok a=>parseUint10 a [c] | NumEnd.syntax=>NumEnd.syntax | .range=>.range)
 | [],acc=>rfl
 | d::r,acc=>by
  show parseUint10 acc (d::(r++[c]))=_
  unfold parseUint10
  split
  ·split
   ·rfl
   split
   ·rfl
   exact XX c r _
  rfl
theorem Zm(u:Nat)(hu:u<18446744073709551616):parseUint10 0 (decDigits u)=.ok u:=by
 induction u using Nat.strongRecOn with
 | _ u ih =>
 by_cases h:u<10
 ·rw[decDigits_one h]
  unfold parseUint10
  rw[WJ h,if_pos (by omega),if_neg (by omega),if_neg (by omega)]
  unfold parseUint10
  congr 1;omega
 rw[decDigits,dif_neg h,XX,ih (u / 10) (by omega) (by omega)]
 show parseUint10 (u / 10) _=_
 unfold parseUint10
 rw[WJ (show u % 10<10 by omega),if_pos (by omega),if_neg (by omega),if_neg (by omega)]
 unfold parseUint10
 congr 1;omega
def I64(n:Int):Prop := -9223372036854775808<=n/\n<=9223372036854775807
theorem jgA{n:Int}(h:I64 n):atoiAll (itoa n)=.ok n:=by
 obtain⟨h0,h1⟩:=h
 unfold itoa
 by_cases hn:n<0
 ·rw[if_pos hn]
  unfold atoiAll
  have e45:(45:UInt8).toNat=45:=rfl
  simp only[e45,or_true,if_true]
  have hm:parseMag (decDigits n.natAbs)=.ok n.natAbs:=by
   unfold parseMag
   rw[if_neg (jcq _),Zm _ (by omega)]
  rw[hm]
  simp only[not_true,false_and,if_false,true_and]
  rw[if_neg (by omega)]
  congr 1;omega
 rw[if_neg hn]
 have hm:parseMag (decDigits n.toNat)=.ok n.toNat:=by
  unfold parseMag
  rw[if_neg (jcq _),Zm _ (by omega)]
 cases hd:decDigits n.toNat with
 | nil=>exact absurd hd (jcq _)
 | cons c r =>
 have hc:=qG n.toNat c (by rw[hd];exact jno)
 unfold atoiAll
 simp only
 rw[if_neg (by omega),<- hd,hm]
 simp only
 rw[if_neg (by omega),if_neg (by omega),if_neg (by omega)]
 congr 1;omega
def qX(l:List UInt8):Int:=match atoiAll l with | .ok v=>v | NumEnd.syntax=>0 | .range=>atoiSat l
theorem yO{n:Int}(h:I64 n):qX (itoa n)=n:=by unfold qX;rw[jgA h]
theorem jdp(n:Int):∀c∈itoa n,c.toNat=45\/(48<=c.toNat/\c.toNat<=57):=by
 intro c hc
 unfold itoa at hc
 split at hc
 ·rcases List.mem_cons.1 hc with rfl|hc
  ·exact .inl rfl
  exact .inr (qG _ c hc)
 exact .inr (qG _ c hc)
theorem jkh{n:Int}{c:UInt8}(h1:c.toNat≠45)(h2:c.toNat<48\/57<c.toNat):c∉itoa n:=fun hc=>by
 have:=jdp n c hc
 omega
theorem jhV{a b:Int}(ha:I64 a)(hb:I64 b)(h:itoa a=itoa b):a=b:=by
 rw[<- yO ha,<- yO hb,h]
end
namespace Fr
open Go.Lib
def sp:Bool->List UInt8->Bool
 | _,[]=>true
 | s,c::l=>(!s || c==32)&&sp (c==10) l
def xf(s:Bool)(l:List UInt8):Bool:=match l.getLast? with | none=>s | some c=>c==10
def yr(l:List UInt8):Bool:=l.getLast?==some 10
def goodR(l:List UInt8):Bool:=decide (2<=l.length)&&decide (l.length<=50000)&&yr l&&sp true l
def AMD:List UInt8:=[37,97,109,101,110,100,32]
def END:List UInt8:=[37,101,110,100,32]
def zn(n:Nat)(f:List UInt8):List UInt8:=AMD++(decDigits n++32::f)
def qt(n:Nat):List UInt8:=END++(decDigits n++[10])
def recR(n:Nat)(f b:List UInt8):List UInt8:=zn n f++10::(b++qt n)
def yL(b:List UInt8):List UInt8:=(Sm.figs (Sm.M.crc b)).data.toList
def fullR(b:List UInt8):List UInt8:=recR b.length (yL b) b
def GQ(f:List UInt8):Prop:=∃x,Sm.takes f=some x
structure jaB(l:List UInt8)(n:Nat)(f:List UInt8):Prop where
 lo:2<=n
 hi:n<=50000
 fig:GQ f
 eq:l=zn n f
def xu(t:List UInt8):Prop:=∃n f b z,goodR b=true/\b.length=n/\GQ f/\t++z=recR n f b/\z≠[]
def vN(t b:List UInt8):Prop:=goodR b=true/\∃more,t=fullR b++more
def yQ(t:List UInt8)(k:Nat)(b:List UInt8)(n:Nat):Prop :=
 (vN t b/\k=1/\n=(fullR b).length)\/(xu t/\k=2/\b=[]/\n=0)\/(¬xu t/\(¬∃b,vN t b)/\k=3/\b=[]/\n=0)
theorem jkV{a b:Nat}(ha:a<18446744073709551616)(hb:b<18446744073709551616)(h:decDigits a=decDigits b):a=b:=by
 have h1:=Zm a ha
 rw[h,Zm b hb]at h1
 injection h1 with h1
 exact h1.symm
theorem xk{n:Nat}(h:¬n<10):decDigits n=decDigits (n / 10)++[UInt8.ofNat (48+n % 10)]:=by rw[decDigits,dif_neg h]
theorem Vr{n:Nat}(h:n<=99999):(decDigits n).length<=5:=by
 have step:∀(k m:Nat),(m<10 ^ k->(decDigits m).length<=k)->∀u,u<10 ^ (k+1)->(u / 10=m\/u<10)->(decDigits u).length<=k+1:=by
  intro k m ih u hu hm
  by_cases h10:u<10
  ·rw[decDigits_one h10];simp
  rcases hm with hm|hm
  ·rw[xk h10,jnf,hm]
   have:m<10 ^ k:=by rw[Nat.pow_succ]at hu;omega
   have:=ih this
   simp;omega
  exact absurd hm h10
 have h0:∀k u:Nat,1<=k->u<10 ^ k->(decDigits u).length<=k:=by
  intro k
  induction k with
  | zero=>intro u hk;omega
  | succ k ih =>
  intro u _ hu
  by_cases hk:k=0
  ·subst hk
   rw[decDigits_one (by simpa using hu)];simp
  exact step k (u / 10) (ih (u / 10) (by omega)) u hu (.inl rfl)
 exact h0 5 n (by omega) (by omega)
theorem jdV:∀(n:Nat) (ds r:List UInt8),ds≠[]->ds++r=decDigits n->∃v,ds=decDigits v/\v<=n/\(1<=n->1<=v):=by
 intro n
 induction n using Nat.strongRecOn with
 | _ n ih =>
 intro ds r hd h
 by_cases h10:n<10
 ·rw[decDigits_one h10]at h
  cases ds with
  | nil=>exact absurd rfl hd
  | cons c ds =>
  have hl:=congrArg List.length h
  simp only[jnf,jni,jnG]at hl
  obtain⟨rfl,rfl⟩:ds=[]/\r=[]:=by constructor<;>apply jn7<;>omega
  exact⟨n,by rw[decDigits_one h10];simpa using h,jnd _,id⟩
 rcases jo9 r with rfl|⟨r0,x,rfl⟩
 ·exact⟨n,by simpa using h,jnd _,id⟩
 rw[xk h10,jpa,<- jnx]at h
 have h1:=(List.append_inj' h rfl).1
 obtain⟨v,e,hv,h1v⟩:=ih (n / 10) (by omega) ds r0 hd h1
 exact⟨v,e,by omega,fun _=>h1v (by omega)⟩
theorem jiF(n:Nat):(10:UInt8)∉decDigits n:=fun h=>by have:=qG n _ h;simp at this
theorem WK(n:Nat):(32:UInt8)∉decDigits n:=fun h=>by have:=qG n _ h;simp at this
theorem YQ{f:List UInt8}(h:GQ f):f.length=8:=by
 obtain⟨x,h⟩:=h
 unfold Sm.takes at h
 split at h
 ·assumption
 cases h
def jks(c:UInt8):Bool:=(Sm.val c.toNat).isSome
theorem ji4:∀(l:List UInt8) (acc:Nat),(∃x,Sm.tk acc l=some x)↔l.all jks=true
 | [],acc=>by simp[Sm.tk]
 | c::l,acc=>by
  unfold Sm.tk
  cases hv:Sm.val c.toNat with
  | none=>simp[jks,hv]
  | some d=>simp only[joZ,jks,hv,Option.isSome_some,joR];exact ji4 l _
theorem Zw{f:List UInt8}:GQ f↔f.length=8/\f.all jks=true:=by
 unfold GQ Sm.takes
 by_cases h:f.length=8
 ·simp only[h,if_true,true_and];exact ji4 f 0
 simp[h]
theorem jlO{c:UInt8}(h:jks c=true):c≠10/\c≠32:=by
 constructor<;>(rintro rfl;revert h;decide)
theorem jio{f:List UInt8}(h:GQ f):(10:UInt8)∉f:=fun hm=>(jlO (List.all_eq_true.1 (Zw.1 h).2 _ hm)).1 rfl
theorem vt(b:List UInt8):GQ (yL b):=⟨_,Sm.takes_figs _ (Sm.M.crc_lt b)⟩
theorem vx{n:Nat}{f:List UInt8}(h:GQ f):(10:UInt8)∉zn n f:=by
 unfold zn AMD
 have:=jiF n
 have:=jio h
 simp_all
theorem split_at{m:UInt8}:∀{a b x y:List UInt8},m∉a->m∉b->a++m::x=b++m::y->a=b/\x=y
 | [],[],x,y,_,_,h=>by simpa using h
 | [],c::b,x,y,_,hb,h=>by simp at h;exact absurd (h.1▸jno) hb
 | c::a,[],x,y,ha,_,h=>by simp at h;exact absurd (h.1▸jno) ha
 | c::a,d::b,x,y,ha,hb,h=>by
  simp only[jny,List.cons.injEq]at h
  obtain⟨rfl,h⟩:=h
  obtain⟨rfl,rfl⟩:=split_at (fun q=>ha (jnm _ q)) (fun q=>hb (jnm _ q)) h
  exact⟨rfl,rfl⟩
theorem Wp{n n':Nat}{f f':List UInt8}(hn:n<=50000)(hn':n'<=50000)(h:zn n f=zn n' f'):n=n'/\f=f':=by
 unfold zn at h
 have h1:=jpr h
 obtain⟨h2,h3⟩:=split_at (WK n) (WK n') h1
 exact⟨jkV (by omega) (by omega) h2,h3⟩
end Fr
namespace Hd
open Go.Lib
def Ui:List UInt8:=[35,37,103,101,110,32]
def zE(g:Nat):List UInt8:=Ui++(decDigits g++[10,10])
def Of(t:List UInt8)(g:Nat):Prop:=1<=g/\g<=2147483648/\∃r,t=zE g++r
def Qs(t:List UInt8)(n:Nat):Prop:=Of t n\/(n=0/\∀g,¬Of t g)
theorem jgh(n:Nat):(10:UInt8)∉decDigits n:=fun h=>by have:=qG n _ h;simp at this
theorem jkT{a b:Nat}(ha:a<=2147483648)(hb:b<=2147483648)(h:decDigits a=decDigits b):a=b:=by
 have e:itoa (a:Int)=itoa (b:Int):=by rw[itoa_nonneg,itoa_nonneg,h]
 have:=jhV (by constructor<;>omega) (by constructor<;>omega) e
 omega
theorem zI(g:Nat)(r:List UInt8):zE g++r=Ui++(decDigits g++10::(10::r)):=by unfold zE;simp
theorem jb9{a b:Nat}(ha:a<=2147483648)(hb:b<=2147483648){r q:List UInt8}(h:zE a++r=zE b++q):a=b/\r=q:=by
 rw[zI,zI]at h
 obtain⟨h1,h2⟩:=Fr.split_at (jgh a) (jgh b) (jpr h)
 exact⟨jkT ha hb h1,by simpa using h2⟩
theorem jlC{t:List UInt8}{a b:Nat}(h:Of t a)(h':Of t b):a=b:=by
 obtain⟨_,h2,r,e⟩:=h
 obtain⟨_,h4,q,e'⟩:=h'
 exact(jb9 h2 h4 (e.symm.trans e')).1
theorem gen_one{t:List UInt8}{a b:Nat}(h:Qs t a)(h':Qs t b):a=b:=by
 rcases h with h|⟨rfl,h⟩<;>rcases h' with h'|⟨rfl,h'⟩
 ·exact jlC h h'
 ·exact absurd h (h' _)
 ·exact absurd h' (h _)
 rfl
theorem jgg(g:Nat)(hg:g<=2147483648):1<=(decDigits g).length/\(decDigits g).length<=20:=by
 constructor
 ·have:=jcq g
  cases h:decDigits g with
  | nil=>exact absurd h this
  | cons a l=>simp
 rw[decDigits_length];exact nDigits_le20 g (by omega)
theorem jh3(g:Nat)(hg:g<=2147483648):9<=(zE g).length/\(zE g).length<=28:=by
 have:=jgg g hg
 unfold zE Ui
 simp only[jnf,jni,jnG];omega
theorem Wp{a b:Nat}(ha:a<=2147483648)(hb:b<=2147483648):zE a=zE b↔a=b :=
 ⟨fun h=>(jb9 (r:=[]) (q:=[]) ha hb (by rw[h])).1,fun h=>by rw[h]⟩
theorem jb6:∀(ds r:List UInt8),(10:UInt8)∉ds->index (ds++10::10::r) [10,10]=ds.length
 | [],r,_=>by simp[index]
 | c::ds,r,h=>by
  have hc:c≠10:=fun e=>h (by simp[e])
  have ih:=jb6 ds r (fun q=>h (jnm _ q))
  have hp:List.isPrefixOf [10,10] (c::(ds++10::10::r))=false:=by
   have hb:((10:UInt8)==c)=false:=by simpa using fun e=>hc e.symm
   simp[List.isPrefixOf,hb]
  rw[jny,index,hp,ih]
  simp only[jpl,if_false]
  rw[if_neg (by simp)]
  simp
theorem jl3(ds r:List UInt8)(h:(10:UInt8)∉ds):(cut (ds++10::10::r) [10,10]).1=ds:=by
 unfold cut
 rw[jb6 ds r h,if_pos (by omega)]
 simp
theorem jeu(r:List UInt8):trimPrefix (Ui++r) Ui=r:=by
 unfold trimPrefix hasPrefix Ui
 rw[if_pos (by simp[List.isPrefixOf])]
 simp
def figs(t:List UInt8):List UInt8:=(cut (trimPrefix t Ui) [10,10]).1
theorem jkE{t:List UInt8}{g:Nat}(h:Of t g):figs t=decDigits g:=by
 obtain⟨_,_,r,rfl⟩:=h
 unfold figs
 rw[zI,jeu,jl3 _ _ (jgh g)]
theorem jin(t:List UInt8):(figs t).length<=t.length:=by
 unfold figs cut
 split
 ·rw[jnk]
  unfold trimPrefix;split
  ·rw[jnr];omega
  omega
 show(trimPrefix t Ui).length<=_
 unfold trimPrefix;split
 ·rw[jnr];omega
 omega
theorem Gi{t:List UInt8}{g:Nat}(h1:1<=g)(h2:g<=2147483648):hasPrefix t (zE g)=true↔Of t g:=by
 unfold hasPrefix
 rw[joU]
 exact⟨fun⟨r,e⟩=>⟨h1,h2,r,e.symm⟩,fun⟨_,_,r,e⟩=>⟨r,e.symm⟩⟩
theorem jid(t:List UInt8):Qs t (if 1<=qX (figs t)/\qX (figs t)<=2147483648/\hasPrefix t (zE (qX (figs t)).toNat)=true then (qX (figs t)).toNat else 0):=by
 split
 ·rename_i h
  obtain⟨h1,h2,h3⟩:=h
  exact .inl ((Gi (by omega) (by omega)).1 h3)
 rename_i h
 refine .inr ⟨rfl,fun g hg=>h ?_⟩
 have e:=jkE hg
 have hv:qX (figs t)=g:=by
  rw[e,<- itoa_nonneg]
  obtain⟨h1,h2,_⟩:=hg
  exact yO (by constructor<;>omega)
 rw[hv]
 have h1:=hg.1
 have h2:=hg.2.1
 refine⟨by omega,by omega,?_⟩
 rw[jox]
 exact(Gi h1 h2).2 hg
theorem gen_lt{t:List UInt8}{n:Nat}(h:Qs t n):n<=2147483648:=by
 rcases h with h|⟨rfl,_⟩
 ·exact h.2.1
 omega
theorem jkv{t:List UInt8}{n:Nat}(h:Qs t n)(hn:1<=n):∃r,t=zE n++r:=by
 rcases h with h|⟨rfl,_⟩
 ·exact h.2.2
 omega
theorem gen_short{t:List UInt8}(h:t.length<9):Qs t 0:=.inr ⟨rfl,by
 rintro g ⟨h1,h2,r,rfl⟩
 have:=jh3 g h2
 simp only[jnf]at h;omega⟩
theorem Yx(l:List UInt8)(r:List UInt8)(no c:Nat)(h:(10:UInt8)∉l):jQ no c (l++10::r)=⟨no,c,l,true⟩::jQ (no+1) (c+l.length+1) r:=by
 obtain⟨h1,h2⟩:=YH l r h
 have hu:qI (l++10::r)=l.length+1:=by unfold qI;rw[h1,h2];rfl
 have hd:(l++10::r).drop (l.length+1)=r:=by
  rw[show l++10::r=(l++[10])++r by simp]
  exact jos (by simp)
 rw[jx _ _ _ (by simp),h1,h2,hu,hd]
 rfl
def two(g:Nat):List It:=[⟨2,Ui++(decDigits g++[10]),[]⟩,⟨1,[10],[]⟩]
end Hd
namespace Fr
open Go.Lib
theorem qy:∀(a b:List UInt8) (s:Bool),sp s (a++b)=(sp s a&&sp (xf s a) b)
 | [],b,s=>by simp[sp,xf]
 | c::a,b,s=>by
  have e:xf s (c::a)=xf (c==10) a:=by
   unfold xf
   rw[List.getLast?_cons]
   cases a.getLast?<;>simp
  simp only[jny,sp,qy a b (c==10),e,Bool.and_assoc]
theorem QQ(a b:List UInt8)(s:Bool)(h:b≠[]):xf s (a++b)=xf true b:=by
 unfold xf
 rw[List.getLast?_append]
 cases hb:b.getLast? with
 | none=>exact absurd (List.getLast?_eq_none_iff.1 hb) h
 | some c=>simp
theorem Zg:∀(k:Nat) (s:Bool),sp s (List.replicate k 32)=true
 | 0,s=>by cases s<;>rfl
 | k+1,s=>by rw[List.replicate_succ];unfold sp;rw[Zg k];simp
theorem xO(k:Nat)(s:Bool):xf s (List.replicate k 32)=(s&&decide (k=0)):=by
 cases k with
 | zero=>simp[xf]
 | succ k=>unfold xf;rw[List.getLast?_replicate];simp
theorem good_iff{l:List UInt8}:goodR l=true↔2<=l.length/\l.length<=50000/\yr l=true/\sp true l=true:=by unfold goodR;simp[and_assoc]
theorem ja7{n:Nat}(h2:2<=n)(h5:n<=50000):goodR (List.replicate (n-1) 32++[10])=true:=by
 rw[good_iff,qy,Zg,xO]
 have:¬n-1=0:=by omega
 refine⟨by simp;omega,by simp;omega,by simp[yr],?_⟩
 simp[sp,this]
def yu(t:List UInt8)(n:Nat):Bool:=sp true t && !(xf true t&&decide (n-t.length<2))
theorem jao{t:List UInt8}{n:Nat}(h2:2<=n)(h5:n<=50000)(hl:t.length<n):(∃z,goodR (t++z)=true/\(t++z).length=n)↔yu t n=true:=by
 unfold yu
 constructor
 ·rintro⟨z,hg,hz⟩
  obtain⟨_,_,h3,h4⟩:=good_iff.1 hg
  rw[qy]at h4
  simp only[jnv]at h4 ⊢
  refine⟨h4.1,?_⟩
  cases hf:xf true t with
  | false=>rfl
  | true =>
  rw[hf]at h4
  rw[jnf]at hz
  by_cases hk:n-t.length<2
  ·exfalso
   obtain⟨c,rfl⟩:∃c,z=[c]:=by
    match z,hz with
    | [],hz=>simp at hz;omega
    | [c],_=>exact⟨c,rfl⟩
    | a::b::z,hz=>simp at hz;omega
   have h5:=h4.2
   unfold yr at h3
   simp[sp]at h3 h5
   subst h3
   cases h5
  simp[hk]
 intro h
 simp only[jnv]at h
 refine⟨List.replicate (n-t.length-1) 32++[10],?_,by simp;omega⟩
 rw[good_iff]
 refine⟨by simp;omega,by simp;omega,by simp[yr],?_⟩
 rw[qy,h.1,joR,qy,Zg,xO]
 cases hf:xf true t with
 | false=>simp[sp]
 | true =>
 have h2:=h.2
 rw[hf]at h2
 have:¬n-t.length-1=0:=by simp at h2;omega
 simp[sp,this]
theorem jgu{t:List UInt8}{n:Nat}(h2:2<=n)(h5:n<=50000)(hl:t.length<n):goodR (t++(List.replicate (n-t.length-1) 32++[10]))=yu t n:=by
 rw[jod]
 constructor
 ·intro h
  exact(jao h2 h5 hl).1 ⟨_,h,by simp;omega⟩
 intro h
 unfold yu at h
 simp only[jnv]at h
 rw[good_iff]
 refine⟨by simp;omega,by simp;omega,by simp[yr],?_⟩
 rw[qy,h.1,joR,qy,Zg,xO]
 cases hf:xf true t with
 | false=>simp[sp]
 | true =>
 have h2:=h.2
 rw[hf]at h2
 have:¬n-t.length-1=0:=by simp at h2;omega
 simp[sp,this]
def vU(l:List UInt8):Prop:=∃n f z,2<=n/\n<=50000/\GQ f/\l++z=zn n f
theorem JA{a b z:List UInt8}(h:a++z=b)(k:Nat)(hk:a.length<=k):∃y,a++y=b.take k:=⟨z.take (k-a.length),by rw[<- h,List.take_append,jnD hk]⟩
theorem vj(n:Nat)(f b:List UInt8):recR n f b=zn n f++10::(b++qt n):=rfl
theorem Gg{t:List UInt8}(h:(10:UInt8)∉t):xu t↔vU t:=by
 constructor
 ·rintro⟨n,f,b,z,hg,hn,hf,he,hz⟩
  obtain⟨h2,h5,_,_⟩:=good_iff.1 hg
  refine⟨n,f,?_⟩
  by_cases hl:t.length<=(zn n f).length
  ·obtain⟨y,hy⟩:=JA he (zn n f).length hl
   rw[vj,jpq]at hy
   exact⟨y,by omega,by omega,hf,hy⟩
  exfalso
  have h1:(zn n f++[10]).length<=t.length:=by simp;omega
  have e:zn n f++[10]++(b++qt n)=t++z:=by rw[he,vj];simp
  obtain⟨y,hy⟩:=JA e t.length h1
  rw[jpq]at hy
  exact h (by rw[<- hy];simp)
 rintro⟨n,f,z,h2,h5,hf,he⟩
 refine⟨n,f,List.replicate (n-1) 32++[10],z++10::((List.replicate (n-1) 32++[10])++qt n),ja7 h2 h5,by simp;omega,hf,?_,by simp⟩
 rw[vj,<- he];simp
theorem Wm{t b:List UInt8}(h:(10:UInt8)∉t):¬vN t b:=by
 rintro⟨_,more,rfl⟩
 exact h (by unfold fullR;rw[vj];simp)
theorem jhE{l r:List UInt8}(hl:(10:UInt8)∉l)(h:¬∃n f,jaB l n f):¬xu (l++10::r)/\¬∃b,vN (l++10::r) b:=by
 constructor
 ·rintro⟨n,f,b,z,hg,hn,hf,he,hz⟩
  obtain⟨h2,h5,_,_⟩:=good_iff.1 hg
  rw[vj,jnx,jny]at he
  exact h ⟨n,f,by omega,by omega,hf,(split_at hl (vx hf) he).1⟩
 rintro⟨b,hg,more,he⟩
 obtain⟨h2,h5,_,_⟩:=good_iff.1 hg
 unfold fullR at he
 rw[vj,jnx,jny]at he
 exact h ⟨b.length,yL b,h2,h5,vt b,(split_at hl (vx (vt b)) he).1⟩
theorem Yh{n:Nat}{f r:List UInt8}(h2:2<=n)(h5:n<=50000)(hf:GQ f):xu (zn n f++10::r)↔∃b z,goodR b=true/\b.length=n/\r++z=b++qt n/\z≠[]:=by
 constructor
 ·rintro⟨n',f',b,z,hg,hn,hf',he,hz⟩
  obtain⟨h2',h5',_,_⟩:=good_iff.1 hg
  rw[vj,jnx,jny]at he
  obtain⟨e1,e2⟩:=split_at (vx hf) (vx hf') he
  obtain⟨rfl,rfl⟩:=Wp h5 (by omega) e1
  exact⟨b,z,hg,hn,e2,hz⟩
 rintro⟨b,z,hg,hn,he,hz⟩
 exact⟨n,f,b,z,hg,hn,hf,by rw[vj,<- he];simp,hz⟩
theorem Qw{n:Nat}{f r b:List UInt8}(h2:2<=n)(h5:n<=50000)(hf:GQ f):vN (zn n f++10::r) b↔goodR b=true/\b.length=n/\yL b=f/\∃more,r=b++(qt n++more):=by
 constructor
 ·rintro⟨hg,more,he⟩
  obtain⟨h2',h5',_,_⟩:=good_iff.1 hg
  unfold fullR at he
  rw[vj,jnx,jny]at he
  obtain⟨e1,e2⟩:=split_at (vx hf) (vx (vt b)) he
  obtain⟨rfl,rfl⟩:=Wp h5 (by omega) e1
  exact⟨hg,rfl,rfl,more,by rw[e2];simp⟩
 rintro⟨hg,rfl,rfl,more,rfl⟩
 exact⟨hg,more,by unfold fullR;rw[vj];simp⟩
theorem jc2{n:Nat}{f r:List UInt8}(h2:2<=n)(h5:n<=50000)(hf:GQ f)(hl:r.length<n):(xu (zn n f++10::r)↔yu r n=true)/\¬∃b,vN (zn n f++10::r) b:=by
 constructor
 ·rw[Yh h2 h5 hf,<- jao h2 h5 hl]
  constructor
  ·rintro⟨b,z,hg,hn,he,hz⟩
   obtain⟨y,hy⟩:=JA he b.length (by omega)
   rw[jpq]at hy
   exact⟨y,by rw[hy];exact hg,by rw[hy];exact hn⟩
  rintro⟨z,hg,hz⟩
  exact⟨r++z,z++qt n,hg,hz,by simp,by intro q;have:=(List.append_eq_nil_iff.1 q).2;simp[qt,END]at this⟩
 rintro⟨b,h⟩
 obtain⟨_,hn,_,more,rfl⟩:=(Qw h2 h5 hf).1 h
 simp at hl;omega
theorem Yv{n:Nat}{f b r:List UInt8}(h2:2<=n)(h5:n<=50000)(hf:GQ f)(hl:b.length=n):
  (xu (zn n f++10::(b++r))↔goodR b=true/\∃z,r++z=qt n/\z≠[])/\(∀b',vN (zn n f++10::(b++r)) b'↔b'=b/\goodR b=true/\yL b=f/\∃more,r=qt n++more):=by
 constructor
 ·rw[Yh h2 h5 hf]
  constructor
  ·rintro⟨b',z,hg,hn,he,hz⟩
   rw[jnx]at he
   obtain⟨rfl,e2⟩:=List.append_inj he (by omega)
   exact⟨hg,z,e2,hz⟩
  rintro⟨hg,z,he,hz⟩
  exact⟨b,z,hg,hl,by rw[jnx,he],hz⟩
 intro b'
 rw[Qw h2 h5 hf]
 constructor
 ·rintro⟨hg,hn,hfg,more,he⟩
  obtain⟨rfl,e2⟩:=List.append_inj he (by omega)
  exact⟨rfl,hg,hfg,more,e2⟩
 rintro⟨rfl,hg,hfg,more,rfl⟩
 exact⟨hg,hl,hfg,more,rfl⟩
theorem Jq{t b:List UInt8}(h:vN t b):¬xu t:=by
 obtain⟨hg,more,rfl⟩:=h
 obtain⟨h2,h5,_,_⟩:=good_iff.1 hg
 intro hp
 have e:fullR b++more=zn b.length (yL b)++10::(b++(qt b.length++more)):=by unfold fullR;rw[vj];simp
 rw[e]at hp
 obtain⟨_,z,hz,h0⟩:=(Yv h2 h5 (vt b) rfl).1.1 hp
 have:=congrArg List.length hz
 simp only[jnf]at this
 exact h0 (jn7 (by omega))
theorem Uk{t b b':List UInt8}(h:vN t b)(h':vN t b'):b=b':=by
 obtain⟨hg,more,rfl⟩:=h
 obtain⟨h2,h5,_,_⟩:=good_iff.1 hg
 have e:fullR b++more=zn b.length (yL b)++10::(b++(qt b.length++more)):=by unfold fullR;rw[vj];simp
 rw[e]at h'
 exact(((Yv h2 h5 (vt b) rfl).2 b').1 h').1.symm
theorem full_begins{b:List UInt8}(hg:goodR b=true){k:Nat}(hk:k<(fullR b).length):xu ((fullR b).take k) :=
 ⟨b.length,yL b,b,(fullR b).drop k,hg,rfl,vt b,jnQ _ _,fun q=>by have:=congrArg List.length q;simp at this;omega⟩
end Fr
end Go.Proofs.YtpibhbjmcmfnmaaGreatDoor
