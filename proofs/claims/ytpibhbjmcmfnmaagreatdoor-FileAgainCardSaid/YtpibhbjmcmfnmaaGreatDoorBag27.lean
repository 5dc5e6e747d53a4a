/- Texts put together:SD,NS,NT,NU,NV,NP,NW,EC,EO,EW,SE,SF,AO,AD,DV,SG,DP,DT,AM,BD,BE,BF,WQ,BI,BG,EY,AQ,HF,ES,HA,EL,EZ,AS,AT,AU,AW,BJ,AN,AR,FV,BH,HD,HB,HE,SYN,SM,SO,SN. -/
import Derived.BigFrame
import Derived.Lib.SliceRun
import Derived.Test.YtpibhbjmcmfnmaaGreatDoorBag26
set_option linter.unusedVariables false
set_option maxRecDepth 100000
set_option maxHeartbeats 16000000
namespace Go.Proofs.YtpibhbjmcmfnmaaGreatDoor
open Go.RowKit Go.Shelf Tryz
namespace Bk
attribute [local go_sem] jnn
theorem jc7{fn:Func}{p u:Tmp}{ty:TypeId}(h:fn.results=#[.cell p ty,.tmp u])(tmps:Array Value)(P:Program)(w:World):
  (results fn tmps).run P w=((asAddr (tmps.getD p undef)).run P w).andThen fun a w₁=>((loadVar ty a).run P w₁).andThen fun v w₂=>.ok (.tuple #[v,tmps.getD u undef]) w₂:=by
 simp only[results,h]
 simp[Sem.run_bind,Result.andThen]
theorem XO{fn:Func}{p u:Tmp}(h:fn.results=#[.cell p 73,.tmp u])(tmps:Array Value)(w:World)(b:Nat)(cur:Array Value)(hp:tmps.getD p undef=.pointer (some ⟨b,0,none⟩))
  (hc:ja w b 73 cur) (hz:cur.size=5):(results fn tmps).run prog w=.ok (.tuple #[.agg cur,tmps.getD u undef]) w:=by
 have L:=run_loadVar_row (P:=prog) w b 73 73 cur (0,0) _ hc underlying73 rfl (by rw[hz];kernel_rfl)
 rw[jc7 h,hp]
 show((loadVar _ _).run _ _).andThen _=_
 rw[L];rfl
theorem jjV{W:World}{b:Nat}{T:TypeId}{a0 a1 a2 a3 a4:Value}(h:ja W b T #[a0,a1,a2,a3,a4])(v0 v1 v2 v3 v4:Value):
  ja (((((W.setCell ⟨b,0,none⟩ v0).setCell ⟨b,1,none⟩ v1).setCell ⟨b,2,none⟩ v2).setCell ⟨b,3,none⟩ v3).setCell ⟨b,4,none⟩ v4) b T #[v0,v1,v2,v3,v4]/\jv (· = b) W (((((W.setCell ⟨b,0,none⟩ v0).setCell ⟨b,1,none⟩ v1).setCell ⟨b,2,none⟩ v2).setCell ⟨b,3,none⟩ v3).setCell ⟨b,4,none⟩ v4):=by
 have k:=((((h.set 0 v0).set 1 v1).set 2 v2).set 3 v3).set 4 v4
 refine⟨by simpa [List.setIfInBounds_toArray,List.set]using k,(((((jv.refl (· = b) W).cellS 0 v0).cellS 1 v1).cellS 2 v2).cellS 3 v3).cellS 4 v4⟩
def jaG:Value:=Ql 0 [] (.slice none 0 0) (.slice none 0 0) []
def jk7(w w':World)(t:List UInt8)(e:Ending):Prop:=Below w.heap.size w w' /\
  ((∃a k u,jE (vn (t.drop (hl (Hd.genP t))))=.error (a,k)/\e=.returned (.tuple #[jaG,u])/\jr w.heap.size w' u a k) \/
   (∃its bds r u,jE (vn (t.drop (hl (Hd.genP t))))=.ok its/\jgO Dc (t.drop (hl (Hd.genP t)+(vn (t.drop (hl (Hd.genP t)))).length)) bds r/\jlk Dc r/\e=.returned (.tuple #[jaG,u])/\jr w.heap.size w' u bds.length 10) \/
   (∃base bds tail v,qL Dc t (Hd.genP t) base bds tail/\e=.returned (.tuple #[v,.nilIface])/\xv w.heap.size w' v (Hd.genP t) base bds tail))
theorem jkn:(prog.info? 22).map (fun i=>(i.zero,i.size,i.bytes))=some (some (.slice none 0 0),1,24):=by kernel_rfl
theorem jfC:(prog.info? 3).map (fun i=>(i.zero,i.size,i.bytes))=some (some (.int .i64 0),1,8):=by kernel_rfl
def jhR(w:World)(b:Nat):Nat:=match w.cell? ⟨b,2,none⟩ with | some (.slice _ n _)=>n | _=>0
theorem jfH{D:List UInt8->Bool}{s r:List UInt8}{bds:List (List UInt8)}(h:jgO D s bds r):s.length=(bds.flatMap Fr.fullR).length+r.length:=by
 rw[h.eq,jnf]
theorem jkU:jdW []=none:=by
 cases h:jdW []with
 | none=>rfl
 | some eds =>
 obtain⟨_,h1,_,h2⟩:=WL.1 h
 cases eds with
 | nil=>exact absurd h1 (by decide)
 | cons a r =>
 have:=congrArg List.length h2
 unfold js zG jf8 jn at this
 simp at this
theorem jf4{lo:Nat}{W:World}{q k:Nat}(hq:lo<=q)(h:ja W q 135 #[.int .i64 (k:Int),.iface 46 (.int .i64 10)]):jr lo W (.iface 133 (.pointer (some ⟨q,0,none⟩))) k 10 :=
 ⟨q,hq,rfl,by rw[ze 10 (by decide)];exact h⟩
theorem jcy{w w7:World}(hB:Below w.heap.size w w7)(C7:ja w7 w.heap.size 73 #[.int .i64 0,.string ⟨#[]⟩,.slice none 0 0,.slice none 0 0,.string ⟨#[]⟩])(k:Nat):
  Below w.heap.size w ((((((w7.alloc (.cells #[.int .i64 (k:Int),.iface 46 (.int .i64 10)] 135)).setCell ⟨w.heap.size,0,none⟩ (.int .i64 0)).setCell ⟨w.heap.size,1,none⟩ (.string ⟨#[]⟩)).setCell ⟨w.heap.size,2,none⟩ (.slice none 0 0)).setCell ⟨w.heap.size,3,none⟩ (.slice none 0 0)).setCell ⟨w.heap.size,4,none⟩ (.string ⟨#[]⟩)).drew /\
  ja ((((((w7.alloc (.cells #[.int .i64 (k:Int),.iface 46 (.int .i64 10)] 135)).setCell ⟨w.heap.size,0,none⟩ (.int .i64 0)).setCell ⟨w.heap.size,1,none⟩ (.string ⟨#[]⟩)).setCell ⟨w.heap.size,2,none⟩ (.slice none 0 0)).setCell ⟨w.heap.size,3,none⟩ (.slice none 0 0)).setCell ⟨w.heap.size,4,none⟩ (.string ⟨#[]⟩)).drew w.heap.size 73 #[.int .i64 0,.string ⟨#[]⟩,.slice none 0 0,.slice none 0 0,.string ⟨#[]⟩] /\
  jr w.heap.size ((((((w7.alloc (.cells #[.int .i64 (k:Int),.iface 46 (.int .i64 10)] 135)).setCell ⟨w.heap.size,0,none⟩ (.int .i64 0)).setCell ⟨w.heap.size,1,none⟩ (.string ⟨#[]⟩)).setCell ⟨w.heap.size,2,none⟩ (.slice none 0 0)).setCell ⟨w.heap.size,3,none⟩ (.slice none 0 0)).setCell ⟨w.heap.size,4,none⟩ (.string ⟨#[]⟩)).drew (.iface 133 (.pointer (some ⟨w7.heap.size,0,none⟩))) k 10:=by
 have hF:=ja.new w7 135 #[.int .i64 (k:Int),.iface 46 (.int .i64 10)]
 have hb:Below w.heap.size w (w7.alloc (.cells #[.int .i64 (k:Int),.iface 46 (.int .i64 10)] 135)):=hB.alloc hB.size _
 obtain⟨h1,h2⟩:=jjV (C7.alloc (.cells #[.int .i64 (k:Int),.iface 46 (.int .i64 10)] 135)) (.int .i64 0) (.string ⟨#[]⟩) (.slice none 0 0) (.slice none 0 0) (.string ⟨#[]⟩)
 have hlt:=C7.lt
 exact⟨(hb.trans (h2.to_below hb.size (fun r hr e=>by omega))).drew,h1.drew,jf4 hB.size ((hF.only h2 (fun e=>by omega)).drew)⟩
theorem jcx{w w7:World}(hB:Below w.heap.size w w7)(C7:ja w7 w.heap.size 73 #[.int .i64 0,.string ⟨#[]⟩,.slice none 0 0,.slice none 0 0,.string ⟨#[]⟩])(k:Nat):
  Below w.heap.size w ((((((w7.setCell ⟨w.heap.size,0,none⟩ (.int .i64 0)).setCell ⟨w.heap.size,1,none⟩ (.string ⟨#[]⟩)).setCell ⟨w.heap.size,2,none⟩ (.slice none 0 0)).setCell ⟨w.heap.size,3,none⟩ (.slice none 0 0)).setCell ⟨w.heap.size,4,none⟩ (.string ⟨#[]⟩)).alloc (.cells #[.int .i64 (k:Int),.iface 46 (.int .i64 10)] 135)).drew /\
  ja ((((((w7.setCell ⟨w.heap.size,0,none⟩ (.int .i64 0)).setCell ⟨w.heap.size,1,none⟩ (.string ⟨#[]⟩)).setCell ⟨w.heap.size,2,none⟩ (.slice none 0 0)).setCell ⟨w.heap.size,3,none⟩ (.slice none 0 0)).setCell ⟨w.heap.size,4,none⟩ (.string ⟨#[]⟩)).alloc (.cells #[.int .i64 (k:Int),.iface 46 (.int .i64 10)] 135)).drew w.heap.size 73 #[.int .i64 0,.string ⟨#[]⟩,.slice none 0 0,.slice none 0 0,.string ⟨#[]⟩] /\
  jr w.heap.size ((((((w7.setCell ⟨w.heap.size,0,none⟩ (.int .i64 0)).setCell ⟨w.heap.size,1,none⟩ (.string ⟨#[]⟩)).setCell ⟨w.heap.size,2,none⟩ (.slice none 0 0)).setCell ⟨w.heap.size,3,none⟩ (.slice none 0 0)).setCell ⟨w.heap.size,4,none⟩ (.string ⟨#[]⟩)).alloc (.cells #[.int .i64 (k:Int),.iface 46 (.int .i64 10)] 135)).drew (.iface 133 (.pointer (some ⟨w7.heap.size,0,none⟩))) k 10:=by
 obtain⟨h1,h2⟩:=jjV C7 (.int .i64 0) (.string ⟨#[]⟩) (.slice none 0 0) (.slice none 0 0) (.string ⟨#[]⟩)
 have hb:=hB.trans (h2.to_below hB.size (fun r hr e=>by omega))
 have hz:(((((w7.setCell ⟨w.heap.size,0,none⟩ (.int .i64 0)).setCell ⟨w.heap.size,1,none⟩ (.string ⟨#[]⟩)).setCell ⟨w.heap.size,2,none⟩ (.slice none 0 0)).setCell ⟨w.heap.size,3,none⟩ (.slice none 0 0)).setCell ⟨w.heap.size,4,none⟩ (.string ⟨#[]⟩)).heap.size=w7.heap.size:=by simp[World.setCell]
 have hF:=ja.new (((((w7.setCell ⟨w.heap.size,0,none⟩ (.int .i64 0)).setCell ⟨w.heap.size,1,none⟩ (.string ⟨#[]⟩)).setCell ⟨w.heap.size,2,none⟩ (.slice none 0 0)).setCell ⟨w.heap.size,3,none⟩ (.slice none 0 0)).setCell ⟨w.heap.size,4,none⟩ (.string ⟨#[]⟩)) 135 #[.int .i64 (k:Int),.iface 46 (.int .i64 10)]
 rw[hz]at hF
 exact⟨(hb.alloc hb.size _).drew,(h1.alloc _).drew,jf4 hB.size hF.drew⟩
theorem QW(t:List UInt8)(ht:t.length<=100000)(hbs:(vn (t.drop (hl (Hd.genP t)))).length<=60000)(w:World)(hT:QX w):
  Calls prog 36 #[.string (B t)] w fun e w'=>jk7 w w' t e:=by
 obtain⟨i1,hi,hz0,hz1,hib⟩:=info_parts jfC
 obtain⟨i2,hiB,hB0,hB1,hBb⟩:=info_parts jkn
 have hsz:(B t).size=t.length:=jm t
 have hgen:=Hd.genP_is t
 have hn:=Hd.gen_lt hgen
 have hhl:=jkr hgen
 generalize hnn:Hd.genP t=n at *
 obtain⟨w0,hw0⟩:∃z,w.alloc (.cells #[.int .i64 0,.string ⟨#[]⟩,.slice none 0 0,.slice none 0 0,.string ⟨#[]⟩] 73)=z:=⟨_,rfl⟩
 have hb0:Below w.heap.size w w0:=by rw[<- hw0];exact(jne _ w).alloc (jnd _) _
 have hz:w0.heap.size=w.heap.size+1:=by rw[<- hw0];simp
 have C0:ja w0 w.heap.size 73 #[.int .i64 0,.string ⟨#[]⟩,.slice none 0 0,.slice none 0 0,.string ⟨#[]⟩]:=by rw[<- hw0];exact ja.new _ _ _
 have TB:Hid (∀W,Below w.heap.size w W->QX W):=fun W hW=>hT.below hW (jnd _)
 have TK0:=Hd.take_any t ht w0 (TB.out w0 hb0).tab
 rw[hnn]at TK0
 have TK:=jnc TK0
 have HB0:=jnc hb0
 have HC0:=jnc C0
 have HW0:=jnc hw0
 have q1:¬(120000:Int)<((B t).size:Int):=by omega
 have hlen:(t.drop (hl n)).length<=100000:=by rw[jnr];omega
 have HZ:=jnc hz
 clear hT TK0 hb0 C0 hw0 hz
 go_enter func36,ntmps36
 go_wp2_with fail
 rw[HW0.out]
 refine TK.out.mono ?_
 rintro e w1 ⟨rfl,b1⟩
 have HB1:=jnc (HB0.out.trans (b1.mono HB0.out.size))
 have hs1:=b1.size
 have HC1:=jnc (je HC0.out b1 HC0.out.lt)
 have BS:=jnc (jiU (t.drop (hl n)) hlen w1)
 have HSP:=jnc (Xa (t.drop (hl n)))
 have HBH:=jnc (jbo (t.drop (hl n)))
 have hbl:(vn (t.drop (hl n))).length<=(t.drop (hl n)).length:=by
  have:=congrArg List.length HSP.out
  rw[jnf]at this
  omega
 clear TK b1
 rw[jkq]
 generalize hbase:vn (t.drop (hl n))=base at *
 go_wp2_with fail
 refine BS.out.mono ?_
 rintro e w2 ⟨rfl,b2⟩
 have HB2:=jnc (HB1.out.trans (b2.mono HB1.out.size))
 have hs2:=b2.size
 obtain⟨w3,hw3⟩:∃z,w2.alloc (.cells #[.int .i64 (n:Int),.string (B base),.slice none 0 0,.slice none 0 0,.string ⟨#[]⟩] 73)=z:=⟨_,rfl⟩
 have b23:Below w2.heap.size w2 w3:=by rw[<- hw3];exact(jne _ _).alloc (jnd _) _
 have C3:ja w3 w2.heap.size 73 #[.int .i64 (n:Int),.string (B base),.slice none 0 0,.slice none 0 0,.string ⟨#[]⟩]:=by rw[<- hw3];exact ja.new _ _ _
 have HC2:=jnc (je HC1.out (b2.trans (b23.mono b2.size)) HC1.out.lt)
 have HB3:=jnc (HB2.out.trans (b23.mono HB2.out.size))
 have PA:=jnc (Yk (B base) (by rw[jm];exact hbs) w3)
 rw[ju]at PA
 have HC3:=jnc C3
 have HW3:=jnc hw3
 have hs3:=b23.size
 have hlt3:=C3.lt
 have hlow:w.heap.size+1<=w2.heap.size:=by have:=HZ.out;omega
 clear BS b2 b23 C3 hw3
 go_wp2_with fail
 rw[HW3.out]
 refine PA.out.mono ?_
 rintro e w4 hp4
 cases hp:jE base with
 | error an =>
  obtain⟨a,k⟩:=an
  unfold ZJ at hp4
  rw[hp]at hp4
  obtain⟨b4,u,rfl,hf⟩:=hp4
  have HB4:=jnc (HB3.out.trans (b4.mono HB3.out.size))
  have HC4:=jnc (je HC2.out b4 HC2.out.lt)
  obtain⟨hput,honly⟩:=jjV HC4.out (.int .i64 0) (.string ⟨#[]⟩) (.slice none 0 0) (.slice none 0 0) (.string ⟨#[]⟩)
  have HF:Hid (jr w.heap.size (((((w4.setCell ⟨w.heap.size,0,none⟩ (.int .i64 0)).setCell ⟨w.heap.size,1,none⟩ (.string ⟨#[]⟩)).setCell ⟨w.heap.size,2,none⟩ (.slice none 0 0)).setCell ⟨w.heap.size,3,none⟩ (.slice none 0 0)).setCell ⟨w.heap.size,4,none⟩ (.string ⟨#[]⟩)) u a k):=by
   obtain⟨q,h0,h1,h2⟩:=hf
   exact⟨q,by omega,h1,h2.only honly (fun e=>by omega)⟩
  have HBF:=jnc (HB4.out.trans (honly.to_below HB4.out.size (fun r hr e=>by omega)))
  have HPUT:=jnc hput
  obtain⟨q,_,rfl,_⟩:=hf
  have c0:=HC4.out.cell 0
  have c1:=HC4.out.cell 1
  have c2:=HC4.out.cell 2
  have c3:=HC4.out.cell 3
  have c4:=HC4.out.cell 4
  have f0:=HC4.out.frozen 0
  have f1:=HC4.out.frozen 1
  have f2:=HC4.out.frozen 2
  have f3:=HC4.out.frozen 3
  have f4:=HC4.out.frozen 4
  simp only[jnl,jnp,jnj]at c0 c1 c2 c3 c4
  have HP:=jnc hp
  clear b4 hput honly PA hp
  go_wp2_with fail
  refine bodyPost_ret (XO rfl _ _ w.heap.size _ rfl HPUT.out rfl) rfl ?_
  exact⟨HBF.out,.inl ⟨a,k,_,by rw[hnn,hbase];exact HP.out,rfl,HF.out⟩⟩
 | ok its =>
 unfold ZJ at hp4
 rw[hp]at hp4
 obtain⟨b4,u,rfl,_⟩:=hp4
 have hb4:=HB3.out.trans (b4.mono HB3.out.size)
 have hC4:=je HC2.out b4 HC2.out.lt
 have hK4:=je HC3.out b4 HC3.out.lt
 have HP:=jnc hp
 have HGEN:=jnc hgen
 clear PA b4 hp
 go_wp2_with fail
 go_loopw [9] (fun _ wr=>∃(bds:List (List UInt8)) (r:List UInt8) (bv ev:Value) (us:List Value),jgO Dc (t.drop (hl n+base.length)) bds r/\ja wr w2.heap.size 73 #[.int .i64 (n:Int),.string (B base),bv,ev,.string ⟨#[]⟩]/\KJ w.heap.size wr bv bds us/\wr.ownsRow w.heap.size 3 1 ev bds.length ((qB (hl n+base.length) bds).map jlW)/\ja wr w.heap.size 73 #[.int .i64 0,.string ⟨#[]⟩,.slice none 0 0,.slice none 0 0,.string ⟨#[]⟩]/\Below w.heap.size w wr) (fun _ wr=>t.length+1-jhR wr w2.heap.size)
 case atStart=>exact⟨[],_,_,_,[],⟨rfl,fun b h=>by cases h⟩,hK4,KJ.nil _ _,⟨rfl,.inl ⟨rfl,rfl⟩⟩,hC4,hb4⟩
 case round =>
 obtain⟨bds,r,bv,ev,us,hR,hK,hBt,hEv,hC,hb⟩:=hrel
 obtain⟨ba,bc,rfl,_⟩:=jg hBt.row
 obtain⟨ea,ec,rfl,_⟩:=jg hEv
 have hrl:=jfH hR
 rw[jnr]at hrl
 have hbdl:=Ua bds
 have hblen:base.length+hl n<=t.length:=by rw[jnr]at hbl;omega
 have hWe:jo n base bds=hl n+base.length+(bds.flatMap Fr.fullR).length:=rfl
 have hWle:jo n base bds<=t.length:=by omega
 have hdrop:t.drop (jo n base bds)=r:=by
  rw[hWe,YS,hR.eq,joW]
 have EX:Hid ((B t).extract (jo n base bds) t.length=B r):=by
  show _=_
  rw[<- hsz,Fr.ext_drop,hdrop]
 have hrlen:r.length<=700000:=by omega
 have BKR:xv w.heap.size wr (Ql n base (.slice ba bds.length bc) (.slice ea bds.length ec) []) n base bds []:=⟨_,_,us,rfl,hBt,hEv⟩
 have WH:=jnc (Vv BKR (by omega) (TB.out wr hb))
 have k0:=hK.cell 0
 have k1:=hK.cell 1
 have k2:=hK.cell 2
 have k3:=hK.cell 3
 have k4:=hK.cell 4
 simp only[jnl,jnp,jnj]at k0 k1 k2 k3 k4
 have HR:=jnc hR
 have HK:=jnc hK
 have HBT:=jnc hBt
 have HEV:=jnc hEv
 have HC:=jnc hC
 have HB:=jnc hb
 have HWE:=jnc hWe
 have HRL:=jnc hrl
 unfold Ql at WH
 clear hR hBt hEv hC hb hrl hdrop hWe BKR
 generalize hWW:jo n base bds=W at *
 go_wp2_with fail
 refine WH.out.mono ?_
 rintro e w5 ⟨rfl,b5⟩
 have HB5:=jnc (HB.out.trans (b5.mono HB.out.size))
 have FR:=jnc (Fr.read_any r hrlen w5 (TB.out w5 HB5.out).nums)
 have B45:=jnc b5
 clear WH b5 k0 k1 k2 k3 k4 hK
 go_wp2_with fail
 rw[EX.out]
 refine FR.out.mono ?_
 rintro e w6 ⟨kk,bb,mm,hread,rfl,b6⟩
 have HB6:=jnc (HB5.out.trans (b6.mono HB5.out.size))
 have B46:=jnc (B45.out.trans (b6.mono B45.out.size))
 have K6:=je HK.out B46.out HK.out.lt
 have C6:=je HC.out B46.out HC.out.lt
 have T6:=HBT.out.below B46.out
 have E6:=zL HEV.out B46.out (jnd _)
 clear FR b6 B45
 unfold Fr.readV
 rcases hread with ⟨hwt,rfl,rfl⟩|⟨hpt,rfl,rfl,rfl⟩|⟨hnp,hnw,rfl,rfl,rfl⟩
 ·
  have hgb:=Fr.good_iff.1 hwt.1
  have DE:=jnc (Kz bb (by unfold maxLen;omega) w6 (TB.out w6 HB6.out).tabs)
  have hfl:(Fr.fullR bb).length<=r.length:=by
   obtain⟨_,m,e⟩:=hwt
   rw[e,jnf];omega
  go_wp2_with fail
  refine DE.out.mono ?_
  rintro e w7 ⟨b7,h7⟩
  have HB7:=jnc (HB6.out.trans (b7.mono HB6.out.size))
  have K7:=je K6 b7 K6.lt
  have C7:=je C6 b7 C6.lt
  have T7:=T6.below b7
  have E7:=zL E6 b7 (jnd _)
  clear DE K6 C6 T6 E6
  rcases h7 with ⟨hd,rfl⟩|⟨eds,u7,fvs,hd,rfl,hO⟩
  ·have FB:Hid (jlk Dc r):=.inr ⟨bb,hwt,by unfold Dc;rw[hd];rfl⟩
   clear hwt hd T7 E7 b7
   have c70:=C7.cell 0
   have c71:=C7.cell 1
   have c72:=C7.cell 2
   have c73:=C7.cell 3
   have c74:=C7.cell 4
   have g70:=C7.frozen 0
   have g71:=C7.frozen 1
   have g72:=C7.frozen 2
   have g73:=C7.frozen 3
   have g74:=C7.frozen 4
   have m72:=K7.cell 2
   simp only[jnl,jnp,jnj]at c70 c71 c72 c73 c74 m72
   have d70:∀o,(w7.alloc o).cell? ⟨w.heap.size,0,none⟩=_:=fun o=>((C7.alloc o).cell 0).trans rfl
   have d71:∀o,(w7.alloc o).cell? ⟨w.heap.size,1,none⟩=_:=fun o=>((C7.alloc o).cell 1).trans rfl
   have d72:∀o,(w7.alloc o).cell? ⟨w.heap.size,2,none⟩=_:=fun o=>((C7.alloc o).cell 2).trans rfl
   have d73:∀o,(w7.alloc o).cell? ⟨w.heap.size,3,none⟩=_:=fun o=>((C7.alloc o).cell 3).trans rfl
   have d74:∀o,(w7.alloc o).cell? ⟨w.heap.size,4,none⟩=_:=fun o=>((C7.alloc o).cell 4).trans rfl
   have h70:∀o,(w7.alloc o).frozen? ⟨w.heap.size,0,none⟩=false:=fun o=>(C7.alloc o).frozen 0
   have h71:∀o,(w7.alloc o).frozen? ⟨w.heap.size,1,none⟩=false:=fun o=>(C7.alloc o).frozen 1
   have h72:∀o,(w7.alloc o).frozen? ⟨w.heap.size,2,none⟩=false:=fun o=>(C7.alloc o).frozen 2
   have h73:∀o,(w7.alloc o).frozen? ⟨w.heap.size,3,none⟩=false:=fun o=>(C7.alloc o).frozen 3
   have h74:∀o,(w7.alloc o).frozen? ⟨w.heap.size,4,none⟩=false:=fun o=>(C7.alloc o).frozen 4
   have CA:=jnc (jcy HB7.out C7 bds.length)
   have CB:=jnc (jcx HB7.out C7 bds.length)
   clear K7 C7
   go_wp2_with fail
   go_region
   all_goals go_wp2_with fail
   ·refine bodyPost_ret (XO rfl _ _ w.heap.size _ rfl CA.out.2.1 rfl) rfl ?_
    exact⟨CA.out.1,.inr (.inl ⟨its,bds,r,_,by rw[hnn,hbase];exact HP.out,by rw[hnn,hbase];exact HR.out,FB.out,rfl,CA.out.2.2⟩)⟩
   refine bodyPost_ret (XO rfl _ _ w.heap.size _ rfl CB.out.2.1 rfl) rfl ?_
   exact⟨CB.out.1,.inr (.inl ⟨its,bds,r,_,by rw[hnn,hbase];exact HP.out,by rw[hnn,hbase];exact HR.out,FB.out,rfl,CB.out.2.2⟩)⟩
  have hO':Qq w.heap.size w7 u7 (Qg bb) fvs:=by
   have:Qg bb=eds:=by unfold Qg;rw[hd];rfl
   rw[this]
   exact⟨zk hO.row HB6.out.size,hO.len,fun i ed fv h1 h2=>zk (hO.each i ed fv h1 h2) HB6.out.size⟩
  have hDc:Dc bb=true:=by unfold Dc;rw[hd];rfl
  obtain⟨ua,uc,rfl,_⟩:=jg hO.row
  have RS:=jnc (HR.out.snoc hwt hDc)
  have ES:Hid ((qB (hl n+base.length) (bds++[bb])).map jlW=(qB (hl n+base.length) bds).map jlW++[Value.int .i64 ((W:Int)+((Fr.fullR bb).length:Int))]):=by
   show _=_
   rw[xh,jol,<- HWE.out]
   simp[jlW]
  have HO:=jnc hO'
  have T7':=jnc T7
  have E7':=jnc E7
  have K7':=jnc K7
  have C7':=jnc C7
  have N1:∀(w3:World) (T:TypeId) (x:Value),Hid (∀(j:Nat) (u:Value),[x][j]?=some u->(w3.alloc (.cells #[x] T)).cell? ((⟨w3.heap.size,0,none⟩:Addr).add j)=some u):=fun w3 T x j u h=>by
   have ea:(⟨w3.heap.size,0,none⟩:Addr).add j=⟨w3.heap.size,j,none⟩:=by unfold Addr.add;split<;>simp_all
   rw[ea,(ja.new w3 T #[x]).cell j]
   simpa using h
  have N1b:∀(w3:World) (b:Nat) (T:TypeId) (x:Value),w3.heap.size=b->Hid (∀(j:Nat) (u:Value),[x][j]?=some u->(w3.alloc (.cells #[x] T)).cell? ((⟨b,0,none⟩:Addr).add j)=some u):=fun w3 b T x hb j u h=>by
   rw[<- hb];exact(N1 w3 T x).out j u h
  have k2:=K7.cell 2
  have f2:=K7.frozen 2
  simp only[jnl,jnp,jnj]at k2
  have hlo7:w.heap.size<=w7.heap.size:=HB7.out.size
  have hkl:w2.heap.size<w7.heap.size:=K7.lt
  have hbd1:bds.length+(Fr.fullR bb).length<=t.length:=by have:=HRL.out;omega
  clear hwt hd hO hO' hDc T7 E7 K7 C7 b7
  generalize hm:(Fr.fullR bb).length=m at *
  have hwm:IntKind.i64.wrap ((W:Int)+(m:Int))=(W:Int)+(m:Int):=jn1 _ (by have:=HRL.out;have:=HWE.out;omega)
  go_wp2_with (at_builtin;refine jW rfl _ _ 71 rfl w.heap.size 22 i2 _ 1 24 underlying71 hiB hB0 hB1 hBb rfl (by decide) _ _ _ rfl (T7'.out.row.alloc _) _ 1 1 [.slice ua eds.length uc] rfl rfl (N1 _ _ _).out (by intro u hu;simp at hu;subst hu;rfl) (by unfold maxLen;omega) (by omega) (by simp only[jnB];omega) ?_)
  intro bv8 W8 own8 grow8 at8
  have hb8:Below w7.heap.size w7 (w7.alloc (.cells #[.slice ua eds.length uc] 22)):=(jne _ _).alloc (jnd _) _
  have o8:jv (fun r=>(Value.slice ba bds.length bc).ownBlock=some r) w7 W8:=(jv.of_below (S:=fun r=>(Value.slice ba bds.length bc).ownBlock=some r) hb8 (jnd _)).grown grow8 (fun r e=>.inl e)
  have T8:=T7'.out.snoc HO.out own8 o8
  have E8:=jN E7'.out o8 (fun b e q=>qq T7'.out.row E7'.out (by decide) b q e)
  have K8:=K7'.out.only o8 (fun e=>jB T7'.out.row K7'.out (by decide) e)
  have C8:=C7'.out.only o8 (fun e=>jB T7'.out.row C7'.out (by decide) e)
  have B8:=HB7.out.trans (o8.to_below hlo7 (fun r hr e=>by have:=(T7'.out.row.lt r e).1;omega))
  have hs8:=o8.size
  obtain⟨ba8,bc8,rfl,_⟩:=jg own8
  have K9:=K8.set 2 (.slice ba8 (bds.length+1) bc8)
  rw[show(#[Value.int .i64 (n:Int),.string (B base),.slice ba bds.length bc,.slice ea bds.length ec,.string ⟨#[]⟩]:Array Value).setIfInBounds 2 (.slice ba8 (bds.length+1) bc8)=#[.int .i64 (n:Int),.string (B base),.slice ba8 (bds.length+1) bc8,.slice ea bds.length ec,.string ⟨#[]⟩] from rfl]at K9
  have o9:jv (· = w2.heap.size) W8 (W8.setCell ⟨w2.heap.size,2,none⟩ (.slice ba8 (bds.length+1) bc8)):=(jv.refl (· = w2.heap.size) W8).cellS 2 _
  have T9:=T8.box K8 (by decide) (by decide) (by decide) o9
  have E9:=jN E8 o9 (fun b e q=>jB E8 K8 (by decide) (by rw[e,q]))
  have C9:=C8.only o9 (fun e=>by omega)
  have B9:=B8.trans (o9.to_below B8.size (fun r hr e=>by omega))
  have kc2:=K8.cell 2
  have kf2:=K8.frozen 2
  have k93:=K9.cell 3
  have f93:=K9.frozen 3
  simp only[jnl,jnp,jnj]at kc2 k93
  have HT9:=jnc T9
  have HE9:=jnc E9
  have HK9:=jnc K9
  have HC9:=jnc C9
  have HB9:=jnc B9
  have hs9:=o9.size
  have HSZ:Hid ((W8.setCell ⟨w2.heap.size,2,none⟩ (.slice ba8 (bds.length+1) bc8)).heap.size=W8.heap.size):=by
   show _=_
   simp[World.setCell]
  clear own8 grow8 at8 hb8 o8 T8 E8 K8 C8 B8 K9 o9 T9 E9 C9 B9 T7' E7' K7' C7' HO k2 f2
  go_wp2_with (at_builtin;refine jW rfl _ _ 23 rfl w.heap.size 3 i1 _ 1 8 underlying23 hi hz0 hz1 hib rfl (by decide) _ _ _ rfl (HE9.out.alloc _) _ 1 1 [.int .i64 ((W:Int)+(m:Int))] rfl rfl (by first | exact(N1b _ _ _ _ HSZ.out).out | exact(N1 _ _ _).out) (by intro u hu;simp at hu;subst hu;rfl) (by unfold maxLen;omega) (by omega) (by simp only[jnB];omega) ?_)
  intro ev10 W10 own10 grow10 at10
  generalize hw9:W8.setCell ⟨w2.heap.size,2,none⟩ (.slice ba8 (bds.length+1) bc8)=W9 at *
  have hb10:Below W9.heap.size W9 (W9.alloc (.cells #[.int .i64 ((W:Int)+(m:Int))] 3)):=(jne _ _).alloc (jnd _) _
  have o10:jv (fun r=>(Value.slice ea bds.length ec).ownBlock=some r) W9 W10:=(jv.of_below (S:=fun r=>(Value.slice ea bds.length ec).ownBlock=some r) hb10 (jnd _)).grown grow10 (fun r e=>.inl e)
  have T10:=HT9.out.beside HE9.out (by decide) (by decide) (by decide) o10
  have K10:=HK9.out.only o10 (fun e=>jB HE9.out HK9.out (by decide) e)
  have C10:=HC9.out.only o10 (fun e=>jB HE9.out HC9.out (by decide) e)
  have B10:=HB9.out.trans (o10.to_below HB9.out.size (fun r hr e=>by have:=(HE9.out.lt r e).1;omega))
  obtain⟨ea10,ec10,rfl,_⟩:=jg own10
  have K11:=K10.set 3 (.slice ea10 (bds.length+1) ec10)
  rw[show(#[Value.int .i64 (n:Int),.string (B base),.slice ba8 (bds.length+1) bc8,.slice ea bds.length ec,.string ⟨#[]⟩]:Array Value).setIfInBounds 3 (.slice ea10 (bds.length+1) ec10)=#[.int .i64 (n:Int),.string (B base),.slice ba8 (bds.length+1) bc8,.slice ea10 (bds.length+1) ec10,.string ⟨#[]⟩] from rfl]at K11
  have o11:jv (· = w2.heap.size) W10 (W10.setCell ⟨w2.heap.size,3,none⟩ (.slice ea10 (bds.length+1) ec10)):=(jv.refl (· = w2.heap.size) W10).cellS 3 _
  have T11:=jnc (T10.box K10 (by decide) (by decide) (by decide) o11)
  have E11:=jnc (jN own10 o11 (fun b e q=>jB own10 K10 (by decide) (by rw[e,q])))
  have C11:=jnc (C10.only o11 (fun e=>by omega))
  have B11:=jnc (B10.trans (o11.to_below B10.size (fun r hr e=>by omega)))
  have HK11:=jnc K11
  have kc3:=K10.cell 3
  have kf3:=K10.frozen 3
  have l2:=K11.cell 2
  simp only[jnl,jnp,jnj]at kc3 l2
  have L2:=jnc l2
  have LW:=jnc (show jhR wr w2.heap.size=bds.length by unfold jhR;rw[HK.out.cell];rfl)
  clear own10 grow10 at10 hb10 o10 T10 K10 C10 B10 K11 o11 l2 HT9 HE9 HK9 HC9 HB9 kc2 kf2 k93 f93
  go_wp2_with fail
  go_roundw
  case rel=>exact⟨bds++[bb],_,_,_,_,RS.out,HK11.out,T11.out,by rw[ES.out,jnf];exact E11.out,C11.out,B11.out⟩
  case measure =>
  have h1:=LW.out
  rw[h1]
  unfold jhR
  rw[L2.out]
  show t.length+1-(bds.length+1)<t.length+1-bds.length
  omega
 ·
  have K7:=K6.set 4 (.string (B r))
  rw[show(#[Value.int .i64 (n:Int),.string (B base),.slice ba bds.length bc,.slice ea bds.length ec,.string ⟨#[]⟩]:Array Value).setIfInBounds 4 (.string (B r))=#[.int .i64 (n:Int),.string (B base),.slice ba bds.length bc,.slice ea bds.length ec,.string (B r)] from rfl]at K7
  have o7:jv (· = w2.heap.size) w6 (w6.setCell ⟨w2.heap.size,4,none⟩ (.string (B r))):=(jv.refl (· = w2.heap.size) w6).cellS 4 _
  have C7:=C6.only o7 (fun e=>by omega)
  have T7:=T6.box K6 (by decide) (by decide) (by decide) o7
  have E7:=jN E6 o7 (fun b e q=>jB E6 K6 (by decide) (by rw[e,q]))
  obtain⟨P8,o8⟩:=jjV C7 (.int .i64 (n:Int)) (.string (B base)) (.slice ba bds.length bc) (.slice ea bds.length ec) (.string (B r))
  have T8:=T7.box C7 (by decide) (by decide) (by decide) o8
  have E8:=jN E7 o8 (fun b e q=>jB E7 C7 (by decide) (by rw[e,q]))
  have HP8:=jnc P8
  have B7:=HB6.out.trans (o7.to_below HB6.out.size (fun r hr e=>by omega))
  have B8:=jnc (B7.trans (o8.to_below B7.size (fun r hr e=>by omega)))
  have BR:=jnc (show xv w.heap.size _ (Ql n base (.slice ba bds.length bc) (.slice ea bds.length ec) r) n base bds r from⟨_,_,us,rfl,T8,E8⟩)
  have SND:=jnc (show qL Dc t n base bds r from⟨HGEN.out,⟨its,HP.out⟩,hbase,HR.out,hpt⟩)
  have f64:=K6.frozen 4
  have kk4:=K6.cell 4
  have c70:=C7.cell 0
  have c71:=C7.cell 1
  have c72:=C7.cell 2
  have c73:=C7.cell 3
  have c74:=C7.cell 4
  have g70:=C7.frozen 0
  have g71:=C7.frozen 1
  have g72:=C7.frozen 2
  have g73:=C7.frozen 3
  have g74:=C7.frozen 4
  have m70:=K7.cell 0
  have m71:=K7.cell 1
  have m72:=K7.cell 2
  have m73:=K7.cell 3
  have m74:=K7.cell 4
  simp only[jnl,jnp,jnj]at kk4 c70 c71 c72 c73 c74 m70 m71 m72 m73 m74
  clear K6 C6 T6 E6 K7 o7 C7 T7 E7 P8 o8 T8 E8 B7 hpt
  go_upto_region 12 with fail
  rw[EX.out]
  go_wp2_with fail
  refine bodyPost_ret (XO rfl _ _ w.heap.size _ rfl HP8.out rfl) rfl ?_
  exact⟨B8.out,.inr (.inr ⟨base,bds,r,_,by rw[hnn];exact SND.out,rfl,by rw[hnn];exact BR.out⟩)⟩
 ·
  have DE:=jnc (Kz [] (by decide) w6 (TB.out w6 HB6.out).tabs)
  have FB:Hid (jlk Dc r):=.inl ⟨hnp,hnw⟩
  have DN:=jnc jkU
  clear hnp hnw
  go_wp2_with fail
  refine DE.out.mono ?_
  rintro e w7 ⟨b7,h7⟩
  have HB7:=jnc (HB6.out.trans (b7.mono HB6.out.size))
  have K7:=je K6 b7 K6.lt
  have C7:=je C6 b7 C6.lt
  clear DE K6 C6 T6 E6 b7
  rcases h7 with ⟨hd,rfl⟩|⟨eds,u7,fvs,hd,_⟩
  rotate_left
  ·rw[DN.out]at hd;cases hd
  have c70:=C7.cell 0
  have c71:=C7.cell 1
  have c72:=C7.cell 2
  have c73:=C7.cell 3
  have c74:=C7.cell 4
  have g70:=C7.frozen 0
  have g71:=C7.frozen 1
  have g72:=C7.frozen 2
  have g73:=C7.frozen 3
  have g74:=C7.frozen 4
  have m72:=K7.cell 2
  simp only[jnl,jnp,jnj]at c70 c71 c72 c73 c74 m72
  have d70:∀o,(w7.alloc o).cell? ⟨w.heap.size,0,none⟩=_:=fun o=>((C7.alloc o).cell 0).trans rfl
  have d71:∀o,(w7.alloc o).cell? ⟨w.heap.size,1,none⟩=_:=fun o=>((C7.alloc o).cell 1).trans rfl
  have d72:∀o,(w7.alloc o).cell? ⟨w.heap.size,2,none⟩=_:=fun o=>((C7.alloc o).cell 2).trans rfl
  have d73:∀o,(w7.alloc o).cell? ⟨w.heap.size,3,none⟩=_:=fun o=>((C7.alloc o).cell 3).trans rfl
  have d74:∀o,(w7.alloc o).cell? ⟨w.heap.size,4,none⟩=_:=fun o=>((C7.alloc o).cell 4).trans rfl
  have h70:∀o,(w7.alloc o).frozen? ⟨w.heap.size,0,none⟩=false:=fun o=>(C7.alloc o).frozen 0
  have h71:∀o,(w7.alloc o).frozen? ⟨w.heap.size,1,none⟩=false:=fun o=>(C7.alloc o).frozen 1
  have h72:∀o,(w7.alloc o).frozen? ⟨w.heap.size,2,none⟩=false:=fun o=>(C7.alloc o).frozen 2
  have h73:∀o,(w7.alloc o).frozen? ⟨w.heap.size,3,none⟩=false:=fun o=>(C7.alloc o).frozen 3
  have h74:∀o,(w7.alloc o).frozen? ⟨w.heap.size,4,none⟩=false:=fun o=>(C7.alloc o).frozen 4
  have CA:=jnc (jcy HB7.out C7 bds.length)
  have CB:=jnc (jcx HB7.out C7 bds.length)
  clear K7 C7
  go_wp2_with fail
  go_region
  all_goals go_wp2_with fail
  ·refine bodyPost_ret (XO rfl _ _ w.heap.size _ rfl CA.out.2.1 rfl) rfl ?_
   exact⟨CA.out.1,.inr (.inl ⟨its,bds,r,_,by rw[hnn,hbase];exact HP.out,by rw[hnn,hbase];exact HR.out,FB.out,rfl,CA.out.2.2⟩)⟩
  refine bodyPost_ret (XO rfl _ _ w.heap.size _ rfl CB.out.2.1 rfl) rfl ?_
  exact⟨CB.out.1,.inr (.inl ⟨its,bds,r,_,by rw[hnn,hbase];exact HP.out,by rw[hnn,hbase];exact HR.out,FB.out,rfl,CB.out.2.2⟩)⟩
end Bk
section
attribute [local go_sem] jnn
end
section
attribute [local go_sem] jnn
end
section
attribute [local go_sem] jnn
section
variable {w:World} {lb:Nat} {ev v:Value} {ps qs:List Pr} {nx:Int}
end
end
section
attribute [local go_sem] jnn
end
namespace Bk
attribute [local go_sem] jnn
theorem yb(t:List UInt8)(n:Nat):(vn (t.drop n)).length<=t.length:=by
 have h1:=Xb (t.drop n)
 have h2:=jcv (t.drop n)
 have h3:(t.drop n).length<=t.length:=by rw[jnr];omega
 omega
def Uh:List UInt8:=[65,58,32,49,10,37,97,109]
theorem jit:qL Dc Uh 0 [65,58,32,49,10] [] [37,97,109]:=by
 refine⟨Hd.gen_short (by decide),⟨_,(by kernel_rfl:jE [65,58,32,49,10]=.ok [⟨3,[65,58,32,49,10],[([65],[49])]⟩])⟩,by kernel_rfl,⟨rfl,fun b h=>by cases h⟩,?_⟩
 exact Fr.full_begins (b:=[32,10]) (by decide) (k:=3) (by have:=jcd [32,10];omega)
theorem jjm{w w2:World}{n:Nat}{base tail:List UInt8}{ba ea:Option Addr}{bn bc en ec:Nat}(h:w.alloc (.cells #[.int .i64 (n:Int),.string (B base),.slice ba bn bc,.slice ea en ec,.string (B tail)] 73)=w2):
  Below w.heap.size w w2/\ja w2 w.heap.size 73 #[.int .i64 (n:Int),.string (B base),.slice ba bn bc,.slice ea en ec,.string (B tail)]:=by
 rw[<- h];exact⟨(jne _ _).alloc (jnd _) _,ja.new _ _ _⟩
end Bk
section
open Go.Maps Go.ChangeShapes Go.Joins Go.WideShapes
end
theorem jeb{eds:List Ed}(h:∀ed∈eds,qr ed=0):∀l∈zG eds,∃r,l=32::r:=by
 intro l hl
 obtain⟨ed,h1,h2⟩:=List.mem_flatMap.1 hl
 rcases List.mem_cons.1 h2 with rfl|h2
 ·unfold zU
  rw[if_pos (ZZ (h ed h1))];exact⟨_,rfl⟩
 obtain⟨x,_,rfl⟩:=List.mem_map.1 h2
 exact⟨_,rfl⟩
theorem XF(l:List UInt8)(r:List (List UInt8)):jn (l::r)=l++10::jn r:=by unfold jn;simp
theorem jey(ls:List (List UInt8))(h0:ls≠[]):(jn ls)[(jn ls).length-1]?=some 10:=by
 rw[<- List.getLast?_eq_getElem?]
 rw[<- List.dropLast_concat_getLast h0]
 unfold jn;simp
namespace Fr
theorem jeF:∀ls:List (List UInt8),(∀l∈ls,(10:UInt8)∉l)->(∀l∈ls,∃r,l=32::r)->sp true (jn ls)=true
 | [],_,_=>rfl
 | l::ls,hc,hs=>by
  obtain⟨r,hr⟩:=hs l jno
  have e:jn (l::ls)=(l++[10])++jn ls:=by rw[XF];simp
  rw[e,qy,jeG l (hc l jno),QQ l [10] true (by simp)]
  have e2:xf true ([10]:List UInt8)=true:=rfl
  rw[e2,jeF ls (fun x h=>hc x (jnm _ h)) (fun x h=>hs x (jnm _ h)),hr]
  rfl
theorem batch_body{eds:List Ed}(h0:(vS eds).2=0)(hl:(js eds).length<=50000):goodR (js eds)=true:=by
 obtain⟨⟨n1,_⟩,g1⟩:=yN h0
 have hne:zG eds≠[]:=by
  cases eds with
  | nil=>simp at n1
  | cons x r=>unfold zG jf8;simp
 have hs:=jeb g1
 have hc:=ZG g1
 rw[good_iff]
 unfold js at *
 have hlast:yr (jn (zG eds))=true:=by
  unfold yr
  rw[List.getLast?_eq_getElem?,jey _ hne];rfl
 refine⟨?_,hl,hlast,jeF _ hc hs⟩
 cases hL:zG eds with
 | nil=>exact absurd hL hne
 | cons l ls =>
 obtain⟨r,hr⟩:=hs l (by rw[hL];exact jno)
 rw[XF,hr]
 simp
 omega
attribute [local go_sem] jnn
end Fr
namespace Bk
attribute [local go_sem] jnn
theorem jdA(s:ByteArray)(hsz:50000<s.size)(w:World):
  Calls prog 110 #[.string s] w fun e w'=>e=.returned (.bool false)/\Below w.heap.size w w':=by
 have FT:=jnc (Fr.fits_any (s.size:Int))
 have hf:decide (2<=(s.size:Int)/\(s.size:Int)<=50000)=false:=by simp;omega
 refine callsIn_wide (n:=9).1 ?_
 refine callsIn_of_wp_marks func110 rfl trivial ?_ rfl
 simp only[ntmps110,jnV,jni,jnG,Nat.reduceAdd,Nat.reduceSub,jn3,jn4,joa,jn5,jnU,jny]
 have k1:=joy w 4 (.bool false)
 have kb:Below w.heap.size w (w.alloc (.cells #[.bool false] 4)):=(jne _ w).alloc (jnd _) _
 rw[hf]at FT
 gi_wp2_with fail
 refine⟨trivial,(callsIn_wide.2 (FT.out _)).mono ?_⟩
 rintro e w3 ⟨rfl,rfl⟩
 gi_wp2
 have c:=k1.cell
 exact⟨.bool false,by simp[results,Tryz.f110,go_sem,c],rfl,kb⟩
theorem Gc(l:List UInt8)(hl:50000<l.length)(w:World):
  Calls prog 86 #[.string (B l)] w fun e w'=>e=.returned (.tuple #[.string (B []),qm 2])/\Below w.heap.size w w':=by
 have G1:=jnc (jdA (B l) (by rw[jm];exact hl) w)
 go_enter func86,ntmps86
 go_wp2_with fail
 refine G1.out.mono ?_
 rintro e w1 ⟨rfl,hb1⟩
 go_wp2_with fail
 go_ret2
 exact⟨rfl,hb1⟩
def jek(t:List UInt8)(a k:Nat):Prop :=
 jE (vn (t.drop (hl (Hd.genP t))))=.error (a,k) \/
 (k=10/\∃its bds r,jE (vn (t.drop (hl (Hd.genP t))))=.ok its/\jgO Dc (t.drop (hl (Hd.genP t)+(vn (t.drop (hl (Hd.genP t)))).length)) bds r/\jlk Dc r/\a=bds.length)
theorem jek.not{t:List UInt8}{a k n:Nat}{base tail:List UInt8}{bds:List (List UInt8)}(h:jek t a k)(s:qL Dc t n base bds tail):False:=by
 have hn:Hd.genP t=n:=Hd.gen_one (Hd.genP_is t) s.gen
 obtain⟨its,hp⟩:=s.parse
 have hB:=s.isB
 unfold jek at h
 rw[hn,hB]at h
 rcases h with h|⟨_,_,bds',r,_,h2,h3,_⟩
 ·rw[hp]at h;cases h
 obtain⟨rfl,rfl⟩:=We h2 s.recd (.inr h3) (.inl s.fin)
 exact jim s.fin h3
theorem jk7.two{w w':World}{t:List UInt8}{e:Ending}(h:jk7 w w' t e):Below w.heap.size w w' /\
  ((∃a k u,jek t a k/\e=.returned (.tuple #[jaG,u])/\jr w.heap.size w' u a k)\/∃n base bds tail v,qL Dc t n base bds tail/\e=.returned (.tuple #[v,.nilIface])/\xv w.heap.size w' v n base bds tail):=by
 obtain⟨hb,h⟩:=h
 refine⟨hb,?_⟩
 rcases h with ⟨a,k,u,h1,h2,h3⟩|⟨its,bds,r,u,h1,h2,h3,h4,h5⟩|⟨base,bds,tail,v,h1,h2,h3⟩
 ·exact .inl ⟨a,k,u,.inl h1,h2,h3⟩
 ·exact .inl ⟨_,10,u,.inr ⟨rfl,its,bds,r,h1,h2,h3,rfl⟩,h4,h5⟩
 exact .inr ⟨_,base,bds,tail,v,h1,h2,h3⟩
def jmm(w w':World)(t:List UInt8)(eds:List Ed)(e:Ending):Prop:=Below w.heap.size w w' /\
  ((∃a k u,jek t a k/\e=.returned (.tuple #[.string (B []),u])/\jr w.heap.size w' u a k) \/
   ∃n base bds tail,qL Dc t n base bds tail /\
    (((vS eds).2≠0/\∃u,e=.returned (.tuple #[.string (B []),u])/\vV w.heap.size w' u (vS eds).1 (vS eds).2) \/
     ((vS eds).2=0/\50000<(js eds).length/\e=.returned (.tuple #[.string (B []),qm 11])) \/
     ((vS eds).2=0/\(js eds).length<=50000/\e=.returned (.tuple #[.string (B (t.take (jo n base bds)++Fr.fullR (js eds))),.nilIface]))))
theorem jax(t:List UInt8)(ht:t.length<=60000)(eds:List Ed)(bv:Value)(w:World)(hE:EdV w bv eds)(hlen:eds.length<=1000000)(hf:jaD eds)(hi:∀ed∈eds,I64 ed.id)(hT:QX w):
  Calls prog 46 #[.string (B t),bv] w fun e w'=>jmm w w' t eds e:=by
 have TB:Hid (∀W,Below w.heap.size w W->QX W):=fun W hW=>hT.below hW (jnd _)
 have hsz:(B t).size=t.length:=jm t
 have RD:=jnc (QW t (by omega) (by have:=yb t (hl (Hd.genP t));omega) w hT)
 have EV:Hid (∀W,Below w.heap.size w W->EdV W bv eds):=fun W hW=>hE.below hW (jnd _)
 have HF:=jnc hf
 have HI:=jnc hi
 obtain⟨va,vc,rfl,_⟩:∃A c,bv=.slice A eds.length c/\True:=by obtain⟨A,c,e,_⟩:=hE;exact⟨A,c,e,trivial⟩
 clear hT hE hf hi
 go_enter func46,ntmps46
 go_wp2_with fail
 refine RD.out.mono ?_
 rintro e w1 hr
 obtain⟨b1,h1⟩:=hr.two
 have B1:=jnc b1
 clear RD hr b1
 rcases h1 with ⟨a,k,u,hbad,rfl,hf1⟩|⟨n,base,bds,tail,v,hS,rfl,hBR⟩
 ·have hbz:Below w1.heap.size w1 (w1.alloc (.cells #[.int .i64 0,.string ⟨#[]⟩,.slice none 0 0,.slice none 0 0,.string ⟨#[]⟩] 73)):=(jne _ _).alloc (jnd _) _
  have B2:=jnc (B1.out.trans (hbz.mono B1.out.size))
  have F2:=jnc (hf1.below hbz (jnd _))
  obtain⟨q,_,rfl,_⟩:=hf1
  have HBAD:=jnc hbad
  unfold jaG Ql
  clear hbz hbad
  go_wp2_with fail
  go_ret2
  exact⟨B2.out,.inl ⟨a,k,_,HBAD.out,rfl,F2.out⟩⟩
 have BR2:=hBR
 obtain⟨bbv,ev,us,rfl,hBt,hEv⟩:=hBR.is
 obtain⟨ba,bc,rfl,_⟩:=jg hBt.row
 obtain⟨ea,ec,rfl,_⟩:=jg hEv
 have PT:=hS.parts
 unfold Ql at *
 obtain⟨w3,hw3⟩:∃z,w1.alloc (.cells #[.int .i64 (n:Int),.string (B base),.slice ba bds.length bc,.slice ea bds.length ec,.string (B tail)] 73)=z:=⟨_,rfl⟩
 obtain⟨b23,C3⟩:=jjm hw3
 have B3:=jnc (B1.out.trans (b23.mono B1.out.size))
 have hWl:jo n base bds<=t.length:=by have:=PT.len;omega
 have WH:Hid (∀W,Below w3.heap.size w3 W->Calls prog 70 #[.agg #[.int .i64 (n:Int),.string (B base),.slice ba bds.length bc,.slice ea bds.length ec,.string (B tail)]] W fun e w'=>e=.returned (.int .i64 (jo n base bds:Nat))/\Below W.heap.size W w'):=fun W hW=>Vv ((BR2.below b23).below hW) (by omega) (TB.out W (B3.out.trans (hW.mono B3.out.size)))
 have EN:=jnc (Kw eds _ w3 (EV.out w3 B3.out) hlen HF.out HI.out (TB.out w3 B3.out).tabs)
 have HC3:=jnc C3
 have HW3:=jnc hw3
 have EX:Hid ((B t).extract 0 (jo n base bds)=B (t.take (jo n base bds))):=Fr.ext_take _ _
 have RS:Hid (∀e:Ending,∀w',Below w.heap.size w w'->(((vS eds).2≠0/\∃u,e=.returned (.tuple #[.string (B []),u])/\vV w.heap.size w' u (vS eds).1 (vS eds).2)\/((vS eds).2=0/\50000<(js eds).length/\e=.returned (.tuple #[.string (B []),qm 11]))\/((vS eds).2=0/\(js eds).length<=50000/\e=.returned (.tuple #[.string (B (t.take (jo n base bds)++Fr.fullR (js eds))),.nilIface])))->jmm w w' t eds e):=fun e w' hb h=>⟨hb,.inr ⟨n,base,bds,tail,hS,h⟩⟩
 clear BR2 hBR hBt hEv hS PT b23 C3 hw3
 generalize hWW:jo n base bds=W at *
 go_wp2_with fail
 rw[HW3.out]
 refine EN.out.mono ?_
 rintro e w4 ⟨b4,h4⟩
 have B4:=jnc (B3.out.trans (b4.mono B3.out.size))
 have HB34:=jnc b4
 clear EN b4
 rcases h4 with ⟨hc,rfl⟩|⟨hc,u,rfl,hz⟩
 rotate_left
 ·
  have Z4:=jnc (hz.mono (B3.out.size))
  have hform:=hz
  obtain⟨_,hform⟩:=hform
  have hform:(∃z,u=.iface 46 (.int .i64 z))\/∃q,u=.iface 133 (.pointer (some ⟨q,0,none⟩)):=by
   rcases hform with ⟨rfl,_⟩|⟨_,⟨q,_,rfl,_⟩,_,_⟩
   ·rw[ze _ (by omega)];exact .inl ⟨_,rfl⟩
   exact .inr ⟨q,rfl⟩
  have R4:=jnc (RS.out (.returned (.tuple #[.string (B []),u])) w4 B4.out (.inl ⟨hc,u,rfl,Z4.out⟩))
  clear hz RS
  rcases hform with ⟨z,rfl⟩|⟨q,rfl⟩
  all_goals
   go_wp2_with fail
   go_ret2
   exact R4.out
 have hbt:=jm (js eds)
 by_cases hbig:50000<(js eds).length
 ·have RC:=jnc (Gc (js eds) hbig w4)
  have RSX:Hid (∀w',Below w.heap.size w w'->jmm w w' t eds (.returned (.tuple #[.string (B []),qm 11]))):=fun w' hb=>RS.out _ w' hb (.inr (.inl ⟨hc,hbig,rfl⟩))
  rw[GT]at RC
  rw[ze 11 (by decide)]at RSX
  clear RS
  generalize B (js eds)=X at *
  go_wp2_with fail
  refine RC.out.mono ?_
  rintro e w5 ⟨rfl,b5⟩
  have R5:=jnc (RSX.out w5 (B4.out.trans (b5.mono B4.out.size)))
  clear b5 RC
  go_wp2_with fail
  go_ret2
  exact R5.out
 have hgd:Fr.goodR (js eds)=true:=Fr.batch_body hc (by omega)
 have RC:=jnc (Fr.record_yes (js eds) hgd w4 (TB.out w4 B4.out).nums)
 have hfl:=Fr.full_le hgd
 have hfs:(B (Fr.fullR (js eds))).size=(Fr.fullR (js eds)).length:=jm _
 have EX2:Hid (B (t.take W)++B (Fr.fullR (js eds))=B (t.take W++Fr.fullR (js eds))):=by show _=_;rw[jZ]
 have RSX:Hid (∀w',Below w.heap.size w w'->jmm w w' t eds (.returned (.tuple #[.string (B (t.take W++Fr.fullR (js eds))),.nilIface]))):=fun w' hb=>RS.out _ w' hb (.inr (.inr ⟨hc,by omega,rfl⟩))
 have htk:(B (t.take W)).size=W:=by rw[jm,jnk];omega
 clear RS hgd hc
 generalize Fr.fullR (js eds)=FR at *
 generalize B (js eds)=X at *
 go_wp2_with fail
 refine RC.out.mono ?_
 rintro e w5 ⟨rfl,b5⟩
 have B35:=jnc (HB34.out.trans (b5.mono HB34.out.size))
 have B5:=jnc (B4.out.trans (b5.mono B4.out.size))
 have k:=je HC3.out B35.out HC3.out.lt
 have k0:=k.cell 0
 have k1:=k.cell 1
 have k2:=k.cell 2
 have k3:=k.cell 3
 have k4:=k.cell 4
 simp only[jnl,jnp,jnj]at k0 k1 k2 k3 k4
 clear b5 RC k
 go_wp2_with fail
 refine(WH.out w5 B35.out).mono ?_
 rintro e w6 ⟨rfl,b6⟩
 have B36:=jnc (B35.out.trans (b6.mono B35.out.size))
 have B6:=jnc (B5.out.trans (b6.mono B5.out.size))
 have k:=je HC3.out B36.out HC3.out.lt
 have j0:=k.cell 0
 have j1:=k.cell 1
 have j2:=k.cell 2
 have j3:=k.cell 3
 have j4:=k.cell 4
 simp only[jnl,jnp,jnj]at j0 j1 j2 j3 j4
 have q5:¬(120000:Int)<(W:Int)+(FR.length:Int):=by omega
 clear b6 k k0 k1 k2 k3 k4
 go_wp2_with fail
 refine(WH.out w6 B36.out).mono ?_
 rintro e w7 ⟨rfl,b7⟩
 have R7:=jnc (RSX.out w7 (B6.out.trans (b7.mono B6.out.size)))
 have hex:((B t).extract 0 W).size=W:=by rw[EX.out];exact htk
 clear b7 RSX
 go_wp2_with fail
 rw[EX.out,EX2.out]
 go_ret2
 exact R7.out
end Bk
namespace Fr
attribute [local go_sem] jnn
end Fr
section
attribute [local go_sem] jnn
end
namespace FD
def fl(l:Array Bool)(j:Nat):Bool:=l.getD j false
abbrev sl(g n c:Nat):Value:=.slice (some ⟨g,0,none⟩) n c
end FD
section
attribute [local go_sem] jnn
end
section
section
variable {K:Act->World->Prop} {Q:Exit->Act->World->Prop} {o:Oper} {a:Act} {w:World}
end
end
section
attribute [local go_sem] jnn
end
section
attribute [local go_sem] jnn
end
section
attribute [local go_sem] jnn
end
section
attribute [local go_sem] jnn
end
namespace Bk
attribute [local go_sem] jnn
theorem qL.same{t base base' tail tail':List UInt8}{n n':Nat}{bds bds':List (List UInt8)}(h:qL Dc t n base bds tail)(h':qL Dc t n' base' bds' tail'):n=n'/\base=base'/\bds=bds'/\tail=tail':=by
 have e1:=Hd.gen_one h.gen h'.gen
 subst e1
 have e2:base=base':=by rw[<- h.isB,h'.isB]
 subst e2
 obtain⟨e3,e4⟩:=We h.recd h'.recd (.inl h.fin) (.inl h'.fin)
 exact⟨rfl,rfl,e3,e4⟩
theorem jfV{b:List UInt8}{eds:List Ed}(h:jdW b=some eds):eds.length<=40/\Xk eds:=by
 obtain⟨_,h0,_,_⟩:=WL.1 h
 obtain⟨⟨_,h1⟩,h2⟩:=yN h0
 refine⟨h1,fun ed hm => ?_⟩
 have g:=Wt (h2 ed hm)
 exact⟨by have:=g.len;omega,fun f hf=>by have:=g.each f hf;have:=JJ this.1;omega⟩
end Bk
section
section
variable {K:Act->World->Prop} {Q:Exit->Act->World->Prop} {o:Oper} {a:Act} {w:World}
end
end
namespace Bk
attribute [local go_sem] jnn
theorem jl7{lo:Nat}{w:World}{a:Option Addr}{n c:Nat}{us:List Value}(h:w.ownsRow lo 22 1 (.slice a n c) n us){i:Nat}{u:Value}(hu:us[i]?=some u)(hi:i<n):∃g off,a=some ⟨g,off,none⟩/\g<w.heap.size/\w.cell? ⟨g,off+i,none⟩=some u:=by
 rcases jor h with ⟨e,hn⟩|⟨g,cap,e⟩
 ·omega
 have e2:=e
 injection e2 with e3
 rw[e]at h
 refine⟨g,0,e3,(joK h g rfl).2,?_⟩
 rw[jnX,jnL h i (by omega)]
 exact hu
end Bk
end Go.Proofs.YtpibhbjmcmfnmaaGreatDoor
