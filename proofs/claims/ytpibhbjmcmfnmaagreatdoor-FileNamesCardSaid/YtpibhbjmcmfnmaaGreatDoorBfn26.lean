/- Texts put together:SD,NS,NT,NU,NV,NP,NW,EC,EO,EW,SE,SF,AO,AD,DV,SG,DP,DT,AM,BD,BE,BF,WQ,BI,BG,EY,AQ,HF,ES,HA,EL,EZ,AS,AT,AU,AW,BJ,AN,AR,FV,BH,HD,HB,HE,SYN,SM,SO,SN. -/
import Derived.BigFrame
import Derived.Lib.SliceRun
import Derived.Test.YtpibhbjmcmfnmaaGreatDoorBfn25
set_option linter.unusedVariables false
set_option maxRecDepth 100000
set_option maxHeartbeats 16000000
namespace Go.Proofs.YtpibhbjmcmfnmaaGreatDoor
open Go.RowKit Go.Shelf Tryz
namespace Bk
attribute [local go_sem] jmk
theorem jbY{fn:Func}{p u:Tmp}{ty:TypeId}(h:fn.results=#[.cell p ty,.tmp u])(tmps:Array Value)(P:Program)(w:World):
  (results fn tmps).run P w=((asAddr (tmps.getD p undef)).run P w).andThen fun a w₁=>((loadVar ty a).run P w₁).andThen fun v w₂=>.ok (.tuple #[v,tmps.getD u undef]) w₂:=by
 simp only[results,h]
 simp[Sem.run_bind,Result.andThen]
theorem YS{fn:Func}{p u:Tmp}(h:fn.results=#[.cell p 73,.tmp u])(tmps:Array Value)(w:World)(b:Nat)(cur:Array Value)(hp:tmps.getD p undef=.pointer (some ⟨b,0,none⟩))
  (hc:ja w b 73 cur) (hz:cur.size=5):(results fn tmps).run prog w=.ok (.tuple #[.agg cur,tmps.getD u undef]) w:=by
 have L:=run_loadVar_row (P:=prog) w b 73 73 cur (0,0) _ hc underlying73 rfl (by rw[hz];kernel_rfl)
 rw[jbY h,hp]
 show((loadVar _ _).run _ _).andThen _=_
 rw[L];rfl
theorem jij{W:World}{b:Nat}{T:TypeId}{a0 a1 a2 a3 a4:Value}(h:ja W b T #[a0,a1,a2,a3,a4])(v0 v1 v2 v3 v4:Value):
  ja (((((W.setCell ⟨b,0,none⟩ v0).setCell ⟨b,1,none⟩ v1).setCell ⟨b,2,none⟩ v2).setCell ⟨b,3,none⟩ v3).setCell ⟨b,4,none⟩ v4) b T #[v0,v1,v2,v3,v4]/\jt (· = b) W (((((W.setCell ⟨b,0,none⟩ v0).setCell ⟨b,1,none⟩ v1).setCell ⟨b,2,none⟩ v2).setCell ⟨b,3,none⟩ v3).setCell ⟨b,4,none⟩ v4):=by
 have k:=((((h.set 0 v0).set 1 v1).set 2 v2).set 3 v3).set 4 v4
 refine⟨by simpa [List.setIfInBounds_toArray,List.set]using k,(((((jt.refl (· = b) W).cellS 0 v0).cellS 1 v1).cellS 2 v2).cellS 3 v3).cellS 4 v4⟩
def jbA:Value:=KA 0 [] (.slice none 0 0) (.slice none 0 0) []
def jji(w w':World)(t:List UInt8)(e:Ending):Prop:=Below w.heap.size w w' /\
  ((∃a k u,jI (yN (t.drop (hl (Hd.genP t))))=.error (a,k)/\e=.returned (.tuple #[jbA,u])/\jn w.heap.size w' u a k) \/
   (∃its bds r u,jI (yN (t.drop (hl (Hd.genP t))))=.ok its/\jfD Dc (t.drop (hl (Hd.genP t)+(yN (t.drop (hl (Hd.genP t)))).length)) bds r/\jjC Dc r/\e=.returned (.tuple #[jbA,u])/\jn w.heap.size w' u bds.length 10) \/
   (∃base bds tail v,yO Dc t (Hd.genP t) base bds tail/\e=.returned (.tuple #[v,.nilIface])/\yX w.heap.size w' v (Hd.genP t) base bds tail))
theorem jiE:(prog.info? 22).map (fun i=>(i.zero,i.size,i.bytes))=some (some (.slice none 0 0),1,24):=by kernel_rfl
theorem jep:(prog.info? 3).map (fun i=>(i.zero,i.size,i.bytes))=some (some (.int .i64 0),1,8):=by kernel_rfl
def jgt(w:World)(b:Nat):Nat:=match w.cell? ⟨b,2,none⟩ with | some (.slice _ n _)=>n | _=>0
theorem jeu{D:List UInt8->Bool}{s r:List UInt8}{bds:List (List UInt8)}(h:jfD D s bds r):s.length=(bds.flatMap Fr.fullR).length+r.length:=by
 rw[h.eq,jmb]
theorem ji6:jcK []=none:=by
 cases h:jcK []with
 | none=>rfl
 | some eds =>
 obtain⟨_,h1,_,h2⟩:=Ks.1 h
 cases eds with
 | nil=>exact absurd h1 (by decide)
 | cons a r =>
 have:=congrArg List.length h2
 unfold jp zu jeR jl at this
 simp at this
theorem jeQ{lo:Nat}{W:World}{q k:Nat}(hq:lo<=q)(h:ja W q 135 #[.int .i64 (k:Int),.iface 46 (.int .i64 10)]):jn lo W (.iface 133 (.pointer (some ⟨q,0,none⟩))) k 10 :=
 ⟨q,hq,rfl,by rw[jX 10 (by decide)];exact h⟩
theorem jbp{w w7:World}(hB:Below w.heap.size w w7)(C7:ja w7 w.heap.size 73 #[.int .i64 0,.string ⟨#[]⟩,.slice none 0 0,.slice none 0 0,.string ⟨#[]⟩])(k:Nat):
  Below w.heap.size w ((((((w7.alloc (.cells #[.int .i64 (k:Int),.iface 46 (.int .i64 10)] 135)).setCell ⟨w.heap.size,0,none⟩ (.int .i64 0)).setCell ⟨w.heap.size,1,none⟩ (.string ⟨#[]⟩)).setCell ⟨w.heap.size,2,none⟩ (.slice none 0 0)).setCell ⟨w.heap.size,3,none⟩ (.slice none 0 0)).setCell ⟨w.heap.size,4,none⟩ (.string ⟨#[]⟩)).drew /\
  ja ((((((w7.alloc (.cells #[.int .i64 (k:Int),.iface 46 (.int .i64 10)] 135)).setCell ⟨w.heap.size,0,none⟩ (.int .i64 0)).setCell ⟨w.heap.size,1,none⟩ (.string ⟨#[]⟩)).setCell ⟨w.heap.size,2,none⟩ (.slice none 0 0)).setCell ⟨w.heap.size,3,none⟩ (.slice none 0 0)).setCell ⟨w.heap.size,4,none⟩ (.string ⟨#[]⟩)).drew w.heap.size 73 #[.int .i64 0,.string ⟨#[]⟩,.slice none 0 0,.slice none 0 0,.string ⟨#[]⟩] /\
  jn w.heap.size ((((((w7.alloc (.cells #[.int .i64 (k:Int),.iface 46 (.int .i64 10)] 135)).setCell ⟨w.heap.size,0,none⟩ (.int .i64 0)).setCell ⟨w.heap.size,1,none⟩ (.string ⟨#[]⟩)).setCell ⟨w.heap.size,2,none⟩ (.slice none 0 0)).setCell ⟨w.heap.size,3,none⟩ (.slice none 0 0)).setCell ⟨w.heap.size,4,none⟩ (.string ⟨#[]⟩)).drew (.iface 133 (.pointer (some ⟨w7.heap.size,0,none⟩))) k 10:=by
 have hF:=ja.new w7 135 #[.int .i64 (k:Int),.iface 46 (.int .i64 10)]
 have hb:Below w.heap.size w (w7.alloc (.cells #[.int .i64 (k:Int),.iface 46 (.int .i64 10)] 135)):=hB.alloc hB.size _
 obtain⟨h1,h2⟩:=jij (C7.alloc (.cells #[.int .i64 (k:Int),.iface 46 (.int .i64 10)] 135)) (.int .i64 0) (.string ⟨#[]⟩) (.slice none 0 0) (.slice none 0 0) (.string ⟨#[]⟩)
 have hlt:=C7.lt
 exact⟨(hb.trans (h2.to_below hb.size (fun r hr e=>by omega))).drew,h1.drew,jeQ hB.size ((hF.only h2 (fun e=>by omega)).drew)⟩
theorem jbo{w w7:World}(hB:Below w.heap.size w w7)(C7:ja w7 w.heap.size 73 #[.int .i64 0,.string ⟨#[]⟩,.slice none 0 0,.slice none 0 0,.string ⟨#[]⟩])(k:Nat):
  Below w.heap.size w ((((((w7.setCell ⟨w.heap.size,0,none⟩ (.int .i64 0)).setCell ⟨w.heap.size,1,none⟩ (.string ⟨#[]⟩)).setCell ⟨w.heap.size,2,none⟩ (.slice none 0 0)).setCell ⟨w.heap.size,3,none⟩ (.slice none 0 0)).setCell ⟨w.heap.size,4,none⟩ (.string ⟨#[]⟩)).alloc (.cells #[.int .i64 (k:Int),.iface 46 (.int .i64 10)] 135)).drew /\
  ja ((((((w7.setCell ⟨w.heap.size,0,none⟩ (.int .i64 0)).setCell ⟨w.heap.size,1,none⟩ (.string ⟨#[]⟩)).setCell ⟨w.heap.size,2,none⟩ (.slice none 0 0)).setCell ⟨w.heap.size,3,none⟩ (.slice none 0 0)).setCell ⟨w.heap.size,4,none⟩ (.string ⟨#[]⟩)).alloc (.cells #[.int .i64 (k:Int),.iface 46 (.int .i64 10)] 135)).drew w.heap.size 73 #[.int .i64 0,.string ⟨#[]⟩,.slice none 0 0,.slice none 0 0,.string ⟨#[]⟩] /\
  jn w.heap.size ((((((w7.setCell ⟨w.heap.size,0,none⟩ (.int .i64 0)).setCell ⟨w.heap.size,1,none⟩ (.string ⟨#[]⟩)).setCell ⟨w.heap.size,2,none⟩ (.slice none 0 0)).setCell ⟨w.heap.size,3,none⟩ (.slice none 0 0)).setCell ⟨w.heap.size,4,none⟩ (.string ⟨#[]⟩)).alloc (.cells #[.int .i64 (k:Int),.iface 46 (.int .i64 10)] 135)).drew (.iface 133 (.pointer (some ⟨w7.heap.size,0,none⟩))) k 10:=by
 obtain⟨h1,h2⟩:=jij C7 (.int .i64 0) (.string ⟨#[]⟩) (.slice none 0 0) (.slice none 0 0) (.string ⟨#[]⟩)
 have hb:=hB.trans (h2.to_below hB.size (fun r hr e=>by omega))
 have hz:(((((w7.setCell ⟨w.heap.size,0,none⟩ (.int .i64 0)).setCell ⟨w.heap.size,1,none⟩ (.string ⟨#[]⟩)).setCell ⟨w.heap.size,2,none⟩ (.slice none 0 0)).setCell ⟨w.heap.size,3,none⟩ (.slice none 0 0)).setCell ⟨w.heap.size,4,none⟩ (.string ⟨#[]⟩)).heap.size=w7.heap.size:=by simp[World.setCell]
 have hF:=ja.new (((((w7.setCell ⟨w.heap.size,0,none⟩ (.int .i64 0)).setCell ⟨w.heap.size,1,none⟩ (.string ⟨#[]⟩)).setCell ⟨w.heap.size,2,none⟩ (.slice none 0 0)).setCell ⟨w.heap.size,3,none⟩ (.slice none 0 0)).setCell ⟨w.heap.size,4,none⟩ (.string ⟨#[]⟩)) 135 #[.int .i64 (k:Int),.iface 46 (.int .i64 10)]
 rw[hz]at hF
 exact⟨(hb.alloc hb.size _).drew,(h1.alloc _).drew,jeQ hB.size hF.drew⟩
theorem Qf(t:List UInt8)(ht:t.length<=100000)(hbs:(yN (t.drop (hl (Hd.genP t)))).length<=60000)(w:World)(hT:jbx w):
  Calls prog 36 #[.string (B t)] w fun e w'=>jji w w' t e:=by
 obtain⟨i1,hi,hz0,hz1,hib⟩:=info_parts jep
 obtain⟨i2,hiB,hB0,hB1,hBb⟩:=info_parts jiE
 have hsz:(B t).size=t.length:=jq t
 have hgen:=Hd.genP_is t
 have hn:=Hd.gen_lt hgen
 have hhl:=jkb hgen
 generalize hnn:Hd.genP t=n at *
 obtain⟨w0,hw0⟩:∃z,w.alloc (.cells #[.int .i64 0,.string ⟨#[]⟩,.slice none 0 0,.slice none 0 0,.string ⟨#[]⟩] 73)=z:=⟨_,rfl⟩
 have hb0:Below w.heap.size w w0:=by rw[<- hw0];exact(jmc _ w).alloc (jma _) _
 have hz:w0.heap.size=w.heap.size+1:=by rw[<- hw0];simp
 have C0:ja w0 w.heap.size 73 #[.int .i64 0,.string ⟨#[]⟩,.slice none 0 0,.slice none 0 0,.string ⟨#[]⟩]:=by rw[<- hw0];exact ja.new _ _ _
 have TB:Hid (∀W,Below w.heap.size w W->jbx W):=fun W hW=>hT.below hW (jma _)
 have TK0:=Hd.take_any t ht w0 (TB.out w0 hb0).tab
 rw[hnn]at TK0
 have TK:=jl9 TK0
 have HB0:=jl9 hb0
 have HC0:=jl9 C0
 have HW0:=jl9 hw0
 have q1:¬(120000:Int)<((B t).size:Int):=by omega
 have hlen:(t.drop (hl n)).length<=100000:=by rw[jmn];omega
 have HZ:=jl9 hz
 clear hT TK0 hb0 C0 hw0 hz
 go_enter func36,ntmps36
 go_wp2_with fail
 rw[HW0.out]
 refine TK.out.mono ?_
 rintro e w1 ⟨rfl,b1⟩
 have HB1:=jl9 (HB0.out.trans (b1.mono HB0.out.size))
 have hs1:=b1.size
 have HC1:=jl9 (jd HC0.out b1 HC0.out.lt)
 have BS:=jl9 (jhn (t.drop (hl n)) hlen w1)
 have HSP:=jl9 (Yg (t.drop (hl n)))
 have HBH:=jl9 (jae (t.drop (hl n)))
 have hbl:(yN (t.drop (hl n))).length<=(t.drop (hl n)).length:=by
  have:=congrArg List.length HSP.out
  rw[jmb]at this
  omega
 clear TK b1
 rw[jiH]
 generalize hbase:yN (t.drop (hl n))=base at *
 go_wp2_with fail
 refine BS.out.mono ?_
 rintro e w2 ⟨rfl,b2⟩
 have HB2:=jl9 (HB1.out.trans (b2.mono HB1.out.size))
 have hs2:=b2.size
 obtain⟨w3,hw3⟩:∃z,w2.alloc (.cells #[.int .i64 (n:Int),.string (B base),.slice none 0 0,.slice none 0 0,.string ⟨#[]⟩] 73)=z:=⟨_,rfl⟩
 have b23:Below w2.heap.size w2 w3:=by rw[<- hw3];exact(jmc _ _).alloc (jma _) _
 have C3:ja w3 w2.heap.size 73 #[.int .i64 (n:Int),.string (B base),.slice none 0 0,.slice none 0 0,.string ⟨#[]⟩]:=by rw[<- hw3];exact ja.new _ _ _
 have HC2:=jl9 (jd HC1.out (b2.trans (b23.mono b2.size)) HC1.out.lt)
 have HB3:=jl9 (HB2.out.trans (b23.mono HB2.out.size))
 have PA:=jl9 (QZ (B base) (by rw[jq];exact hbs) w3)
 rw[ju]at PA
 have HC3:=jl9 C3
 have HW3:=jl9 hw3
 have hs3:=b23.size
 have hlt3:=C3.lt
 have hlow:w.heap.size+1<=w2.heap.size:=by have:=HZ.out;omega
 clear BS b2 b23 C3 hw3
 go_wp2_with fail
 rw[HW3.out]
 refine PA.out.mono ?_
 rintro e w4 hp4
 cases hp:jI base with
 | error an =>
  obtain⟨a,k⟩:=an
  unfold Zk at hp4
  rw[hp]at hp4
  obtain⟨b4,u,rfl,hf⟩:=hp4
  have HB4:=jl9 (HB3.out.trans (b4.mono HB3.out.size))
  have HC4:=jl9 (jd HC2.out b4 HC2.out.lt)
  obtain⟨hput,honly⟩:=jij HC4.out (.int .i64 0) (.string ⟨#[]⟩) (.slice none 0 0) (.slice none 0 0) (.string ⟨#[]⟩)
  have HF:Hid (jn w.heap.size (((((w4.setCell ⟨w.heap.size,0,none⟩ (.int .i64 0)).setCell ⟨w.heap.size,1,none⟩ (.string ⟨#[]⟩)).setCell ⟨w.heap.size,2,none⟩ (.slice none 0 0)).setCell ⟨w.heap.size,3,none⟩ (.slice none 0 0)).setCell ⟨w.heap.size,4,none⟩ (.string ⟨#[]⟩)) u a k):=by
   obtain⟨q,h0,h1,h2⟩:=hf
   exact⟨q,by omega,h1,h2.only honly (fun e=>by omega)⟩
  have HBF:=jl9 (HB4.out.trans (honly.to_below HB4.out.size (fun r hr e=>by omega)))
  have HPUT:=jl9 hput
  obtain⟨q,_,rfl,_⟩:=hf
  have c0:=HC4.out.cell 0
  have c1:=HC4.out.cell 1
  have c2:=HC4.out.cell 2
  have c3:=HC4.out.cell 3
  have c4:=HC4.out.cell 4
  have f0:=HC4.out.frozen 0
  have f1:=HC4.out.frozen 1
  have f2:=HC4.out.frozen 2
  have f3:=HC4.out.frozen 3
  have f4:=HC4.out.frozen 4
  simp only[jmh,jmm,jmg]at c0 c1 c2 c3 c4
  have HP:=jl9 hp
  clear b4 hput honly PA hp
  go_wp2_with fail
  refine bodyPost_ret (YS rfl _ _ w.heap.size _ rfl HPUT.out rfl) rfl ?_
  exact⟨HBF.out,.inl ⟨a,k,_,by rw[hnn,hbase];exact HP.out,rfl,HF.out⟩⟩
 | ok its =>
 unfold Zk at hp4
 rw[hp]at hp4
 obtain⟨b4,u,rfl,_⟩:=hp4
 have hb4:=HB3.out.trans (b4.mono HB3.out.size)
 have hC4:=jd HC2.out b4 HC2.out.lt
 have hK4:=jd HC3.out b4 HC3.out.lt
 have HP:=jl9 hp
 have HGEN:=jl9 hgen
 clear PA b4 hp
 go_wp2_with fail
 go_loopw [9] (fun _ wr=>∃(bds:List (List UInt8)) (r:List UInt8) (bv ev:Value) (us:List Value),jfD Dc (t.drop (hl n+base.length)) bds r/\ja wr w2.heap.size 73 #[.int .i64 (n:Int),.string (B base),bv,ev,.string ⟨#[]⟩]/\XE w.heap.size wr bv bds us/\wr.ownsRow w.heap.size 3 1 ev bds.length ((qq (hl n+base.length) bds).map jkp)/\ja wr w.heap.size 73 #[.int .i64 0,.string ⟨#[]⟩,.slice none 0 0,.slice none 0 0,.string ⟨#[]⟩]/\Below w.heap.size w wr) (fun _ wr=>t.length+1-jgt wr w2.heap.size)
 case atStart=>exact⟨[],_,_,_,[],⟨rfl,fun b h=>by cases h⟩,hK4,XE.nil _ _,⟨rfl,.inl ⟨rfl,rfl⟩⟩,hC4,hb4⟩
 case round =>
 obtain⟨bds,r,bv,ev,us,hR,hK,hBt,hEv,hC,hb⟩:=hrel
 obtain⟨ba,bc,rfl,_⟩:=jf hBt.row
 obtain⟨ea,ec,rfl,_⟩:=jf hEv
 have hrl:=jeu hR
 rw[jmn]at hrl
 have hbdl:=KB bds
 have hblen:base.length+hl n<=t.length:=by rw[jmn]at hbl;omega
 have hWe:zG n base bds=hl n+base.length+(bds.flatMap Fr.fullR).length:=rfl
 have hWle:zG n base bds<=t.length:=by omega
 have hdrop:t.drop (zG n base bds)=r:=by
  rw[hWe,WZ,hR.eq,jn2]
 have EX:Hid ((B t).extract (zG n base bds) t.length=B r):=by
  show _=_
  rw[<- hsz,Fr.ext_drop,hdrop]
 have hrlen:r.length<=700000:=by omega
 have BKR:yX w.heap.size wr (KA n base (.slice ba bds.length bc) (.slice ea bds.length ec) []) n base bds []:=⟨_,_,us,rfl,hBt,hEv⟩
 have WH:=jl9 (KK BKR (by omega) (TB.out wr hb))
 have k0:=hK.cell 0
 have k1:=hK.cell 1
 have k2:=hK.cell 2
 have k3:=hK.cell 3
 have k4:=hK.cell 4
 simp only[jmh,jmm,jmg]at k0 k1 k2 k3 k4
 have HR:=jl9 hR
 have HK:=jl9 hK
 have HBT:=jl9 hBt
 have HEV:=jl9 hEv
 have HC:=jl9 hC
 have HB:=jl9 hb
 have HWE:=jl9 hWe
 have HRL:=jl9 hrl
 unfold KA at WH
 clear hR hBt hEv hC hb hrl hdrop hWe BKR
 generalize hWW:zG n base bds=W at *
 go_wp2_with fail
 refine WH.out.mono ?_
 rintro e w5 ⟨rfl,b5⟩
 have HB5:=jl9 (HB.out.trans (b5.mono HB.out.size))
 have FR:=jl9 (Fr.read_any r hrlen w5 (TB.out w5 HB5.out).nums)
 have B45:=jl9 b5
 clear WH b5 k0 k1 k2 k3 k4 hK
 go_wp2_with fail
 rw[EX.out]
 refine FR.out.mono ?_
 rintro e w6 ⟨kk,bb,mm,hread,rfl,b6⟩
 have HB6:=jl9 (HB5.out.trans (b6.mono HB5.out.size))
 have B46:=jl9 (B45.out.trans (b6.mono B45.out.size))
 have K6:=jd HK.out B46.out HK.out.lt
 have C6:=jd HC.out B46.out HC.out.lt
 have T6:=HBT.out.below B46.out
 have E6:=zy HEV.out B46.out (jma _)
 clear FR b6 B45
 unfold Fr.readV
 rcases hread with ⟨hwt,rfl,rfl⟩|⟨hpt,rfl,rfl,rfl⟩|⟨hnp,hnw,rfl,rfl,rfl⟩
 ·
  have hgb:=Fr.good_iff.1 hwt.1
  have DE:=jl9 (Xv bb (by unfold maxLen;omega) w6 (TB.out w6 HB6.out).tabs)
  have hfl:(Fr.fullR bb).length<=r.length:=by
   obtain⟨_,m,e⟩:=hwt
   rw[e,jmb];omega
  go_wp2_with fail
  refine DE.out.mono ?_
  rintro e w7 ⟨b7,h7⟩
  have HB7:=jl9 (HB6.out.trans (b7.mono HB6.out.size))
  have K7:=jd K6 b7 K6.lt
  have C7:=jd C6 b7 C6.lt
  have T7:=T6.below b7
  have E7:=zy E6 b7 (jma _)
  clear DE K6 C6 T6 E6
  rcases h7 with ⟨hd,rfl⟩|⟨eds,u7,fvs,hd,rfl,hO⟩
  ·have FB:Hid (jjC Dc r):=.inr ⟨bb,hwt,by unfold Dc;rw[hd];rfl⟩
   clear hwt hd T7 E7 b7
   have c70:=C7.cell 0
   have c71:=C7.cell 1
   have c72:=C7.cell 2
   have c73:=C7.cell 3
   have c74:=C7.cell 4
   have g70:=C7.frozen 0
   have g71:=C7.frozen 1
   have g72:=C7.frozen 2
   have g73:=C7.frozen 3
   have g74:=C7.frozen 4
   have m72:=K7.cell 2
   simp only[jmh,jmm,jmg]at c70 c71 c72 c73 c74 m72
   have d70:∀o,(w7.alloc o).cell? ⟨w.heap.size,0,none⟩=_:=fun o=>((C7.alloc o).cell 0).trans rfl
   have d71:∀o,(w7.alloc o).cell? ⟨w.heap.size,1,none⟩=_:=fun o=>((C7.alloc o).cell 1).trans rfl
   have d72:∀o,(w7.alloc o).cell? ⟨w.heap.size,2,none⟩=_:=fun o=>((C7.alloc o).cell 2).trans rfl
   have d73:∀o,(w7.alloc o).cell? ⟨w.heap.size,3,none⟩=_:=fun o=>((C7.alloc o).cell 3).trans rfl
   have d74:∀o,(w7.alloc o).cell? ⟨w.heap.size,4,none⟩=_:=fun o=>((C7.alloc o).cell 4).trans rfl
   have h70:∀o,(w7.alloc o).frozen? ⟨w.heap.size,0,none⟩=false:=fun o=>(C7.alloc o).frozen 0
   have h71:∀o,(w7.alloc o).frozen? ⟨w.heap.size,1,none⟩=false:=fun o=>(C7.alloc o).frozen 1
   have h72:∀o,(w7.alloc o).frozen? ⟨w.heap.size,2,none⟩=false:=fun o=>(C7.alloc o).frozen 2
   have h73:∀o,(w7.alloc o).frozen? ⟨w.heap.size,3,none⟩=false:=fun o=>(C7.alloc o).frozen 3
   have h74:∀o,(w7.alloc o).frozen? ⟨w.heap.size,4,none⟩=false:=fun o=>(C7.alloc o).frozen 4
   have CA:=jl9 (jbp HB7.out C7 bds.length)
   have CB:=jl9 (jbo HB7.out C7 bds.length)
   clear K7 C7
   go_wp2_with fail
   go_region
   all_goals go_wp2_with fail
   ·refine bodyPost_ret (YS rfl _ _ w.heap.size _ rfl CA.out.2.1 rfl) rfl ?_
    exact⟨CA.out.1,.inr (.inl ⟨its,bds,r,_,by rw[hnn,hbase];exact HP.out,by rw[hnn,hbase];exact HR.out,FB.out,rfl,CA.out.2.2⟩)⟩
   refine bodyPost_ret (YS rfl _ _ w.heap.size _ rfl CB.out.2.1 rfl) rfl ?_
   exact⟨CB.out.1,.inr (.inl ⟨its,bds,r,_,by rw[hnn,hbase];exact HP.out,by rw[hnn,hbase];exact HR.out,FB.out,rfl,CB.out.2.2⟩)⟩
  have hO':ZI w.heap.size w7 u7 (Zz bb) fvs:=by
   have:Zz bb=eds:=by unfold Zz;rw[hd];rfl
   rw[this]
   exact⟨ze hO.row HB6.out.size,hO.len,fun i ed fv h1 h2=>ze (hO.each i ed fv h1 h2) HB6.out.size⟩
  have hDc:Dc bb=true:=by unfold Dc;rw[hd];rfl
  obtain⟨ua,uc,rfl,_⟩:=jf hO.row
  have RS:=jl9 (HR.out.snoc hwt hDc)
  have ES:Hid ((qq (hl n+base.length) (bds++[bb])).map jkp=(qq (hl n+base.length) bds).map jkp++[Value.int .i64 ((W:Int)+((Fr.fullR bb).length:Int))]):=by
   show _=_
   rw[yJ,jnh,<- HWE.out]
   simp[jkp]
  have HO:=jl9 hO'
  have T7':=jl9 T7
  have E7':=jl9 E7
  have K7':=jl9 K7
  have C7':=jl9 C7
  have N1:∀(w3:World) (T:TypeId) (x:Value),Hid (∀(j:Nat) (u:Value),[x][j]?=some u->(w3.alloc (.cells #[x] T)).cell? ((⟨w3.heap.size,0,none⟩:Addr).add j)=some u):=fun w3 T x j u h=>by
   have ea:(⟨w3.heap.size,0,none⟩:Addr).add j=⟨w3.heap.size,j,none⟩:=by unfold Addr.add;split<;>simp_all
   rw[ea,(ja.new w3 T #[x]).cell j]
   simpa using h
  have N1b:∀(w3:World) (b:Nat) (T:TypeId) (x:Value),w3.heap.size=b->Hid (∀(j:Nat) (u:Value),[x][j]?=some u->(w3.alloc (.cells #[x] T)).cell? ((⟨b,0,none⟩:Addr).add j)=some u):=fun w3 b T x hb j u h=>by
   rw[<- hb];exact(N1 w3 T x).out j u h
  have k2:=K7.cell 2
  have f2:=K7.frozen 2
  simp only[jmh,jmm,jmg]at k2
  have hlo7:w.heap.size<=w7.heap.size:=HB7.out.size
  have hkl:w2.heap.size<w7.heap.size:=K7.lt
  have hbd1:bds.length+(Fr.fullR bb).length<=t.length:=by have:=HRL.out;omega
  clear hwt hd hO hO' hDc T7 E7 K7 C7 b7
  generalize hm:(Fr.fullR bb).length=m at *
  have hwm:IntKind.i64.wrap ((W:Int)+(m:Int))=(W:Int)+(m:Int):=jmU _ (by have:=HRL.out;have:=HWE.out;omega)
  go_wp2_with (at_builtin;refine jQ rfl _ _ 71 rfl w.heap.size 22 i2 _ 1 24 underlying71 hiB hB0 hB1 hBb rfl (by decide) _ _ _ rfl (T7'.out.row.alloc _) _ 1 1 [.slice ua eds.length uc] rfl rfl (N1 _ _ _).out (by intro u hu;simp at hu;subst hu;rfl) (by unfold maxLen;omega) (by omega) (by simp only[jmw];omega) ?_)
  intro bv8 W8 own8 grow8 at8
  have hb8:Below w7.heap.size w7 (w7.alloc (.cells #[.slice ua eds.length uc] 22)):=(jmc _ _).alloc (jma _) _
  have o8:jt (fun r=>(Value.slice ba bds.length bc).ownBlock=some r) w7 W8:=(jt.of_below (S:=fun r=>(Value.slice ba bds.length bc).ownBlock=some r) hb8 (jma _)).grown grow8 (fun r e=>.inl e)
  have T8:=T7'.out.snoc HO.out own8 o8
  have E8:=jH E7'.out o8 (fun b e q=>qf T7'.out.row E7'.out (by decide) b q e)
  have K8:=K7'.out.only o8 (fun e=>jy T7'.out.row K7'.out (by decide) e)
  have C8:=C7'.out.only o8 (fun e=>jy T7'.out.row C7'.out (by decide) e)
  have B8:=HB7.out.trans (o8.to_below hlo7 (fun r hr e=>by have:=(T7'.out.row.lt r e).1;omega))
  have hs8:=o8.size
  obtain⟨ba8,bc8,rfl,_⟩:=jf own8
  have K9:=K8.set 2 (.slice ba8 (bds.length+1) bc8)
  rw[show(#[Value.int .i64 (n:Int),.string (B base),.slice ba bds.length bc,.slice ea bds.length ec,.string ⟨#[]⟩]:Array Value).setIfInBounds 2 (.slice ba8 (bds.length+1) bc8)=#[.int .i64 (n:Int),.string (B base),.slice ba8 (bds.length+1) bc8,.slice ea bds.length ec,.string ⟨#[]⟩] from rfl]at K9
  have o9:jt (· = w2.heap.size) W8 (W8.setCell ⟨w2.heap.size,2,none⟩ (.slice ba8 (bds.length+1) bc8)):=(jt.refl (· = w2.heap.size) W8).cellS 2 _
  have T9:=T8.box K8 (by decide) (by decide) (by decide) o9
  have E9:=jH E8 o9 (fun b e q=>jy E8 K8 (by decide) (by rw[e,q]))
  have C9:=C8.only o9 (fun e=>by omega)
  have B9:=B8.trans (o9.to_below B8.size (fun r hr e=>by omega))
  have kc2:=K8.cell 2
  have kf2:=K8.frozen 2
  have k93:=K9.cell 3
  have f93:=K9.frozen 3
  simp only[jmh,jmm,jmg]at kc2 k93
  have HT9:=jl9 T9
  have HE9:=jl9 E9
  have HK9:=jl9 K9
  have HC9:=jl9 C9
  have HB9:=jl9 B9
  have hs9:=o9.size
  have HSZ:Hid ((W8.setCell ⟨w2.heap.size,2,none⟩ (.slice ba8 (bds.length+1) bc8)).heap.size=W8.heap.size):=by
   show _=_
   simp[World.setCell]
  clear own8 grow8 at8 hb8 o8 T8 E8 K8 C8 B8 K9 o9 T9 E9 C9 B9 T7' E7' K7' C7' HO k2 f2
  go_wp2_with (at_builtin;refine jQ rfl _ _ 23 rfl w.heap.size 3 i1 _ 1 8 underlying23 hi hz0 hz1 hib rfl (by decide) _ _ _ rfl (HE9.out.alloc _) _ 1 1 [.int .i64 ((W:Int)+(m:Int))] rfl rfl (by first | exact(N1b _ _ _ _ HSZ.out).out | exact(N1 _ _ _).out) (by intro u hu;simp at hu;subst hu;rfl) (by unfold maxLen;omega) (by omega) (by simp only[jmw];omega) ?_)
  intro ev10 W10 own10 grow10 at10
  generalize hw9:W8.setCell ⟨w2.heap.size,2,none⟩ (.slice ba8 (bds.length+1) bc8)=W9 at *
  have hb10:Below W9.heap.size W9 (W9.alloc (.cells #[.int .i64 ((W:Int)+(m:Int))] 3)):=(jmc _ _).alloc (jma _) _
  have o10:jt (fun r=>(Value.slice ea bds.length ec).ownBlock=some r) W9 W10:=(jt.of_below (S:=fun r=>(Value.slice ea bds.length ec).ownBlock=some r) hb10 (jma _)).grown grow10 (fun r e=>.inl e)
  have T10:=HT9.out.beside HE9.out (by decide) (by decide) (by decide) o10
  have K10:=HK9.out.only o10 (fun e=>jy HE9.out HK9.out (by decide) e)
  have C10:=HC9.out.only o10 (fun e=>jy HE9.out HC9.out (by decide) e)
  have B10:=HB9.out.trans (o10.to_below HB9.out.size (fun r hr e=>by have:=(HE9.out.lt r e).1;omega))
  obtain⟨ea10,ec10,rfl,_⟩:=jf own10
  have K11:=K10.set 3 (.slice ea10 (bds.length+1) ec10)
  rw[show(#[Value.int .i64 (n:Int),.string (B base),.slice ba8 (bds.length+1) bc8,.slice ea bds.length ec,.string ⟨#[]⟩]:Array Value).setIfInBounds 3 (.slice ea10 (bds.length+1) ec10)=#[.int .i64 (n:Int),.string (B base),.slice ba8 (bds.length+1) bc8,.slice ea10 (bds.length+1) ec10,.string ⟨#[]⟩] from rfl]at K11
  have o11:jt (· = w2.heap.size) W10 (W10.setCell ⟨w2.heap.size,3,none⟩ (.slice ea10 (bds.length+1) ec10)):=(jt.refl (· = w2.heap.size) W10).cellS 3 _
  have T11:=jl9 (T10.box K10 (by decide) (by decide) (by decide) o11)
  have E11:=jl9 (jH own10 o11 (fun b e q=>jy own10 K10 (by decide) (by rw[e,q])))
  have C11:=jl9 (C10.only o11 (fun e=>by omega))
  have B11:=jl9 (B10.trans (o11.to_below B10.size (fun r hr e=>by omega)))
  have HK11:=jl9 K11
  have kc3:=K10.cell 3
  have kf3:=K10.frozen 3
  have l2:=K11.cell 2
  simp only[jmh,jmm,jmg]at kc3 l2
  have L2:=jl9 l2
  have LW:=jl9 (show jgt wr w2.heap.size=bds.length by unfold jgt;rw[HK.out.cell];rfl)
  clear own10 grow10 at10 hb10 o10 T10 K10 C10 B10 K11 o11 l2 HT9 HE9 HK9 HC9 HB9 kc2 kf2 k93 f93
  go_wp2_with fail
  go_roundw
  case rel=>exact⟨bds++[bb],_,_,_,_,RS.out,HK11.out,T11.out,by rw[ES.out,jmb];exact E11.out,C11.out,B11.out⟩
  case measure =>
  have h1:=LW.out
  rw[h1]
  unfold jgt
  rw[L2.out]
  show t.length+1-(bds.length+1)<t.length+1-bds.length
  omega
 ·
  have K7:=K6.set 4 (.string (B r))
  rw[show(#[Value.int .i64 (n:Int),.string (B base),.slice ba bds.length bc,.slice ea bds.length ec,.string ⟨#[]⟩]:Array Value).setIfInBounds 4 (.string (B r))=#[.int .i64 (n:Int),.string (B base),.slice ba bds.length bc,.slice ea bds.length ec,.string (B r)] from rfl]at K7
  have o7:jt (· = w2.heap.size) w6 (w6.setCell ⟨w2.heap.size,4,none⟩ (.string (B r))):=(jt.refl (· = w2.heap.size) w6).cellS 4 _
  have C7:=C6.only o7 (fun e=>by omega)
  have T7:=T6.box K6 (by decide) (by decide) (by decide) o7
  have E7:=jH E6 o7 (fun b e q=>jy E6 K6 (by decide) (by rw[e,q]))
  obtain⟨P8,o8⟩:=jij C7 (.int .i64 (n:Int)) (.string (B base)) (.slice ba bds.length bc) (.slice ea bds.length ec) (.string (B r))
  have T8:=T7.box C7 (by decide) (by decide) (by decide) o8
  have E8:=jH E7 o8 (fun b e q=>jy E7 C7 (by decide) (by rw[e,q]))
  have HP8:=jl9 P8
  have B7:=HB6.out.trans (o7.to_below HB6.out.size (fun r hr e=>by omega))
  have B8:=jl9 (B7.trans (o8.to_below B7.size (fun r hr e=>by omega)))
  have BR:=jl9 (show yX w.heap.size _ (KA n base (.slice ba bds.length bc) (.slice ea bds.length ec) r) n base bds r from⟨_,_,us,rfl,T8,E8⟩)
  have SND:=jl9 (show yO Dc t n base bds r from⟨HGEN.out,⟨its,HP.out⟩,hbase,HR.out,hpt⟩)
  have f64:=K6.frozen 4
  have kk4:=K6.cell 4
  have c70:=C7.cell 0
  have c71:=C7.cell 1
  have c72:=C7.cell 2
  have c73:=C7.cell 3
  have c74:=C7.cell 4
  have g70:=C7.frozen 0
  have g71:=C7.frozen 1
  have g72:=C7.frozen 2
  have g73:=C7.frozen 3
  have g74:=C7.frozen 4
  have m70:=K7.cell 0
  have m71:=K7.cell 1
  have m72:=K7.cell 2
  have m73:=K7.cell 3
  have m74:=K7.cell 4
  simp only[jmh,jmm,jmg]at kk4 c70 c71 c72 c73 c74 m70 m71 m72 m73 m74
  clear K6 C6 T6 E6 K7 o7 C7 T7 E7 P8 o8 T8 E8 B7 hpt
  go_upto_region 12 with fail
  rw[EX.out]
  go_wp2_with fail
  refine bodyPost_ret (YS rfl _ _ w.heap.size _ rfl HP8.out rfl) rfl ?_
  exact⟨B8.out,.inr (.inr ⟨base,bds,r,_,by rw[hnn];exact SND.out,rfl,by rw[hnn];exact BR.out⟩)⟩
 ·
  have DE:=jl9 (Xv [] (by decide) w6 (TB.out w6 HB6.out).tabs)
  have FB:Hid (jjC Dc r):=.inl ⟨hnp,hnw⟩
  have DN:=jl9 ji6
  clear hnp hnw
  go_wp2_with fail
  refine DE.out.mono ?_
  rintro e w7 ⟨b7,h7⟩
  have HB7:=jl9 (HB6.out.trans (b7.mono HB6.out.size))
  have K7:=jd K6 b7 K6.lt
  have C7:=jd C6 b7 C6.lt
  clear DE K6 C6 T6 E6 b7
  rcases h7 with ⟨hd,rfl⟩|⟨eds,u7,fvs,hd,_⟩
  rotate_left
  ·rw[DN.out]at hd;cases hd
  have c70:=C7.cell 0
  have c71:=C7.cell 1
  have c72:=C7.cell 2
  have c73:=C7.cell 3
  have c74:=C7.cell 4
  have g70:=C7.frozen 0
  have g71:=C7.frozen 1
  have g72:=C7.frozen 2
  have g73:=C7.frozen 3
  have g74:=C7.frozen 4
  have m72:=K7.cell 2
  simp only[jmh,jmm,jmg]at c70 c71 c72 c73 c74 m72
  have d70:∀o,(w7.alloc o).cell? ⟨w.heap.size,0,none⟩=_:=fun o=>((C7.alloc o).cell 0).trans rfl
  have d71:∀o,(w7.alloc o).cell? ⟨w.heap.size,1,none⟩=_:=fun o=>((C7.alloc o).cell 1).trans rfl
  have d72:∀o,(w7.alloc o).cell? ⟨w.heap.size,2,none⟩=_:=fun o=>((C7.alloc o).cell 2).trans rfl
  have d73:∀o,(w7.alloc o).cell? ⟨w.heap.size,3,none⟩=_:=fun o=>((C7.alloc o).cell 3).trans rfl
  have d74:∀o,(w7.alloc o).cell? ⟨w.heap.size,4,none⟩=_:=fun o=>((C7.alloc o).cell 4).trans rfl
  have h70:∀o,(w7.alloc o).frozen? ⟨w.heap.size,0,none⟩=false:=fun o=>(C7.alloc o).frozen 0
  have h71:∀o,(w7.alloc o).frozen? ⟨w.heap.size,1,none⟩=false:=fun o=>(C7.alloc o).frozen 1
  have h72:∀o,(w7.alloc o).frozen? ⟨w.heap.size,2,none⟩=false:=fun o=>(C7.alloc o).frozen 2
  have h73:∀o,(w7.alloc o).frozen? ⟨w.heap.size,3,none⟩=false:=fun o=>(C7.alloc o).frozen 3
  have h74:∀o,(w7.alloc o).frozen? ⟨w.heap.size,4,none⟩=false:=fun o=>(C7.alloc o).frozen 4
  have CA:=jl9 (jbp HB7.out C7 bds.length)
  have CB:=jl9 (jbo HB7.out C7 bds.length)
  clear K7 C7
  go_wp2_with fail
  go_region
  all_goals go_wp2_with fail
  ·refine bodyPost_ret (YS rfl _ _ w.heap.size _ rfl CA.out.2.1 rfl) rfl ?_
   exact⟨CA.out.1,.inr (.inl ⟨its,bds,r,_,by rw[hnn,hbase];exact HP.out,by rw[hnn,hbase];exact HR.out,FB.out,rfl,CA.out.2.2⟩)⟩
  refine bodyPost_ret (YS rfl _ _ w.heap.size _ rfl CB.out.2.1 rfl) rfl ?_
  exact⟨CB.out.1,.inr (.inl ⟨its,bds,r,_,by rw[hnn,hbase];exact HP.out,by rw[hnn,hbase];exact HR.out,FB.out,rfl,CB.out.2.2⟩)⟩
end Bk
section
attribute [local go_sem] jmk
end
section
attribute [local go_sem] jmk
end
section
attribute [local go_sem] jmk
section
variable {w:World} {lb:Nat} {ev v:Value} {ps qs:List Pr} {nx:Int}
end
end
section
attribute [local go_sem] jmk
end
namespace Bk
attribute [local go_sem] jmk
theorem jcZ(t:List UInt8)(n:Nat):(yN (t.drop n)).length<=t.length:=by
 have h1:=Yh (t.drop n)
 have h2:=jbn (t.drop n)
 have h3:(t.drop n).length<=t.length:=by rw[jmn];omega
 omega
def jg1:List UInt8:=[65,58,32,49,10,37,97,109]
theorem jkU:yO Dc jg1 0 [65,58,32,49,10] [] [37,97,109]:=by
 refine⟨Hd.gen_short (by decide),⟨_,(by kernel_rfl:jI [65,58,32,49,10]=.ok [⟨3,[65,58,32,49,10],[([65],[49])]⟩])⟩,by kernel_rfl,⟨rfl,fun b h=>by cases h⟩,?_⟩
 exact Fr.full_begins (b:=[32,10]) (by decide) (k:=3) (by have:=ja3 [32,10];omega)
theorem jhP{w w2:World}{n:Nat}{base tail:List UInt8}{ba ea:Option Addr}{bn bc en ec:Nat}(h:w.alloc (.cells #[.int .i64 (n:Int),.string (B base),.slice ba bn bc,.slice ea en ec,.string (B tail)] 73)=w2):
  Below w.heap.size w w2/\ja w2 w.heap.size 73 #[.int .i64 (n:Int),.string (B base),.slice ba bn bc,.slice ea en ec,.string (B tail)]:=by
 rw[<- h];exact⟨(jmc _ _).alloc (jma _) _,ja.new _ _ _⟩
end Bk
section
open Go.Maps Go.ChangeShapes Go.Joins Go.WideShapes
end
theorem jcY{eds:List Ed}(h:∀ed∈eds,qh ed=0):∀l∈zu eds,∃r,l=32::r:=by
 intro l hl
 obtain⟨ed,h1,h2⟩:=List.mem_flatMap.1 hl
 rcases List.mem_cons.1 h2 with rfl|h2
 ·unfold zM
  rw[if_pos (Zu (h ed h1))];exact⟨_,rfl⟩
 obtain⟨x,_,rfl⟩:=List.mem_map.1 h2
 exact⟨_,rfl⟩
theorem YK(l:List UInt8)(r:List (List UInt8)):jl (l::r)=l++10::jl r:=by unfold jl;simp
theorem jdo(ls:List (List UInt8))(h0:ls≠[]):(jl ls)[(jl ls).length-1]?=some 10:=by
 rw[<- List.getLast?_eq_getElem?]
 rw[<- List.dropLast_concat_getLast h0]
 unfold jl;simp
namespace Fr
theorem jdt:∀ls:List (List UInt8),(∀l∈ls,(10:UInt8)∉l)->(∀l∈ls,∃r,l=32::r)->sp true (jl ls)=true
 | [],_,_=>rfl
 | l::ls,hc,hs=>by
  obtain⟨r,hr⟩:=hs l jml
  have e:jl (l::ls)=(l++[10])++jl ls:=by rw[YK];simp
  rw[e,qm,jdu l (hc l jml),ZZ l [10] true (by simp)]
  have e2:yI true ([10]:List UInt8)=true:=rfl
  rw[e2,jdt ls (fun x h=>hc x (jmj _ h)) (fun x h=>hs x (jmj _ h)),hr]
  rfl
theorem batch_body{eds:List Ed}(h0:(vG eds).2=0)(hl:(jp eds).length<=50000):goodR (jp eds)=true:=by
 obtain⟨⟨n1,_⟩,g1⟩:=yr h0
 have hne:zu eds≠[]:=by
  cases eds with
  | nil=>simp at n1
  | cons x r=>unfold zu jeR;simp
 have hs:=jcY g1
 have hc:=Zg g1
 rw[good_iff]
 unfold jp at *
 have hlast:vW (jl (zu eds))=true:=by
  unfold vW
  rw[List.getLast?_eq_getElem?,jdo _ hne];rfl
 refine⟨?_,hl,hlast,jdt _ hc hs⟩
 cases hL:zu eds with
 | nil=>exact absurd hL hne
 | cons l ls =>
 obtain⟨r,hr⟩:=hs l (by rw[hL];exact jml)
 rw[YK,hr]
 simp
 omega
attribute [local go_sem] jmk
end Fr
namespace Bk
attribute [local go_sem] jmk
theorem jcp(s:ByteArray)(hsz:50000<s.size)(w:World):
  Calls prog 110 #[.string s] w fun e w'=>e=.returned (.bool false)/\Below w.heap.size w w':=by
 have FT:=jl9 (Fr.fits_any (s.size:Int))
 have hf:decide (2<=(s.size:Int)/\(s.size:Int)<=50000)=false:=by simp;omega
 refine callsIn_wide (n:=9).1 ?_
 refine callsIn_of_wp_marks func110 rfl trivial ?_ rfl
 simp only[ntmps110,jmN,jme,jmB,Nat.reduceAdd,Nat.reduceSub,jmW,jmX,jm5,jm0,jmS,jmu]
 have k1:=jnr w 4 (.bool false)
 have kb:Below w.heap.size w (w.alloc (.cells #[.bool false] 4)):=(jmc _ w).alloc (jma _) _
 rw[hf]at FT
 gi_wp2_with fail
 refine⟨trivial,(callsIn_wide.2 (FT.out _)).mono ?_⟩
 rintro e w3 ⟨rfl,rfl⟩
 gi_wp2
 have c:=k1.cell
 exact⟨.bool false,by simp[results,Tryz.f110,go_sem,c],rfl,kb⟩
theorem Wk(l:List UInt8)(hl:50000<l.length)(w:World):
  Calls prog 86 #[.string (B l)] w fun e w'=>e=.returned (.tuple #[.string (B []),qi 2])/\Below w.heap.size w w':=by
 have G1:=jl9 (jcp (B l) (by rw[jq];exact hl) w)
 go_enter func86,ntmps86
 go_wp2_with fail
 refine G1.out.mono ?_
 rintro e w1 ⟨rfl,hb1⟩
 go_wp2_with fail
 go_ret2
 exact⟨rfl,hb1⟩
def jc8(t:List UInt8)(a k:Nat):Prop :=
 jI (yN (t.drop (hl (Hd.genP t))))=.error (a,k) \/
 (k=10/\∃its bds r,jI (yN (t.drop (hl (Hd.genP t))))=.ok its/\jfD Dc (t.drop (hl (Hd.genP t)+(yN (t.drop (hl (Hd.genP t)))).length)) bds r/\jjC Dc r/\a=bds.length)
theorem jc8.not{t:List UInt8}{a k n:Nat}{base tail:List UInt8}{bds:List (List UInt8)}(h:jc8 t a k)(s:yO Dc t n base bds tail):False:=by
 have hn:Hd.genP t=n:=Hd.gen_one (Hd.genP_is t) s.gen
 obtain⟨its,hp⟩:=s.parse
 have hB:=s.isB
 unfold jc8 at h
 rw[hn,hB]at h
 rcases h with h|⟨_,_,bds',r,_,h2,h3,_⟩
 ·rw[hp]at h;cases h
 obtain⟨rfl,rfl⟩:=XU h2 s.recd (.inr h3) (.inl s.fin)
 exact jgU s.fin h3
theorem jji.two{w w':World}{t:List UInt8}{e:Ending}(h:jji w w' t e):Below w.heap.size w w' /\
  ((∃a k u,jc8 t a k/\e=.returned (.tuple #[jbA,u])/\jn w.heap.size w' u a k)\/∃n base bds tail v,yO Dc t n base bds tail/\e=.returned (.tuple #[v,.nilIface])/\yX w.heap.size w' v n base bds tail):=by
 obtain⟨hb,h⟩:=h
 refine⟨hb,?_⟩
 rcases h with ⟨a,k,u,h1,h2,h3⟩|⟨its,bds,r,u,h1,h2,h3,h4,h5⟩|⟨base,bds,tail,v,h1,h2,h3⟩
 ·exact .inl ⟨a,k,u,.inl h1,h2,h3⟩
 ·exact .inl ⟨_,10,u,.inr ⟨rfl,its,bds,r,h1,h2,h3,rfl⟩,h4,h5⟩
 exact .inr ⟨_,base,bds,tail,v,h1,h2,h3⟩
def jk3(w w':World)(t:List UInt8)(eds:List Ed)(e:Ending):Prop:=Below w.heap.size w w' /\
  ((∃a k u,jc8 t a k/\e=.returned (.tuple #[.string (B []),u])/\jn w.heap.size w' u a k) \/
   ∃n base bds tail,yO Dc t n base bds tail /\
    (((vG eds).2≠0/\∃u,e=.returned (.tuple #[.string (B []),u])/\vB w.heap.size w' u (vG eds).1 (vG eds).2) \/
     ((vG eds).2=0/\50000<(jp eds).length/\e=.returned (.tuple #[.string (B []),qi 11])) \/
     ((vG eds).2=0/\(jp eds).length<=50000/\e=.returned (.tuple #[.string (B (t.take (zG n base bds)++Fr.fullR (jp eds))),.nilIface]))))
theorem jhQ(t:List UInt8)(ht:t.length<=60000)(eds:List Ed)(bv:Value)(w:World)(hE:EdV w bv eds)(hlen:eds.length<=1000000)(hf:Uy eds)(hi:∀ed∈eds,I64 ed.id)(hT:jbx w):
  Calls prog 46 #[.string (B t),bv] w fun e w'=>jk3 w w' t eds e:=by
 have TB:Hid (∀W,Below w.heap.size w W->jbx W):=fun W hW=>hT.below hW (jma _)
 have hsz:(B t).size=t.length:=jq t
 have RD:=jl9 (Qf t (by omega) (by have:=jcZ t (hl (Hd.genP t));omega) w hT)
 have EV:Hid (∀W,Below w.heap.size w W->EdV W bv eds):=fun W hW=>hE.below hW (jma _)
 have HF:=jl9 hf
 have HI:=jl9 hi
 obtain⟨va,vc,rfl,_⟩:∃A c,bv=.slice A eds.length c/\True:=by obtain⟨A,c,e,_⟩:=hE;exact⟨A,c,e,trivial⟩
 clear hT hE hf hi
 go_enter func46,ntmps46
 go_wp2_with fail
 refine RD.out.mono ?_
 rintro e w1 hr
 obtain⟨b1,h1⟩:=hr.two
 have B1:=jl9 b1
 clear RD hr b1
 rcases h1 with ⟨a,k,u,hbad,rfl,hf1⟩|⟨n,base,bds,tail,v,hS,rfl,hBR⟩
 ·have hbz:Below w1.heap.size w1 (w1.alloc (.cells #[.int .i64 0,.string ⟨#[]⟩,.slice none 0 0,.slice none 0 0,.string ⟨#[]⟩] 73)):=(jmc _ _).alloc (jma _) _
  have B2:=jl9 (B1.out.trans (hbz.mono B1.out.size))
  have F2:=jl9 (hf1.below hbz (jma _))
  obtain⟨q,_,rfl,_⟩:=hf1
  have HBAD:=jl9 hbad
  unfold jbA KA
  clear hbz hbad
  go_wp2_with fail
  go_ret2
  exact⟨B2.out,.inl ⟨a,k,_,HBAD.out,rfl,F2.out⟩⟩
 have BR2:=hBR
 obtain⟨bbv,ev,us,rfl,hBt,hEv⟩:=hBR.is
 obtain⟨ba,bc,rfl,_⟩:=jf hBt.row
 obtain⟨ea,ec,rfl,_⟩:=jf hEv
 have PT:=hS.parts
 unfold KA at *
 obtain⟨w3,hw3⟩:∃z,w1.alloc (.cells #[.int .i64 (n:Int),.string (B base),.slice ba bds.length bc,.slice ea bds.length ec,.string (B tail)] 73)=z:=⟨_,rfl⟩
 obtain⟨b23,C3⟩:=jhP hw3
 have B3:=jl9 (B1.out.trans (b23.mono B1.out.size))
 have hWl:zG n base bds<=t.length:=by have:=PT.len;omega
 have WH:Hid (∀W,Below w3.heap.size w3 W->Calls prog 70 #[.agg #[.int .i64 (n:Int),.string (B base),.slice ba bds.length bc,.slice ea bds.length ec,.string (B tail)]] W fun e w'=>e=.returned (.int .i64 (zG n base bds:Nat))/\Below W.heap.size W w'):=fun W hW=>KK ((BR2.below b23).below hW) (by omega) (TB.out W (B3.out.trans (hW.mono B3.out.size)))
 have EN:=jl9 (Xt eds _ w3 (EV.out w3 B3.out) hlen HF.out HI.out (TB.out w3 B3.out).tabs)
 have HC3:=jl9 C3
 have HW3:=jl9 hw3
 have EX:Hid ((B t).extract 0 (zG n base bds)=B (t.take (zG n base bds))):=Fr.ext_take _ _
 have RS:Hid (∀e:Ending,∀w',Below w.heap.size w w'->(((vG eds).2≠0/\∃u,e=.returned (.tuple #[.string (B []),u])/\vB w.heap.size w' u (vG eds).1 (vG eds).2)\/((vG eds).2=0/\50000<(jp eds).length/\e=.returned (.tuple #[.string (B []),qi 11]))\/((vG eds).2=0/\(jp eds).length<=50000/\e=.returned (.tuple #[.string (B (t.take (zG n base bds)++Fr.fullR (jp eds))),.nilIface])))->jk3 w w' t eds e):=fun e w' hb h=>⟨hb,.inr ⟨n,base,bds,tail,hS,h⟩⟩
 clear BR2 hBR hBt hEv hS PT b23 C3 hw3
 generalize hWW:zG n base bds=W at *
 go_wp2_with fail
 rw[HW3.out]
 refine EN.out.mono ?_
 rintro e w4 ⟨b4,h4⟩
 have B4:=jl9 (B3.out.trans (b4.mono B3.out.size))
 have HB34:=jl9 b4
 clear EN b4
 rcases h4 with ⟨hc,rfl⟩|⟨hc,u,rfl,hz⟩
 rotate_left
 ·
  have Z4:=jl9 (hz.mono (B3.out.size))
  have hform:=hz
  obtain⟨_,hform⟩:=hform
  have hform:(∃z,u=.iface 46 (.int .i64 z))\/∃q,u=.iface 133 (.pointer (some ⟨q,0,none⟩)):=by
   rcases hform with ⟨rfl,_⟩|⟨_,⟨q,_,rfl,_⟩,_,_⟩
   ·rw[jX _ (by omega)];exact .inl ⟨_,rfl⟩
   exact .inr ⟨q,rfl⟩
  have R4:=jl9 (RS.out (.returned (.tuple #[.string (B []),u])) w4 B4.out (.inl ⟨hc,u,rfl,Z4.out⟩))
  clear hz RS
  rcases hform with ⟨z,rfl⟩|⟨q,rfl⟩
  all_goals
   go_wp2_with fail
   go_ret2
   exact R4.out
 have hbt:=jq (jp eds)
 by_cases hbig:50000<(jp eds).length
 ·have RC:=jl9 (Wk (jp eds) hbig w4)
  have RSX:Hid (∀w',Below w.heap.size w w'->jk3 w w' t eds (.returned (.tuple #[.string (B []),qi 11]))):=fun w' hb=>RS.out _ w' hb (.inr (.inl ⟨hc,hbig,rfl⟩))
  rw[WV]at RC
  rw[jX 11 (by decide)]at RSX
  clear RS
  generalize B (jp eds)=X at *
  go_wp2_with fail
  refine RC.out.mono ?_
  rintro e w5 ⟨rfl,b5⟩
  have R5:=jl9 (RSX.out w5 (B4.out.trans (b5.mono B4.out.size)))
  clear b5 RC
  go_wp2_with fail
  go_ret2
  exact R5.out
 have hgd:Fr.goodR (jp eds)=true:=Fr.batch_body hc (by omega)
 have RC:=jl9 (Fr.record_yes (jp eds) hgd w4 (TB.out w4 B4.out).nums)
 have hfl:=Fr.full_le hgd
 have hfs:(B (Fr.fullR (jp eds))).size=(Fr.fullR (jp eds)).length:=jq _
 have EX2:Hid (B (t.take W)++B (Fr.fullR (jp eds))=B (t.take W++Fr.fullR (jp eds))):=by show _=_;rw[jS]
 have RSX:Hid (∀w',Below w.heap.size w w'->jk3 w w' t eds (.returned (.tuple #[.string (B (t.take W++Fr.fullR (jp eds))),.nilIface]))):=fun w' hb=>RS.out _ w' hb (.inr (.inr ⟨hc,by omega,rfl⟩))
 have htk:(B (t.take W)).size=W:=by rw[jq,jmi];omega
 clear RS hgd hc
 generalize Fr.fullR (jp eds)=FR at *
 generalize B (jp eds)=X at *
 go_wp2_with fail
 refine RC.out.mono ?_
 rintro e w5 ⟨rfl,b5⟩
 have B35:=jl9 (HB34.out.trans (b5.mono HB34.out.size))
 have B5:=jl9 (B4.out.trans (b5.mono B4.out.size))
 have k:=jd HC3.out B35.out HC3.out.lt
 have k0:=k.cell 0
 have k1:=k.cell 1
 have k2:=k.cell 2
 have k3:=k.cell 3
 have k4:=k.cell 4
 simp only[jmh,jmm,jmg]at k0 k1 k2 k3 k4
 clear b5 RC k
 go_wp2_with fail
 refine(WH.out w5 B35.out).mono ?_
 rintro e w6 ⟨rfl,b6⟩
 have B36:=jl9 (B35.out.trans (b6.mono B35.out.size))
 have B6:=jl9 (B5.out.trans (b6.mono B5.out.size))
 have k:=jd HC3.out B36.out HC3.out.lt
 have j0:=k.cell 0
 have j1:=k.cell 1
 have j2:=k.cell 2
 have j3:=k.cell 3
 have j4:=k.cell 4
 simp only[jmh,jmm,jmg]at j0 j1 j2 j3 j4
 have q5:¬(120000:Int)<(W:Int)+(FR.length:Int):=by omega
 clear b6 k k0 k1 k2 k3 k4
 go_wp2_with fail
 refine(WH.out w6 B36.out).mono ?_
 rintro e w7 ⟨rfl,b7⟩
 have R7:=jl9 (RSX.out w7 (B6.out.trans (b7.mono B6.out.size)))
 have hex:((B t).extract 0 W).size=W:=by rw[EX.out];exact htk
 clear b7 RSX
 go_wp2_with fail
 rw[EX.out,EX2.out]
 go_ret2
 exact R7.out
end Bk
namespace Fr
attribute [local go_sem] jmk
end Fr
section
attribute [local go_sem] jmk
end
namespace FD
def fl(l:Array Bool)(j:Nat):Bool:=l.getD j false
abbrev sl(g n c:Nat):Value:=.slice (some ⟨g,0,none⟩) n c
end FD
section
attribute [local go_sem] jmk
end
section
section
variable {K:Act->World->Prop} {Q:Exit->Act->World->Prop} {o:Oper} {a:Act} {w:World}
end
end
section
attribute [local go_sem] jmk
end
section
attribute [local go_sem] jmk
end
section
attribute [local go_sem] jmk
end
section
attribute [local go_sem] jmk
end
namespace Bk
attribute [local go_sem] jmk
theorem yO.same{t base base' tail tail':List UInt8}{n n':Nat}{bds bds':List (List UInt8)}(h:yO Dc t n base bds tail)(h':yO Dc t n' base' bds' tail'):n=n'/\base=base'/\bds=bds'/\tail=tail':=by
 have e1:=Hd.gen_one h.gen h'.gen
 subst e1
 have e2:base=base':=by rw[<- h.isB,h'.isB]
 subst e2
 obtain⟨e3,e4⟩:=XU h.recd h'.recd (.inl h.fin) (.inl h'.fin)
 exact⟨rfl,rfl,e3,e4⟩
theorem jeH{b:List UInt8}{eds:List Ed}(h:jcK b=some eds):eds.length<=40/\Yx eds:=by
 obtain⟨_,h0,_,_⟩:=Ks.1 h
 obtain⟨⟨_,h1⟩,h2⟩:=yr h0
 refine⟨h1,fun ed hm => ?_⟩
 have g:=Kg (h2 ed hm)
 exact⟨by have:=g.len;omega,fun f hf=>by have:=g.each f hf;have:=Jk this.1;omega⟩
end Bk
section
section
variable {K:Act->World->Prop} {Q:Exit->Act->World->Prop} {o:Oper} {a:Act} {w:World}
end
end
namespace Bk
attribute [local go_sem] jmk
theorem jkz{lo:Nat}{w:World}{a:Option Addr}{n c:Nat}{us:List Value}(h:w.ownsRow lo 22 1 (.slice a n c) n us){i:Nat}{u:Value}(hu:us[i]?=some u)(hi:i<n):∃g off,a=some ⟨g,off,none⟩/\g<w.heap.size/\w.cell? ⟨g,off+i,none⟩=some u:=by
 rcases jnm h with ⟨e,hn⟩|⟨g,cap,e⟩
 ·omega
 have e2:=e
 injection e2 with e3
 rw[e]at h
 refine⟨g,0,e3,(jnE h g rfl).2,?_⟩
 rw[jmP,jmG h i (by omega)]
 exact hu
end Bk
end Go.Proofs.YtpibhbjmcmfnmaaGreatDoor
