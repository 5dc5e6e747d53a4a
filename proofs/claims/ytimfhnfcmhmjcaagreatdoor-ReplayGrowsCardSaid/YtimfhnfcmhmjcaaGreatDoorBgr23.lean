/- Texts put together:SD,NS,NT,NU,NV,NP,NW,EC,EO,EW,SE,SF,AO,AD,DV. -/
import Derived.BigFrame
import Derived.Test.YtimfhnfcmhmjcaaGreatDoorBgr22
set_option linter.unusedVariables false
set_option maxRecDepth 100000
set_option maxHeartbeats 16000000
namespace Go.Proofs.YtimfhnfcmhmjcaaGreatDoor.Bk
open Go.RowKit Go.Shelf
attribute [local go_sem] jit
theorem Gn{fn:Func}{p u:Tmp}{ty:TypeId}(h:fn.results=#[.cell p ty,.tmp u])(tmps:Array Value)(P:Program)(w:World):
  (results fn tmps).run P w=((asAddr (tmps.getD p undef)).run P w).andThen fun a w₁=>((loadVar ty a).run P w₁).andThen fun v w₂=>.ok (.tuple #[v,tmps.getD u undef]) w₂:=by
 simp only[results,h]
 simp[Sem.run_bind,Result.andThen]
theorem Qz{fn:Func}{p u:Tmp}(h:fn.results=#[.cell p 28,.tmp u])(tmps:Array Value)(w:World)(b:Nat)(cur:Array Value)(hp:tmps.getD p undef=.pointer (some ⟨b,0,none⟩))
  (hc:ja w b 28 cur) (hz:cur.size=5):(results fn tmps).run Tryz.prog w=.ok (.tuple #[.agg cur,tmps.getD u undef]) w:=by
 have L:=run_loadVar_row (P:=Tryz.prog) w b 28 28 cur (0,0) _ hc Tryz.underlying28 rfl (by rw[hz];kernel_rfl)
 rw[Gn h,hp]
 show((loadVar _ _).run _ _).andThen _=_
 rw[L];rfl
theorem jfq{W:World}{b:Nat}{T:TypeId}{a0 a1 a2 a3 a4:Value}(h:ja W b T #[a0,a1,a2,a3,a4])(v0 v1 v2 v3 v4:Value):
  ja (((((W.setCell ⟨b,0,none⟩ v0).setCell ⟨b,1,none⟩ v1).setCell ⟨b,2,none⟩ v2).setCell ⟨b,3,none⟩ v3).setCell ⟨b,4,none⟩ v4) b T #[v0,v1,v2,v3,v4]/\jB (· = b) W (((((W.setCell ⟨b,0,none⟩ v0).setCell ⟨b,1,none⟩ v1).setCell ⟨b,2,none⟩ v2).setCell ⟨b,3,none⟩ v3).setCell ⟨b,4,none⟩ v4):=by
 have k:=((((h.set 0 v0).set 1 v1).set 2 v2).set 3 v3).set 4 v4
 refine⟨by simpa [List.setIfInBounds_toArray,List.set]using k,(((((jB.refl (· = b) W).cellS 0 v0).cellS 1 v1).cellS 2 v2).cellS 3 v3).cellS 4 v4⟩
def XV:Value:=Jk 0 [] (.slice none 0 0) (.slice none 0 0) []
def jgq(w w':World)(t:List UInt8)(e:Ending):Prop:=Below w.heap.size w w' /\
  ((∃a k u,jA (vi (t.drop (hl (Hd.genP t))))=.error (a,k)/\e=.returned (.tuple #[XV,u])/\jl w.heap.size w' u a k) \/
   (∃its bds r u,jA (vi (t.drop (hl (Hd.genP t))))=.ok its/\jcW Dc (t.drop (hl (Hd.genP t)+(vi (t.drop (hl (Hd.genP t)))).length)) bds r/\jgw Dc r/\e=.returned (.tuple #[XV,u])/\jl w.heap.size w' u bds.length 10) \/
   (∃base bds tail v,qn Dc t (Hd.genP t) base bds tail/\e=.returned (.tuple #[v,.nilIface])/\ye w.heap.size w' v (Hd.genP t) base bds tail))
theorem jfL:(Tryz.prog.info? 55).map (fun i=>(i.zero,i.size,i.bytes))=some (some (.slice none 0 0),1,24):=by kernel_rfl
theorem jbT:(Tryz.prog.info? 3).map (fun i=>(i.zero,i.size,i.bytes))=some (some (.int .i64 0),1,8):=by kernel_rfl
def jdK(w:World)(b:Nat):Nat:=match w.cell? ⟨b,2,none⟩ with | some (.slice _ n _)=>n | _=>0
theorem jbY{D:List UInt8->Bool}{s r:List UInt8}{bds:List (List UInt8)}(h:jcW D s bds r):s.length=(bds.flatMap Fr.fullR).length+r.length:=by
 rw[h.eq,jik]
theorem jgf:XU []=none:=by
 cases h:XU []with
 | none=>rfl
 | some eds =>
 obtain⟨_,h1,_,h2⟩:=xH.1 h
 cases eds with
 | nil=>exact absurd h1 (by decide)
 | cons a r =>
 have:=congrArg List.length h2
 unfold ji zg jcp jk at this
 simp at this
theorem jch{lo:Nat}{W:World}{q k:Nat}(hq:lo<=q)(h:ja W q 94 #[.int .i64 (k:Int),.iface 54 (.int .i64 10)]):jl lo W (.iface 91 (.pointer (some ⟨q,0,none⟩))) k 10 :=
 ⟨q,hq,rfl,by rw[jQ 10 (by decide)];exact h⟩
theorem Uo{w w7:World}(hB:Below w.heap.size w w7)(C7:ja w7 w.heap.size 28 #[.int .i64 0,.string ⟨#[]⟩,.slice none 0 0,.slice none 0 0,.string ⟨#[]⟩])(k:Nat):
  Below w.heap.size w ((((((w7.alloc (.cells #[.int .i64 (k:Int),.iface 54 (.int .i64 10)] 94)).setCell ⟨w.heap.size,0,none⟩ (.int .i64 0)).setCell ⟨w.heap.size,1,none⟩ (.string ⟨#[]⟩)).setCell ⟨w.heap.size,2,none⟩ (.slice none 0 0)).setCell ⟨w.heap.size,3,none⟩ (.slice none 0 0)).setCell ⟨w.heap.size,4,none⟩ (.string ⟨#[]⟩)).drew /\
  ja ((((((w7.alloc (.cells #[.int .i64 (k:Int),.iface 54 (.int .i64 10)] 94)).setCell ⟨w.heap.size,0,none⟩ (.int .i64 0)).setCell ⟨w.heap.size,1,none⟩ (.string ⟨#[]⟩)).setCell ⟨w.heap.size,2,none⟩ (.slice none 0 0)).setCell ⟨w.heap.size,3,none⟩ (.slice none 0 0)).setCell ⟨w.heap.size,4,none⟩ (.string ⟨#[]⟩)).drew w.heap.size 28 #[.int .i64 0,.string ⟨#[]⟩,.slice none 0 0,.slice none 0 0,.string ⟨#[]⟩] /\
  jl w.heap.size ((((((w7.alloc (.cells #[.int .i64 (k:Int),.iface 54 (.int .i64 10)] 94)).setCell ⟨w.heap.size,0,none⟩ (.int .i64 0)).setCell ⟨w.heap.size,1,none⟩ (.string ⟨#[]⟩)).setCell ⟨w.heap.size,2,none⟩ (.slice none 0 0)).setCell ⟨w.heap.size,3,none⟩ (.slice none 0 0)).setCell ⟨w.heap.size,4,none⟩ (.string ⟨#[]⟩)).drew (.iface 91 (.pointer (some ⟨w7.heap.size,0,none⟩))) k 10:=by
 have hF:=ja.new w7 94 #[.int .i64 (k:Int),.iface 54 (.int .i64 10)]
 have hb:Below w.heap.size w (w7.alloc (.cells #[.int .i64 (k:Int),.iface 54 (.int .i64 10)] 94)):=hB.alloc hB.size _
 obtain⟨h1,h2⟩:=jfq (C7.alloc (.cells #[.int .i64 (k:Int),.iface 54 (.int .i64 10)] 94)) (.int .i64 0) (.string ⟨#[]⟩) (.slice none 0 0) (.slice none 0 0) (.string ⟨#[]⟩)
 have hlt:=C7.lt
 exact⟨(hb.trans (h2.to_below hb.size (fun r hr e=>by omega))).drew,h1.drew,jch hB.size ((hF.only h2 (fun e=>by omega)).drew)⟩
theorem Un{w w7:World}(hB:Below w.heap.size w w7)(C7:ja w7 w.heap.size 28 #[.int .i64 0,.string ⟨#[]⟩,.slice none 0 0,.slice none 0 0,.string ⟨#[]⟩])(k:Nat):
  Below w.heap.size w ((((((w7.setCell ⟨w.heap.size,0,none⟩ (.int .i64 0)).setCell ⟨w.heap.size,1,none⟩ (.string ⟨#[]⟩)).setCell ⟨w.heap.size,2,none⟩ (.slice none 0 0)).setCell ⟨w.heap.size,3,none⟩ (.slice none 0 0)).setCell ⟨w.heap.size,4,none⟩ (.string ⟨#[]⟩)).alloc (.cells #[.int .i64 (k:Int),.iface 54 (.int .i64 10)] 94)).drew /\
  ja ((((((w7.setCell ⟨w.heap.size,0,none⟩ (.int .i64 0)).setCell ⟨w.heap.size,1,none⟩ (.string ⟨#[]⟩)).setCell ⟨w.heap.size,2,none⟩ (.slice none 0 0)).setCell ⟨w.heap.size,3,none⟩ (.slice none 0 0)).setCell ⟨w.heap.size,4,none⟩ (.string ⟨#[]⟩)).alloc (.cells #[.int .i64 (k:Int),.iface 54 (.int .i64 10)] 94)).drew w.heap.size 28 #[.int .i64 0,.string ⟨#[]⟩,.slice none 0 0,.slice none 0 0,.string ⟨#[]⟩] /\
  jl w.heap.size ((((((w7.setCell ⟨w.heap.size,0,none⟩ (.int .i64 0)).setCell ⟨w.heap.size,1,none⟩ (.string ⟨#[]⟩)).setCell ⟨w.heap.size,2,none⟩ (.slice none 0 0)).setCell ⟨w.heap.size,3,none⟩ (.slice none 0 0)).setCell ⟨w.heap.size,4,none⟩ (.string ⟨#[]⟩)).alloc (.cells #[.int .i64 (k:Int),.iface 54 (.int .i64 10)] 94)).drew (.iface 91 (.pointer (some ⟨w7.heap.size,0,none⟩))) k 10:=by
 obtain⟨h1,h2⟩:=jfq C7 (.int .i64 0) (.string ⟨#[]⟩) (.slice none 0 0) (.slice none 0 0) (.string ⟨#[]⟩)
 have hlt:=C7.lt
 have hb:=hB.trans (h2.to_below hB.size (fun r hr e=>by omega))
 have hz:(((((w7.setCell ⟨w.heap.size,0,none⟩ (.int .i64 0)).setCell ⟨w.heap.size,1,none⟩ (.string ⟨#[]⟩)).setCell ⟨w.heap.size,2,none⟩ (.slice none 0 0)).setCell ⟨w.heap.size,3,none⟩ (.slice none 0 0)).setCell ⟨w.heap.size,4,none⟩ (.string ⟨#[]⟩)).heap.size=w7.heap.size:=by simp[World.setCell]
 have hF:=ja.new (((((w7.setCell ⟨w.heap.size,0,none⟩ (.int .i64 0)).setCell ⟨w.heap.size,1,none⟩ (.string ⟨#[]⟩)).setCell ⟨w.heap.size,2,none⟩ (.slice none 0 0)).setCell ⟨w.heap.size,3,none⟩ (.slice none 0 0)).setCell ⟨w.heap.size,4,none⟩ (.string ⟨#[]⟩)) 94 #[.int .i64 (k:Int),.iface 54 (.int .i64 10)]
 rw[hz]at hF
 exact⟨(hb.alloc hb.size _).drew,(h1.alloc _).drew,jch hB.size hF.drew⟩
theorem JJ(t:List UInt8)(ht:t.length<=100000)(hbs:(vi (t.drop (hl (Hd.genP t)))).length<=60000)(w:World)(hT:Vt w):
  Calls Tryz.prog 31 #[.string (B t)] w fun e w'=>jgq w w' t e:=by
 obtain⟨i1,hi,hz0,hz1,hib⟩:=info_parts jbT
 obtain⟨i2,hiB,hB0,hB1,hBb⟩:=info_parts jfL
 have hsz:(B t).size=t.length:=jm t
 have hgen:=Hd.genP_is t
 have hn:=Hd.gen_lt hgen
 have hhl:=jfP hgen
 generalize hnn:Hd.genP t=n at *
 obtain⟨w0,hw0⟩:∃z,w.alloc (.cells #[.int .i64 0,.string ⟨#[]⟩,.slice none 0 0,.slice none 0 0,.string ⟨#[]⟩] 28)=z:=⟨_,rfl⟩
 have hb0:Below w.heap.size w w0:=by rw[<- hw0];exact(jil _ w).alloc (jij _) _
 have hz:w0.heap.size=w.heap.size+1:=by rw[<- hw0];simp
 have C0:ja w0 w.heap.size 28 #[.int .i64 0,.string ⟨#[]⟩,.slice none 0 0,.slice none 0 0,.string ⟨#[]⟩]:=by rw[<- hw0];exact ja.new _ _ _
 have TB:Hid (∀W,Below w.heap.size w W->Vt W):=fun W hW=>hT.below hW (jij _)
 have TK0:=Hd.take_any t ht w0 (TB.out w0 hb0).tab
 rw[hnn]at TK0
 have TK:=jii TK0
 have HB0:=jii hb0
 have HC0:=jii C0
 have HW0:=jii hw0
 have q1:¬(120000:Int)<((B t).size:Int):=by omega
 have hlen:(t.drop (hl n)).length<=100000:=by rw[jiw];omega
 have HZ:=jii hz
 clear hT TK0 hb0 C0 hw0 hz
 go_enter Tryz.func31,Tryz.ntmps31
 go_wp2_with fail
 rw[HW0.out]
 refine TK.out.mono ?_
 rintro e w1 ⟨rfl,b1⟩
 have HB1:=jii (HB0.out.trans (b1.mono HB0.out.size))
 have hs1:=b1.size
 have HC1:=jii (jb HC0.out b1 HC0.out.lt)
 have BS:=jii (jeD (t.drop (hl n)) hlen w1)
 have HSP:=jii (ZY (t.drop (hl n)))
 have HBH:=jii (KO (t.drop (hl n)))
 have hbl:(vi (t.drop (hl n))).length<=(t.drop (hl n)).length:=by
  have:=congrArg List.length HSP.out
  rw[jik]at this
  omega
 clear TK b1
 rw[jfO]
 generalize hbase:vi (t.drop (hl n))=base at *
 go_wp2_with fail
 refine BS.out.mono ?_
 rintro e w2 ⟨rfl,b2⟩
 have HB2:=jii (HB1.out.trans (b2.mono HB1.out.size))
 have hs2:=b2.size
 obtain⟨w3,hw3⟩:∃z,w2.alloc (.cells #[.int .i64 (n:Int),.string (B base),.slice none 0 0,.slice none 0 0,.string ⟨#[]⟩] 28)=z:=⟨_,rfl⟩
 have b23:Below w2.heap.size w2 w3:=by rw[<- hw3];exact(jil _ _).alloc (jij _) _
 have C3:ja w3 w2.heap.size 28 #[.int .i64 (n:Int),.string (B base),.slice none 0 0,.slice none 0 0,.string ⟨#[]⟩]:=by rw[<- hw3];exact ja.new _ _ _
 have HC2:=jii (jb HC1.out (b2.trans (b23.mono b2.size)) HC1.out.lt)
 have HB3:=jii (HB2.out.trans (b23.mono HB2.out.size))
 have PA:=jii (Zr (B base) (by rw[jm];exact hbs) w3)
 rw[jo]at PA
 have HC3:=jii C3
 have HW3:=jii hw3
 have hs3:=b23.size
 have hlt3:=C3.lt
 have hlow:w.heap.size+1<=w2.heap.size:=by have:=HZ.out;omega
 clear BS b2 b23 C3 hw3
 go_wp2_with fail
 rw[HW3.out]
 refine PA.out.mono ?_
 rintro e w4 hp4
 cases hp:jA base with
 | error an =>
  obtain⟨a,k⟩:=an
  unfold xO at hp4
  rw[hp]at hp4
  obtain⟨b4,u,rfl,hf⟩:=hp4
  have HB4:=jii (HB3.out.trans (b4.mono HB3.out.size))
  have HC4:=jii (jb HC2.out b4 HC2.out.lt)
  obtain⟨hput,honly⟩:=jfq HC4.out (.int .i64 0) (.string ⟨#[]⟩) (.slice none 0 0) (.slice none 0 0) (.string ⟨#[]⟩)
  have HF:Hid (jl w.heap.size (((((w4.setCell ⟨w.heap.size,0,none⟩ (.int .i64 0)).setCell ⟨w.heap.size,1,none⟩ (.string ⟨#[]⟩)).setCell ⟨w.heap.size,2,none⟩ (.slice none 0 0)).setCell ⟨w.heap.size,3,none⟩ (.slice none 0 0)).setCell ⟨w.heap.size,4,none⟩ (.string ⟨#[]⟩)) u a k):=by
   obtain⟨q,h0,h1,h2⟩:=hf
   exact⟨q,by omega,h1,h2.only honly (fun e=>by omega)⟩
  have HBF:=jii (HB4.out.trans (honly.to_below HB4.out.size (fun r hr e=>by omega)))
  have HPUT:=jii hput
  obtain⟨q,_,rfl,_⟩:=hf
  have c0:=HC4.out.cell 0
  have c1:=HC4.out.cell 1
  have c2:=HC4.out.cell 2
  have c3:=HC4.out.cell 3
  have c4:=HC4.out.cell 4
  have f0:=HC4.out.frozen 0
  have f1:=HC4.out.frozen 1
  have f2:=HC4.out.frozen 2
  have f3:=HC4.out.frozen 3
  have f4:=HC4.out.frozen 4
  simp only[jiv,jiu,jio]at c0 c1 c2 c3 c4
  have HP:=jii hp
  clear b4 hput honly PA hp
  go_wp2_with fail
  refine bodyPost_ret (Qz rfl _ _ w.heap.size _ rfl HPUT.out rfl) rfl ?_
  exact⟨HBF.out,.inl ⟨a,k,_,by rw[hnn,hbase];exact HP.out,rfl,HF.out⟩⟩
 | ok its =>
 unfold xO at hp4
 rw[hp]at hp4
 obtain⟨b4,u,rfl,_⟩:=hp4
 have hb4:=HB3.out.trans (b4.mono HB3.out.size)
 have hC4:=jb HC2.out b4 HC2.out.lt
 have hK4:=jb HC3.out b4 HC3.out.lt
 have HP:=jii hp
 have HGEN:=jii hgen
 clear PA b4 hp
 go_wp2_with fail
 go_loopw [9] (fun _ wr=>∃(bds:List (List UInt8)) (r:List UInt8) (bv ev:Value) (us:List Value),jcW Dc (t.drop (hl n+base.length)) bds r/\ja wr w2.heap.size 28 #[.int .i64 (n:Int),.string (B base),bv,ev,.string ⟨#[]⟩]/\Vw w.heap.size wr bv bds us/\wr.ownsRow w.heap.size 3 1 ev bds.length ((zS (hl n+base.length) bds).map jg9)/\ja wr w.heap.size 28 #[.int .i64 0,.string ⟨#[]⟩,.slice none 0 0,.slice none 0 0,.string ⟨#[]⟩]/\Below w.heap.size w wr) (fun _ wr=>t.length+1-jdK wr w2.heap.size)
 case atStart=>exact⟨[],_,_,_,[],⟨rfl,fun b h=>by cases h⟩,hK4,Vw.nil _ _,⟨rfl,.inl ⟨rfl,rfl⟩⟩,hC4,hb4⟩
 case round =>
 obtain⟨bds,r,bv,ev,us,hR,hK,hBt,hEv,hC,hb⟩:=hrel
 obtain⟨ba,bc,rfl,_⟩:=je hBt.row
 obtain⟨ea,ec,rfl,_⟩:=je hEv
 have hrl:=jbY hR
 rw[jiw]at hrl
 have hbdl:=Yr bds
 have hblen:base.length+hl n<=t.length:=by rw[jiw]at hbl;omega
 have hWe:jD n base bds=hl n+base.length+(bds.flatMap Fr.fullR).length:=rfl
 have hWle:jD n base bds<=t.length:=by omega
 have hdrop:t.drop (jD n base bds)=r:=by
  rw[hWe,ZQ,hR.eq,jjL]
 have EX:Hid ((B t).extract (jD n base bds) t.length=B r):=by
  show _=_
  rw[<- hsz,Fr.ext_drop,hdrop]
 have hrlen:r.length<=700000:=by omega
 have BKR:ye w.heap.size wr (Jk n base (.slice ba bds.length bc) (.slice ea bds.length ec) []) n base bds []:=⟨_,_,us,rfl,hBt,hEv⟩
 have WH:=jii (Zf BKR (by omega) (TB.out wr hb))
 have k0:=hK.cell 0
 have k1:=hK.cell 1
 have k2:=hK.cell 2
 have k3:=hK.cell 3
 have k4:=hK.cell 4
 simp only[jiv,jiu,jio]at k0 k1 k2 k3 k4
 have HR:=jii hR
 have HK:=jii hK
 have HBT:=jii hBt
 have HEV:=jii hEv
 have HC:=jii hC
 have HB:=jii hb
 have HWE:=jii hWe
 have HRL:=jii hrl
 unfold Jk at WH
 clear hR hBt hEv hC hb hrl hdrop hWe BKR
 generalize hWW:jD n base bds=W at *
 have hWi:(W:Int)<=((B t).size:Int):=by omega
 go_wp2_with fail
 refine WH.out.mono ?_
 rintro e w5 ⟨rfl,b5⟩
 have HB5:=jii (HB.out.trans (b5.mono HB.out.size))
 have FR:=jii (Fr.read_any r hrlen w5 (TB.out w5 HB5.out).nums)
 have B45:=jii b5
 clear WH b5 k0 k1 k2 k3 k4 hK
 go_wp2_with fail
 rw[EX.out]
 refine FR.out.mono ?_
 rintro e w6 ⟨kk,bb,mm,hread,rfl,b6⟩
 have HB6:=jii (HB5.out.trans (b6.mono HB5.out.size))
 have B46:=jii (B45.out.trans (b6.mono B45.out.size))
 have K6:=jb HK.out B46.out HK.out.lt
 have C6:=jb HC.out B46.out HC.out.lt
 have T6:=HBT.out.below B46.out
 have E6:=zn HEV.out B46.out (jij _)
 clear FR b6 B45
 unfold Fr.readV
 rcases hread with ⟨hwt,rfl,rfl⟩|⟨hpt,rfl,rfl,rfl⟩|⟨hnp,hnw,rfl,rfl,rfl⟩
 ·
  have hgb:=Fr.good_iff.1 hwt.1
  have DE:=jii (Vm bb (by unfold maxLen;omega) w6 (TB.out w6 HB6.out).tabs)
  have hfl:(Fr.fullR bb).length<=r.length:=by
   obtain⟨_,m,e⟩:=hwt
   rw[e,jik];omega
  go_wp2_with fail
  refine DE.out.mono ?_
  rintro e w7 ⟨b7,h7⟩
  have HB7:=jii (HB6.out.trans (b7.mono HB6.out.size))
  have hs7:=b7.size
  have K7:=jb K6 b7 K6.lt
  have C7:=jb C6 b7 C6.lt
  have T7:=T6.below b7
  have E7:=zn E6 b7 (jij _)
  clear DE K6 C6 T6 E6
  rcases h7 with ⟨hd,rfl⟩|⟨eds,u7,fvs,hd,rfl,hO⟩
  ·have FB:Hid (jgw Dc r):=.inr ⟨bb,hwt,by unfold Dc;rw[hd];rfl⟩
   clear hwt hd T7 E7 b7
   have c70:=C7.cell 0
   have c71:=C7.cell 1
   have c72:=C7.cell 2
   have c73:=C7.cell 3
   have c74:=C7.cell 4
   have g70:=C7.frozen 0
   have g71:=C7.frozen 1
   have g72:=C7.frozen 2
   have g73:=C7.frozen 3
   have g74:=C7.frozen 4
   have m72:=K7.cell 2
   simp only[jiv,jiu,jio]at c70 c71 c72 c73 c74 m72
   have d70:∀o,(w7.alloc o).cell? ⟨w.heap.size,0,none⟩=_:=fun o=>((C7.alloc o).cell 0).trans rfl
   have d71:∀o,(w7.alloc o).cell? ⟨w.heap.size,1,none⟩=_:=fun o=>((C7.alloc o).cell 1).trans rfl
   have d72:∀o,(w7.alloc o).cell? ⟨w.heap.size,2,none⟩=_:=fun o=>((C7.alloc o).cell 2).trans rfl
   have d73:∀o,(w7.alloc o).cell? ⟨w.heap.size,3,none⟩=_:=fun o=>((C7.alloc o).cell 3).trans rfl
   have d74:∀o,(w7.alloc o).cell? ⟨w.heap.size,4,none⟩=_:=fun o=>((C7.alloc o).cell 4).trans rfl
   have h70:∀o,(w7.alloc o).frozen? ⟨w.heap.size,0,none⟩=false:=fun o=>(C7.alloc o).frozen 0
   have h71:∀o,(w7.alloc o).frozen? ⟨w.heap.size,1,none⟩=false:=fun o=>(C7.alloc o).frozen 1
   have h72:∀o,(w7.alloc o).frozen? ⟨w.heap.size,2,none⟩=false:=fun o=>(C7.alloc o).frozen 2
   have h73:∀o,(w7.alloc o).frozen? ⟨w.heap.size,3,none⟩=false:=fun o=>(C7.alloc o).frozen 3
   have h74:∀o,(w7.alloc o).frozen? ⟨w.heap.size,4,none⟩=false:=fun o=>(C7.alloc o).frozen 4
   have CA:=jii (Uo HB7.out C7 bds.length)
   have CB:=jii (Un HB7.out C7 bds.length)
   clear K7 C7
   go_wp2_with fail
   go_region
   all_goals go_wp2_with fail
   ·refine bodyPost_ret (Qz rfl _ _ w.heap.size _ rfl CA.out.2.1 rfl) rfl ?_
    exact⟨CA.out.1,.inr (.inl ⟨its,bds,r,_,by rw[hnn,hbase];exact HP.out,by rw[hnn,hbase];exact HR.out,FB.out,rfl,CA.out.2.2⟩)⟩
   refine bodyPost_ret (Qz rfl _ _ w.heap.size _ rfl CB.out.2.1 rfl) rfl ?_
   exact⟨CB.out.1,.inr (.inl ⟨its,bds,r,_,by rw[hnn,hbase];exact HP.out,by rw[hnn,hbase];exact HR.out,FB.out,rfl,CB.out.2.2⟩)⟩
  have hO':Jn w.heap.size w7 u7 (vU bb) fvs:=by
   have:vU bb=eds:=by unfold vU;rw[hd];rfl
   rw[this]
   exact⟨jC hO.row HB6.out.size,hO.len,fun i ed fv h1 h2=>jC (hO.each i ed fv h1 h2) HB6.out.size⟩
  have hDc:Dc bb=true:=by unfold Dc;rw[hd];rfl
  obtain⟨ua,uc,rfl,_⟩:=je hO.row
  have RS:=jii (HR.out.snoc hwt hDc)
  have ES:Hid ((zS (hl n+base.length) (bds++[bb])).map jg9=(zS (hl n+base.length) bds).map jg9++[Value.int .i64 ((W:Int)+((Fr.fullR bb).length:Int))]):=by
   show _=_
   rw[vS,jjh,<- HWE.out]
   simp[jg9]
  have HO:=jii hO'
  have T7':=jii T7
  have E7':=jii E7
  have K7':=jii K7
  have C7':=jii C7
  have N1:∀(w3:World) (T:TypeId) (x:Value),Hid (∀(j:Nat) (u:Value),[x][j]?=some u->(w3.alloc (.cells #[x] T)).cell? ((⟨w3.heap.size,0,none⟩:Addr).add j)=some u):=fun w3 T x j u h=>by
   have ea:(⟨w3.heap.size,0,none⟩:Addr).add j=⟨w3.heap.size,j,none⟩:=by unfold Addr.add;split<;>simp_all
   rw[ea,(ja.new w3 T #[x]).cell j]
   simpa using h
  have N1b:∀(w3:World) (b:Nat) (T:TypeId) (x:Value),w3.heap.size=b->Hid (∀(j:Nat) (u:Value),[x][j]?=some u->(w3.alloc (.cells #[x] T)).cell? ((⟨b,0,none⟩:Addr).add j)=some u):=fun w3 b T x hb j u h=>by
   rw[<- hb];exact(N1 w3 T x).out j u h
  have k2:=K7.cell 2
  have f2:=K7.frozen 2
  simp only[jiv,jiu,jio]at k2
  have hlo7:w.heap.size<=w7.heap.size:=HB7.out.size
  have hkl:w2.heap.size<w7.heap.size:=K7.lt
  have hbd1:bds.length+(Fr.fullR bb).length<=t.length:=by have:=HRL.out;omega
  clear hwt hd hO hO' hDc T7 E7 K7 C7 b7
  generalize hm:(Fr.fullR bb).length=m at *
  have hwm:IntKind.i64.wrap ((W:Int)+(m:Int))=(W:Int)+(m:Int):=jiM _ (by have:=HRL.out;have:=HWE.out;omega)
  go_wp2_with (at_builtin;refine jI rfl _ _ 22 rfl w.heap.size 55 i2 _ 1 24 Tryz.underlying22 hiB hB0 hB1 hBb rfl (by decide) _ _ _ rfl (T7'.out.row.alloc _) _ 1 1 [.slice ua eds.length uc] rfl rfl (N1 _ _ _).out (by intro u hu;simp at hu;subst hu;rfl) (by unfold maxLen;omega) (by omega) (by simp only[jiB];omega) ?_)
  intro bv8 W8 own8 grow8 at8
  have hb8:Below w7.heap.size w7 (w7.alloc (.cells #[.slice ua eds.length uc] 55)):=(jil _ _).alloc (jij _) _
  have o8:jB (fun r=>(Value.slice ba bds.length bc).ownBlock=some r) w7 W8:=(jB.of_below (S:=fun r=>(Value.slice ba bds.length bc).ownBlock=some r) hb8 (jij _)).grown grow8 (fun r e=>.inl e)
  have T8:=T7'.out.snoc HO.out own8 o8
  have E8:=jJ E7'.out o8 (fun b e q=>zI T7'.out.row E7'.out (by decide) b q e)
  have K8:=K7'.out.only o8 (fun e=>ju T7'.out.row K7'.out (by decide) e)
  have C8:=C7'.out.only o8 (fun e=>ju T7'.out.row C7'.out (by decide) e)
  have B8:=HB7.out.trans (o8.to_below hlo7 (fun r hr e=>by have:=(T7'.out.row.lt r e).1;omega))
  have hs8:=o8.size
  obtain⟨ba8,bc8,rfl,_⟩:=je own8
  have K9:=K8.set 2 (.slice ba8 (bds.length+1) bc8)
  rw[show(#[Value.int .i64 (n:Int),.string (B base),.slice ba bds.length bc,.slice ea bds.length ec,.string ⟨#[]⟩]:Array Value).setIfInBounds 2 (.slice ba8 (bds.length+1) bc8)=#[.int .i64 (n:Int),.string (B base),.slice ba8 (bds.length+1) bc8,.slice ea bds.length ec,.string ⟨#[]⟩] from rfl]at K9
  have o9:jB (· = w2.heap.size) W8 (W8.setCell ⟨w2.heap.size,2,none⟩ (.slice ba8 (bds.length+1) bc8)):=(jB.refl (· = w2.heap.size) W8).cellS 2 _
  have T9:=T8.box K8 (by decide) (by decide) (by decide) o9
  have E9:=jJ E8 o9 (fun b e q=>ju E8 K8 (by decide) (by rw[e,q]))
  have C9:=C8.only o9 (fun e=>by omega)
  have B9:=B8.trans (o9.to_below B8.size (fun r hr e=>by omega))
  have kc2:=K8.cell 2
  have kf2:=K8.frozen 2
  have k93:=K9.cell 3
  have f93:=K9.frozen 3
  simp only[jiv,jiu,jio]at kc2 k93
  have HT9:=jii T9
  have HE9:=jii E9
  have HK9:=jii K9
  have HC9:=jii C9
  have HB9:=jii B9
  have hs9:=o9.size
  have HSZ:Hid ((W8.setCell ⟨w2.heap.size,2,none⟩ (.slice ba8 (bds.length+1) bc8)).heap.size=W8.heap.size):=by
   show _=_
   simp[World.setCell]
  clear own8 grow8 at8 hb8 o8 T8 E8 K8 C8 B8 K9 o9 T9 E9 C9 B9 T7' E7' K7' C7' HO k2 f2
  go_wp2_with (at_builtin;refine jI rfl _ _ 23 rfl w.heap.size 3 i1 _ 1 8 Tryz.underlying23 hi hz0 hz1 hib rfl (by decide) _ _ _ rfl (HE9.out.alloc _) _ 1 1 [.int .i64 ((W:Int)+(m:Int))] rfl rfl (by first | exact(N1b _ _ _ _ HSZ.out).out | exact(N1 _ _ _).out) (by intro u hu;simp at hu;subst hu;rfl) (by unfold maxLen;omega) (by omega) (by simp only[jiB];omega) ?_)
  intro ev10 W10 own10 grow10 at10
  generalize hw9:W8.setCell ⟨w2.heap.size,2,none⟩ (.slice ba8 (bds.length+1) bc8)=W9 at *
  have hb10:Below W9.heap.size W9 (W9.alloc (.cells #[.int .i64 ((W:Int)+(m:Int))] 3)):=(jil _ _).alloc (jij _) _
  have o10:jB (fun r=>(Value.slice ea bds.length ec).ownBlock=some r) W9 W10:=(jB.of_below (S:=fun r=>(Value.slice ea bds.length ec).ownBlock=some r) hb10 (jij _)).grown grow10 (fun r e=>.inl e)
  have T10:=HT9.out.beside HE9.out (by decide) (by decide) (by decide) o10
  have K10:=HK9.out.only o10 (fun e=>ju HE9.out HK9.out (by decide) e)
  have C10:=HC9.out.only o10 (fun e=>ju HE9.out HC9.out (by decide) e)
  have B10:=HB9.out.trans (o10.to_below HB9.out.size (fun r hr e=>by have:=(HE9.out.lt r e).1;omega))
  obtain⟨ea10,ec10,rfl,_⟩:=je own10
  have K11:=K10.set 3 (.slice ea10 (bds.length+1) ec10)
  rw[show(#[Value.int .i64 (n:Int),.string (B base),.slice ba8 (bds.length+1) bc8,.slice ea bds.length ec,.string ⟨#[]⟩]:Array Value).setIfInBounds 3 (.slice ea10 (bds.length+1) ec10)=#[.int .i64 (n:Int),.string (B base),.slice ba8 (bds.length+1) bc8,.slice ea10 (bds.length+1) ec10,.string ⟨#[]⟩] from rfl]at K11
  have o11:jB (· = w2.heap.size) W10 (W10.setCell ⟨w2.heap.size,3,none⟩ (.slice ea10 (bds.length+1) ec10)):=(jB.refl (· = w2.heap.size) W10).cellS 3 _
  have T11:=jii (T10.box K10 (by decide) (by decide) (by decide) o11)
  have E11:=jii (jJ own10 o11 (fun b e q=>ju own10 K10 (by decide) (by rw[e,q])))
  have C11:=jii (C10.only o11 (fun e=>by omega))
  have B11:=jii (B10.trans (o11.to_below B10.size (fun r hr e=>by omega)))
  have HK11:=jii K11
  have kc3:=K10.cell 3
  have kf3:=K10.frozen 3
  have l2:=K11.cell 2
  simp only[jiv,jiu,jio]at kc3 l2
  have L2:=jii l2
  have LW:=jii (show jdK wr w2.heap.size=bds.length by unfold jdK;rw[HK.out.cell];rfl)
  clear own10 grow10 at10 hb10 o10 T10 K10 C10 B10 K11 o11 l2 HT9 HE9 HK9 HC9 HB9 kc2 kf2 k93 f93
  go_wp2_with fail
  go_roundw
  case rel=>exact⟨bds++[bb],_,_,_,_,RS.out,HK11.out,T11.out,by rw[ES.out,jik];exact E11.out,C11.out,B11.out⟩
  case measure =>
  have h1:=LW.out
  rw[h1]
  unfold jdK
  rw[L2.out]
  show t.length+1-(bds.length+1)<t.length+1-bds.length
  omega
 ·
  have K7:=K6.set 4 (.string (B r))
  rw[show(#[Value.int .i64 (n:Int),.string (B base),.slice ba bds.length bc,.slice ea bds.length ec,.string ⟨#[]⟩]:Array Value).setIfInBounds 4 (.string (B r))=#[.int .i64 (n:Int),.string (B base),.slice ba bds.length bc,.slice ea bds.length ec,.string (B r)] from rfl]at K7
  have o7:jB (· = w2.heap.size) w6 (w6.setCell ⟨w2.heap.size,4,none⟩ (.string (B r))):=(jB.refl (· = w2.heap.size) w6).cellS 4 _
  have C7:=C6.only o7 (fun e=>by omega)
  have T7:=T6.box K6 (by decide) (by decide) (by decide) o7
  have E7:=jJ E6 o7 (fun b e q=>ju E6 K6 (by decide) (by rw[e,q]))
  obtain⟨P8,o8⟩:=jfq C7 (.int .i64 (n:Int)) (.string (B base)) (.slice ba bds.length bc) (.slice ea bds.length ec) (.string (B r))
  have T8:=T7.box C7 (by decide) (by decide) (by decide) o8
  have E8:=jJ E7 o8 (fun b e q=>ju E7 C7 (by decide) (by rw[e,q]))
  have HP8:=jii P8
  have B7:=HB6.out.trans (o7.to_below HB6.out.size (fun r hr e=>by omega))
  have B8:=jii (B7.trans (o8.to_below B7.size (fun r hr e=>by omega)))
  have BR:=jii (show ye w.heap.size _ (Jk n base (.slice ba bds.length bc) (.slice ea bds.length ec) r) n base bds r from⟨_,_,us,rfl,T8,E8⟩)
  have SND:=jii (show qn Dc t n base bds r from⟨HGEN.out,⟨its,HP.out⟩,hbase,HR.out,hpt⟩)
  have f64:=K6.frozen 4
  have kk4:=K6.cell 4
  have c70:=C7.cell 0
  have c71:=C7.cell 1
  have c72:=C7.cell 2
  have c73:=C7.cell 3
  have c74:=C7.cell 4
  have g70:=C7.frozen 0
  have g71:=C7.frozen 1
  have g72:=C7.frozen 2
  have g73:=C7.frozen 3
  have g74:=C7.frozen 4
  have m70:=K7.cell 0
  have m71:=K7.cell 1
  have m72:=K7.cell 2
  have m73:=K7.cell 3
  have m74:=K7.cell 4
  simp only[jiv,jiu,jio]at kk4 c70 c71 c72 c73 c74 m70 m71 m72 m73 m74
  clear K6 C6 T6 E6 K7 o7 C7 T7 E7 P8 o8 T8 E8 B7 hpt
  go_upto_region 12 with fail
  rw[EX.out]
  go_wp2_with fail
  refine bodyPost_ret (Qz rfl _ _ w.heap.size _ rfl HP8.out rfl) rfl ?_
  exact⟨B8.out,.inr (.inr ⟨base,bds,r,_,by rw[hnn];exact SND.out,rfl,by rw[hnn];exact BR.out⟩)⟩
 -- no record,no tail
 have DE:=jii (Vm [] (by decide) w6 (TB.out w6 HB6.out).tabs)
 have FB:Hid (jgw Dc r):=.inl ⟨hnp,hnw⟩
 have DN:=jii jgf
 clear hnp hnw
 go_wp2_with fail
 refine DE.out.mono ?_
 rintro e w7 ⟨b7,h7⟩
 have HB7:=jii (HB6.out.trans (b7.mono HB6.out.size))
 have hs7:=b7.size
 have K7:=jb K6 b7 K6.lt
 have C7:=jb C6 b7 C6.lt
 clear DE K6 C6 T6 E6 b7
 rcases h7 with ⟨hd,rfl⟩|⟨eds,u7,fvs,hd,_⟩
 rotate_left
 ·rw[DN.out]at hd;cases hd
 have c70:=C7.cell 0
 have c71:=C7.cell 1
 have c72:=C7.cell 2
 have c73:=C7.cell 3
 have c74:=C7.cell 4
 have g70:=C7.frozen 0
 have g71:=C7.frozen 1
 have g72:=C7.frozen 2
 have g73:=C7.frozen 3
 have g74:=C7.frozen 4
 have m72:=K7.cell 2
 simp only[jiv,jiu,jio]at c70 c71 c72 c73 c74 m72
 have d70:∀o,(w7.alloc o).cell? ⟨w.heap.size,0,none⟩=_:=fun o=>((C7.alloc o).cell 0).trans rfl
 have d71:∀o,(w7.alloc o).cell? ⟨w.heap.size,1,none⟩=_:=fun o=>((C7.alloc o).cell 1).trans rfl
 have d72:∀o,(w7.alloc o).cell? ⟨w.heap.size,2,none⟩=_:=fun o=>((C7.alloc o).cell 2).trans rfl
 have d73:∀o,(w7.alloc o).cell? ⟨w.heap.size,3,none⟩=_:=fun o=>((C7.alloc o).cell 3).trans rfl
 have d74:∀o,(w7.alloc o).cell? ⟨w.heap.size,4,none⟩=_:=fun o=>((C7.alloc o).cell 4).trans rfl
 have h70:∀o,(w7.alloc o).frozen? ⟨w.heap.size,0,none⟩=false:=fun o=>(C7.alloc o).frozen 0
 have h71:∀o,(w7.alloc o).frozen? ⟨w.heap.size,1,none⟩=false:=fun o=>(C7.alloc o).frozen 1
 have h72:∀o,(w7.alloc o).frozen? ⟨w.heap.size,2,none⟩=false:=fun o=>(C7.alloc o).frozen 2
 have h73:∀o,(w7.alloc o).frozen? ⟨w.heap.size,3,none⟩=false:=fun o=>(C7.alloc o).frozen 3
 have h74:∀o,(w7.alloc o).frozen? ⟨w.heap.size,4,none⟩=false:=fun o=>(C7.alloc o).frozen 4
 have CA:=jii (Uo HB7.out C7 bds.length)
 have CB:=jii (Un HB7.out C7 bds.length)
 clear K7 C7
 go_wp2_with fail
 go_region
 all_goals go_wp2_with fail
 ·refine bodyPost_ret (Qz rfl _ _ w.heap.size _ rfl CA.out.2.1 rfl) rfl ?_
  exact⟨CA.out.1,.inr (.inl ⟨its,bds,r,_,by rw[hnn,hbase];exact HP.out,by rw[hnn,hbase];exact HR.out,FB.out,rfl,CA.out.2.2⟩)⟩
 refine bodyPost_ret (Qz rfl _ _ w.heap.size _ rfl CB.out.2.1 rfl) rfl ?_
 exact⟨CB.out.1,.inr (.inl ⟨its,bds,r,_,by rw[hnn,hbase];exact HP.out,by rw[hnn,hbase];exact HR.out,FB.out,rfl,CB.out.2.2⟩)⟩
end Go.Proofs.YtimfhnfcmhmjcaaGreatDoor.Bk
namespace Go.Proofs.YtimfhnfcmhmjcaaGreatDoor
open Go.RowKit Go.Shelf
attribute [local go_sem] jit
def Szs(w:World)(v:Value)(rs:List Stz):Prop :=
 ∃A cap,v=.slice A rs.length cap/\rs.length<=cap/\∀(i:Nat) (s:Stz),rs[i]?=some s->∃b off fv,A=some ⟨b,off,none⟩/\b<w.heap.size/\w.cell? ⟨b,off+i*2,none⟩=some (.int .i64 s.1)/\w.cell? ⟨b,off+i*2+1,none⟩=some fv/\yH w fv s.2
theorem Szs.below{w w':World}{v:Value}{rs:List Stz}{n:Nat}(h:Szs w v rs)(hb:Below n w w')(hn:w.heap.size<=n):Szs w' v rs:=by
 obtain⟨A,cap,hv,hle,hc⟩:=h
 refine⟨A,cap,hv,hle,fun i s hi => ?_⟩
 obtain⟨b,off,fv,hA,hlt,c0,c1,hf⟩:=hc i s hi
 have hlt':=jiF hlt hn
 exact⟨b,off,fv,hA,jiF hlt hb.size,(hb.cell (p:=⟨b,off+i*2,none⟩) hlt').trans c0,(hb.cell (p:=⟨b,off+i*2+1,none⟩) hlt').trans c1,hf.below hb hn⟩
theorem Gd {w : World} {base : Nat} {v : Value} {rs : List Stz} {fvs : List Value} (h : w.ownsRow base 104 2 v rs.length (zR rs fvs)) (hl : fvs.length = rs.length) (he : ∀ (j : Nat) s x, rs[j]? = some s -> fvs[j]? = some x -> yH w x s.2) : Szs w v rs := by
  rcases jjd h with ⟨rfl, hn⟩ | ⟨g, cap, rfl⟩
  . have : rs = [] := List.length_eq_zero_iff.1 hn
    subst this
    exact ⟨none, 0, rfl, jij _, fun i s h => by simp at h⟩
  refine ⟨_, cap, rfl, (by rcases h.2 with ⟨q, _⟩ | ⟨g', cap', cur, q, _, _, q2, _⟩; · cases q
                           cases q; exact q2), fun i s hi => ?_⟩
  have hlt : i < rs.length := (List.getElem?_eq_some_iff.1 hi).1
  obtain ⟨x, hx⟩ : ∃ x, fvs[i]? = some x := ⟨_, jim (by omega)⟩
  obtain ⟨a0, a1⟩ := Zk rs fvs i s x hi hx
  exact ⟨g, 0, x, rfl, (jjr h g rfl).2, by rw [jiP, jiG h (i * 2) (by omega)]; exact a0, by rw [jiP, jiG h (i * 2 + 1) (by omega)]; exact a1, he i s x hi hx⟩
theorem Vx.szs{lo:Nat}{w wr:World}{v:Value}{fvs:List Value}{rs:List Stz}(h:Vx lo w wr v fvs rs):Szs wr v rs :=
 Gd h.row h.len fun j s x h1 h2=>vR (h.each j s x h1 h2)
theorem VD(rs:List Stz)(v v':Value)(w:World)(h:Szs w v rs)(h':Szs w v' rs)(hn:rs.length<=1000000)(hf:∀s∈rs,s.2.length<=1000000):
  Calls Tryz.prog 18 #[v,v'] w fun e w'=>e=.returned (.bool true)/\∃m,w'=w.drewN m:=by
 obtain⟨A,cap,rfl,hle,hc⟩:=h
 obtain⟨A',cap',rfl,hle',hc'⟩:=h'
 have PC:=jii hc
 have PC':=jii hc'
 have HF:=jii hf
 clear hc hc' hf
 go_enter Tryz.func18,Tryz.ntmps18
 go_wp2_with fail
 go_loopw [13] (fun i wr=>∃k:Nat,k<=rs.length/\i=.int .i64 k/\∃m,wr=w.drewN m) (fun i _=>rs.length-(intOf i).toNat)
 case atStart=>exact⟨0,jiD _,rfl,0,rfl⟩
 case round =>
 obtain⟨k,hk,rfl,nd,hwr⟩:=hrel
 by_cases hlt:k<rs.length
 ·obtain⟨st,hst⟩:∃st,rs[k]?=some st:=⟨_,jim hlt⟩
  obtain⟨b,off,fv,rfl,hbb,c0,c1,hfl⟩:=PC.out k st hst
  obtain⟨b',off',fv',rfl,hbb',c0',c1',hfl'⟩:=PC'.out k st hst
  have hm:=HF.out st (jiA hst)
  have FQ0:∀n,Calls Tryz.prog 45 #[fv,fv'] (wr.drewN n) fun e w'=>e=.returned (.bool true)/\∃m,w'=(wr.drewN n).drewN m:=by
   intro n
   rw[hwr]
   exact Xp st.2 fv fv' ((w.drewN nd).drewN n) ((hfl.drewN nd).drewN n) ((hfl'.drewN nd).drewN n) hm
  have FQ:=jii FQ0
  clear FQ0
  replace c0:wr.cell? ⟨b,off+k*2,none⟩=some (.int .i64 st.1):=by rw[hwr];exact c0
  replace c1:wr.cell? ⟨b,off+k*2+1,none⟩=some fv:=by rw[hwr];exact c1
  replace c0':wr.cell? ⟨b',off'+k*2,none⟩=some (.int .i64 st.1):=by rw[hwr];exact c0'
  replace c1':wr.cell? ⟨b',off'+k*2+1,none⟩=some fv':=by rw[hwr];exact c1'
  have HW:=jii hwr
  clear hst PC PC' hwr hfl hfl' HF
  generalize st.1=K at *
  go_wp2_with (go_quiet ((go_at_call 45;exact Calls.quiet_of (FQ.out _))))
  go_roundw
  case rel=>exact⟨k+1,hlt,by go_num,_,by rw[HW.out];exact World.drewN_drewN _ _ _⟩
  case measure=>simp[intOf];omega
 obtain rfl:k=rs.length:=by omega
 clear PC PC'
 go_wp2_with fail
 go_ret
 exact⟨rfl,nd,by first | rfl | exact hwr⟩
end Go.Proofs.YtimfhnfcmhmjcaaGreatDoor
namespace Go.Proofs.YtimfhnfcmhmjcaaGreatDoor
open Go.RowKit Go.Shelf
end Go.Proofs.YtimfhnfcmhmjcaaGreatDoor
namespace Go.Proofs.YtimfhnfcmhmjcaaGreatDoor
open Go.RowKit Go.Shelf
attribute [local go_sem] jit
end Go.Proofs.YtimfhnfcmhmjcaaGreatDoor
namespace Go.Proofs.YtimfhnfcmhmjcaaGreatDoor
open Go.RowKit Go.Shelf
end Go.Proofs.YtimfhnfcmhmjcaaGreatDoor
namespace Go.Proofs.YtimfhnfcmhmjcaaGreatDoor
open Go.RowKit Go.Shelf
attribute [local go_sem] jit
section
variable {w:World} {lb:Nat} {ev v:Value} {ps qs:List Pr} {nx:Int}
end
theorem jhi{rs:List Stz}{x y:Value}{w:World}(hx:Szs w x rs)(hy:Szs w y rs)(hn:rs.length<=1000000)(hf:∀s∈rs,s.2.length<=1000000):Calls Tryz.prog 18 #[x,y] w fun e w'=>∃u,e=.returned u/\u=.bool true/\Below w.heap.size w w' :=
 (VD rs x y w hx hy hn hf).mono fun e w' ⟨he,m,hw⟩=>⟨_,he,rfl,by rw[hw];exact vf (jil _ _) m⟩
end Go.Proofs.YtimfhnfcmhmjcaaGreatDoor
namespace Go.Proofs.YtimfhnfcmhmjcaaGreatDoor
end Go.Proofs.YtimfhnfcmhmjcaaGreatDoor
namespace Go.Proofs.YtimfhnfcmhmjcaaGreatDoor
open Go.RowKit Go.Shelf
attribute [local go_sem] jit
theorem jfd{ps:List Pr}(h:WF (ps.map Prod.fst)):jaI (yJ 0 ps)=szE (ps.map Prod.fst):=by
 have e1:=JT (κ:=fun e:En=>e.1.kind) (Prod.fst:Pr->En) 0 ps
 have e2:=xS 0 (ps.map Prod.fst) h
 unfold szE
 rw[<- e2]
 show List.map _ (yJ 0 ps)=List.map _ (List.map Prod.snd (xP (fun e:En=>e.1.kind) 0 (ps.map Prod.fst)))
 rw[<- e1,jjA,jjA]
 rfl
theorem jau{S0:Nat}{w:World}{lb:Nat}{ev:Value}{ps:List Pr}{l:LS}{m:Nat}(C:zk S0 w lb ev ps l m)(hm:m<=10000):
  Calls Tryz.prog 15 #[ptr lb] w fun e w'=>e=.returned (.string (B ((zb (l.es.map Prod.fst)).flatMap It.raw)))/\Below w.heap.size w w':=by
 have:=jc9 ps ev (some ⟨lb,0,none⟩) w (jcZ.of C.la.lr) (C.ents hm)
 rw[jfF C.es]at this
 exact this
theorem Yq{S0:Nat}{w:World}{lb:Nat}{ev:Value}{ps:List Pr}{l:LS}{m:Nat}(C:zk S0 w lb ev ps l m)(hm:m<=10000):
  Calls Tryz.prog 19 #[ptr lb] w fun e w'=>∃u,e=.returned u/\Szs w' u (szE l.es)/\Below w.heap.size w w':=by
 refine(Ka ps ev (some ⟨lb,0,none⟩) w (fun W hW=>jcZ.of (C.la.lr.below hW (jij _))) (C.ents hm)).mono ?_
 rintro e w' ⟨u,fvs,rfl,acc⟩
 have hz:=acc.szs
 rw[jfd C.wf,C.es]at hz
 exact⟨u,rfl,hz,acc.below⟩
theorem KL{S0:Nat}{w:World}{lb:Nat}{ev:Value}{ps:List Pr}{l:LS}{m:Nat}(C:zk S0 w lb ev ps l m):(szE l.es).length<=1000000/\∀s∈szE l.es,s.2.length<=1000000:=by
 refine⟨by rw[jfb];have:=C.ok.len;omega,fun s hs => ?_⟩
 unfold szE at hs
 obtain⟨e,he,rfl⟩:=List.mem_map.1 hs
 exact(C.sz e (List.mem_filter.1 he).1).2
end Go.Proofs.YtimfhnfcmhmjcaaGreatDoor
namespace Go.Proofs.YtimfhnfcmhmjcaaGreatDoor.Bk
open Go.RowKit Go.Shelf
attribute [local go_sem] jit
theorem Jl(t:List UInt8)(n:Nat):(vi (t.drop n)).length<=t.length:=by
 have h1:=ZZ (t.drop n)
 have h2:=Um (t.drop n)
 have h3:(t.drop n).length<=t.length:=by rw[jiw];omega
 omega
theorem XG{w w2:World}{n:Nat}{base tail:List UInt8}{ba ea:Option Addr}{bn bc en ec:Nat}(h:w.alloc (.cells #[.int .i64 (n:Int),.string (B base),.slice ba bn bc,.slice ea en ec,.string (B tail)] 28)=w2):
  Below w.heap.size w w2/\ja w2 w.heap.size 28 #[.int .i64 (n:Int),.string (B base),.slice ba bn bc,.slice ea en ec,.string (B tail)]:=by
 rw[<- h];exact⟨(jil _ _).alloc (jij _) _,ja.new _ _ _⟩
end Go.Proofs.YtimfhnfcmhmjcaaGreatDoor.Bk
namespace Go.Proofs.YtimfhnfcmhmjcaaGreatDoor
open Go.RowKit Go.Shelf Go.Maps Go.ChangeShapes Go.Joins Go.WideShapes
theorem jgy{n:Int}(h:(Lit.int IntKind.i64 n).wf=true):I64 n:=by
 unfold Lit.wf at h
 rw[jiY]at h
 exact⟨by have:=of_decide_eq_true h.1;exact this,by have:=of_decide_eq_true h.2;exact this⟩
theorem jep{H:Type}{enc:TypeId×Value->H}{W:World}{base:Nat}{sp:Nat->Bool}{held:Bool}{fuel:Nat}{cs:List Value}{x:DataW H×List MemPlace}(h:DataW.trod enc Tryz.prog W base sp held fuel 80 cs=some x):
  ∃k i fv,cs=[.int .i64 k,.int .i64 i,fv]/\I64 i:=by
 obtain⟨xs,m,_,_,hl,hxl,hf⟩:=DataW.trod_struct Tryz.underlying80 h
 have hl2:cs.length=3:=hl.trans (by kernel_rfl)
 obtain⟨c0,c1,c2,rfl⟩:=jeX hl2
 have k3:Tryz.prog.cellsOf 3=1:=by kernel_rfl
 have hx:∀i,i<3->∃y,xs[i]?=some y:=fun i hi=>⟨_,jim (by rw[hxl];exact hi)⟩
 obtain⟨y0,e0⟩:=hx 0 (by decide)
 obtain⟨y1,e1⟩:=hx 1 (by decide)
 have q0:DataW.trod enc Tryz.prog W base sp held m 3 (List.take (Tryz.prog.cellsOf 3) [c0,c1,c2])=_:=hf 0 _ rfl
 have q1:DataW.trod enc Tryz.prog W base sp held m 3 (List.take (Tryz.prog.cellsOf 3) [c1,c2])=_:=hf 1 _ rfl
 rw[k3,e0]at q0
 rw[k3,e1]at q1
 obtain⟨kind,f0,_,_⟩:=DataW.trod_int Tryz.underlying3 q0
 obtain⟨id,f1,_,hw⟩:=DataW.trod_int Tryz.underlying3 q1
 simp at f0 f1
 subst f0 f1
 exact⟨kind,id,c2,rfl,jgy hw⟩
theorem jcn{H:Type}{enc:TypeId×Value->H}{W:World}{base:Nat}{sp:Nat->Bool}{held:Bool}{fuel:Nat}{v:Value}{x:DataW H×List MemPlace}(h:DataW.trod enc Tryz.prog W base sp held fuel 55 [v]=some x):
  ∃eds,Yv W v eds/\∀ed∈eds,I64 ed.id:=by
 obtain⟨eds,hE⟩:=jem h
 refine⟨eds,hE,fun ed hm => ?_⟩
 obtain⟨i,hi,e⟩:=List.mem_iff_getElem.1 hm
 have he:eds[i]?=some ed:=by rw[jim hi,e]
 obtain⟨_,A,cap,rfl,hle,hc⟩:=hE
 obtain⟨b,off,fv,rfl,hb,c0,c1,c2,_⟩:=hc i ed he
 rcases DataW.trod_slice Tryz.underlying55 h with ⟨q,_⟩|⟨a,len,cap',elems,rest,n,_,q,_,_,hl,hm',hlen,hel,_,_⟩
 ·simp at q
 obtain⟨rfl,rfl,rfl⟩:a=⟨b,off,none⟩/\len=eds.length/\cap'=cap:=by
  simp at q
  obtain⟨q1,q2,q3⟩:=q
  exact⟨q1.symm,q2.symm,q3.symm⟩
 have k3:Tryz.prog.cellsOf 80=3:=by kernel_rfl
 have h1:=hel i hi
 rw[k3,jim (by omega)]at h1
 obtain⟨cs,hcs,ht⟩:=Option.bind_eq_some_iff.1 h1
 obtain⟨k,z,fv',rfl,hz⟩:=jep ht
 obtain⟨_,_,hat⟩:=jjW hcs
 have d1:=hat 1 (by decide)
 rw[jjJ]at d1
 have e2:some (Value.int .i64 ed.id)=some (.int .i64 z):=by rw[<- c1];simpa [WideShapes.add_plain]using d1
 have:ed.id=z:=by injection e2 with e2;injection e2
 rw[this];exact hz
end Go.Proofs.YtimfhnfcmhmjcaaGreatDoor
namespace Go.Proofs.YtimfhnfcmhmjcaaGreatDoor
theorem jaz{eds:List Ed}(h:∀ed∈eds,zJ ed=0):∀l∈zg eds,∃r,l=32::r:=by
 intro l hl
 obtain⟨ed,h1,h2⟩:=List.mem_flatMap.1 hl
 rcases List.mem_cons.1 h2 with rfl|h2
 ·unfold zt
  rw[if_pos (Jd (h ed h1))];exact⟨_,rfl⟩
 obtain⟨x,_,rfl⟩:=List.mem_map.1 h2
 exact⟨_,rfl⟩
theorem Qv(l:List UInt8)(r:List (List UInt8)):jk (l::r)=l++10::jk r:=by unfold jk;simp
theorem jaT(ls:List (List UInt8))(h0:ls≠[]):(jk ls)[(jk ls).length-1]?=some 10:=by
 rw[<- List.getLast?_eq_getElem?]
 rw[<- List.dropLast_concat_getLast h0]
 unfold jk;simp
end Go.Proofs.YtimfhnfcmhmjcaaGreatDoor
namespace Go.Proofs.YtimfhnfcmhmjcaaGreatDoor.Fr
theorem ja4:∀ls:List (List UInt8),(∀l∈ls,(10:UInt8)∉l)->(∀l∈ls,∃r,l=32::r)->sp true (jk ls)=true
 | [],_,_=>rfl
 | l::ls,hc,hs=>by
  obtain⟨r,hr⟩:=hs l jis
  have e:jk (l::ls)=(l++[10])++jk ls:=by rw[Qv];simp
  rw[e,zN,ja5 l (hc l jis),JD l [10] true (by simp)]
  have e2:vQ true ([10]:List UInt8)=true:=rfl
  rw[e2,ja4 ls (fun x h=>hc x (jir _ h)) (fun x h=>hs x (jir _ h)),hr]
  rfl
theorem batch_body{eds:List Ed}(h0:(qP eds).2=0)(hl:(ji eds).length<=50000):goodR (ji eds)=true:=by
 obtain⟨⟨n1,_⟩,g1⟩:=vC h0
 have hne:zg eds≠[]:=by
  cases eds with
  | nil=>simp at n1
  | cons x r=>unfold zg jcp;simp
 have hs:=jaz g1
 have hc:=xL g1
 rw[good_iff]
 unfold ji at *
 have hlast:vn (jk (zg eds))=true:=by
  unfold vn
  rw[List.getLast?_eq_getElem?,jaT _ hne];rfl
 refine⟨?_,hl,hlast,ja4 _ hc hs⟩
 cases hL:zg eds with
 | nil=>exact absurd hL hne
 | cons l ls =>
 obtain⟨r,hr⟩:=hs l (by rw[hL];exact jis)
 rw[Qv,hr]
 simp
 omega
open Go.RowKit Go.Shelf
attribute [local go_sem] jit
end Go.Proofs.YtimfhnfcmhmjcaaGreatDoor.Fr
