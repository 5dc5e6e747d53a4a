/- Texts put together:SD,NS,NT,NU,NV,NL,NM,NP,NW,EC,EO,EW,SE,SF,AO,AD,DV. -/
import Derived.BigFrame
import Derived.Test.YtmdhainabeljpaaGreatDoorBxr19
set_option linter.unusedVariables false
set_option maxRecDepth 100000
set_option maxHeartbeats 16000000
namespace Go.Proofs.YtmdhainabeljpaaGreatDoor.Bk
open Go.RowKit Go.Shelf
attribute [local go_sem] jil
theorem jao{fn:Func}{p u:Tmp}{ty:TypeId}(h:fn.results=#[.cell p ty,.tmp u])(tmps:Array Value)(P:Program)(w:World):
  (results fn tmps).run P w=((asAddr (tmps.getD p undef)).run P w).andThen fun a w₁=>((loadVar ty a).run P w₁).andThen fun v w₂=>.ok (.tuple #[v,tmps.getD u undef]) w₂:=by
 simp only[results,h]
 simp[Sem.run_bind,Result.andThen]
theorem QB{fn:Func}{p u:Tmp}(h:fn.results=#[.cell p 26,.tmp u])(tmps:Array Value)(w:World)(b:Nat)(cur:Array Value)(hp:tmps.getD p undef=.pointer (some ⟨b,0,none⟩))
  (hc:jd w b 26 cur) (hz:cur.size=5):(results fn tmps).run Tryz.prog w=.ok (.tuple #[.agg cur,tmps.getD u undef]) w:=by
 have L:=run_loadVar_row (P:=Tryz.prog) w b 26 26 cur (0,0) _ hc Tryz.underlying26 rfl (by rw[hz];kernel_rfl)
 rw[jao h,hp]
 show((loadVar _ _).run _ _).andThen _=_
 rw[L];rfl
theorem jdD{W:World}{b:Nat}{T:TypeId}{a0 a1 a2 a3 a4:Value}(h:jd W b T #[a0,a1,a2,a3,a4])(v0 v1 v2 v3 v4:Value):
  jd (((((W.setCell ⟨b,0,none⟩ v0).setCell ⟨b,1,none⟩ v1).setCell ⟨b,2,none⟩ v2).setCell ⟨b,3,none⟩ v3).setCell ⟨b,4,none⟩ v4) b T #[v0,v1,v2,v3,v4]/\zH (· = b) W (((((W.setCell ⟨b,0,none⟩ v0).setCell ⟨b,1,none⟩ v1).setCell ⟨b,2,none⟩ v2).setCell ⟨b,3,none⟩ v3).setCell ⟨b,4,none⟩ v4):=by
 have k:=((((h.set 0 v0).set 1 v1).set 2 v2).set 3 v3).set 4 v4
 refine⟨by simpa [List.setIfInBounds_toArray,List.set]using k,(((((zH.refl (· = b) W).cellS 0 v0).cellS 1 v1).cellS 2 v2).cellS 3 v3).cellS 4 v4⟩
def Ze:Value:=Jr 0 [] (.slice none 0 0) (.slice none 0 0) []
def jbf(w w':World)(t:List UInt8)(e:Ending):Prop:=Below w.heap.size w w' /\
  ((∃a k u,za (vk (t.drop (hl (Hd.genP t))))=.error (a,k)/\e=.returned (.tuple #[Ze,u])/\jz w.heap.size w' u a k) \/
   (∃its bds r u,za (vk (t.drop (hl (Hd.genP t))))=.ok its/\jbm Dc (t.drop (hl (Hd.genP t)+(vk (t.drop (hl (Hd.genP t)))).length)) bds r/\jeR Dc r/\e=.returned (.tuple #[Ze,u])/\jz w.heap.size w' u bds.length 10) \/
   (∃base bds tail v,xO Dc t (Hd.genP t) base bds tail/\e=.returned (.tuple #[v,.nilIface])/\yg w.heap.size w' v (Hd.genP t) base bds tail))
theorem jcs:(Tryz.prog.info? 37).map (fun i=>(i.zero,i.size,i.bytes))=some (some (.slice none 0 0),1,24):=by kernel_rfl
theorem KG:(Tryz.prog.info? 3).map (fun i=>(i.zero,i.size,i.bytes))=some (some (.int .i64 0),1,8):=by kernel_rfl
def jdW(w:World)(b:Nat):Nat:=match w.cell? ⟨b,2,none⟩ with | some (.slice _ n _)=>n | _=>0
theorem KJ{D:List UInt8->Bool}{s r:List UInt8}{bds:List (List UInt8)}(h:jbm D s bds r):s.length=(bds.flatMap Fr.fullR).length+r.length:=by
 rw[h.eq,jh7]
theorem jcU:Jt []=none:=by
 cases h:Jt []with
 | none=>rfl
 | some eds =>
 obtain⟨_,h1,_,h2⟩:=JU.1 h
 cases eds with
 | nil=>exact absurd h1 (by decide)
 | cons a r =>
 have:=congrArg List.length h2
 unfold jC zp jfb jr at this
 simp at this
theorem jcM{lo:Nat}{W:World}{q k:Nat}(hq:lo<=q)(h:jd W q 56 #[.int .i64 (k:Int),.iface 43 (.int .i64 10)]):jz lo W (.iface 54 (.pointer (some ⟨q,0,none⟩))) k 10 :=
 ⟨q,hq,rfl,by rw[zk 10 (by decide)];exact h⟩
theorem jaa{w w7:World}(hB:Below w.heap.size w w7)(C7:jd w7 w.heap.size 26 #[.int .i64 0,.string ⟨#[]⟩,.slice none 0 0,.slice none 0 0,.string ⟨#[]⟩])(k:Nat):
  Below w.heap.size w ((((((w7.alloc (.cells #[.int .i64 (k:Int),.iface 43 (.int .i64 10)] 56)).setCell ⟨w.heap.size,0,none⟩ (.int .i64 0)).setCell ⟨w.heap.size,1,none⟩ (.string ⟨#[]⟩)).setCell ⟨w.heap.size,2,none⟩ (.slice none 0 0)).setCell ⟨w.heap.size,3,none⟩ (.slice none 0 0)).setCell ⟨w.heap.size,4,none⟩ (.string ⟨#[]⟩)).drew /\
  jd ((((((w7.alloc (.cells #[.int .i64 (k:Int),.iface 43 (.int .i64 10)] 56)).setCell ⟨w.heap.size,0,none⟩ (.int .i64 0)).setCell ⟨w.heap.size,1,none⟩ (.string ⟨#[]⟩)).setCell ⟨w.heap.size,2,none⟩ (.slice none 0 0)).setCell ⟨w.heap.size,3,none⟩ (.slice none 0 0)).setCell ⟨w.heap.size,4,none⟩ (.string ⟨#[]⟩)).drew w.heap.size 26 #[.int .i64 0,.string ⟨#[]⟩,.slice none 0 0,.slice none 0 0,.string ⟨#[]⟩] /\
  jz w.heap.size ((((((w7.alloc (.cells #[.int .i64 (k:Int),.iface 43 (.int .i64 10)] 56)).setCell ⟨w.heap.size,0,none⟩ (.int .i64 0)).setCell ⟨w.heap.size,1,none⟩ (.string ⟨#[]⟩)).setCell ⟨w.heap.size,2,none⟩ (.slice none 0 0)).setCell ⟨w.heap.size,3,none⟩ (.slice none 0 0)).setCell ⟨w.heap.size,4,none⟩ (.string ⟨#[]⟩)).drew (.iface 54 (.pointer (some ⟨w7.heap.size,0,none⟩))) k 10:=by
 have hF:=jd.new w7 56 #[.int .i64 (k:Int),.iface 43 (.int .i64 10)]
 have hb:Below w.heap.size w (w7.alloc (.cells #[.int .i64 (k:Int),.iface 43 (.int .i64 10)] 56)):=hB.alloc hB.size _
 obtain⟨h1,h2⟩:=jdD (C7.alloc (.cells #[.int .i64 (k:Int),.iface 43 (.int .i64 10)] 56)) (.int .i64 0) (.string ⟨#[]⟩) (.slice none 0 0) (.slice none 0 0) (.string ⟨#[]⟩)
 have hlt:=C7.lt
 exact⟨(hb.trans (h2.to_below hb.size (fun r hr e=>by omega))).drew,h1.drew,jcM hB.size ((hF.only h2 (fun e=>by omega)).drew)⟩
theorem GZ{w w7:World}(hB:Below w.heap.size w w7)(C7:jd w7 w.heap.size 26 #[.int .i64 0,.string ⟨#[]⟩,.slice none 0 0,.slice none 0 0,.string ⟨#[]⟩])(k:Nat):
  Below w.heap.size w ((((((w7.setCell ⟨w.heap.size,0,none⟩ (.int .i64 0)).setCell ⟨w.heap.size,1,none⟩ (.string ⟨#[]⟩)).setCell ⟨w.heap.size,2,none⟩ (.slice none 0 0)).setCell ⟨w.heap.size,3,none⟩ (.slice none 0 0)).setCell ⟨w.heap.size,4,none⟩ (.string ⟨#[]⟩)).alloc (.cells #[.int .i64 (k:Int),.iface 43 (.int .i64 10)] 56)).drew /\
  jd ((((((w7.setCell ⟨w.heap.size,0,none⟩ (.int .i64 0)).setCell ⟨w.heap.size,1,none⟩ (.string ⟨#[]⟩)).setCell ⟨w.heap.size,2,none⟩ (.slice none 0 0)).setCell ⟨w.heap.size,3,none⟩ (.slice none 0 0)).setCell ⟨w.heap.size,4,none⟩ (.string ⟨#[]⟩)).alloc (.cells #[.int .i64 (k:Int),.iface 43 (.int .i64 10)] 56)).drew w.heap.size 26 #[.int .i64 0,.string ⟨#[]⟩,.slice none 0 0,.slice none 0 0,.string ⟨#[]⟩] /\
  jz w.heap.size ((((((w7.setCell ⟨w.heap.size,0,none⟩ (.int .i64 0)).setCell ⟨w.heap.size,1,none⟩ (.string ⟨#[]⟩)).setCell ⟨w.heap.size,2,none⟩ (.slice none 0 0)).setCell ⟨w.heap.size,3,none⟩ (.slice none 0 0)).setCell ⟨w.heap.size,4,none⟩ (.string ⟨#[]⟩)).alloc (.cells #[.int .i64 (k:Int),.iface 43 (.int .i64 10)] 56)).drew (.iface 54 (.pointer (some ⟨w7.heap.size,0,none⟩))) k 10:=by
 obtain⟨h1,h2⟩:=jdD C7 (.int .i64 0) (.string ⟨#[]⟩) (.slice none 0 0) (.slice none 0 0) (.string ⟨#[]⟩)
 have hlt:=C7.lt
 have hb:=hB.trans (h2.to_below hB.size (fun r hr e=>by omega))
 have hz:(((((w7.setCell ⟨w.heap.size,0,none⟩ (.int .i64 0)).setCell ⟨w.heap.size,1,none⟩ (.string ⟨#[]⟩)).setCell ⟨w.heap.size,2,none⟩ (.slice none 0 0)).setCell ⟨w.heap.size,3,none⟩ (.slice none 0 0)).setCell ⟨w.heap.size,4,none⟩ (.string ⟨#[]⟩)).heap.size=w7.heap.size:=by simp[World.setCell]
 have hF:=jd.new (((((w7.setCell ⟨w.heap.size,0,none⟩ (.int .i64 0)).setCell ⟨w.heap.size,1,none⟩ (.string ⟨#[]⟩)).setCell ⟨w.heap.size,2,none⟩ (.slice none 0 0)).setCell ⟨w.heap.size,3,none⟩ (.slice none 0 0)).setCell ⟨w.heap.size,4,none⟩ (.string ⟨#[]⟩)) 56 #[.int .i64 (k:Int),.iface 43 (.int .i64 10)]
 rw[hz]at hF
 exact⟨(hb.alloc hb.size _).drew,(h1.alloc _).drew,jcM hB.size hF.drew⟩
theorem vY(t:List UInt8)(ht:t.length<=100000)(hbs:(vk (t.drop (hl (Hd.genP t)))).length<=60000)(w:World)(hT:XP w):
  Calls Tryz.prog 5 #[.string (B t)] w fun e w'=>jbf w w' t e:=by
 obtain⟨i1,hi,hz0,hz1,hib⟩:=info_parts KG
 obtain⟨i2,hiB,hB0,hB1,hBb⟩:=info_parts jcs
 have hsz:(B t).size=t.length:=je t
 have hgen:=Hd.genP_is t
 have hn:=Hd.gen_lt hgen
 have hhl:=jf4 hgen
 generalize hnn:Hd.genP t=n at *
 obtain⟨w0,hw0⟩:∃z,w.alloc (.cells #[.int .i64 0,.string ⟨#[]⟩,.slice none 0 0,.slice none 0 0,.string ⟨#[]⟩] 26)=z:=⟨_,rfl⟩
 have hb0:Below w.heap.size w w0:=by rw[<- hw0];exact(jh8 _ w).alloc (jh6 _) _
 have hz:w0.heap.size=w.heap.size+1:=by rw[<- hw0];simp
 have C0:jd w0 w.heap.size 26 #[.int .i64 0,.string ⟨#[]⟩,.slice none 0 0,.slice none 0 0,.string ⟨#[]⟩]:=by rw[<- hw0];exact jd.new _ _ _
 have TB:Hid (∀W,Below w.heap.size w W->XP W):=fun W hW=>hT.below hW (jh6 _)
 have TK0:=Hd.take_any t ht w0 (TB.out w0 hb0).tab
 rw[hnn]at TK0
 have TK:=jh5 TK0
 have HB0:=jh5 hb0
 have HC0:=jh5 C0
 have HW0:=jh5 hw0
 have q1:¬(120000:Int)<((B t).size:Int):=by omega
 have hlen:(t.drop (hl n)).length<=100000:=by rw[jik];omega
 have HZ:=jh5 hz
 clear hT TK0 hb0 C0 hw0 hz
 go_enter Tryz.func5,Tryz.ntmps5
 go_wp2_with fail
 rw[HW0.out]
 refine TK.out.mono ?_
 rintro e w1 ⟨rfl,b1⟩
 have HB1:=jh5 (HB0.out.trans (b1.mono HB0.out.size))
 have hs1:=b1.size
 have HC1:=jh5 (jb HC0.out b1 HC0.out.lt)
 have BS:=jh5 (jeH (t.drop (hl n)) hlen w1)
 have HSP:=jh5 (Vu (t.drop (hl n)))
 have HBH:=jh5 (Uo (t.drop (hl n)))
 have hbl:(vk (t.drop (hl n))).length<=(t.drop (hl n)).length:=by
  have:=congrArg List.length HSP.out
  rw[jh7]at this
  omega
 clear TK b1
 rw[jcw]
 generalize hbase:vk (t.drop (hl n))=base at *
 go_wp2_with fail
 refine BS.out.mono ?_
 rintro e w2 ⟨rfl,b2⟩
 have HB2:=jh5 (HB1.out.trans (b2.mono HB1.out.size))
 have hs2:=b2.size
 obtain⟨w3,hw3⟩:∃z,w2.alloc (.cells #[.int .i64 (n:Int),.string (B base),.slice none 0 0,.slice none 0 0,.string ⟨#[]⟩] 26)=z:=⟨_,rfl⟩
 have b23:Below w2.heap.size w2 w3:=by rw[<- hw3];exact(jh8 _ _).alloc (jh6 _) _
 have C3:jd w3 w2.heap.size 26 #[.int .i64 (n:Int),.string (B base),.slice none 0 0,.slice none 0 0,.string ⟨#[]⟩]:=by rw[<- hw3];exact jd.new _ _ _
 have HC2:=jh5 (jb HC1.out (b2.trans (b23.mono b2.size)) HC1.out.lt)
 have HB3:=jh5 (HB2.out.trans (b23.mono HB2.out.size))
 have PA:=jh5 (Kt (B base) (by rw[je];exact hbs) w3)
 rw[ji]at PA
 have HC3:=jh5 C3
 have HW3:=jh5 hw3
 have hs3:=b23.size
 have hlt3:=C3.lt
 have hlow:w.heap.size+1<=w2.heap.size:=by have:=HZ.out;omega
 clear BS b2 b23 C3 hw3
 go_wp2_with fail
 rw[HW3.out]
 refine PA.out.mono ?_
 rintro e w4 hp4
 cases hp:za base with
 | error an =>
  obtain⟨a,k⟩:=an
  unfold Zd at hp4
  rw[hp]at hp4
  obtain⟨b4,u,rfl,hf⟩:=hp4
  have HB4:=jh5 (HB3.out.trans (b4.mono HB3.out.size))
  have HC4:=jh5 (jb HC2.out b4 HC2.out.lt)
  obtain⟨hput,honly⟩:=jdD HC4.out (.int .i64 0) (.string ⟨#[]⟩) (.slice none 0 0) (.slice none 0 0) (.string ⟨#[]⟩)
  have HF:Hid (jz w.heap.size (((((w4.setCell ⟨w.heap.size,0,none⟩ (.int .i64 0)).setCell ⟨w.heap.size,1,none⟩ (.string ⟨#[]⟩)).setCell ⟨w.heap.size,2,none⟩ (.slice none 0 0)).setCell ⟨w.heap.size,3,none⟩ (.slice none 0 0)).setCell ⟨w.heap.size,4,none⟩ (.string ⟨#[]⟩)) u a k):=by
   obtain⟨q,h0,h1,h2⟩:=hf
   exact⟨q,by omega,h1,h2.only honly (fun e=>by omega)⟩
  have HBF:=jh5 (HB4.out.trans (honly.to_below HB4.out.size (fun r hr e=>by omega)))
  have HPUT:=jh5 hput
  obtain⟨q,_,rfl,_⟩:=hf
  have c0:=HC4.out.cell 0
  have c1:=HC4.out.cell 1
  have c2:=HC4.out.cell 2
  have c3:=HC4.out.cell 3
  have c4:=HC4.out.cell 4
  have f0:=HC4.out.frozen 0
  have f1:=HC4.out.frozen 1
  have f2:=HC4.out.frozen 2
  have f3:=HC4.out.frozen 3
  have f4:=HC4.out.frozen 4
  simp only[jie,jid,jib]at c0 c1 c2 c3 c4
  have HP:=jh5 hp
  clear b4 hput honly PA hp
  go_wp2_with fail
  refine bodyPost_ret (QB rfl _ _ w.heap.size _ rfl HPUT.out rfl) rfl ?_
  exact⟨HBF.out,.inl ⟨a,k,_,by rw[hnn,hbase];exact HP.out,rfl,HF.out⟩⟩
 | ok its =>
 unfold Zd at hp4
 rw[hp]at hp4
 obtain⟨b4,u,rfl,_⟩:=hp4
 have hb4:=HB3.out.trans (b4.mono HB3.out.size)
 have hC4:=jb HC2.out b4 HC2.out.lt
 have hK4:=jb HC3.out b4 HC3.out.lt
 have HP:=jh5 hp
 have HGEN:=jh5 hgen
 clear PA b4 hp
 go_wp2_with fail
 go_loopw [9] (fun _ wr=>∃(bds:List (List UInt8)) (r:List UInt8) (bv ev:Value) (us:List Value),jbm Dc (t.drop (hl n+base.length)) bds r/\jd wr w2.heap.size 26 #[.int .i64 (n:Int),.string (B base),bv,ev,.string ⟨#[]⟩]/\Qs w.heap.size wr bv bds us/\wr.ownsRow w.heap.size 3 1 ev bds.length ((zh (hl n+base.length) bds).map jcP)/\jd wr w.heap.size 26 #[.int .i64 0,.string ⟨#[]⟩,.slice none 0 0,.slice none 0 0,.string ⟨#[]⟩]/\Below w.heap.size w wr) (fun _ wr=>t.length+1-jdW wr w2.heap.size)
 case atStart=>exact⟨[],_,_,_,[],⟨rfl,fun b h=>by cases h⟩,hK4,Qs.nil _ _,⟨rfl,.inl ⟨rfl,rfl⟩⟩,hC4,hb4⟩
 case round =>
 obtain⟨bds,r,bv,ev,us,hR,hK,hBt,hEv,hC,hb⟩:=hrel
 obtain⟨ba,bc,rfl,_⟩:=jg hBt.row
 obtain⟨ea,ec,rfl,_⟩:=jg hEv
 have hrl:=KJ hR
 rw[jik]at hrl
 have hbdl:=Vs bds
 have hblen:base.length+hl n<=t.length:=by rw[jik]at hbl;omega
 have hWe:jN n base bds=hl n+base.length+(bds.flatMap Fr.fullR).length:=rfl
 have hWle:jN n base bds<=t.length:=by omega
 have hdrop:t.drop (jN n base bds)=r:=by
  rw[hWe,Vk,hR.eq,jjj]
 have EX:Hid ((B t).extract (jN n base bds) t.length=B r):=by
  show _=_
  rw[<- hsz,Fr.ext_drop,hdrop]
 have hrlen:r.length<=700000:=by omega
 have BKR:yg w.heap.size wr (Jr n base (.slice ba bds.length bc) (.slice ea bds.length ec) []) n base bds []:=⟨_,_,us,rfl,hBt,hEv⟩
 have WH:=jh5 (Jw BKR (by omega) (TB.out wr hb))
 have k0:=hK.cell 0
 have k1:=hK.cell 1
 have k2:=hK.cell 2
 have k3:=hK.cell 3
 have k4:=hK.cell 4
 simp only[jie,jid,jib]at k0 k1 k2 k3 k4
 have HR:=jh5 hR
 have HK:=jh5 hK
 have HBT:=jh5 hBt
 have HEV:=jh5 hEv
 have HC:=jh5 hC
 have HB:=jh5 hb
 have HWE:=jh5 hWe
 have HRL:=jh5 hrl
 unfold Jr at WH
 clear hR hBt hEv hC hb hrl hdrop hWe BKR
 generalize hWW:jN n base bds=W at *
 have hWi:(W:Int)<=((B t).size:Int):=by omega
 go_wp2_with fail
 refine WH.out.mono ?_
 rintro e w5 ⟨rfl,b5⟩
 have HB5:=jh5 (HB.out.trans (b5.mono HB.out.size))
 have FR:=jh5 (Fr.read_any r hrlen w5 (TB.out w5 HB5.out).nums)
 have B45:=jh5 b5
 clear WH b5 k0 k1 k2 k3 k4 hK
 go_wp2_with fail
 rw[EX.out]
 refine FR.out.mono ?_
 rintro e w6 ⟨kk,bb,mm,hread,rfl,b6⟩
 have HB6:=jh5 (HB5.out.trans (b6.mono HB5.out.size))
 have B46:=jh5 (B45.out.trans (b6.mono B45.out.size))
 have K6:=jb HK.out B46.out HK.out.lt
 have C6:=jb HC.out B46.out HC.out.lt
 have T6:=HBT.out.below B46.out
 have E6:=jJ HEV.out B46.out (jh6 _)
 clear FR b6 B45
 unfold Fr.readV
 rcases hread with ⟨hwt,rfl,rfl⟩|⟨hpt,rfl,rfl,rfl⟩|⟨hnp,hnw,rfl,rfl,rfl⟩
 ·
  have hgb:=Fr.good_iff.1 hwt.1
  have DE:=jh5 (YG bb (by unfold maxLen;omega) w6 (TB.out w6 HB6.out).tabs)
  have hfl:(Fr.fullR bb).length<=r.length:=by
   obtain⟨_,m,e⟩:=hwt
   rw[e,jh7];omega
  go_wp2_with fail
  refine DE.out.mono ?_
  rintro e w7 ⟨b7,h7⟩
  have HB7:=jh5 (HB6.out.trans (b7.mono HB6.out.size))
  have hs7:=b7.size
  have K7:=jb K6 b7 K6.lt
  have C7:=jb C6 b7 C6.lt
  have T7:=T6.below b7
  have E7:=jJ E6 b7 (jh6 _)
  clear DE K6 C6 T6 E6
  rcases h7 with ⟨hd,rfl⟩|⟨eds,u7,fvs,hd,rfl,hO⟩
  ·have FB:Hid (jeR Dc r):=.inr ⟨bb,hwt,by unfold Dc;rw[hd];rfl⟩
   clear hwt hd T7 E7 b7
   have c70:=C7.cell 0
   have c71:=C7.cell 1
   have c72:=C7.cell 2
   have c73:=C7.cell 3
   have c74:=C7.cell 4
   have g70:=C7.frozen 0
   have g71:=C7.frozen 1
   have g72:=C7.frozen 2
   have g73:=C7.frozen 3
   have g74:=C7.frozen 4
   have m72:=K7.cell 2
   simp only[jie,jid,jib]at c70 c71 c72 c73 c74 m72
   have d70:∀o,(w7.alloc o).cell? ⟨w.heap.size,0,none⟩=_:=fun o=>((C7.alloc o).cell 0).trans rfl
   have d71:∀o,(w7.alloc o).cell? ⟨w.heap.size,1,none⟩=_:=fun o=>((C7.alloc o).cell 1).trans rfl
   have d72:∀o,(w7.alloc o).cell? ⟨w.heap.size,2,none⟩=_:=fun o=>((C7.alloc o).cell 2).trans rfl
   have d73:∀o,(w7.alloc o).cell? ⟨w.heap.size,3,none⟩=_:=fun o=>((C7.alloc o).cell 3).trans rfl
   have d74:∀o,(w7.alloc o).cell? ⟨w.heap.size,4,none⟩=_:=fun o=>((C7.alloc o).cell 4).trans rfl
   have h70:∀o,(w7.alloc o).frozen? ⟨w.heap.size,0,none⟩=false:=fun o=>(C7.alloc o).frozen 0
   have h71:∀o,(w7.alloc o).frozen? ⟨w.heap.size,1,none⟩=false:=fun o=>(C7.alloc o).frozen 1
   have h72:∀o,(w7.alloc o).frozen? ⟨w.heap.size,2,none⟩=false:=fun o=>(C7.alloc o).frozen 2
   have h73:∀o,(w7.alloc o).frozen? ⟨w.heap.size,3,none⟩=false:=fun o=>(C7.alloc o).frozen 3
   have h74:∀o,(w7.alloc o).frozen? ⟨w.heap.size,4,none⟩=false:=fun o=>(C7.alloc o).frozen 4
   have CA:=jh5 (jaa HB7.out C7 bds.length)
   have CB:=jh5 (GZ HB7.out C7 bds.length)
   clear K7 C7
   go_wp2_with fail
   go_region
   all_goals go_wp2_with fail
   ·refine bodyPost_ret (QB rfl _ _ w.heap.size _ rfl CA.out.2.1 rfl) rfl ?_
    exact⟨CA.out.1,.inr (.inl ⟨its,bds,r,_,by rw[hnn,hbase];exact HP.out,by rw[hnn,hbase];exact HR.out,FB.out,rfl,CA.out.2.2⟩)⟩
   refine bodyPost_ret (QB rfl _ _ w.heap.size _ rfl CB.out.2.1 rfl) rfl ?_
   exact⟨CB.out.1,.inr (.inl ⟨its,bds,r,_,by rw[hnn,hbase];exact HP.out,by rw[hnn,hbase];exact HR.out,FB.out,rfl,CB.out.2.2⟩)⟩
  have hO':vM w.heap.size w7 u7 (vO bb) fvs:=by
   have:vO bb=eds:=by unfold vO;rw[hd];rfl
   rw[this]
   exact⟨zd hO.row HB6.out.size,hO.len,fun i ed fv h1 h2=>zd (hO.each i ed fv h1 h2) HB6.out.size⟩
  have hDc:Dc bb=true:=by unfold Dc;rw[hd];rfl
  obtain⟨ua,uc,rfl,_⟩:=jg hO.row
  have RS:=jh5 (HR.out.snoc hwt hDc)
  have ES:Hid ((zh (hl n+base.length) (bds++[bb])).map jcP=(zh (hl n+base.length) bds).map jcP++[Value.int .i64 ((W:Int)+((Fr.fullR bb).length:Int))]):=by
   show _=_
   rw[vt,ji1,<- HWE.out]
   simp[jcP]
  have HO:=jh5 hO'
  have T7':=jh5 T7
  have E7':=jh5 E7
  have K7':=jh5 K7
  have C7':=jh5 C7
  have N1:∀(w3:World) (T:TypeId) (x:Value),Hid (∀(j:Nat) (u:Value),[x][j]?=some u->(w3.alloc (.cells #[x] T)).cell? ((⟨w3.heap.size,0,none⟩:Addr).add j)=some u):=fun w3 T x j u h=>by
   have ea:(⟨w3.heap.size,0,none⟩:Addr).add j=⟨w3.heap.size,j,none⟩:=by unfold Addr.add;split<;>simp_all
   rw[ea,(jd.new w3 T #[x]).cell j]
   simpa using h
  have N1b:∀(w3:World) (b:Nat) (T:TypeId) (x:Value),w3.heap.size=b->Hid (∀(j:Nat) (u:Value),[x][j]?=some u->(w3.alloc (.cells #[x] T)).cell? ((⟨b,0,none⟩:Addr).add j)=some u):=fun w3 b T x hb j u h=>by
   rw[<- hb];exact(N1 w3 T x).out j u h
  have k2:=K7.cell 2
  have f2:=K7.frozen 2
  simp only[jie,jid,jib]at k2
  have hlo7:w.heap.size<=w7.heap.size:=HB7.out.size
  have hkl:w2.heap.size<w7.heap.size:=K7.lt
  have hbd1:bds.length+(Fr.fullR bb).length<=t.length:=by have:=HRL.out;omega
  clear hwt hd hO hO' hDc T7 E7 K7 C7 b7
  generalize hm:(Fr.fullR bb).length=m at *
  have hwm:IntKind.i64.wrap ((W:Int)+(m:Int))=(W:Int)+(m:Int):=jiz _ (by have:=HRL.out;have:=HWE.out;omega)
  go_wp2_with (at_builtin;refine jP rfl _ _ 23 rfl w.heap.size 37 i2 _ 1 24 Tryz.underlying23 hiB hB0 hB1 hBb rfl (by decide) _ _ _ rfl (T7'.out.row.alloc _) _ 1 1 [.slice ua eds.length uc] rfl rfl (N1 _ _ _).out (by intro u hu;simp at hu;subst hu;rfl) (by unfold maxLen;omega) (by omega) (by simp only[jiO];omega) ?_)
  intro bv8 W8 own8 grow8 at8
  have hb8:Below w7.heap.size w7 (w7.alloc (.cells #[.slice ua eds.length uc] 37)):=(jh8 _ _).alloc (jh6 _) _
  have o8:zH (fun r=>(Value.slice ba bds.length bc).ownBlock=some r) w7 W8:=(zH.of_below (S:=fun r=>(Value.slice ba bds.length bc).ownBlock=some r) hb8 (jh6 _)).grown grow8 (fun r e=>.inl e)
  have T8:=T7'.out.snoc HO.out own8 o8
  have E8:=zf E7'.out o8 (fun b e q=>zq T7'.out.row E7'.out (by decide) b q e)
  have K8:=K7'.out.only o8 (fun e=>jx T7'.out.row K7'.out (by decide) e)
  have C8:=C7'.out.only o8 (fun e=>jx T7'.out.row C7'.out (by decide) e)
  have B8:=HB7.out.trans (o8.to_below hlo7 (fun r hr e=>by have:=(T7'.out.row.lt r e).1;omega))
  have hs8:=o8.size
  obtain⟨ba8,bc8,rfl,_⟩:=jg own8
  have K9:=K8.set 2 (.slice ba8 (bds.length+1) bc8)
  rw[show(#[Value.int .i64 (n:Int),.string (B base),.slice ba bds.length bc,.slice ea bds.length ec,.string ⟨#[]⟩]:Array Value).setIfInBounds 2 (.slice ba8 (bds.length+1) bc8)=#[.int .i64 (n:Int),.string (B base),.slice ba8 (bds.length+1) bc8,.slice ea bds.length ec,.string ⟨#[]⟩] from rfl]at K9
  have o9:zH (· = w2.heap.size) W8 (W8.setCell ⟨w2.heap.size,2,none⟩ (.slice ba8 (bds.length+1) bc8)):=(zH.refl (· = w2.heap.size) W8).cellS 2 _
  have T9:=T8.box K8 (by decide) (by decide) (by decide) o9
  have E9:=zf E8 o9 (fun b e q=>jx E8 K8 (by decide) (by rw[e,q]))
  have C9:=C8.only o9 (fun e=>by omega)
  have B9:=B8.trans (o9.to_below B8.size (fun r hr e=>by omega))
  have kc2:=K8.cell 2
  have kf2:=K8.frozen 2
  have k93:=K9.cell 3
  have f93:=K9.frozen 3
  simp only[jie,jid,jib]at kc2 k93
  have HT9:=jh5 T9
  have HE9:=jh5 E9
  have HK9:=jh5 K9
  have HC9:=jh5 C9
  have HB9:=jh5 B9
  have hs9:=o9.size
  have HSZ:Hid ((W8.setCell ⟨w2.heap.size,2,none⟩ (.slice ba8 (bds.length+1) bc8)).heap.size=W8.heap.size):=by
   show _=_
   simp[World.setCell]
  clear own8 grow8 at8 hb8 o8 T8 E8 K8 C8 B8 K9 o9 T9 E9 C9 B9 T7' E7' K7' C7' HO k2 f2
  go_wp2_with (at_builtin;refine jP rfl _ _ 24 rfl w.heap.size 3 i1 _ 1 8 Tryz.underlying24 hi hz0 hz1 hib rfl (by decide) _ _ _ rfl (HE9.out.alloc _) _ 1 1 [.int .i64 ((W:Int)+(m:Int))] rfl rfl (by first | exact(N1b _ _ _ _ HSZ.out).out | exact(N1 _ _ _).out) (by intro u hu;simp at hu;subst hu;rfl) (by unfold maxLen;omega) (by omega) (by simp only[jiO];omega) ?_)
  intro ev10 W10 own10 grow10 at10
  generalize hw9:W8.setCell ⟨w2.heap.size,2,none⟩ (.slice ba8 (bds.length+1) bc8)=W9 at *
  have hb10:Below W9.heap.size W9 (W9.alloc (.cells #[.int .i64 ((W:Int)+(m:Int))] 3)):=(jh8 _ _).alloc (jh6 _) _
  have o10:zH (fun r=>(Value.slice ea bds.length ec).ownBlock=some r) W9 W10:=(zH.of_below (S:=fun r=>(Value.slice ea bds.length ec).ownBlock=some r) hb10 (jh6 _)).grown grow10 (fun r e=>.inl e)
  have T10:=HT9.out.beside HE9.out (by decide) (by decide) (by decide) o10
  have K10:=HK9.out.only o10 (fun e=>jx HE9.out HK9.out (by decide) e)
  have C10:=HC9.out.only o10 (fun e=>jx HE9.out HC9.out (by decide) e)
  have B10:=HB9.out.trans (o10.to_below HB9.out.size (fun r hr e=>by have:=(HE9.out.lt r e).1;omega))
  obtain⟨ea10,ec10,rfl,_⟩:=jg own10
  have K11:=K10.set 3 (.slice ea10 (bds.length+1) ec10)
  rw[show(#[Value.int .i64 (n:Int),.string (B base),.slice ba8 (bds.length+1) bc8,.slice ea bds.length ec,.string ⟨#[]⟩]:Array Value).setIfInBounds 3 (.slice ea10 (bds.length+1) ec10)=#[.int .i64 (n:Int),.string (B base),.slice ba8 (bds.length+1) bc8,.slice ea10 (bds.length+1) ec10,.string ⟨#[]⟩] from rfl]at K11
  have o11:zH (· = w2.heap.size) W10 (W10.setCell ⟨w2.heap.size,3,none⟩ (.slice ea10 (bds.length+1) ec10)):=(zH.refl (· = w2.heap.size) W10).cellS 3 _
  have T11:=jh5 (T10.box K10 (by decide) (by decide) (by decide) o11)
  have E11:=jh5 (zf own10 o11 (fun b e q=>jx own10 K10 (by decide) (by rw[e,q])))
  have C11:=jh5 (C10.only o11 (fun e=>by omega))
  have B11:=jh5 (B10.trans (o11.to_below B10.size (fun r hr e=>by omega)))
  have HK11:=jh5 K11
  have kc3:=K10.cell 3
  have kf3:=K10.frozen 3
  have l2:=K11.cell 2
  simp only[jie,jid,jib]at kc3 l2
  have L2:=jh5 l2
  have LW:=jh5 (show jdW wr w2.heap.size=bds.length by unfold jdW;rw[HK.out.cell];rfl)
  clear own10 grow10 at10 hb10 o10 T10 K10 C10 B10 K11 o11 l2 HT9 HE9 HK9 HC9 HB9 kc2 kf2 k93 f93
  go_wp2_with fail
  go_roundw
  case rel=>exact⟨bds++[bb],_,_,_,_,RS.out,HK11.out,T11.out,by rw[ES.out,jh7];exact E11.out,C11.out,B11.out⟩
  case measure =>
  have h1:=LW.out
  rw[h1]
  unfold jdW
  rw[L2.out]
  show t.length+1-(bds.length+1)<t.length+1-bds.length
  omega
 ·
  have K7:=K6.set 4 (.string (B r))
  rw[show(#[Value.int .i64 (n:Int),.string (B base),.slice ba bds.length bc,.slice ea bds.length ec,.string ⟨#[]⟩]:Array Value).setIfInBounds 4 (.string (B r))=#[.int .i64 (n:Int),.string (B base),.slice ba bds.length bc,.slice ea bds.length ec,.string (B r)] from rfl]at K7
  have o7:zH (· = w2.heap.size) w6 (w6.setCell ⟨w2.heap.size,4,none⟩ (.string (B r))):=(zH.refl (· = w2.heap.size) w6).cellS 4 _
  have C7:=C6.only o7 (fun e=>by omega)
  have T7:=T6.box K6 (by decide) (by decide) (by decide) o7
  have E7:=zf E6 o7 (fun b e q=>jx E6 K6 (by decide) (by rw[e,q]))
  obtain⟨P8,o8⟩:=jdD C7 (.int .i64 (n:Int)) (.string (B base)) (.slice ba bds.length bc) (.slice ea bds.length ec) (.string (B r))
  have T8:=T7.box C7 (by decide) (by decide) (by decide) o8
  have E8:=zf E7 o8 (fun b e q=>jx E7 C7 (by decide) (by rw[e,q]))
  have HP8:=jh5 P8
  have B7:=HB6.out.trans (o7.to_below HB6.out.size (fun r hr e=>by omega))
  have B8:=jh5 (B7.trans (o8.to_below B7.size (fun r hr e=>by omega)))
  have BR:=jh5 (show yg w.heap.size _ (Jr n base (.slice ba bds.length bc) (.slice ea bds.length ec) r) n base bds r from⟨_,_,us,rfl,T8,E8⟩)
  have SND:=jh5 (show xO Dc t n base bds r from⟨HGEN.out,⟨its,HP.out⟩,hbase,HR.out,hpt⟩)
  have f64:=K6.frozen 4
  have kk4:=K6.cell 4
  have c70:=C7.cell 0
  have c71:=C7.cell 1
  have c72:=C7.cell 2
  have c73:=C7.cell 3
  have c74:=C7.cell 4
  have g70:=C7.frozen 0
  have g71:=C7.frozen 1
  have g72:=C7.frozen 2
  have g73:=C7.frozen 3
  have g74:=C7.frozen 4
  have m70:=K7.cell 0
  have m71:=K7.cell 1
  have m72:=K7.cell 2
  have m73:=K7.cell 3
  have m74:=K7.cell 4
  simp only[jie,jid,jib]at kk4 c70 c71 c72 c73 c74 m70 m71 m72 m73 m74
  clear K6 C6 T6 E6 K7 o7 C7 T7 E7 P8 o8 T8 E8 B7 hpt
  go_upto_region 12 with fail
  rw[EX.out]
  go_wp2_with fail
  refine bodyPost_ret (QB rfl _ _ w.heap.size _ rfl HP8.out rfl) rfl ?_
  exact⟨B8.out,.inr (.inr ⟨base,bds,r,_,by rw[hnn];exact SND.out,rfl,by rw[hnn];exact BR.out⟩)⟩
 -- no record,no tail
 have DE:=jh5 (YG [] (by decide) w6 (TB.out w6 HB6.out).tabs)
 have FB:Hid (jeR Dc r):=.inl ⟨hnp,hnw⟩
 have DN:=jh5 jcU
 clear hnp hnw
 go_wp2_with fail
 refine DE.out.mono ?_
 rintro e w7 ⟨b7,h7⟩
 have HB7:=jh5 (HB6.out.trans (b7.mono HB6.out.size))
 have hs7:=b7.size
 have K7:=jb K6 b7 K6.lt
 have C7:=jb C6 b7 C6.lt
 clear DE K6 C6 T6 E6 b7
 rcases h7 with ⟨hd,rfl⟩|⟨eds,u7,fvs,hd,_⟩
 rotate_left
 ·rw[DN.out]at hd;cases hd
 have c70:=C7.cell 0
 have c71:=C7.cell 1
 have c72:=C7.cell 2
 have c73:=C7.cell 3
 have c74:=C7.cell 4
 have g70:=C7.frozen 0
 have g71:=C7.frozen 1
 have g72:=C7.frozen 2
 have g73:=C7.frozen 3
 have g74:=C7.frozen 4
 have m72:=K7.cell 2
 simp only[jie,jid,jib]at c70 c71 c72 c73 c74 m72
 have d70:∀o,(w7.alloc o).cell? ⟨w.heap.size,0,none⟩=_:=fun o=>((C7.alloc o).cell 0).trans rfl
 have d71:∀o,(w7.alloc o).cell? ⟨w.heap.size,1,none⟩=_:=fun o=>((C7.alloc o).cell 1).trans rfl
 have d72:∀o,(w7.alloc o).cell? ⟨w.heap.size,2,none⟩=_:=fun o=>((C7.alloc o).cell 2).trans rfl
 have d73:∀o,(w7.alloc o).cell? ⟨w.heap.size,3,none⟩=_:=fun o=>((C7.alloc o).cell 3).trans rfl
 have d74:∀o,(w7.alloc o).cell? ⟨w.heap.size,4,none⟩=_:=fun o=>((C7.alloc o).cell 4).trans rfl
 have h70:∀o,(w7.alloc o).frozen? ⟨w.heap.size,0,none⟩=false:=fun o=>(C7.alloc o).frozen 0
 have h71:∀o,(w7.alloc o).frozen? ⟨w.heap.size,1,none⟩=false:=fun o=>(C7.alloc o).frozen 1
 have h72:∀o,(w7.alloc o).frozen? ⟨w.heap.size,2,none⟩=false:=fun o=>(C7.alloc o).frozen 2
 have h73:∀o,(w7.alloc o).frozen? ⟨w.heap.size,3,none⟩=false:=fun o=>(C7.alloc o).frozen 3
 have h74:∀o,(w7.alloc o).frozen? ⟨w.heap.size,4,none⟩=false:=fun o=>(C7.alloc o).frozen 4
 have CA:=jh5 (jaa HB7.out C7 bds.length)
 have CB:=jh5 (GZ HB7.out C7 bds.length)
 clear K7 C7
 go_wp2_with fail
 go_region
 all_goals go_wp2_with fail
 ·refine bodyPost_ret (QB rfl _ _ w.heap.size _ rfl CA.out.2.1 rfl) rfl ?_
  exact⟨CA.out.1,.inr (.inl ⟨its,bds,r,_,by rw[hnn,hbase];exact HP.out,by rw[hnn,hbase];exact HR.out,FB.out,rfl,CA.out.2.2⟩)⟩
 refine bodyPost_ret (QB rfl _ _ w.heap.size _ rfl CB.out.2.1 rfl) rfl ?_
 exact⟨CB.out.1,.inr (.inl ⟨its,bds,r,_,by rw[hnn,hbase];exact HP.out,by rw[hnn,hbase];exact HR.out,FB.out,rfl,CB.out.2.2⟩)⟩
end Go.Proofs.YtmdhainabeljpaaGreatDoor.Bk
namespace Go.Proofs.YtmdhainabeljpaaGreatDoor
open Go.RowKit Go.Shelf
attribute [local go_sem] jil
end Go.Proofs.YtmdhainabeljpaaGreatDoor
namespace Go.Proofs.YtmdhainabeljpaaGreatDoor
open Go.RowKit Go.Shelf
end Go.Proofs.YtmdhainabeljpaaGreatDoor
namespace Go.Proofs.YtmdhainabeljpaaGreatDoor
open Go.RowKit Go.Shelf
attribute [local go_sem] jil
end Go.Proofs.YtmdhainabeljpaaGreatDoor
namespace Go.Proofs.YtmdhainabeljpaaGreatDoor
end Go.Proofs.YtmdhainabeljpaaGreatDoor
namespace Go.Proofs.YtmdhainabeljpaaGreatDoor
open Go.RowKit Go.Shelf
end Go.Proofs.YtmdhainabeljpaaGreatDoor
namespace Go.Proofs.YtmdhainabeljpaaGreatDoor
open Go.RowKit Go.Shelf
attribute [local go_sem] jil
section
variable {w:World} {lb:Nat} {ev v:Value} {ps qs:List Pr} {nx:Int}
end
end Go.Proofs.YtmdhainabeljpaaGreatDoor
namespace Go.Proofs.YtmdhainabeljpaaGreatDoor
end Go.Proofs.YtmdhainabeljpaaGreatDoor
namespace Go.Proofs.YtmdhainabeljpaaGreatDoor
open Go.RowKit Go.Shelf
attribute [local go_sem] jil
def jeN(w:World)(v:Value)(zs:List Int):Prop :=
 ∃A cap,v=.slice A zs.length cap/\zs.length<=cap/\∀(i:Nat) (z:Int),zs[i]?=some z->∃b off,A=some ⟨b,off,none⟩/\b<w.heap.size/\w.cell? ⟨b,off+i,none⟩=some (.int .i64 z)
theorem jdO{w:World}{lo:Nat}{v:Value}{zs:List Int}(h:w.ownsRow lo 3 1 v zs.length (zs.map jhU)):jeN w v zs:=by
 by_cases h0:zs=[]
 ·subst h0
  obtain⟨A,c,rfl,hle⟩:=jg h
  exact⟨A,c,rfl,hle,fun i z hi=>by simp at hi⟩
 have hn:zs.length≠0:=fun e=>h0 (List.length_eq_zero_iff.1 e)
 have hrow:=h
 obtain⟨g,cap,hug⟩:=jjd hrow (by omega)
 have hle:zs.length<=cap:=by
  obtain⟨A,c,e,hle⟩:=jg h
  rw[hug]at e;cases e;exact hle
 rw[hug]at hrow
 refine⟨_,cap,hug,hle,fun i z hi => ?_⟩
 have hil:=(List.getElem?_eq_some_iff.1 hi).1
 refine⟨g,0,rfl,(hrow.lt g rfl).2,?_⟩
 have:=jin hrow i (by omega)
 rw[jiH,this,ji3,hi];rfl
theorem jcr(zs:List Int)(v v':Value)(w:World)(h:jeN w v zs)(h':jeN w v' zs)(hn:zs.length<=1000000):
  Calls Tryz.prog 24 #[v,v'] w fun e w'=>e=.returned (.bool true)/\Below w.heap.size w w':=by
 obtain⟨A,cap,rfl,hle,hc⟩:=h
 obtain⟨A',cap',rfl,hle',hc'⟩:=h'
 have PC:=jh5 hc
 have PC':=jh5 hc'
 clear hc hc'
 go_enter Tryz.func24,Tryz.ntmps24
 go_wp2_with fail
 go_loopw [13] (fun i wr=>∃k:Nat,k<=zs.length/\i=.int .i64 k/\Below w.heap.size w wr) (fun i _=>zs.length-(intOf i).toNat)
 case atStart=>exact⟨0,jii _,rfl,jh8 _ _⟩
 case round =>
 obtain⟨k,hk,rfl,hb⟩:=hrel
 by_cases hlt:k<zs.length
 ·obtain⟨z,hz⟩:∃z,zs[k]?=some z:=⟨_,jia hlt⟩
  obtain⟨b,off,rfl,hbb,c0⟩:=PC.out k z hz
  obtain⟨b',off',rfl,hbb',c0'⟩:=PC'.out k z hz
  replace c0:=(hb.cell (p:=⟨b,off+k,none⟩) hbb).trans c0
  replace c0':=(hb.cell (p:=⟨b',off'+k,none⟩) hbb').trans c0'
  have hne:(z != z)=false:=by simp
  have HB:=jh5 hb
  have HBQ:Hid (∀m,Below w.heap.size w (wr.drewN m)):=fun m=>qT HB.out m
  clear hz PC PC' hb
  go_wp2_with (go_quiet (fail))
  go_roundw
  case rel=>exact⟨k+1,hlt,by go_num,by first | exact HB.out | exact HBQ.out _ | exact HB.out.drew⟩
  case measure=>simp[intOf];omega
 obtain rfl:k=zs.length:=by omega
 clear PC PC'
 go_wp2_with fail
 go_ret
 exact⟨rfl,hb⟩
end Go.Proofs.YtmdhainabeljpaaGreatDoor
namespace Go.Proofs.YtmdhainabeljpaaGreatDoor.Bk
open Go.RowKit Go.Shelf
attribute [local go_sem] jil
theorem jbf.sound{w w':World}{t base tail:List UInt8}{n:Nat}{bds:List (List UInt8)}{e:Ending}(h:jbf w w' t e)(s:xO Dc t n base bds tail):
  Below w.heap.size w w'/\∃v,e=.returned (.tuple #[v,.nilIface])/\yg w.heap.size w' v n base bds tail:=by
 obtain⟨hb,h⟩:=h
 refine⟨hb,?_⟩
 have hn:Hd.genP t=n:=Hd.gen_one (Hd.genP_is t) s.gen
 rw[hn]at h
 obtain⟨its,hp⟩:=s.parse
 have hB:=s.isB
 rcases h with ⟨a,k,u,h1,_⟩|⟨its',bds',r,u,h1,h2,h3,_⟩|⟨base',bds',tail',v,h1,rfl,h2⟩
 ·rw[hB,hp]at h1;cases h1
 ·rw[hB]at h2
  obtain⟨rfl,rfl⟩:=xH h2 s.recd (.inr h3) (.inl s.fin)
  exact(GP s.fin h3).elim
 have hbb:base'=base:=by rw[<- h1.isB,hB]
 subst hbb
 obtain⟨rfl,rfl⟩:=xH h1.recd s.recd (.inl h1.fin) (.inl s.fin)
 exact⟨v,rfl,h2⟩
theorem xM(t:List UInt8)(n:Nat):(vk (t.drop n)).length<=t.length:=by
 have h1:=JZ (t.drop n)
 have h2:=GX (t.drop n)
 have h3:(t.drop n).length<=t.length:=by rw[jik];omega
 omega
def jgx:List UInt8:=[65,58,32,49,10,37,97,109]
theorem jep:xO Dc jgx 0 [65,58,32,49,10] [] [37,97,109]:=by
 have hh:hl 0=0:=rfl
 refine⟨Hd.gen_short (by decide),⟨_,(by kernel_rfl:za [65,58,32,49,10]=.ok [⟨3,[65,58,32,49,10],[([65],[49])]⟩])⟩,by kernel_rfl,⟨rfl,fun b h=>by cases h⟩,?_⟩
 exact Fr.full_begins (b:=[32,10]) (by decide) (k:=3) (by have:=Xw [32,10];omega)
theorem Uv(w:World)(hT:XP w):Calls Tryz.prog 4 #[] w fun e w'=>e=.returned (.bool true)/\Below w.heap.size w w':=by
 have RD:=jh5 (vY jgx (by decide) (by have:=xM jgx (hl (Hd.genP jgx));have e:jgx.length=8:=rfl;omega) w hT)
 have TB:Hid (∀W,Below w.heap.size w W->XP W):=fun W hW=>hT.below hW (jh6 _)
 have eB:(⟨#[65,58,32,49,10,37,97,109]⟩:ByteArray)=B jgx:=rfl
 go_enter Tryz.func4,Tryz.ntmps4
 rw[eB]
 go_wp2_with fail
 refine RD.out.mono ?_
 rintro e w1 hr
 obtain⟨b1,v,rfl,hBR⟩:=hr.sound jep
 have BR1:=hBR
 obtain⟨bv,ev,us,rfl,hBt,hEv⟩:=hBR.is
 obtain⟨ba,bc,rfl,_⟩:=jg hBt.row
 obtain⟨ea,ec,rfl,_⟩:=jg hEv
 unfold Jr at *
 obtain⟨w2,hw2⟩:∃z,w1.alloc (.cells #[.int .i64 0,.string (B [65,58,32,49,10]),.slice ba 0 bc,.slice ea 0 ec,.string (B [37,97,109])] 26)=z:=⟨_,rfl⟩
 have b12:Below w1.heap.size w1 w2:=by rw[<- hw2];exact(jh8 _ _).alloc (jh6 _) _
 have B2:=jh5 (b1.trans (b12.mono b1.size))
 have BR2:=BR1.below b12
 have SZ:=jh5 (fun W (hW:Below w2.heap.size w2 W)=>size_any (BR2.below hW) (by decide) (TB.out W (B2.out.trans (hW.mono B2.out.size))))
 have WH:=jh5 (fun W (hW:Below w2.heap.size w2 W)=>Jw (BR2.below hW) (by decide) (TB.out W (B2.out.trans (hW.mono B2.out.size))))
 have C2:jd w2 w1.heap.size 26 #[.int .i64 0,.string (B [65,58,32,49,10]),.slice ba 0 bc,.slice ea 0 ec,.string (B [37,97,109])]:=by rw[<- hw2];exact jd.new _ _ _
 have HC2:=jh5 C2
 have HW2:=jh5 hw2
 have s1:((B [65,58,32,49,10]).toList==[65,58,32,49,10])=true:=by kernel_rfl
 have s2:((B [37,97,109]).toList==[37,97,109])=true:=by kernel_rfl
 have e8:((jN 0 [65,58,32,49,10] []+([37,97,109]:List UInt8).length:Nat):Int)=8:=rfl
 have e5:((jN 0 [65,58,32,49,10] []:Nat):Int)=5:=rfl
 clear hr b1 BR1 hBR hBt hEv b12 BR2 C2 hw2 RD
 go_wp2_with fail
 rw[HW2.out]
 refine(SZ.out w2 (jh8 _ _)).mono ?_
 rintro e w3 ⟨rfl,b3⟩
 rw[e8]
 have HB3:=jh5 b3
 have k:=jb HC2.out b3 HC2.out.lt
 have k0:=k.cell 0
 have k1:=k.cell 1
 have k2:=k.cell 2
 have k3:=k.cell 3
 have k4:=k.cell 4
 simp only[jie,jid,jib]at k0 k1 k2 k3 k4
 clear b3 k
 go_wp2_with fail
 refine(WH.out w3 HB3.out).mono ?_
 rintro e w4 ⟨rfl,b4⟩
 rw[e5]
 have HB4:=jh5 (B2.out.trans ((HB3.out.trans (b4.mono HB3.out.size)).mono B2.out.size))
 clear b4
 go_wp2_with fail
 go_ret
 exact⟨rfl,HB4.out⟩
theorem KV{lo:Nat}{w:World}{ev:Value}{s:Nat}{bds:List (List UInt8)}(h:w.ownsRow lo 3 1 ev bds.length ((zh s bds).map jcP)):jeN w ev ((zh s bds).map fun(n:Nat)=>(n:Int)):=by
 refine jdO (lo:=lo) ?_
 have e1:((zh s bds).map fun(n:Nat)=>(n:Int)).length=bds.length:=by rw[jiA,vg]
 have e2:((zh s bds).map fun(n:Nat)=>(n:Int)).map jhU=(zh s bds).map jcP:=by rw[jjO];rfl
 rw[e1,e2];exact h
theorem jc7{w w2:World}{n:Nat}{base tail:List UInt8}{ba ea:Option Addr}{bn bc en ec:Nat}(h:w.alloc (.cells #[.int .i64 (n:Int),.string (B base),.slice ba bn bc,.slice ea en ec,.string (B tail)] 26)=w2):
  Below w.heap.size w w2/\jd w2 w.heap.size 26 #[.int .i64 (n:Int),.string (B base),.slice ba bn bc,.slice ea en ec,.string (B tail)]:=by
 rw[<- h];exact⟨(jh8 _ _).alloc (jh6 _) _,jd.new _ _ _⟩
theorem jbI(l:List UInt8):((B l).toList==(B l).toList)=true:=by simp
end Go.Proofs.YtmdhainabeljpaaGreatDoor.Bk
namespace Go.Proofs.YtmdhainabeljpaaGreatDoor
open Go.RowKit Go.Shelf Go.Maps Go.ChangeShapes Go.Joins Go.WideShapes
end Go.Proofs.YtmdhainabeljpaaGreatDoor
namespace Go.Proofs.YtmdhainabeljpaaGreatDoor
end Go.Proofs.YtmdhainabeljpaaGreatDoor
namespace Go.Proofs.YtmdhainabeljpaaGreatDoor.Fr
open Go.RowKit Go.Shelf
attribute [local go_sem] jil
end Go.Proofs.YtmdhainabeljpaaGreatDoor.Fr
