/- Texts put together:SJ,SP,SQ,SO. -/
import Derived.Test.YtmdhainabeljpaaGreatDoorBxr28
set_option linter.unusedVariables false
set_option maxRecDepth 100000
set_option maxHeartbeats 16000000
namespace Go.Proofs.YtmdhainabeljpaaGreatDoor.Bk
open Go.RowKit Go.Shelf
attribute [local go_sem] jil
theorem jan{fn:Func}{p u v:Tmp}{ty:TypeId}(h:fn.results=#[.cell p ty,.tmp u,.tmp v])(tmps:Array Value)(P:Program)(w:World):
  (results fn tmps).run P w=((asAddr (tmps.getD p undef)).run P w).andThen fun a w₁=>((loadVar ty a).run P w₁).andThen fun x w₂=>.ok (.tuple #[x,tmps.getD u undef,tmps.getD v undef]) w₂:=by
 simp only[results,h]
 simp[Sem.run_bind,Result.andThen]
theorem Kf{fn:Func}{p u v:Tmp}(h:fn.results=#[.cell p 31,.tmp u,.tmp v])(tmps:Array Value)(w:World)(b:Nat)(cur:Array Value)(hp:tmps.getD p undef=.pointer (some ⟨b,0,none⟩))
  (hc:jd w b 31 cur) (hz:cur.size=5):(results fn tmps).run Tryz.prog w=.ok (.tuple #[.agg cur,tmps.getD u undef,tmps.getD v undef]) w:=by
 have L:=run_loadVar_row (P:=Tryz.prog) w b 31 31 cur (0,0) _ hc Tryz.underlying31 rfl (by rw[hz];kernel_rfl)
 rw[jan h,hp]
 show((loadVar _ _).run _ _).andThen _=_
 rw[L];rfl
def jhs(w w':World)(t:List UInt8)(e:Ending):Prop:=Below w.heap.size w w' /\
  ((∃a k:Nat,za (vk (t.drop (hl (Hd.genP t))))=.error (a,k)/\e=.returned (.tuple #[Ze,.int .i64 a,.int .i64 k])) \/
   (∃its bds r,za (vk (t.drop (hl (Hd.genP t))))=.ok its/\jbm Dc (t.drop (hl (Hd.genP t)+(vk (t.drop (hl (Hd.genP t)))).length)) bds r/\jeR Dc r/\e=.returned (.tuple #[Ze,.int .i64 (bds.length:Nat),.int .i64 10])) \/
   (∃base bds tail v,xO Dc t (Hd.genP t) base bds tail/\e=.returned (.tuple #[v,.int .i64 (-9),.int .i64 0])/\yg w.heap.size w' v (Hd.genP t) base bds tail))
def jhu(w:World)(v:Value)(xs:List Ln):Prop :=
 ∃A cap,v=.slice A xs.length cap/\xs.length<=cap/\∀(i:Nat) (x:Ln),xs[i]?=some x->∃b off,A=some ⟨b,off,none⟩/\b<w.heap.size/\w.cell? ⟨b,off+i*4+1,none⟩=some (.int .i64 (x.at_:Nat))/\w.cell? ⟨b,off+i*4+1+1,none⟩=some (.string (B x.text))
theorem jhu.below{w w':World}{v:Value}{xs:List Ln}{n:Nat}(h:jhu w v xs)(hb:Below n w w')(hn:w.heap.size<=n):jhu w' v xs:=by
 obtain⟨A,cap,hv,hle,hc⟩:=h
 refine⟨A,cap,hv,hle,fun i x hi => ?_⟩
 obtain⟨b,off,hA,hlt,c0,c1⟩:=hc i x hi
 have hlt':=jih hlt hn
 exact⟨b,off,hA,jih hlt hb.size,(hb.cell (p:=⟨b,off+i*4+1,none⟩) hlt').trans c0,(hb.cell (p:=⟨b,off+i*4+1+1,none⟩) hlt').trans c1⟩
theorem jdU {w : World} {base : Nat} {v : Value} {xs : List Ln} (h : w.ownsRow base 60 4 v xs.length (cellsOf xs)) : jhu w v xs := by
  rcases jiY h with ⟨e, hn⟩ | ⟨g, cap, e⟩
  . have : xs = [] := List.length_eq_zero_iff.1 hn
    rw [e, this]
    exact ⟨none, 0, rfl, jh6 _, fun i it hi => by simp at hi⟩
  refine ⟨some ⟨g, 0, none⟩, cap, e, (by rcases h.2 with ⟨q, _⟩ | ⟨g', cap', cur, q, _, _, q2, _⟩; · rw [e] at q; cases q
                                         rw [e] at q; cases q; exact q2), fun i x hi => ?_⟩
  have hlt : i < xs.length := by
    rcases jir i xs.length with q | q
    . exact q
    rw [jis q] at hi; cases hi
  rw [e] at h
  have hx : xs = xs.take i ++ x :: xs.drop (i + 1) := by
    have e := jiB hlt
    rw [jia hlt] at hi
    rw [jh9 hi] at e
    rw [<- e, jiy]
  have hti : (xs.take i).length = i := by rw [jiE]; omega
  have c1 : (cellsOf xs)[i * 4 + 1]? = some (.int .i64 (x.at_ : Nat)) := by
    have := qU (xs.take i) x (xs.drop (i + 1)) 1 (by decide)
    rw [hti, <- hx] at this
    exact this
  have c2 : (cellsOf xs)[i * 4 + 2]? = some (.string ⟨x.text.toArray⟩) := by
    have := qU (xs.take i) x (xs.drop (i + 1)) 2 (by decide)
    rw [hti, <- hx] at this
    exact this
  refine ⟨g, 0, rfl, (jje h g rfl).2, ?_, ?_⟩
  . rw [jiH, jin h (i * 4 + 1) (by omega)]; exact c1
  rw [jiH, jin h (i * 4 + 1 + 1) (by omega)]; exact c2
theorem KA:∀xs:List Ln,(∀x∈xs,1<=x.bytes.length)->xs.length<=(xs.flatMap Ln.bytes).length
 | [],_=>jh6 _
 | x::r,h=>by
  have h1:=h x (jig ..)
  have h2:=KA r fun y hy=>h y (jif _ hy)
  rw[jio,jh7,jic];omega
theorem jgp(b:List UInt8):b.length<=(Fr.fullR b).length:=by
 rw[jcC];simp only[jh7,jic];omega
theorem ja7(x:Ln)(r:List Ln)(n:Nat):vP (x::r) n=if Up x.text=true then x.at_ else vP r n:=by
 unfold vP
 rw[List.find?_cons]
 cases h:Up x.text<;>simp
theorem jey{t:List UInt8}{xs:List Ln}(hx:jf t=xs)(k:Nat):vP (xs.drop k) t.length<=t.length:=by
 unfold vP
 cases h:(xs.drop k).find? (fun x=>Up x.text) with
 | none=>exact jh6 _
 | some x =>
 obtain⟨_,pre,post,he,_⟩:=List.find?_eq_some_iff_append.1 h
 have hx2:jf t=(xs.take k++pre)++x::post:=by rw[hx,jip,<- he,jiy]
 obtain⟨_,ha⟩:=qz t _ x post hx2
 have hj:=jB t
 rw[hx2,jiG]at hj
 show x.at_<=t.length
 rw[ha,<- hj,jh7]
 omega
theorem GY{w w7:World}(hB:Below w.heap.size w w7)(C7:jd w7 w.heap.size 31 #[.int .i64 0,.string ⟨#[]⟩,.slice none 0 0,.slice none 0 0,.string ⟨#[]⟩]):
  Below w.heap.size w ((((((w7.setCell ⟨w.heap.size,0,none⟩ (.int .i64 0)).setCell ⟨w.heap.size,1,none⟩ (.string ⟨#[]⟩)).setCell ⟨w.heap.size,2,none⟩ (.slice none 0 0)).setCell ⟨w.heap.size,3,none⟩ (.slice none 0 0)).setCell ⟨w.heap.size,4,none⟩ (.string ⟨#[]⟩))).drew /\
  jd ((((((w7.setCell ⟨w.heap.size,0,none⟩ (.int .i64 0)).setCell ⟨w.heap.size,1,none⟩ (.string ⟨#[]⟩)).setCell ⟨w.heap.size,2,none⟩ (.slice none 0 0)).setCell ⟨w.heap.size,3,none⟩ (.slice none 0 0)).setCell ⟨w.heap.size,4,none⟩ (.string ⟨#[]⟩))).drew w.heap.size 31 #[.int .i64 0,.string ⟨#[]⟩,.slice none 0 0,.slice none 0 0,.string ⟨#[]⟩]:=by
 obtain⟨h1,h2⟩:=jdD C7 (.int .i64 0) (.string ⟨#[]⟩) (.slice none 0 0) (.slice none 0 0) (.string ⟨#[]⟩)
 have hlt:=C7.lt
 exact⟨(hB.trans (h2.to_below hB.size (fun r hr e=>by omega))).drew,h1.drew⟩
theorem JD(t:List UInt8)(ht:t.length<=6000)(w:World):
  Calls Tryz.prog 6 #[.string (B t)] w fun e w'=>jhs w w' t e:=by
 obtain⟨i1,hi,hz0,hz1,hib⟩:=info_parts KG
 obtain⟨i2,hiB,hB0,hB1,hBb⟩:=info_parts jcs
 have hsz:(B t).size=t.length:=je t
 have hgen:=Hd.genP_is t
 have hn:=Hd.gen_lt hgen
 have hhl:=jf4 hgen
 generalize hnn:Hd.genP t=n at *
 obtain⟨w0,hw0⟩:∃z,w.alloc (.cells #[.int .i64 0,.string ⟨#[]⟩,.slice none 0 0,.slice none 0 0,.string ⟨#[]⟩] 31)=z:=⟨_,rfl⟩
 have hb0:Below w.heap.size w w0:=by rw[<- hw0];exact(jh8 _ w).alloc (jh6 _) _
 have hz:w0.heap.size=w.heap.size+1:=by rw[<- hw0];simp
 have C0:jd w0 w.heap.size 31 #[.int .i64 0,.string ⟨#[]⟩,.slice none 0 0,.slice none 0 0,.string ⟨#[]⟩]:=by rw[<- hw0];exact jd.new _ _ _
 have TK:=jh5 (Hd.reftake_any (B t) (by rw[je];omega) n (by rw[ji];exact hgen) w0)
 rw[ji,jcw]at TK
 have HB0:=jh5 hb0
 have HC0:=jh5 C0
 have HW0:=jh5 hw0
 have q1:¬(120000:Int)<((B t).size:Int):=by omega
 have hlen:(t.drop (hl n)).length<=6000:=by rw[jik];omega
 have hlen2:(t.drop (hl n)).length+hl n=t.length:=by rw[jik];omega
 have HZ:=jh5 hz
 have hXS0:∃xs,jf (t.drop (hl n))=xs:=⟨_,rfl⟩
 obtain⟨xs,hxs⟩:=hXS0
 have HCL:=jh5 (fun k=>jey hxs k)
 have hbl0:(vk (t.drop (hl n))).length=vP xs (t.drop (hl n)).length:=by rw[JZ,hxs]
 have EXB:Hid ((B (t.drop (hl n))).extract 0 (vP xs (t.drop (hl n)).length)=B (vk (t.drop (hl n)))):=by
  show _=_
  rw[Fr.ext_take];unfold vk;rw[hxs]
 have hpos:∀x∈xs,1<=x.bytes.length:=by rw[<- hxs];exact yD _ 0 0 _ (jh6 _)
 have hjoin:(xs.flatMap Ln.bytes)=t.drop (hl n):=by rw[<- hxs];exact jB _
 have hfew:=KA xs hpos
 rw[hjoin]at hfew
 have HJ:=jh5 hjoin
 have HBL:=jh5 hbl0
 have HGEN:=jh5 hgen
 generalize hbase:vk (t.drop (hl n))=base at *
 have hRS:∃rest,t.drop (hl n)=rest:=⟨_,rfl⟩
 obtain⟨rest,hrest⟩:=hRS
 rw[hrest]at TK HCL HBL EXB HJ hlen hlen2 hfew hxs
 have HXS:=jh5 hxs
 have hrz:(B rest).size=rest.length:=je rest
 clear hpos hjoin hbl0 hgen C0 hw0 hz hb0 hxs
 go_enter Tryz.func6,Tryz.ntmps6
 go_wp2_with fail
 rw[HW0.out]
 refine TK.out.mono ?_
 rintro e w1 ⟨rfl,b1⟩
 have HB1:=jh5 (HB0.out.trans (b1.mono HB0.out.size))
 have hs1:=b1.size
 have HC1:=jh5 (jb HC0.out b1 HC0.out.lt)
 have SP:=jh5 (vR (B rest) (by rw[je];omega) w1)
 rw[ji,HXS.out]at SP
 clear TK b1
 go_wp2_with fail
 refine SP.out.mono ?_
 rintro e wS ⟨lv,rfl,hlr,bS⟩
 have LAq:=jh5 (jdU hlr)
 obtain⟨la,lc,rfl,_⟩:=jg hlr
 have HBS:=jh5 (HB1.out.trans (bS.mono HB1.out.size))
 have hsS:=bS.size
 have HCS:=jh5 (jb HC1.out bS HC1.out.lt)
 clear SP hlr bS
 go_wp2_with fail
 go_loopw [8,9] (fun cv iv wr=>∃k:Nat,k<=xs.length/\iv=.int .i64 ((k:Int)-1)/\cv=.int .i64 (vP (xs.drop k) rest.length:Nat)/\Below wS.heap.size wS wr) (fun _ iv _=>(intOf iv+1).toNat)
 case atStart=>exact⟨xs.length,jh6 _,by go_num,by rw[ji6];unfold vP;rw[List.find?_nil,<- hrz],jh8 _ _⟩
 case round =>
 obtain⟨k,hk,rfl,rfl,hb⟩:=hrel
 rcases jjF k with rfl|hkp
 rotate_left
 ·obtain⟨j,rfl⟩:∃j,k=j+1:=⟨k-1,by omega⟩
  obtain⟨x,hx⟩:∃x,xs[j]?=some x:=⟨_,jia (by omega)⟩
  have hdr:xs.drop j=x::xs.drop (j+1):=by
   have e:=jiB (show j<xs.length by omega)
   rw[jia (by omega)]at hx
   rw[jh9 hx]at e
   exact e
  have CC:=jh5 (ja7 x (xs.drop (j+1)) rest.length)
  rw[<- hdr]at CC
  obtain⟨A,cap,e,_,hc⟩:=LAq.out.below hb (jh6 _)
  cases e
  obtain⟨b,off,rfl,hbb,c1,c2⟩:=hc j x hx
  have hxl:x.text.length<=6000:=by
   have h1:x.bytes.length<=(xs.flatMap Ln.bytes).length:=by
    obtain⟨p1,p2,e⟩:=jjT (jim hx)
    rw[e,jiG,jio,jh7,jh7];omega
   have h2:=congrArg List.length HJ.out
   have h3:x.text.length<=x.bytes.length:=by unfold Ln.bytes;simp
   omega
  have BG:=jh5 (Fr.refBegins_any (B x.text) (by rw[je];omega) wr)
  rw[ji,show(Fr.signB x.text&&decide (jk x.text=5))=Up x.text from rfl]at BG
  have ij:(((j+1:Nat):Int)-1)=(j:Int):=by omega
  have hzb:=hb.size
  clear hc hx hdr
  rw[ij]
  cases hbx:Up x.text with
  | true =>
   rw[hbx]at BG CC
   rw[if_pos rfl]at CC
   go_wp2_with fail
   refine BG.out.mono ?_
   rintro e wb ⟨rfl,b2⟩
   have c1':=(b2.cell (p:=⟨b,off+j*4+1,none⟩) hbb).trans c1
   have HB2:=jh5 (hb.trans (b2.mono hzb))
   clear BG b2 c1 c2
   go_wp2_with fail
   go_roundw
   case rel=>exact⟨j,by omega,by go_num,by rw[CC.out],HB2.out⟩
   case measure=>simp[intOf]
  | false =>
  rw[hbx]at BG CC
  rw[if_neg (by decide)]at CC
  go_wp2_with fail
  refine BG.out.mono ?_
  rintro e wb ⟨rfl,b2⟩
  have HB2:=jh5 (hb.trans (b2.mono hzb))
  clear BG b2 c1 c2
  go_wp2_with fail
  go_roundw
  case rel=>exact⟨j,by omega,by go_num,by rw[CC.out],HB2.out⟩
  case measure=>simp[intOf]
 obtain⟨w2,hw2⟩:∃z,z=wr:=⟨_,rfl⟩
 subst hw2
 rw[jjl,<- HBL.out]
 have hcut:((base.length:Nat):Int)<=((B rest).size:Int):=by have h1:=HCL.out 0;rw[jjl,<- HBL.out]at h1;omega
 rw[<- HBL.out]at EXB
 have HB2:=jh5 (HBS.out.trans (hb.mono HBS.out.size))
 have hs2:=hb.size
 obtain⟨w3,hw3⟩:∃z,w2.alloc (.cells #[.int .i64 (n:Int),.string (B base),.slice none 0 0,.slice none 0 0,.string ⟨#[]⟩] 31)=z:=⟨_,rfl⟩
 have b23:Below w2.heap.size w2 w3:=by rw[<- hw3];exact(jh8 _ _).alloc (jh6 _) _
 have C3:jd w3 w2.heap.size 31 #[.int .i64 (n:Int),.string (B base),.slice none 0 0,.slice none 0 0,.string ⟨#[]⟩]:=by rw[<- hw3];exact jd.new _ _ _
 have HC2:=jh5 (jb HCS.out (hb.trans (b23.mono hs2)) HCS.out.lt)
 have HB3:=jh5 (HB2.out.trans (b23.mono HB2.out.size))
 have PA:=jh5 (Ki (B base) (by rw[je];omega) w3)
 rw[ji]at PA
 have HC3:=jh5 C3
 have HW3:=jh5 hw3
 have hs3:=b23.size
 have hlt3:=C3.lt
 have hlow:w.heap.size+1<=w2.heap.size:=by have:=HZ.out;omega
 have hbl:hl n+base.length<=t.length:=by omega
 clear b23 C3 hw3 hb
 go_wp2_with fail
 rw[EXB.out]
 rw[HW3.out]
 refine PA.out.mono ?_
 rintro e w4 hp4
 cases hp:za base with
 | error an =>
  obtain⟨a,k⟩:=an
  obtain⟨b4,rfl⟩:=WG hp4 hp
  have hk:=Gq hp
  have q2:((k:Int) != 0)=true:=by simp;omega
  have HB4:=jh5 (HB3.out.trans (b4.mono HB3.out.size))
  have HC4:=jh5 (jb HC2.out b4 HC2.out.lt)
  obtain⟨hput,honly⟩:=jdD HC4.out (.int .i64 0) (.string ⟨#[]⟩) (.slice none 0 0) (.slice none 0 0) (.string ⟨#[]⟩)
  have HBF:=jh5 (HB4.out.trans (honly.to_below HB4.out.size (fun r hr e=>by omega)))
  have HPUT:=jh5 hput
  have c0:=HC4.out.cell 0
  have c1:=HC4.out.cell 1
  have c2:=HC4.out.cell 2
  have c3:=HC4.out.cell 3
  have c4:=HC4.out.cell 4
  have f0:=HC4.out.frozen 0
  have f1:=HC4.out.frozen 1
  have f2:=HC4.out.frozen 2
  have f3:=HC4.out.frozen 3
  have f4:=HC4.out.frozen 4
  simp only[jie,jid,jib]at c0 c1 c2 c3 c4
  have HP:=jh5 hp
  clear hp4 b4 hput honly PA hp hk
  go_wp2_with fail
  refine bodyPost_ret (Kf rfl _ _ w.heap.size _ rfl HPUT.out rfl) rfl ?_
  exact⟨HBF.out,.inl ⟨a,k,by rw[hnn,hbase];exact HP.out,rfl⟩⟩
 | ok its =>
 obtain⟨b4,u,rfl,_⟩:=Kh hp4 hp
 have hb4:=HB3.out.trans (b4.mono HB3.out.size)
 have hC4:=jb HC2.out b4 HC2.out.lt
 have hK4:=jb HC3.out b4 HC3.out.lt
 have HP:=jh5 hp
 clear hp4 PA b4 hp
 go_wp2_with fail
 go_loopw [14] (fun pv wr=>∃(bds:List (List UInt8)) (r:List UInt8) (bv ev:Value) (us:List Value),pv=.int .i64 (jN n base bds:Nat)/\jbm Dc (t.drop (hl n+base.length)) bds r/\jd wr w2.heap.size 31 #[.int .i64 (n:Int),.string (B base),bv,ev,.string ⟨#[]⟩]/\Qs w.heap.size wr bv bds us/\wr.ownsRow w.heap.size 3 1 ev bds.length ((zh (hl n+base.length) bds).map jcP)/\jd wr w.heap.size 31 #[.int .i64 0,.string ⟨#[]⟩,.slice none 0 0,.slice none 0 0,.string ⟨#[]⟩]/\Below w.heap.size w wr) (fun pv _=>t.length+1-(intOf pv).toNat)
 case atStart=>exact⟨[],_,_,_,[],by unfold jN;go_num,⟨rfl,fun b h=>by cases h⟩,hK4,Qs.nil _ _,⟨rfl,.inl ⟨rfl,rfl⟩⟩,hC4,hb4⟩
 case round =>
 obtain⟨bds,r,bv,ev,us,rfl,hR,hK,hBt,hEv,hC,hb⟩:=hrel
 obtain⟨ba,bc,rfl,_⟩:=jg hBt.row
 obtain⟨ea,ec,rfl,_⟩:=jg hEv
 have hrl:=KJ hR
 rw[jik]at hrl
 have hbdl:=Vs bds
 have hblen:base.length+hl n<=t.length:=by omega
 have hWe:jN n base bds=hl n+base.length+(bds.flatMap Fr.fullR).length:=rfl
 have hWle:jN n base bds<=t.length:=by omega
 have hdrop:t.drop (jN n base bds)=r:=by
  rw[hWe,Vk,hR.eq,jjj]
 have EX:Hid ((B t).extract (jN n base bds) t.length=B r):=by
  show _=_
  rw[<- hsz,Fr.ext_drop,hdrop]
 have hr6:r.length<=6000:=by omega
 have hrlen:r.length<=700000:=by omega
 have BKR:yg w.heap.size wr (Jr n base (.slice ba bds.length bc) (.slice ea bds.length ec) []) n base bds []:=⟨_,_,us,rfl,hBt,hEv⟩
 have k0:=hK.cell 0
 have k1:=hK.cell 1
 have k2:=hK.cell 2
 have k3:=hK.cell 3
 have k4:=hK.cell 4
 simp only[jie,jid,jib]at k0 k1 k2 k3 k4
 have HR:=jh5 hR
 have HK:=jh5 hK
 have HBT:=jh5 hBt
 have HEV:=jh5 hEv
 have HC:=jh5 hC
 have HB:=jh5 hb
 have HWE:=jh5 hWe
 have HRL:=jh5 hrl
 clear hR hBt hEv hC hb hrl hdrop hWe BKR
 generalize hWW:jN n base bds=W at *
 have hWi:(W:Int)<=((B t).size:Int):=by omega
 have FR:=jh5 (Fr.refRead_any r hrlen wr)
 clear k0 k1 k2 k3 k4 hK
 go_wp2_with fail
 rw[EX.out]
 refine FR.out.mono ?_
 rintro e w6 ⟨kk,bb,mm,hread,rfl,rfl⟩
 have HB6:=HB
 have K6:=HK.out
 have C6:=HC.out
 have T6:=HBT.out
 have E6:=HEV.out
 clear FR
 unfold Fr.readV
 rcases hread with ⟨hwt,rfl,rfl⟩|⟨hpt,rfl,rfl,rfl⟩|⟨hnp,hnw,rfl,rfl,rfl⟩
 ·
  have hgb:=Fr.good_iff.1 hwt.1
  have DE:=jh5 (JE bb (by obtain⟨_,m,e⟩:=hwt;have h1:=jgp bb;have h2:=congrArg List.length e;rw[jh7]at h2;omega) w6)
  have hfl:(Fr.fullR bb).length<=r.length:=by
   obtain⟨_,m,e⟩:=hwt
   rw[e,jh7];omega
  go_wp2_with fail
  refine DE.out.mono ?_
  rintro e w7 ⟨b7,h7⟩
  have HB7:=jh5 (HB6.out.trans (b7.mono HB6.out.size))
  have hs7:=b7.size
  have K7:=jb K6 b7 K6.lt
  have C7:=jb C6 b7 C6.lt
  have T7:=T6.below b7
  have E7:=jJ E6 b7 (jh6 _)
  clear DE K6 C6 T6 E6
  rcases h7 with ⟨hd,rfl⟩|⟨eds,u7,fvs,hd,rfl,hO⟩
  ·have FB:Hid (jeR Dc r):=.inr ⟨bb,hwt,by unfold Dc;rw[hd];rfl⟩
   clear hwt hd T7 E7 b7
   have c70:=C7.cell 0
   have c71:=C7.cell 1
   have c72:=C7.cell 2
   have c73:=C7.cell 3
   have c74:=C7.cell 4
   have g70:=C7.frozen 0
   have g71:=C7.frozen 1
   have g72:=C7.frozen 2
   have g73:=C7.frozen 3
   have g74:=C7.frozen 4
   have m72:=K7.cell 2
   simp only[jie,jid,jib]at c70 c71 c72 c73 c74 m72
   have CR:=jh5 (GY HB7.out C7)
   have HN:=jh5 (show w2.heap.size≠w.heap.size by omega)
   clear K7 C7
   go_wp2_with fail
   go_region
   all_goals go_wp2_with fail
   all_goals
    refine bodyPost_ret (Kf rfl _ _ w.heap.size _ rfl CR.out.2 rfl) rfl ?_
    exact⟨CR.out.1,.inr (.inl ⟨its,bds,r,by rw[hnn,hbase];exact HP.out,by rw[hnn,hbase];exact HR.out,FB.out,rfl⟩)⟩
  have hO':vM w.heap.size w7 u7 (vO bb) fvs:=by
   have:vO bb=eds:=by unfold vO;rw[hd];rfl
   rw[this]
   exact⟨zd hO.row HB6.out.size,hO.len,fun i ed fv h1 h2=>zd (hO.each i ed fv h1 h2) HB6.out.size⟩
  have hDc:Dc bb=true:=by unfold Dc;rw[hd];rfl
  obtain⟨ua,uc,rfl,_⟩:=jg hO.row
  have RS:=jh5 (HR.out.snoc hwt hDc)
  have ES:Hid ((zh (hl n+base.length) (bds++[bb])).map jcP=(zh (hl n+base.length) bds).map jcP++[Value.int .i64 ((W:Int)+((Fr.fullR bb).length:Int))]):=by
   show _=_
   rw[vt,ji1,<- HWE.out]
   simp[jcP]
  have HWN:Hid (jN n base (bds++[bb])=W+(Fr.fullR bb).length):=by
   show _=_
   rw[<- hWW];unfold jN
   rw[jiG,jh7,jio,jkm,jix];omega
  have hm7:=Xw bb
  have HO:=jh5 hO'
  have T7':=jh5 T7
  have E7':=jh5 E7
  have K7':=jh5 K7
  have C7':=jh5 C7
  have N1:∀(w3:World) (T:TypeId) (x:Value),Hid (∀(j:Nat) (u:Value),[x][j]?=some u->(w3.alloc (.cells #[x] T)).cell? ((⟨w3.heap.size,0,none⟩:Addr).add j)=some u):=fun w3 T x j u h=>by
   have ea:(⟨w3.heap.size,0,none⟩:Addr).add j=⟨w3.heap.size,j,none⟩:=by unfold Addr.add;split<;>simp_all
   rw[ea,(jd.new w3 T #[x]).cell j]
   simpa using h
  have N1b:∀(w3:World) (b:Nat) (T:TypeId) (x:Value),w3.heap.size=b->Hid (∀(j:Nat) (u:Value),[x][j]?=some u->(w3.alloc (.cells #[x] T)).cell? ((⟨b,0,none⟩:Addr).add j)=some u):=fun w3 b T x hb j u h=>by
   rw[<- hb];exact(N1 w3 T x).out j u h
  have k2:=K7.cell 2
  have f2:=K7.frozen 2
  simp only[jie,jid,jib]at k2
  have hlo7:w.heap.size<=w7.heap.size:=HB7.out.size
  have hkl:w2.heap.size<w7.heap.size:=K7.lt
  have hbd1:bds.length+(Fr.fullR bb).length<=t.length:=by have:=HRL.out;omega
  clear hwt hd hO hO' hDc T7 E7 K7 C7 b7
  generalize hm:(Fr.fullR bb).length=m at *
  have hwm:IntKind.i64.wrap ((W:Int)+(m:Int))=(W:Int)+(m:Int):=jiz _ (by have:=HRL.out;have:=HWE.out;omega)
  go_wp2_with (at_builtin;refine jP rfl _ _ 23 rfl w.heap.size 37 i2 _ 1 24 Tryz.underlying23 hiB hB0 hB1 hBb rfl (by decide) _ _ _ rfl (T7'.out.row.alloc _) _ 1 1 [.slice ua eds.length uc] rfl rfl (N1 _ _ _).out (by intro u hu;simp at hu;subst hu;rfl) (by unfold maxLen;omega) (by omega) (by simp only[jiO];omega) ?_)
  intro bv8 W8 own8 grow8 at8
  have hb8:Below w7.heap.size w7 (w7.alloc (.cells #[.slice ua eds.length uc] 37)):=(jh8 _ _).alloc (jh6 _) _
  have o8:zH (fun r=>(Value.slice ba bds.length bc).ownBlock=some r) w7 W8:=(zH.of_below (S:=fun r=>(Value.slice ba bds.length bc).ownBlock=some r) hb8 (jh6 _)).grown grow8 (fun r e=>.inl e)
  have T8:=T7'.out.snoc HO.out own8 o8
  have E8:=zf E7'.out o8 (fun b e q=>zq T7'.out.row E7'.out (by decide) b q e)
  have K8:=K7'.out.only o8 (fun e=>jx T7'.out.row K7'.out (by decide) e)
  have C8:=C7'.out.only o8 (fun e=>jx T7'.out.row C7'.out (by decide) e)
  have B8:=HB7.out.trans (o8.to_below hlo7 (fun r hr e=>by have:=(T7'.out.row.lt r e).1;omega))
  have hs8:=o8.size
  obtain⟨ba8,bc8,rfl,_⟩:=jg own8
  have K9:=K8.set 2 (.slice ba8 (bds.length+1) bc8)
  rw[show(#[Value.int .i64 (n:Int),.string (B base),.slice ba bds.length bc,.slice ea bds.length ec,.string ⟨#[]⟩]:Array Value).setIfInBounds 2 (.slice ba8 (bds.length+1) bc8)=#[.int .i64 (n:Int),.string (B base),.slice ba8 (bds.length+1) bc8,.slice ea bds.length ec,.string ⟨#[]⟩] from rfl]at K9
  have o9:zH (· = w2.heap.size) W8 (W8.setCell ⟨w2.heap.size,2,none⟩ (.slice ba8 (bds.length+1) bc8)):=(zH.refl (· = w2.heap.size) W8).cellS 2 _
  have T9:=T8.box K8 (by decide) (by decide) (by decide) o9
  have E9:=zf E8 o9 (fun b e q=>jx E8 K8 (by decide) (by rw[e,q]))
  have C9:=C8.only o9 (fun e=>by omega)
  have B9:=B8.trans (o9.to_below B8.size (fun r hr e=>by omega))
  have kc2:=K8.cell 2
  have kf2:=K8.frozen 2
  have k93:=K9.cell 3
  have f93:=K9.frozen 3
  simp only[jie,jid,jib]at kc2 k93
  have HT9:=jh5 T9
  have HE9:=jh5 E9
  have HK9:=jh5 K9
  have HC9:=jh5 C9
  have HB9:=jh5 B9
  have hs9:=o9.size
  have HSZ:Hid ((W8.setCell ⟨w2.heap.size,2,none⟩ (.slice ba8 (bds.length+1) bc8)).heap.size=W8.heap.size):=by
   show _=_
   simp[World.setCell]
  clear own8 grow8 at8 hb8 o8 T8 E8 K8 C8 B8 K9 o9 T9 E9 C9 B9 T7' E7' K7' C7' HO k2 f2
  go_wp2_with (at_builtin;refine jP rfl _ _ 24 rfl w.heap.size 3 i1 _ 1 8 Tryz.underlying24 hi hz0 hz1 hib rfl (by decide) _ _ _ rfl (HE9.out.alloc _) _ 1 1 [.int .i64 ((W:Int)+(m:Int))] rfl rfl (by first | exact(N1b _ _ _ _ HSZ.out).out | exact(N1 _ _ _).out) (by intro u hu;simp at hu;subst hu;rfl) (by unfold maxLen;omega) (by omega) (by simp only[jiO];omega) ?_)
  intro ev10 W10 own10 grow10 at10
  generalize hw9:W8.setCell ⟨w2.heap.size,2,none⟩ (.slice ba8 (bds.length+1) bc8)=W9 at *
  have hb10:Below W9.heap.size W9 (W9.alloc (.cells #[.int .i64 ((W:Int)+(m:Int))] 3)):=(jh8 _ _).alloc (jh6 _) _
  have o10:zH (fun r=>(Value.slice ea bds.length ec).ownBlock=some r) W9 W10:=(zH.of_below (S:=fun r=>(Value.slice ea bds.length ec).ownBlock=some r) hb10 (jh6 _)).grown grow10 (fun r e=>.inl e)
  have T10:=HT9.out.beside HE9.out (by decide) (by decide) (by decide) o10
  have K10:=HK9.out.only o10 (fun e=>jx HE9.out HK9.out (by decide) e)
  have C10:=HC9.out.only o10 (fun e=>jx HE9.out HC9.out (by decide) e)
  have B10:=HB9.out.trans (o10.to_below HB9.out.size (fun r hr e=>by have:=(HE9.out.lt r e).1;omega))
  obtain⟨ea10,ec10,rfl,_⟩:=jg own10
  have K11:=K10.set 3 (.slice ea10 (bds.length+1) ec10)
  rw[show(#[Value.int .i64 (n:Int),.string (B base),.slice ba8 (bds.length+1) bc8,.slice ea bds.length ec,.string ⟨#[]⟩]:Array Value).setIfInBounds 3 (.slice ea10 (bds.length+1) ec10)=#[.int .i64 (n:Int),.string (B base),.slice ba8 (bds.length+1) bc8,.slice ea10 (bds.length+1) ec10,.string ⟨#[]⟩] from rfl]at K11
  have o11:zH (· = w2.heap.size) W10 (W10.setCell ⟨w2.heap.size,3,none⟩ (.slice ea10 (bds.length+1) ec10)):=(zH.refl (· = w2.heap.size) W10).cellS 3 _
  have T11:=jh5 (T10.box K10 (by decide) (by decide) (by decide) o11)
  have E11:=jh5 (zf own10 o11 (fun b e q=>jx own10 K10 (by decide) (by rw[e,q])))
  have C11:=jh5 (C10.only o11 (fun e=>by omega))
  have B11:=jh5 (B10.trans (o11.to_below B10.size (fun r hr e=>by omega)))
  have HK11:=jh5 K11
  have kc3:=K10.cell 3
  have kf3:=K10.frozen 3
  have l2:=K11.cell 2
  simp only[jie,jid,jib]at kc3 l2
  clear own10 grow10 at10 hb10 o10 T10 K10 C10 B10 K11 o11 l2 HT9 HE9 HK9 HC9 HB9 kc2 kf2 k93 f93
  go_wp2_with fail
  go_roundw
  case rel=>exact⟨bds++[bb],_,_,_,_,by rw[HWN.out];go_num,RS.out,HK11.out,T11.out,by rw[ES.out,jh7];exact E11.out,C11.out,B11.out⟩
  case measure =>
  show t.length+1-((W:Int)+(m:Int)).toNat<t.length+1-((W:Nat):Int).toNat
  omega
 ·
  have K7:=K6.set 4 (.string (B r))
  rw[show(#[Value.int .i64 (n:Int),.string (B base),.slice ba bds.length bc,.slice ea bds.length ec,.string ⟨#[]⟩]:Array Value).setIfInBounds 4 (.string (B r))=#[.int .i64 (n:Int),.string (B base),.slice ba bds.length bc,.slice ea bds.length ec,.string (B r)] from rfl]at K7
  have o7:zH (· = w2.heap.size) w6 (w6.setCell ⟨w2.heap.size,4,none⟩ (.string (B r))):=(zH.refl (· = w2.heap.size) w6).cellS 4 _
  have C7:=C6.only o7 (fun e=>by omega)
  have T7:=T6.box K6 (by decide) (by decide) (by decide) o7
  have E7:=zf E6 o7 (fun b e q=>jx E6 K6 (by decide) (by rw[e,q]))
  obtain⟨P8,o8⟩:=jdD C7 (.int .i64 (n:Int)) (.string (B base)) (.slice ba bds.length bc) (.slice ea bds.length ec) (.string (B r))
  have T8:=T7.box C7 (by decide) (by decide) (by decide) o8
  have E8:=zf E7 o8 (fun b e q=>jx E7 C7 (by decide) (by rw[e,q]))
  have HP8:=jh5 P8
  have B7:=HB6.out.trans (o7.to_below HB6.out.size (fun r hr e=>by omega))
  have B8:=jh5 (B7.trans (o8.to_below B7.size (fun r hr e=>by omega)))
  have BR:=jh5 (show yg w.heap.size _ (Jr n base (.slice ba bds.length bc) (.slice ea bds.length ec) r) n base bds r from⟨_,_,us,rfl,T8,E8⟩)
  have SND:=jh5 (show xO Dc t n base bds r from⟨HGEN.out,⟨its,HP.out⟩,hbase,HR.out,hpt⟩)
  have f64:=K6.frozen 4
  have kk4:=K6.cell 4
  have c70:=C7.cell 0
  have c71:=C7.cell 1
  have c72:=C7.cell 2
  have c73:=C7.cell 3
  have c74:=C7.cell 4
  have g70:=C7.frozen 0
  have g71:=C7.frozen 1
  have g72:=C7.frozen 2
  have g73:=C7.frozen 3
  have g74:=C7.frozen 4
  have m70:=K7.cell 0
  have m71:=K7.cell 1
  have m72:=K7.cell 2
  have m73:=K7.cell 3
  have m74:=K7.cell 4
  simp only[jie,jid,jib]at kk4 c70 c71 c72 c73 c74 m70 m71 m72 m73 m74
  clear K6 C6 T6 E6 K7 o7 C7 T7 E7 P8 o8 T8 E8 B7 hpt
  go_upto_region 19 with fail
  rw[EX.out]
  go_wp2_with fail
  refine bodyPost_ret (Kf rfl _ _ w.heap.size _ rfl HP8.out rfl) rfl ?_
  exact⟨B8.out,.inr (.inr ⟨base,bds,r,_,by rw[hnn];exact SND.out,rfl,by rw[hnn];exact BR.out⟩)⟩
 -- no record,no tail
 have DE:=jh5 (JE [] (by decide) w6)
 have FB:Hid (jeR Dc r):=.inl ⟨hnp,hnw⟩
 have DN:=jh5 jcU
 clear hnp hnw
 go_wp2_with fail
 refine DE.out.mono ?_
 rintro e w7 ⟨b7,h7⟩
 have HB7:=jh5 (HB6.out.trans (b7.mono HB6.out.size))
 have hs7:=b7.size
 have K7:=jb K6 b7 K6.lt
 have C7:=jb C6 b7 C6.lt
 clear DE K6 C6 T6 E6 b7
 rcases h7 with ⟨hd,rfl⟩|⟨eds,u7,fvs,hd,_⟩
 rotate_left
 ·rw[DN.out]at hd;cases hd
 have c70:=C7.cell 0
 have c71:=C7.cell 1
 have c72:=C7.cell 2
 have c73:=C7.cell 3
 have c74:=C7.cell 4
 have g70:=C7.frozen 0
 have g71:=C7.frozen 1
 have g72:=C7.frozen 2
 have g73:=C7.frozen 3
 have g74:=C7.frozen 4
 have m72:=K7.cell 2
 simp only[jie,jid,jib]at c70 c71 c72 c73 c74 m72
 have CR:=jh5 (GY HB7.out C7)
 have HN:=jh5 (show w2.heap.size≠w.heap.size by omega)
 clear K7 C7
 go_wp2_with fail
 go_region
 all_goals go_wp2_with fail
 all_goals
  refine bodyPost_ret (Kf rfl _ _ w.heap.size _ rfl CR.out.2 rfl) rfl ?_
  exact⟨CR.out.1,.inr (.inl ⟨its,bds,r,by rw[hnn,hbase];exact HP.out,by rw[hnn,hbase];exact HR.out,FB.out,rfl⟩)⟩
end Go.Proofs.YtmdhainabeljpaaGreatDoor.Bk
namespace Go.Proofs.YtmdhainabeljpaaGreatDoor
open Go.RowKit Go.Shelf
theorem jcv{b off n c i:Nat}{w:World}(h:i<n):(Instr.indexAt 23 (.slice (some ⟨b,off,none⟩) n c) (.int .i64 (i:Nat))).run Tryz.prog w=.ok (.pointer (some ⟨b,off+i,none⟩)) w:=by
 have h1:(i:Int)<(n:Int):=by omega
 have h2:(0:Int)<=(i:Int):=by omega
 simp[go_sem,h1,h2]
def qr:Array Oper:=#[
 {dst:=some 48,op:=Op.fieldAddr 26 (Operand.tmp 2) 2,type:=0,pos := "law.go:23",after:=#[],guard:=none},
 {dst:=some 49,op:=Op.load 23 (Operand.tmp 48),type:=23,pos := "law.go:23",after:=#[{on:=0,ground:=Ground.data}],guard:=none},
 {dst:=some 50,op:=Op.move (Operand.tmp 5),type:=3,pos := "law.go:23",after:=#[],guard:=none},
 {dst:=some 51,op:=Op.indexAddr 23 (Operand.tmp 49) (Operand.tmp 50),type:=0,pos := "law.go:23",after:=#[{on:=1,ground:=Ground.data},{on:=2,ground:=Ground.data}],guard:=none},
 {dst:=some 52,op:=Op.load 37 (Operand.tmp 51),type:=37,pos := "law.go:23",after:=#[{on:=3,ground:=Ground.data}],guard:=none},
 {dst:=some 53,op:=Op.fieldAddr 31 (Operand.tmp 3) 2,type:=0,pos := "law.go:23",after:=#[],guard:=none},
 {dst:=some 54,op:=Op.load 23 (Operand.tmp 53),type:=23,pos := "law.go:23",after:=#[{on:=5,ground:=Ground.data}],guard:=none},
 {dst:=some 55,op:=Op.move (Operand.tmp 5),type:=3,pos := "law.go:23",after:=#[],guard:=none},
 {dst:=some 56,op:=Op.indexAddr 23 (Operand.tmp 54) (Operand.tmp 55),type:=0,pos := "law.go:23",after:=#[{on:=6,ground:=Ground.data},{on:=7,ground:=Ground.data}],guard:=none},
 {dst:=some 57,op:=Op.load 37 (Operand.tmp 56),type:=37,pos := "law.go:23",after:=#[{on:=8,ground:=Ground.data}],guard:=none},
 {dst:=some 58,op:=Op.call {callee:=Callee.value (Operand.func 25),args:=#[Operand.tmp 52,Operand.tmp 57],argTypes:=#[37,37]},type:=4,pos := "law.go:23",after:=#[{on:=4,ground:=Ground.data},{on:=9,ground:=Ground.data}],guard:=none},
 {dst:=some 59,op:=Op.unOp UnOp.not 4 (Operand.tmp 58),type:=4,pos := "law.go:23",after:=#[{on:=10,ground:=Ground.data}],guard:=none}]
def Jk(i:Nat):Option Nat:=(qr[i]?).bind (·.dst)
theorem jfX:∀i,i<12->∀k,k<12->Jk i≠none->Jk i=Jk k->i=k:=by decide +kernel
theorem jgT:∀i,i<12->(Jk i).getD 0<61:=by decide +kernel
theorem jfN:∀i:Fin 12,∀e∈(qr[i.1]'(by exact i.2)).after,Region.binds .any e=true->e.on<i.1:=by decide +kernel
def je0(pa pb ga oa ca gb ob cb n j:Nat)(ux vx:Value):List (Value->World->Prop):=[
 fun v w=>v=.pointer (some ⟨pa,2,none⟩),
 fun v w=>v=.slice (some ⟨ga,oa,none⟩) n ca,
 fun v w=>v=.int .i64 (j:Nat),
 fun v w=>v=.pointer (some ⟨ga,oa+j,none⟩),
 fun v w=>v=ux,
 fun v w=>v=.pointer (some ⟨pb,2,none⟩),
 fun v w=>v=.slice (some ⟨gb,ob,none⟩) n cb,
 fun v w=>v=.int .i64 (j:Nat),
 fun v w=>v=.pointer (some ⟨gb,ob+j,none⟩),
 fun v w=>v=vx,
 fun v w=>v=.bool true,
 fun v w=>v=.bool false]
theorem jap(a0:Act)(w0:World)(pa pb ga oa ca gb ob cb n j:Nat)(ux vx:Value)(Q:Exit->Act->World->Prop)
  (hsz:a0.tmps.size=61) (h2:a0.tmps[2]?=some (.pointer (some ⟨pa,0,none⟩))) (h3:a0.tmps[3]?=some (.pointer (some ⟨pb,0,none⟩))) (h5:a0.tmps[5]?=some (.int .i64 (j:Nat)))
  (hj:j<n) (hE:∀W,Below w0.heap.size w0 W->W.cell? ⟨pa,2,none⟩=some (.slice (some ⟨ga,oa,none⟩) n ca)/\W.cell? ⟨pb,2,none⟩=some (.slice (some ⟨gb,ob,none⟩) n cb)/\(Instr.loadAt 37 (.pointer (some ⟨ga,oa+j,none⟩))).run Tryz.prog W=.ok ux W/\(Instr.loadAt 37 (.pointer (some ⟨gb,ob+j,none⟩))).run Tryz.prog W=.ok vx W)
  (hC10:∀(W:World) (_:Below w0.heap.size w0 W),Calls Tryz.prog 25 #[ux,vx] W fun e w=>∃v,e=.returned v/\(v=.bool true)/\Below W.heap.size W w)
  (hQ:∀(y0 y1 y2 y3 y4 y5 y6 y7 y8 y9 y10 y11:Value) (w:World),Below w0.heap.size w0 w->((fun(v:Value) (w:World)=>v=.bool false) y11 w)->Q .normal {a0 with tmps:=[(48,y0),(49,y1),(50,y2),(51,y3),(52,y4),(53,y5),(54,y6),(55,y7),(56,y8),(57,y9),(58,y10),(59,y11)].foldl (fun u p=>u.setIfInBounds p.1 p.2) a0.tmps} w) :
  wpAny Tryz.prog .any qr Q qr.size (Array.replicate qr.size false) a0 w0:=by
 have M:jff (je0 pa pb ga oa ca gb ob cb n j ux vx):=⟨fun v x y hb h=>h,fun v x y hb h=>h,fun v x y hb h=>h,fun v x y hb h=>h,fun v x y hb h=>h,fun v x y hb h=>h,fun v x y hb h=>h,fun v x y hb h=>h,fun v x y hb h=>h,fun v x y hb h=>h,fun v x y hb h=>h,fun v x y hb h=>h,trivial⟩
 refine VT a0 w0 Jk (pvL (je0 pa pb ga oa ca gb ob cb n j ux vx)) (fun x y=>Below x.heap.size x y) (jh8 _ _) (fun x y h g=>h.trans (g.mono h.size)) (fun i v x y _ g h=>JF M g h)
  (fun i o ho=>by unfold Jk;rw[ho];rfl)
  (fun i k d hi hk h1 h2=>jfX i hi k hk (by rw[h1];intro q;cases q) (by rw[h1,h2]))
  (fun i d hi h=>by have:=jgT i hi;rw[h]at this;rw[hsz];exact this)
  (fun i o e ho he hb=>by
   obtain⟨hi,rfl⟩:=Array.getElem?_eq_some_iff.1 ho
   exact jfN ⟨i,hi⟩ e he hb)
  ?step (fun w _=>jh8 _ _) ?fin
 case fin =>
  intro a w hd hs hf hv hR
  obtain⟨y0,hy0,pv0⟩:=hv 0 48 (by decide) rfl
  obtain⟨y1,hy1,pv1⟩:=hv 1 49 (by decide) rfl
  obtain⟨y2,hy2,pv2⟩:=hv 2 50 (by decide) rfl
  obtain⟨y3,hy3,pv3⟩:=hv 3 51 (by decide) rfl
  obtain⟨y4,hy4,pv4⟩:=hv 4 52 (by decide) rfl
  obtain⟨y5,hy5,pv5⟩:=hv 5 53 (by decide) rfl
  obtain⟨y6,hy6,pv6⟩:=hv 6 54 (by decide) rfl
  obtain⟨y7,hy7,pv7⟩:=hv 7 55 (by decide) rfl
  obtain⟨y8,hy8,pv8⟩:=hv 8 56 (by decide) rfl
  obtain⟨y9,hy9,pv9⟩:=hv 9 57 (by decide) rfl
  obtain⟨y10,hy10,pv10⟩:=hv 10 58 (by decide) rfl
  obtain⟨y11,hy11,pv11⟩:=hv 11 59 (by decide) rfl
  rw[Zc (a:=a) (a0:=a0) [(48,y0),(49,y1),(50,y2),(51,y3),(52,y4),(53,y5),(54,y6),(55,y7),(56,y8),(57,y9),(58,y10),(59,y11)] hd hs (by
   intro p hp
   simp only[jkl,jj7,or_false]at hp
   rcases hp with rfl|rfl|rfl|rfl|rfl|rfl|rfl|rfl|rfl|rfl|rfl|rfl
   ·exact hy0
   ·exact hy1
   ·exact hy2
   ·exact hy3
   ·exact hy4
   ·exact hy5
   ·exact hy6
   ·exact hy7
   ·exact hy8
   ·exact hy9
   ·exact hy10
   ·exact hy11
   ) (fun j hj=>hf j (fun k hk q=>hj (by
    have:∀k,k<12->(Jk k).all (fun d=>[48,49,50,51,52,53,54,55,56,57,58,59].contains d)=true:=by decide +kernel
    have h1:=this k hk
    rw[q]at h1
    simpa using h1)))]
  exact hQ y0 y1 y2 y3 y4 y5 y6 y7 y8 y9 y10 y11 w hR pv11
 case step =>
 intro i o a w ho hs hf dep hR
 have hi:i<12:=(Array.getElem?_eq_some_iff.1 ho).1
 have e2:=evT ((hf 2 (by decide +kernel)).trans h2)
 have e3:=evT ((hf 3 (by decide +kernel)).trans h3)
 have e5:=evT ((hf 5 (by decide +kernel)).trans h5)
 rcases(by omega:i=0\/i=1\/i=2\/i=3\/i=4\/i=5\/i=6\/i=7\/i=8\/i=9\/i=10\/i=11) with rfl|rfl|rfl|rfl|rfl|rfl|rfl|rfl|rfl|rfl|rfl|rfl
 ·have ho2:some _=some o:=ho
  obtain rfl:=jh9 ho2
  exact .inl ⟨zj rfl,fun K hK=>JJ (by simp[go_sem]) rfl e2 (hK _ _ (jh8 _ _) rfl)⟩
 ·have ho2:some _=some o:=ho
  obtain rfl:=jh9 ho2
  obtain⟨_,hv0,rfl⟩:∃v,a.tmps[48]?=some v/\(fun(v:Value) (w:World)=>v=.pointer (some ⟨pa,2,none⟩)) v w:=dep ⟨0,Ground.data⟩ (by first|simp|simp[qr]) rfl 48 rfl
  exact .inl ⟨zj rfl,fun K hK=>qI (by simp[go_sem,(hE w hR).1]) rfl (evT hv0) (hK _ _ (jh8 _ _) rfl)⟩
 ·have ho2:some _=some o:=ho
  obtain rfl:=jh9 ho2
  exact .inl ⟨zj rfl,fun K hK=>yd rfl e5 (hK _ _ (jh8 _ _) rfl)⟩
 ·have ho2:some _=some o:=ho
  obtain rfl:=jh9 ho2
  obtain⟨_,hv1,rfl⟩:∃v,a.tmps[49]?=some v/\(fun(v:Value) (w:World)=>v=.slice (some ⟨ga,oa,none⟩) n ca) v w:=dep ⟨1,Ground.data⟩ (by first|simp|simp[qr]) rfl 49 rfl
  obtain⟨_,hv2,rfl⟩:∃v,a.tmps[50]?=some v/\(fun(v:Value) (w:World)=>v=.int .i64 (j:Nat)) v w:=dep ⟨2,Ground.data⟩ (by first|simp|simp[qr]) rfl 50 rfl
  exact .inl ⟨zj rfl,fun K hK=>Qm (jcv hj) rfl (evT hv1) (evT hv2) (hK _ _ (jh8 _ _) rfl)⟩
 ·have ho2:some _=some o:=ho
  obtain rfl:=jh9 ho2
  obtain⟨_,hv3,rfl⟩:∃v,a.tmps[51]?=some v/\(fun(v:Value) (w:World)=>v=.pointer (some ⟨ga,oa+j,none⟩)) v w:=dep ⟨3,Ground.data⟩ (by first|simp|simp[qr]) rfl 51 rfl
  exact .inl ⟨zj rfl,fun K hK=>qI (hE w hR).2.2.1 rfl (evT hv3) (hK _ _ (jh8 _ _) rfl)⟩
 ·have ho2:some _=some o:=ho
  obtain rfl:=jh9 ho2
  exact .inl ⟨zj rfl,fun K hK=>JJ (by simp[go_sem]) rfl e3 (hK _ _ (jh8 _ _) rfl)⟩
 ·have ho2:some _=some o:=ho
  obtain rfl:=jh9 ho2
  obtain⟨_,hv5,rfl⟩:∃v,a.tmps[53]?=some v/\(fun(v:Value) (w:World)=>v=.pointer (some ⟨pb,2,none⟩)) v w:=dep ⟨5,Ground.data⟩ (by first|simp|simp[qr]) rfl 53 rfl
  exact .inl ⟨zj rfl,fun K hK=>qI (by simp[go_sem,(hE w hR).2.1]) rfl (evT hv5) (hK _ _ (jh8 _ _) rfl)⟩
 ·have ho2:some _=some o:=ho
  obtain rfl:=jh9 ho2
  exact .inl ⟨zj rfl,fun K hK=>yd rfl e5 (hK _ _ (jh8 _ _) rfl)⟩
 ·have ho2:some _=some o:=ho
  obtain rfl:=jh9 ho2
  obtain⟨_,hv6,rfl⟩:∃v,a.tmps[54]?=some v/\(fun(v:Value) (w:World)=>v=.slice (some ⟨gb,ob,none⟩) n cb) v w:=dep ⟨6,Ground.data⟩ (by first|simp|simp[qr]) rfl 54 rfl
  obtain⟨_,hv7,rfl⟩:∃v,a.tmps[55]?=some v/\(fun(v:Value) (w:World)=>v=.int .i64 (j:Nat)) v w:=dep ⟨7,Ground.data⟩ (by first|simp|simp[qr]) rfl 55 rfl
  exact .inl ⟨zj rfl,fun K hK=>Qm (jcv hj) rfl (evT hv6) (evT hv7) (hK _ _ (jh8 _ _) rfl)⟩
 ·have ho2:some _=some o:=ho
  obtain rfl:=jh9 ho2
  obtain⟨_,hv8,rfl⟩:∃v,a.tmps[56]?=some v/\(fun(v:Value) (w:World)=>v=.pointer (some ⟨gb,ob+j,none⟩)) v w:=dep ⟨8,Ground.data⟩ (by first|simp|simp[qr]) rfl 56 rfl
  exact .inl ⟨zj rfl,fun K hK=>qI (hE w hR).2.2.2 rfl (evT hv8) (hK _ _ (jh8 _ _) rfl)⟩
 ·have ho2:some _=some o:=ho
  obtain rfl:=jh9 ho2
  obtain⟨_,hv4,rfl⟩:∃v,a.tmps[52]?=some v/\(fun(v:Value) (w:World)=>v=ux) v w:=dep ⟨4,Ground.data⟩ (by first|simp|simp[qr]) rfl 52 rfl
  obtain⟨_,hv9,rfl⟩:∃v,a.tmps[57]?=some v/\(fun(v:Value) (w:World)=>v=vx) v w:=dep ⟨9,Ground.data⟩ (by first|simp|simp[qr]) rfl 57 rfl
  exact .inl ⟨zj rfl,fun K hK=>Gv 25 rfl (evT hv4) (evT hv9) (enters_of (P:=Tryz.prog) Tryz.func25 (by kernel_rfl) rfl) (hC10 w hR) (fun v w' h=>hK v w' h.2 h.1)⟩
 have ho2:some _=some o:=ho
 obtain rfl:=jh9 ho2
 obtain⟨_,hv10,rfl⟩:∃v,a.tmps[58]?=some v/\(fun(v:Value) (w:World)=>v=.bool true) v w:=dep ⟨10,Ground.data⟩ (by first|simp|simp[qr]) rfl 58 rfl
 exact .inl ⟨zj rfl,fun K hK=>jgR rfl (evT hv10) (hK _ _ (jh8 _ _) rfl)⟩
end Go.Proofs.YtmdhainabeljpaaGreatDoor
namespace Go.Proofs.YtmdhainabeljpaaGreatDoor.Bk
open Go.RowKit Go.Shelf
attribute [local go_sem] jil
theorem Ur{lo:Nat}{w:World}{a:Option Addr}{n c:Nat}{us:List Value}(h:w.ownsRow lo 37 1 (.slice a n c) n us){i:Nat}{u:Value}(hu:us[i]?=some u)(hi:i<n):∃g off,a=some ⟨g,off,none⟩/\g<w.heap.size/\w.cell? ⟨g,off+i,none⟩=some u:=by
 rcases jiY h with ⟨e,hn⟩|⟨g,cap,e⟩
 ·omega
 have e2:=e
 injection e2 with e3
 rw[e]at h
 refine⟨g,0,e3,(jje h g rfl).2,?_⟩
 rw[jiH,jin h i (by omega)]
 exact hu
theorem YV{lo lo':Nat}{w:World}{va vb:Value}{n:Nat}{base tail:List UInt8}{bds:List (List UInt8)}(h:yg lo w va n base bds tail)(h':yg lo' w vb n base bds tail)(hg:∀b∈bds,Dc b=true)(hl:bds.length<=100000):
  Calls Tryz.prog 7 #[va,vb] w fun e w'=>e=.returned (.bool true)/\Below w.heap.size w w':=by
 obtain⟨av,ae,us,rfl,hBt,hEv⟩:=h.is
 obtain⟨bv,be,us',rfl,hBt',hEv'⟩:=h'.is
 obtain⟨ba,bc,rfl,_⟩:=jg hBt.row
 obtain⟨ea,ec,rfl,_⟩:=jg hEv
 obtain⟨ba',bc',rfl,_⟩:=jg hBt'.row
 obtain⟨ea',ec',rfl,_⟩:=jg hEv'
 unfold Jr at *
 obtain⟨w1,hw1⟩:∃z,w.alloc (.cells #[.int .i64 (n:Int),.string (B base),.slice ba bds.length bc,.slice ea bds.length ec,.string (B tail)] 26)=z:=⟨_,rfl⟩
 obtain⟨b01,C1⟩:=jc7 hw1
 obtain⟨w2,hw2⟩:∃z,w1.alloc (.cells #[.int .i64 (n:Int),.string (B base),.slice ba' bds.length bc',.slice ea' bds.length ec',.string (B tail)] 31)=z:=⟨_,rfl⟩
 have b12:Below w1.heap.size w1 w2:=by rw[<- hw2];exact(jh8 _ _).alloc (jh6 _) _
 have C2:jd w2 w1.heap.size 31 #[.int .i64 (n:Int),.string (B base),.slice ba' bds.length bc',.slice ea' bds.length ec',.string (B tail)]:=by rw[<- hw2];exact jd.new _ _ _
 have b02:=b01.trans (b12.mono b01.size)
 have B2:=jh5 b02
 have HC1:=jh5 (jb C1 b12 C1.lt)
 have HC2:=jh5 C2
 have HT:=jh5 (hBt.below b02)
 have HT':=jh5 (hBt'.below b02)
 have IS:=jh5 (jcr _ (.slice ea bds.length ec) (.slice ea' bds.length ec') w2 (KV (jJ hEv b02 (jh6 _))) (KV (jJ hEv' b02 (jh6 _))) (by rw[jiA,vg];omega))
 have a0:=HC1.out.cell 0
 have a1:=HC1.out.cell 1
 have a2:=HC1.out.cell 2
 have a3:=HC1.out.cell 3
 have a4:=HC1.out.cell 4
 have c0:=HC2.out.cell 0
 have c1:=HC2.out.cell 1
 have c2:=HC2.out.cell 2
 have c3:=HC2.out.cell 3
 have c4:=HC2.out.cell 4
 simp only[jie,jid,jib]at a0 a1 a2 a3 a4 c0 c1 c2 c3 c4
 have s1:=jbI base
 have s3:=jbI tail
 have HG:=jh5 hg
 clear h h' hBt hEv hBt' hEv' b01 C1 b12 C2 b02 hg
 go_enter Tryz.func7,Tryz.ntmps7
 go_wp2_with fail
 refine IS.out.mono ?_
 rintro e w3 ⟨rfl,b3⟩
 have B23:=jh5 b3
 have B3:=jh5 (B2.out.trans (b3.mono B2.out.size))
 have k1:=jb HC1.out b3 HC1.out.lt
 have k2:=jb HC2.out b3 HC2.out.lt
 have d2:=k1.cell 2
 have e2:=k2.cell 2
 simp only[jie,jid,jib]at d2 e2
 clear b3 k1 k2 IS
 go_wp2_with fail
 go_loopw [45] (fun iv wr=>∃j:Nat,j<=bds.length/\iv=.int .i64 (j:Nat)/\Below w3.heap.size w3 wr) (fun iv _=>bds.length-(intOf iv).toNat)
 case atStart=>exact⟨0,jii _,rfl,jh8 _ _⟩
 case round =>
 obtain⟨j,hj,rfl,hb⟩:=hrel
 have BW:=jh5 (B3.out.trans (hb.mono B3.out.size))
 have B2W:=jh5 (B23.out.trans (hb.mono B23.out.size))
 have HBW:=jh5 hb
 by_cases hlt:j<bds.length
 ·obtain⟨b,hbj⟩:∃b,bds[j]?=some b:=⟨_,jia hlt⟩
  have TR:=jh5 (HT.out.below B2W.out)
  have TR':=jh5 (HT'.out.below B2W.out)
  obtain⟨u,hu⟩:∃u,us[j]?=some u:=⟨_,jia (by rw[TR.out.len];exact hlt)⟩
  obtain⟨u',hu'⟩:∃u,us'[j]?=some u:=⟨_,jia (by rw[TR'.out.len];exact hlt)⟩
  obtain⟨_,ho⟩:=TR.out.each j b u hbj hu
  obtain⟨oa,oc,rfl,_⟩:=jg ho.row
  obtain⟨_,ho'⟩:=TR'.out.each j b u' hbj hu'
  obtain⟨oa',oc',rfl,_⟩:=jg ho'.row
  have hdb:=HG.out b (jim hbj)
  have E1:Hid (∀W',Below wr.heap.size wr W'->Calls Tryz.prog 25 #[_,_] W' fun e w'=>e=.returned (.bool true)/\Below W'.heap.size W' w'):=fun W' hW=>jbc (TR.out.below hW) (TR'.out.below hW) hbj hbj hu hu' hdb
  obtain⟨gb,ob,rfl,hgb,v1⟩:=Ur TR.out.row hu hlt
  obtain⟨gc,og,rfl,hgc,v2⟩:=Ur TR'.out.row hu' hlt
  have DR:Hid (Below wr.heap.size wr wr.drew):=(jh8 _ _).drew
  have HE:Hid (∀W,Below wr.drew.heap.size wr.drew W->W.cell? ⟨w.heap.size,2,none⟩=some (.slice (some ⟨gb,ob,none⟩) bds.length bc)/\W.cell? ⟨w1.heap.size,2,none⟩=some (.slice (some ⟨gc,og,none⟩) bds.length bc')/\(Instr.loadAt 37 (.pointer (some ⟨gb,ob+j,none⟩))).run Tryz.prog W=.ok (.slice oa (vO b).length oc) W/\(Instr.loadAt 37 (.pointer (some ⟨gc,og+j,none⟩))).run Tryz.prog W=.ok (.slice oa' (vO b).length oc') W):=fun W hW=>by
   have h:=DR.out.trans hW
   have h2:=B2W.out.trans (h.mono B2W.out.size)
   have k1:=(jb HC1.out h2 HC1.out.lt).cell 2
   have k2:=(jb HC2.out h2 HC2.out.lt).cell 2
   simp only[jie,jid,jib]at k1 k2
   have x1:=(h.cell (p:=⟨gb,ob+j,none⟩) hgb).trans v1
   have x2:=(h.cell (p:=⟨gc,og+j,none⟩) hgc).trans v2
   exact⟨k1,k2,by simp[go_sem,x1],by simp[go_sem,x2]⟩
  clear ho ho' hdb hbj hu hu' hb
  go_upto_region 6 with fail
  refine wp_region_any (by kernel_rfl) ?_
  refine jap _ wr.drew w.heap.size w1.heap.size gb ob bc gc og bc' bds.length j (.slice oa (vO b).length oc) (.slice oa' (vO b).length oc') _ rfl rfl rfl rfl hlt HE.out (fun W hW=>(E1.out W (DR.out.trans hW)).mono fun e w' ⟨h1,h2⟩=>⟨_,h1,rfl,h2⟩) ?hQ
  case hQ =>
  intro y0 y1 y2 y3 y4 y5 y6 y7 y8 y9 y10 y11 wz hbz hy11
  have hy:y11=.bool false:=hy11
  subst hy
  have HZ:=jh5 (HBW.out.trans ((DR.out.trans hbz).mono HBW.out.size))
  clear hbz hy11 HE E1
  simp only[List.foldl,jiw,jiU,jiV]
  go_wp2_with fail
  go_roundw
  case rel=>exact⟨j+1,hlt,by go_num,HZ.out⟩
  case measure=>simp[intOf];omega
 clear hb
 go_wp2_with fail
 go_ret
 exact⟨rfl,BW.out⟩
end Go.Proofs.YtmdhainabeljpaaGreatDoor.Bk
namespace Go.Proofs.YtmdhainabeljpaaGreatDoor
open Go.RowKit Go.Shelf
section
variable {K:Act->World->Prop} {Q:Exit->Act->World->Prop} {o:Oper} {a:Act} {w:World}
theorem QS{x:Operand}{s:ByteArray}(ho:o.op=Op.call {callee:=Callee.builtin Builtin.len,args:=#[x],argTypes:=#[9]})(hx:a.eval x=.string s)(hK:K (a.put o.dst (.int .i64 s.size)) w):Oper.wp Tryz.prog o a w K Q:=by
 refine xl ?_ hK
 generalize a.eval=ρ at hx ⊢
 simp only[execOp,ho]
 simp[go_sem,hx,resolve,invoke,builtin,Result.andThen]
end
end Go.Proofs.YtmdhainabeljpaaGreatDoor
