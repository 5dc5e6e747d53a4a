/- Texts put together:TG,TJ,UF,RI,RQ,RK,QI,QJ. -/
import Derived.Orders
import Derived.Sort.BigQuietIn
import Derived.Test.YtimfhnfcmhmjcaaGreatDoorBgr9
set_option linter.unusedVariables false
set_option maxRecDepth 100000
set_option maxHeartbeats 16000000
namespace Go.Proofs.YtimfhnfcmhmjcaaGreatDoor
open Go.RowKit Go.Shelf
theorem jgP{W:World}{base n b:Nat}{v:Value}{xs:List Value}{cs:Array Value}(h:W.ownsRow base 111 3 v n xs)(hc:ja W b 111 cs)(hs:cs.size=3)(hn:2<=n):v.ownBlock≠some b:=by
 intro e
 rcases h.2 with ⟨rfl,h0⟩|⟨g,cap,cur,rfl,_,hg,h1,h2,h3,_⟩
 ·cases e
 cases e
 have h4:=hc
 unfold ja at h4
 rw[h4]at hg
 injection hg with hg
 injection hg with hg
 subst hg
 omega
theorem Qr.set{w W:World}{v:Value}{fvs:List Value}{its:List It}{b:Nat}{cs:Array Value}(h:Qr w W v fvs its)(i:Nat)(hc:ja W b 111 cs)(hne:v.ownBlock≠some b)(hb:w.heap.size<=b)(x:Value):Qr w (W.setCell ⟨b,i,none⟩ x) v fvs its:=by
 refine⟨jv (p:=⟨b,i,none⟩) h.row hne x,h.len,fun j y s hy hs=>jv (p:=⟨b,i,none⟩) (h.each j y s hy hs) (fun e => ?_) x,h.below.setCell (p:=⟨b,i,none⟩) hb x⟩
 rcases(h.each j y s hy hs).2 with ⟨rfl,_⟩|⟨g,cap,cur,rfl,_,hg,_⟩
 ·cases e
 cases e
 have h4:=hc
 unfold ja at h4
 rw[h4]at hg
 injection hg with hg
 injection hg with _ h2 _
 exact absurd h2 (by decide)
theorem Vd{w w':World}{o:Obj}(h:Below w.heap.size w w'):Below w.heap.size w (w'.alloc o):=h.alloc h.size o
theorem Xk{w w' w'':World}(h:Below w.heap.size w w')(h2:Below w'.heap.size w' w''):Below w.heap.size w w'':=h.trans (h2.mono h.size)
theorem Ks{W w3:World}{o:Option Nat}{b:Nat}{t:TypeId}{cs:Array Value}(hc:ja W b t cs)(hg:W.grownBy w3 o)(hne:o≠some b):ja w3 b t cs :=
 (hg.block b hc.lt (fun e=>hne (by first | exact e | exact e.symm))).trans hc
theorem row_ne{W:World}{base n:Nat}{e:TypeId}{sz:Nat}{v:Value}{xs:List Value}(h:W.ownsRow base e sz v n xs):v.ownBlock≠some W.heap.size:=fun q=>by have:=(h.lt _ q).2;omega
theorem jcR(its:List It)(v:Value)(w:World)(h:Its w v its)(hnil:je0 w v its)(hn:its.length<=100000)(hf:∀it∈its,it.fields.length<=1000000):
  Calls Tryz.prog 77 #[v] w fun e w'=>∃u fvs,e=.returned u/\Qr w w' u fvs (zb its):=by
 obtain⟨i0,hi,hz0,hz1,hz2⟩:=info_parts VY
 have HN:=jii hnil
 obtain⟨A,cap,rfl,hle,hc⟩:=h
 have HC:=jii hc
 have HFS:=jii hf
 clear hc hf hnil
 go_enter Tryz.func77,Tryz.ntmps77
 go_wp2_with fail
 go_loopw [3,8] (fun u i wr=>∃(k:Nat) (fvs:List Value),k<=its.length/\i=.int .i64 k/\Qr w wr u fvs (zb (its.take k))) (fun _ i _=>its.length-(intOf i).toNat)
 case atStart=>exact⟨0,[],jiD _,rfl,Qr.start w⟩
 case round =>
 obtain⟨k,fvs,hk,rfl,hacc⟩:=hrel
 by_cases hlt:k<its.length
 ·obtain⟨it,hit⟩:∃it,its[k]?=some it:=⟨_,jim hlt⟩
  obtain⟨b,off,fv,rfl,hbb,c0,c1,c2,hfl⟩:=HC.out k it hit
  have NI:Hid (∀n c,fv=.slice none n c->c=0):=fun n c e=>HN.out k b off _ cap n c rfl hlt (by rw[c2,e])
  obtain⟨fa,fc,rfl,_,_⟩:=id hfl
  have nf:=HFS.out it (jiA hit)
  have hb:=hacc.below
  have hzw:=hb.size
  have al:=XN (its.take k)
  rw[jiq]at al
  have SN:=Vs its k it hit
  have HFL:=jii hfl
  replace c0:=(hb.cell (p:=⟨b,off+k*3,none⟩) hbb).trans c0
  replace c1:=(hb.cell (p:=⟨b,off+k*3+1,none⟩) hbb).trans c1
  replace c2:=(hb.cell (p:=⟨b,off+k*3+1+1,none⟩) hbb).trans c2
  obtain⟨gap,hgap⟩:∃gap:Bool,(Qj false (its.take k)&&it.kind != 1)=gap:=⟨_,rfl⟩
  have SN2:Hid (zb (its.take (k+1))=(zb (its.take k)++if gap=true then [⟨1,[10],[]⟩] else [])++[it]):=by
   show _=_
   rw[SN,<- hgap]
   simp
  have PV:Hid (0<k->∃(jt:It) (ga:Option Addr) (gc:Nat),(∀W,Below w.heap.size w W->W.cell? ⟨b,off+(k-1)*3,none⟩=some (.int .i64 jt.kind)/\W.cell? ⟨b,off+(k-1)*3+1,none⟩=some (.string (B jt.raw))/\W.cell? ⟨b,off+(k-1)*3+1+1,none⟩=some (.slice ga jt.fields.length gc))/\gap=(jt.kind != 1&&it.kind != 1)):=by
   intro hj
   obtain⟨jt,hjt⟩:∃jt,its[k-1]?=some jt:=⟨_,jim (by omega)⟩
   obtain⟨b',off',fv',e,hbb',d0,d1,d2,hfj⟩:=HC.out (k-1) jt hjt
   cases e
   obtain⟨ga,gc,rfl,_,_⟩:=id hfj
   refine⟨jt,ga,gc,fun W hW=>⟨(hW.cell (p:=⟨b,off+(k-1)*3,none⟩) hbb').trans d0,(hW.cell (p:=⟨b,off+(k-1)*3+1,none⟩) hbb').trans d1,(hW.cell (p:=⟨b,off+(k-1)*3+1+1,none⟩) hbb').trans d2⟩,?_⟩
   have:=jdL its (k-1) jt hjt
   rw[show k-1+1=k by omega]at this
   rw[<- hgap,this]
  have P0:Hid (k=0->gap=false):=by
   intro h;rw[<- hgap,h];rfl
  have PG:Hid (gap=true->1<=(zb (its.take k)).length):=by
   intro h
   have:k≠0:=fun e=>by rw[P0.out e]at h;cases h
   have h2:=Vs its (k-1) (its[k-1]'(by omega)) (jim (by omega))
   rw[show k-1+1=k by omega]at h2
   rw[h2,jik];simp
  have ACC0:=jii hacc
  obtain⟨ua,uc,hue,_⟩:=je hacc.row
  subst hue
  have BX:=jii (ja.new wr 111 #[.int .i64 it.kind,.string (B it.raw),.slice fa it.fields.length fc])
  have hba:Below wr.heap.size wr (wr.alloc (.cells #[.int .i64 it.kind,.string (B it.raw),.slice fa it.fields.length fc] 111)):=(jil _ _).alloc (jij _) _
  have NE0:=jii (row_ne hacc.row)
  clear hacc hit hfl SN hgap
  generalize hap:zb (its.take k)=ap at *
  clear hap
  go_upto_region 5 with fail
  have hzwb:(wr.alloc (.cells #[.int .i64 it.kind,.string (B it.raw),.slice fa it.fields.length fc] 111)).heap.size=wr.heap.size+1:=by simp
  generalize wr.alloc (.cells #[.int .i64 it.kind,.string (B it.raw),.slice fa it.fields.length fc] 111)=wb at *
  go_cut [23] (fun c wx=>c=.bool gap/\Below wb.heap.size wb wx)
  case first =>
   rcases jkj k with h0|h0
   ·have hg:=P0.out h0
    have hk0:¬(0<k):=by omega
    clear h0
    go_wp2_with (go_quiet (fail))
    go_meet
    exact⟨by rw[hg],by first | exact jil _ _ | exact vf (jil _ _) _⟩
   obtain⟨jt,ga,gc,dd,hg⟩:=PV.out h0
   have hbw:Below w.heap.size w wb:=hb.trans (hba.mono hzw)
   have HS:=jii (show ∀W,Below wb.heap.size wb W->(Below wb.heap.size wb W/\W.cell? ⟨b,off+(k-1)*3,none⟩=some (.int .i64 jt.kind)/\W.cell? ⟨b,off+(k-1)*3+1,none⟩=some (.string (B jt.raw))/\W.cell? ⟨b,off+(k-1)*3+1+1,none⟩=some (.slice ga jt.fields.length gc)/\W.cell? ⟨wr.heap.size,0,none⟩=some (.int .i64 it.kind)/\W.cell? ⟨wr.heap.size,1,none⟩=some (.string (B it.raw))/\W.cell? ⟨wr.heap.size,2,none⟩=some (.slice fa it.fields.length fc)) from fun W hB =>
    have hW:=dd W (hbw.trans (hB.mono hbw.size))
    have hX:=jb BX.out hB (by omega)
    ⟨hB,hW.1,hW.2.1,hW.2.2,hX.cell 0,hX.cell 1,hX.cell 2⟩)
   have TO:=jii (fun W=>jaQ jt.kind it.kind (.string (B jt.raw)) (.string (B it.raw)) (.slice ga jt.fields.length gc) (.slice fa it.fields.length fc) rfl W _ _ _ _ _ _ _ _ rfl rfl rfl rfl)
   have HG:=jii hg
   obtain⟨m,rfl⟩:∃m,k=m+1:=⟨k-1,by omega⟩
   rw[show m+1-1=m by omega]at HS
   have hki:(0:Int)<=(m:Int):=by omega
   have hki2:(m:Int)<(its.length:Int):=by omega
   have hki3:m<its.length:=by omega
   have hki4:IntKind.i64.wrap (((m+1:Nat):Int)-1)=(m:Int):=by rw[show((m+1:Nat):Int)-1=(m:Int) by omega];exact jiM _ (by omega)
   have hki5:IntKind.i64.wrap (m:Int)=(m:Int):=jiM _ (by omega)
   have hki6:IntKind.i64.wrap ((m:Int)+1-1)=(m:Int):=by rw[show(m:Int)+1-1=(m:Int) by omega];exact hki5
   clear hg dd c0 c1 c2 hbw
   go_region_held3 (fun W=>Below wb.heap.size wb W/\W.cell? ⟨b,off+m*3,none⟩=some (.int .i64 jt.kind)/\W.cell? ⟨b,off+m*3+1,none⟩=some (.string (B jt.raw))/\W.cell? ⟨b,off+m*3+1+1,none⟩=some (.slice ga jt.fields.length gc)/\W.cell? ⟨wr.heap.size,0,none⟩=some (.int .i64 it.kind)/\W.cell? ⟨wr.heap.size,1,none⟩=some (.string (B it.raw))/\W.cell? ⟨wr.heap.size,2,none⟩=some (.slice fa it.fields.length fc)) ((refine HS.out _ ?_;repeat (first | exact jil _ _ | assumption | (refine Below.drew ?_) | (refine Vd ?_) | (refine Xk ?_ (by assumption))))) ((go_at_call 141;refine(TO.out _).mono ?_;rintro e w5 ⟨rfl,hb5⟩))
   all_goals go_wp2_with fail
   all_goals go_meet
   all_goals exact⟨by rw[HG.out],by repeat (first | exact jil _ _ | assumption | (refine Below.drew ?_) | (refine Vd ?_) | (refine Xk ?_ (by assumption)))⟩
  case rest =>
  obtain⟨rfl,hcb⟩:=hcut
  have hcz:=hcb.size
  have hrc:Below wr.heap.size wr wc:=hba.trans (hcb.mono (by omega))
  have BXY:Hid (ja wc wr.heap.size 111 #[.int .i64 it.kind,.string (B it.raw),.slice fa it.fields.length fc]):=jb BX.out hcb (by omega)
  have ACC:=jii (ACC0.out.kept hrc)
  have HNE:=NE0
  clear PV P0 HC BX ACC0 hcb hba c0 c1 c2 NE0 hb HN HFS
  obtain⟨j,hjk⟩:∃j,j=k:=⟨k,rfl⟩
  subst hjk
  cases gap with
  | false =>
   have SNH:Hid (zb (its.take (j+1))=ap++[it]):=by
    show _=_
    rw[SN2.out,if_neg (by decide),jiO]
   clear SN2 PG
   have hby:=ACC.out.below
   have hzy:=hby.size
   have FLy:=HFL.out.below hby (jij _)
   have CO:=jii (vB it.fields _ wc FLy NI.out nf)
   have lby:=BXY.out.lt
   have d2:wc.cell? ⟨wr.heap.size,2,none⟩=some (.slice fa it.fields.length fc):=BXY.out.cell 2
   clear FLy
   go_wp2_with fail
   refine CO.out.mono ?_
   rintro e w3 ⟨x,rfl,hx,b3⟩
   obtain⟨xa,xc,hxe,_⟩:=je hx
   subst hxe
   have bx3:=jb BXY.out b3 lby
   have hz3:=b3.size
   have hb3:=hby.trans (b3.mono hzy)
   have d2':w3.cell? ⟨wr.heap.size,2,none⟩=some (.slice fa it.fields.length fc):=bx3.cell 2
   have f2':=bx3.frozen 2
   have lz3:=bx3.lt
   have hb4:Below w.heap.size w (w3.setCell ⟨wr.heap.size,2,none⟩ (.slice xa it.fields.length xc)):=hb3.setCell (p:=⟨wr.heap.size,2,none⟩) hzw _
   have hacc4:=(ACC.out.kept b3).set 2 bx3 HNE.out hzw (.slice xa it.fields.length xc)
   have hx4:(w3.setCell ⟨wr.heap.size,2,none⟩ (.slice xa it.fields.length xc)).ownsRow w.heap.size 155 2 (.slice xa it.fields.length xc) it.fields.length (js it.fields) :=
    jv (p:=⟨wr.heap.size,2,none⟩) (jC hx (by omega)) (fun e=>by have h9:wc.heap.size<=wr.heap.size:=(hx.lt _ e).1;omega) _
   have bx4:ja (w3.setCell ⟨wr.heap.size,2,none⟩ (.slice xa it.fields.length xc)) wr.heap.size 111 #[.int .i64 it.kind,.string (B it.raw),.slice xa it.fields.length xc]:=by
    simpa using bx3.set 2 (.slice xa it.fields.length xc)
   have e0:(w3.setCell ⟨wr.heap.size,2,none⟩ (.slice xa it.fields.length xc)).cell? ⟨wr.heap.size,0,none⟩=some (.int .i64 it.kind):=bx4.cell 0
   have e1:(w3.setCell ⟨wr.heap.size,2,none⟩ (.slice xa it.fields.length xc)).cell? ⟨wr.heap.size,1,none⟩=some (.string (B it.raw)):=bx4.cell 1
   have e2:(w3.setCell ⟨wr.heap.size,2,none⟩ (.slice xa it.fields.length xc)).cell? ⟨wr.heap.size,2,none⟩=some (.slice xa it.fields.length xc):=bx4.cell 2
   have hrow:=hacc4.row
   have hz14:=hacc4.below.size
   have HACC:=jii hacc4
   have HX:=jii hx4
   have hv:=jV (w3.setCell ⟨wr.heap.size,2,none⟩ (.slice xa it.fields.length xc)) 111 [.int .i64 it.kind,.string (B it.raw),.slice xa it.fields.length xc]
   rw[show(w3.setCell ⟨wr.heap.size,2,none⟩ (.slice xa it.fields.length xc)).heap.size=w3.heap.size by simp[World.setCell]]at hv hz14
   have HV:=jii hv
   clear hv
   clear hacc4 hx4 hx bx3 bx4 CO b3 BXY ACC
   go_wp2_with (at_builtin;refine wpList_append_own _ rfl _ _ 96 rfl w.heap.size 111 i0 _ 3 48 Tryz.underlying96 hi hz0 hz1 hz2 rfl (by decide) _ _ _ rfl (hrow.alloc _) ⟨w3.heap.size,0,none⟩ 1 1 _ rfl rfl HV.out (by intro u hu;simp at hu;rcases hu with rfl | rfl | rfl<;>rfl) (by unfold maxLen;omega) (by omega) (by first | omega | (simp only[jiB];omega) | (simp[World.setCell];omega)) ?_)
   intro v' w5 hown' hgrow _
   have hacc5:=HACC.out.snoc HX.out hown' _ hgrow
   obtain⟨g',cap5,rfl⟩:=ownsRow_succ hown'
   go_wp2_with fail
   go_roundw
   case rel=>exact⟨j+1,_,hlt,by go_num,by rw[SNH.out];exact hacc5⟩
   case measure=>simp[intOf];omega
  | true =>
  have SNH:Hid (zb (its.take (j+1))=(ap++[⟨1,[10],[]⟩])++[it]):=by
   show _=_
   rw[SN2.out,if_pos rfl]
  have hap1:=PG.out rfl
  clear SN2 PG
  have HV0:=jii (jV wc 111 [.int .i64 1,.string ⟨#[10]⟩,.slice none 0 0])
  have hrow0:=ACC.out.row
  have hzc:=ACC.out.below.size
  go_wp2_with (at_builtin;refine wpList_append_own _ rfl _ _ 96 rfl w.heap.size 111 i0 _ 3 48 Tryz.underlying96 hi hz0 hz1 hz2 rfl (by decide) _ _ _ rfl (hrow0.alloc _) ⟨wc.heap.size,0,none⟩ 1 1 _ rfl rfl HV0.out (by intro u hu;simp at hu;rcases hu with rfl | rfl | rfl<;>rfl) (by unfold maxLen;omega) (by omega) (by first | omega | (simp only[jiB];omega) | (simp[World.setCell];omega)) ?_)
  intro v4 w4 hown4 hgrow4 _
  have hacc4:=ACC.out.snoc (it:=⟨1,[10],[]⟩) (x:=.slice none 0 0) ⟨rfl,.inl ⟨rfl,rfl⟩⟩ hown4 _ hgrow4
  have BX4:=Ks (BXY.out.alloc _) hgrow4 HNE.out
  have HN4:=jgP hown4 BX4 rfl (by omega)
  obtain⟨g4,cap4,rfl⟩:=ownsRow_succ hown4
  have hlen4:(ap++[(⟨1,[10],[]⟩:It)]).length=ap.length+1:=by simp
  have HLEN:=jii hlen4
  clear ACC hgrow4 hown4 hrow0 HV0 BXY HNE hlen4
  have ACC:=jii hacc4
  have BXY:=jii BX4
  have HNE:=jii HN4
  clear hacc4 BX4 HN4
  have hby:=ACC.out.below
  have hzy:=hby.size
  have FLy:=HFL.out.below hby (jij _)
  have CO:=jii (vB it.fields _ w4 FLy NI.out nf)
  have lby:=BXY.out.lt
  have d2:w4.cell? ⟨wr.heap.size,2,none⟩=some (.slice fa it.fields.length fc):=BXY.out.cell 2
  clear FLy
  go_wp2_with fail
  refine CO.out.mono ?_
  rintro e w3 ⟨x,rfl,hx,b3⟩
  obtain⟨xa,xc,hxe,_⟩:=je hx
  subst hxe
  have bx3:=jb BXY.out b3 lby
  have hz3:=b3.size
  have hb3:=hby.trans (b3.mono hzy)
  have d2':w3.cell? ⟨wr.heap.size,2,none⟩=some (.slice fa it.fields.length fc):=bx3.cell 2
  have f2':=bx3.frozen 2
  have lz3:=bx3.lt
  have hb4:Below w.heap.size w (w3.setCell ⟨wr.heap.size,2,none⟩ (.slice xa it.fields.length xc)):=hb3.setCell (p:=⟨wr.heap.size,2,none⟩) hzw _
  have hacc4:=(ACC.out.kept b3).set 2 bx3 HNE.out hzw (.slice xa it.fields.length xc)
  have hx4:(w3.setCell ⟨wr.heap.size,2,none⟩ (.slice xa it.fields.length xc)).ownsRow w.heap.size 155 2 (.slice xa it.fields.length xc) it.fields.length (js it.fields) :=
   jv (p:=⟨wr.heap.size,2,none⟩) (jC hx (by omega)) (fun e=>by have h9:w4.heap.size<=wr.heap.size:=(hx.lt _ e).1;omega) _
  have bx4:ja (w3.setCell ⟨wr.heap.size,2,none⟩ (.slice xa it.fields.length xc)) wr.heap.size 111 #[.int .i64 it.kind,.string (B it.raw),.slice xa it.fields.length xc]:=by
   simpa using bx3.set 2 (.slice xa it.fields.length xc)
  have e0:(w3.setCell ⟨wr.heap.size,2,none⟩ (.slice xa it.fields.length xc)).cell? ⟨wr.heap.size,0,none⟩=some (.int .i64 it.kind):=bx4.cell 0
  have e1:(w3.setCell ⟨wr.heap.size,2,none⟩ (.slice xa it.fields.length xc)).cell? ⟨wr.heap.size,1,none⟩=some (.string (B it.raw)):=bx4.cell 1
  have e2:(w3.setCell ⟨wr.heap.size,2,none⟩ (.slice xa it.fields.length xc)).cell? ⟨wr.heap.size,2,none⟩=some (.slice xa it.fields.length xc):=bx4.cell 2
  have hrow:=hacc4.row
  rw[HLEN.out]at hrow
  have hz14:=hacc4.below.size
  have HACC:=jii hacc4
  have HX:=jii hx4
  have hv:=jV (w3.setCell ⟨wr.heap.size,2,none⟩ (.slice xa it.fields.length xc)) 111 [.int .i64 it.kind,.string (B it.raw),.slice xa it.fields.length xc]
  rw[show(w3.setCell ⟨wr.heap.size,2,none⟩ (.slice xa it.fields.length xc)).heap.size=w3.heap.size by simp[World.setCell]]at hv hz14
  have HV:=jii hv
  clear hv
  clear hacc4 hx4 hx bx3 bx4 CO b3 BXY ACC
  go_wp2_with (at_builtin;refine wpList_append_own _ rfl _ _ 96 rfl w.heap.size 111 i0 _ 3 48 Tryz.underlying96 hi hz0 hz1 hz2 rfl (by decide) _ _ _ rfl (hrow.alloc _) ⟨w3.heap.size,0,none⟩ 1 1 _ rfl rfl HV.out (by intro u hu;simp at hu;rcases hu with rfl | rfl | rfl<;>rfl) (by unfold maxLen;omega) (by omega) (by first | omega | (simp only[jiB];omega) | (simp[World.setCell];omega)) ?_)
  intro v' w5 hown' hgrow _
  have hacc5:=HACC.out.snoc HX.out (by rw[HLEN.out];exact hown') _ hgrow
  obtain⟨g',cap5,rfl⟩:=ownsRow_succ hown'
  go_wp2_with fail
  go_roundw
  case rel=>exact⟨j+1,_,hlt,by go_num,by rw[SNH.out];exact hacc5⟩
  case measure=>simp[intOf];omega
 obtain rfl:k=its.length:=by omega
 rw[jiL]at hacc
 clear HC HN HFS
 go_wp2_with fail
 go_ret
 exact⟨_,fvs,rfl,hacc⟩
theorem jcP{its:List It}{n:Nat}(h:∀it∈its,it.raw.length<=n)(hn:1<=n):∀it∈zb its,it.raw.length<=n:=by
 intro it hi
 rcases jcQ hi with h1|rfl
 ·exact h it h1
 exact hn
theorem Gq(its:List It)(v:Value)(w:World)(h:Its w v its)(hnil:je0 w v its)(hn:its.length<=10000)(hf:∀it∈its,it.fields.length<=1000000)(hr:∀it∈its,it.raw.length<=100000):
  Calls Tryz.prog 41 #[v] w fun e w'=>e=.returned (.string (B ((zb its).flatMap It.raw)))/\Below w.heap.size w w':=by
 have AP:=jii (jcR its v w h hnil (by omega) hf)
 have RW:=jii (jcP hr (by decide))
 have al:=XN its
 obtain⟨A,cap,rfl,hle,_⟩:=id h
 clear h hnil hf hr
 go_enter Tryz.func41,Tryz.ntmps41
 go_wp2_with fail
 refine AP.out.mono ?_
 rintro e w1 ⟨u,fvs,rfl,acc⟩
 obtain⟨ua,uc,hue,_⟩:=je acc.row
 subst hue
 have b1:=acc.below
 have hz1:=b1.size
 have J:=jii (jdN (zb its) _ w1 acc.its (by omega) RW.out)
 clear AP acc
 go_wp2_with fail
 refine J.out.mono ?_
 rintro e w2 ⟨rfl,b2⟩
 have hb2:=b1.trans (b2.mono hz1)
 go_wp2_with fail
 go_ret
 exact⟨rfl,hb2⟩
theorem jgL{fn:Func}{p:Tmp}(h:fn.results=#[.cell p 111])(tmps:Array Value)(w:World)(b:Nat)(cur:Array Value)(hp:tmps.getD p undef=.pointer (some ⟨b,0,none⟩))
  (hc:ja w b 111 cur) (hz:cur.size=3):(results fn tmps).run Tryz.prog w=.ok (.agg cur) w:=by
 have L:=run_loadVar_row (P:=Tryz.prog) w b 111 111 cur (0,0) _ hc Tryz.underlying111 rfl (by rw[hz];kernel_rfl)
 rw[qL h,hp]
 show(loadVar _ _).run _ _=_
 exact L
end Go.Proofs.YtimfhnfcmhmjcaaGreatDoor
namespace Go.Proofs.YtimfhnfcmhmjcaaGreatDoor
open Go.RowKit Go.Shelf
attribute [local go_sem] jit
structure Qf(ps:List Pr):Prop where
 len:ps.length<=10000
 raw:∀p∈ps,p.1.1.raw.length<=100000
 fields:∀p∈ps,p.1.1.fields.length<=1000000
 num:∀p∈ps,-1000000<=p.1.2/\p.1.2<=1000000
theorem jdj{fn:Func}{p:Tmp}(h:fn.results=#[.cell p 111])(tmps:Array Value)(w:World)(b:Nat)(cur:Array Value)(hp:tmps.getD p undef=.pointer (some ⟨b,0,none⟩))
  (hc:ja w b 111 cur) (hz:cur.size=3):(results fn tmps).run Tryz.prog w=.ok (.agg cur) w:=jgL h tmps w b cur hp hc hz
theorem Xf(p:Pr)(w:World)(h:xk w p.2 p.1.1.fields)(hn:p.1.1.fields.length<=1000000):
  Calls Tryz.prog 78 #[Xt p] w fun e w'=>∃x,e=.returned (.agg #[.int .i64 p.1.1.kind,.string (B p.1.1.raw),x])/\w'.ownsRow w.heap.size 155 2 x p.1.1.fields.length (js p.1.1.fields)/\Below w.heap.size w w':=by
 obtain⟨⟨⟨kd,raw,fs⟩,num⟩,fv⟩:=p
 dsimp only at h hn ⊢
 obtain⟨fa,fc,rfl⟩:=h.form
 unfold Xt
 dsimp only
 generalize B raw=rw_ at *
 have hb3:Below w.heap.size w (((w.alloc (.cells #[.int .i64 kd,.string rw_,.slice fa fs.length fc,.int .i64 num] 113)).alloc (.cells #[.int .i64 0,.string ⟨#[]⟩,.slice none 0 0] 111)).alloc (.cells #[.int .i64 kd,.string rw_,.slice fa fs.length fc] 111)):=(((jil _ w).alloc (jij _) _).alloc (by simp) _).alloc (by simp;omega) _
 have CL:=jii (vB fs (.slice fa fs.length fc) _ (h.1.below hb3 (jij _)) h.2 hn)
 have BX:=jii (ja.new ((w.alloc (.cells #[.int .i64 kd,.string rw_,.slice fa fs.length fc,.int .i64 num] 113)).alloc (.cells #[.int .i64 0,.string ⟨#[]⟩,.slice none 0 0] 111)) 111 #[.int .i64 kd,.string rw_,.slice fa fs.length fc])
 have BR:=jii ((ja.new (w.alloc (.cells #[.int .i64 kd,.string rw_,.slice fa fs.length fc,.int .i64 num] 113)) 111 #[.int .i64 0,.string ⟨#[]⟩,.slice none 0 0]).alloc (.cells #[.int .i64 kd,.string rw_,.slice fa fs.length fc] 111))
 have HB3:=jii hb3
 clear h hb3
 go_enter Tryz.func78,Tryz.ntmps78
 go_wp2_with fail
 refine CL.out.mono ?_
 rintro e w1 ⟨x,rfl,hx,b1⟩
 obtain⟨xa,xc,rfl,_⟩:=je hx
 have R1:=jb BX.out b1 (by simp)
 have R2:=jb BR.out b1 (by simp)
 rw[jiB,jiB]at R1
 rw[jiB]at R2
 have hz:=b1.size
 simp only[jiB]at hz
 have c0:=R1.cell 0
 have c1:=R1.cell 1
 have c2:=R1.cell 2
 have f2:=R1.frozen 2
 have d0:=R2.cell 0
 have d1:=R2.cell 1
 have d2:=R2.cell 2
 have g0:=R2.frozen 0
 have g1:=R2.frozen 1
 have g2:=R2.frozen 2
 have HX:=jii hx
 have hb1:=jii (HB3.out.trans (b1.mono HB3.out.size))
 have S1:=jii R1
 have S2:=jii R2
 simp only[jiv,jiu,jio]at c0 c1 c2 d0 d1 d2
 clear CL BX BR hx R1 R2 b1
 go_wp2_with fail
 have hne:∀k,k<w.heap.size+3->∀y:Value,(Value.slice xa fs.length xc).ownBlock≠some k:=fun k hk y e=>by
  have:=(HX.out.lt k e).1
  simp at this
  omega
 have RE:=(((S2.out.other (p:=⟨w.heap.size+1+1,2,none⟩) (by show w.heap.size+1≠w.heap.size+1+1;omega) (.slice xa fs.length xc)).set 0 (.int .i64 kd)).set 1 (.string rw_)).set 2 (.slice xa fs.length xc)
 rw[jhD]at RE
 refine bodyPost_ret (jdj rfl _ _ (w.heap.size+1) _ rfl RE rfl) rfl ?_
 refine⟨_,rfl,jC (jv (jv (jv (jv HX.out ?_ _) ?_ _) ?_ _) ?_ _) (by simp;omega),?_⟩
 ·exact hne _ (by show w.heap.size+1+1<_;omega) undef
 ·exact hne _ (by show w.heap.size+1<_;omega) undef
 ·exact hne _ (by show w.heap.size+1<_;omega) undef
 ·exact hne _ (by show w.heap.size+1<_;omega) undef
 exact(((hb1.out.setCell (p:=⟨w.heap.size+1+1,2,none⟩) (by show w.heap.size<=w.heap.size+1+1;omega) _).setCell (p:=⟨w.heap.size+1,0,none⟩) (by show w.heap.size<=w.heap.size+1;omega) _).setCell (p:=⟨w.heap.size+1,1,none⟩) (by show w.heap.size<=w.heap.size+1;omega) _).setCell (p:=⟨w.heap.size+1,2,none⟩) (by show w.heap.size<=w.heap.size+1;omega) _
def WG(ps:List Pr):List It:=ps.map fun p=>p.1.1
theorem jdP(ps:List Pr):(WG ps).length=ps.length:=by unfold WG;simp
theorem jbP(ps:List Pr)(v:Value)(q:Option Addr)(w:World)(hl:jcZ w (.pointer q) v ps)(ok:Qf ps):
  Calls Tryz.prog 42 #[.pointer q] w fun e w'=>∃u fvs,e=.returned u/\Qr w w' u fvs (WG ps):=by
 obtain⟨i0,hi,hz0,hz1,hz2⟩:=info_parts VY
 have ALL:=jii hl.2
 have HE:=jii hl.1
 have HF:=jii ok.fields
 have hlen:=ok.len
 obtain⟨A,cap,rfl,hle⟩:=hl.1.empty
 clear hl ok
 go_enter Tryz.func42,Tryz.ntmps42
 go_wp2_with fail
 refine ALL.out.mono ?_
 rintro e w1 ⟨rfl,rfl⟩
 go_wp2_with fail
 go_loopw [3,9] (fun u i wr=>∃(k:Nat) (fvs:List Value),k<=ps.length/\i=.int .i64 k/\Qr w wr u fvs (WG (ps.take k))) (fun _ i _=>ps.length-(intOf i).toNat)
 case atStart=>exact⟨0,[],jiD _,rfl,Qr.start w⟩
 case round =>
 obtain⟨k,fvs,hk,rfl,hacc⟩:=hrel
 by_cases hlt:k<ps.length
 ·obtain⟨p,hp⟩:∃p,ps[k]?=some p:=⟨_,jim hlt⟩
  have hb:=hacc.below
  have hE:=HE.out.below hb (jij _)
  obtain⟨g,cap',pa,pc,e1,_,hg,e2,d0,d1,d2,d3⟩:=hE.here hp
  cases e1
  have hfr:=hE.each p (jiA hp)
  have hfn:=HF.out p (jiA hp)
  rw[e2]at d2
  have hba:=(jil wr.heap.size wr).alloc (jij _) (.cells #[.int .i64 p.1.1.kind,.string (B p.1.1.raw),p.2,.int .i64 p.1.2] 113)
  have IT:=Xf p _ (hfr.below hba (jij _)) hfn
  unfold Xt at IT
  rw[e2]at IT hba
  have IT:=jii IT
  have ACC:=jii (hacc.kept hba)
  have ITK:=jii (show WG (ps.take (k+1))=WG (ps.take k)++[p.1.1] by unfold WG;rw[jiU,hp];simp)
  have hll:(WG (ps.take k)).length=k:=by unfold WG;rw[jiQ,jiq];omega
  clear hacc hE hfr hp
  go_wp2_with fail
  refine IT.out.mono ?_
  rintro e w2 ⟨x,rfl,hx,b2⟩
  obtain⟨xa,xc,rfl,_⟩:=je hx
  have acc2:=ACC.out.kept b2
  have hx2:=jC hx (show w.heap.size<=_ by have:=hb.size;simp;omega)
  have hrow:=acc2.row
  rw[hll]at hrow
  have ACC2:=jii acc2
  have HX2:=jii hx2
  have HV:=jii (jV w2 111 [.int .i64 p.1.1.kind,.string (B p.1.1.raw),.slice xa p.1.1.fields.length xc])
  clear IT ACC hx hx2 acc2 b2
  go_wp2_with (at_builtin;refine wpList_append_own _ rfl _ _ 96 rfl w.heap.size 111 i0 _ 3 48 Tryz.underlying96 hi hz0 hz1 hz2 rfl (by decide) _ _ _ rfl (hrow.alloc _) ⟨w2.heap.size,0,none⟩ 1 1 _ rfl rfl HV.out ?c2 ?c3 ?c4 ?c5 ?_)
  case c2=>intro u hu;simp at hu;rcases hu with rfl | rfl | rfl<;>rfl
  case c3=>unfold maxLen;omega
  case c4=>omega
  case c5=>simp;have:=ACC2.out.below.size;omega
  intro v' w3 hown' hgrow _
  have hacc3:=ACC2.out.snoc HX2.out (by rw[hll];exact hown') _ hgrow
  obtain⟨g',cap',rfl⟩:=ownsRow_succ hown'
  go_wp2_with fail
  go_roundw
  case rel=>exact⟨k+1,_,hlt,by go_num,by rw[ITK.out];exact hacc3⟩
  case measure=>simp[intOf];omega
 obtain rfl:k=ps.length:=by omega
 rw[jiL]at hacc
 clear HE HF ALL
 go_wp2_with fail
 go_ret
 exact⟨_,fvs,rfl,hacc⟩
theorem jdO{ps:List Pr}(ok:Qf ps):∀it∈WG ps,it.raw.length<=100000:=by
 intro it h
 obtain⟨p,hp,rfl⟩:=List.mem_map.1 h
 exact ok.raw p hp
theorem Kl{ps:List Pr}(ok:Qf ps):∀it∈WG ps,it.fields.length<=1000000:=by
 intro it h
 obtain⟨p,hp,rfl⟩:=List.mem_map.1 h
 exact ok.fields p hp
theorem jc9(ps:List Pr)(v:Value)(q:Option Addr)(w:World)(hl:jcZ w (.pointer q) v ps)(ok:Qf ps):
  Calls Tryz.prog 15 #[.pointer q] w fun e w'=>e=.returned (.string (B ((zb (WG ps)).flatMap It.raw)))/\Below w.heap.size w w':=by
 have IT:=jii (jbP ps v q w hl ok)
 have OK:=jii ok
 clear hl ok
 go_enter Tryz.func15,Tryz.ntmps15
 go_wp2_with fail
 refine IT.out.mono ?_
 rintro e w1 ⟨u,fvs,rfl,acc⟩
 obtain⟨ua,uc,rfl,_⟩:=je acc.row
 have b1:=acc.below
 have RN:=jii (Gq (WG ps) _ w1 acc.its acc.nil (by have:=OK.out.len;rw[jdP];omega) (Kl OK.out) (jdO OK.out))
 clear IT acc
 go_wp2_with fail
 refine RN.out.mono ?_
 rintro e w2 ⟨rfl,b2⟩
 have hb2:=b1.trans (b2.mono b1.size)
 go_wp2_with fail
 go_ret
 exact⟨rfl,hb2⟩
theorem Yf(lb:Nat)(ev:Value)(ps:List Pr)(nx id:Int)(w:World)(h:LR w lb ev ps nx)(hps:ps.length<=1000000):
  Calls Tryz.prog 70 #[ptr lb,.int .i64 id] w fun e w'=>e=.returned (JE (yc ps id))/\Below w.heap.size w w' :=
 jd9 ps ev (some ⟨lb,0,none⟩) id w (fun _ hB=>jcZ.of (h.below hB (jij _))) hps
theorem Zc{ps:List Pr}{id:Int}{k:Nat}(h:yc ps id=some k):∃p,ps[k]?=some p/\p.1.1.kind=3/\p.1.2=id:=by
 unfold yc at h
 obtain⟨x,hx,rfl⟩:=Option.map_eq_some_iff.1 h
 have hm:=List.mem_of_find?_eq_some hx
 have hq:=List.find?_some hx
 obtain⟨_,a,b⟩:=vG 0 ps x hm
 exact⟨x.2,a,b,by simpa using hq⟩
def jc2(ps:List Pr)(behind:Int):Option Nat:=if behind=0 then some 0 else (yc ps behind).map (· + 1)
theorem jfV(lb:Nat)(ev:Value)(ps:List Pr)(nx id:Int)(w:World)(h:LR w lb ev ps nx)(hps:ps.length<=1000000):
  Calls Tryz.prog 189 #[ptr lb,.int .i64 id] w fun e w'=>(∃k:Nat,e=.returned (.tuple #[.int .i64 k,.bool (jc2 ps id).isSome])/\∀j,jc2 ps id=some j->k=j)/\Below w.heap.size w w':=by
 have FD:=jii (Yf lb ev ps nx id w h hps)
 clear h
 unfold ptr at *
 by_cases h0:id=0
 ·subst h0
  go_enter Tryz.func189,Tryz.ntmps189
  go_wp2_with fail
  go_ret2
  exact⟨⟨0,rfl,fun j h=>by cases h;rfl⟩,jil _ _⟩
 have h1:((id:Int)==0)=false:=beq_eq_false_iff_ne.2 h0
 unfold jc2
 rw[if_neg h0]
 cases hf:yc ps id with
 | none =>
  rw[hf]at FD
  unfold JE at FD
  dsimp only at FD
  go_enter Tryz.func189,Tryz.ntmps189
  go_wp2_with fail
  refine FD.out.mono ?_
  rintro e w1 ⟨rfl,b1⟩
  go_wp2_with fail
  go_ret2
  exact⟨⟨1,rfl,fun j h=>by cases h⟩,b1⟩
 | some k =>
 obtain⟨p,hp,_,_⟩:=Zc hf
 have hk:=(List.getElem?_eq_some_iff.1 hp).1
 rw[hf]at FD
 unfold JE at FD
 dsimp only at FD
 clear hf hp
 go_enter Tryz.func189,Tryz.ntmps189
 go_wp2_with fail
 refine FD.out.mono ?_
 rintro e w1 ⟨rfl,b1⟩
 go_wp2_with fail
 go_ret2
 exact⟨⟨k+1,rfl,fun j h=>by cases h;rfl⟩,b1⟩
end Go.Proofs.YtimfhnfcmhmjcaaGreatDoor
namespace Go.Proofs.YtimfhnfcmhmjcaaGreatDoor
open Go.RowKit
def jc0(l:Array Bool):Nat:=(l.toList.filter (fun b => !b)).length
theorem xX{ops:Array Oper}{l:Array Bool}{i:Nat}(h:i∈Region.ready .any ops l):
  ∃o,ops[i]?=some o/\l.getD i true=false/\∀e∈o.after,Region.binds .any e=true->l.getD e.on false=true:=by
 unfold Region.ready at h
 rw[List.mem_filter]at h
 obtain⟨hi,h⟩:=h
 rw[List.mem_range]at hi
 have ho:ops[i]?=some ops[i]:=ji7 hi
 rw[ho]at h
 simp only[jkC,Option.getD_some,jiY,jkr]at h
 refine⟨_,ho,h.1,fun e he hb => ?_⟩
 have:=(Array.all_eq_true_iff_forall_mem.1 h.2) e he
 simpa [hb]using this
theorem jaN{P:Program}{ops:Array Oper}{Q:Exit->Act->World->Prop}(I:Array Bool->Act->World->Prop)
  (step:∀l i o a w,I l a w->l.size=ops.size->ops[i]?=some o->l.getD i true=false->(∀e∈o.after,Region.binds .any e=true->l.getD e.on false=true) ->
   wpOp P ops Q i (fun a' w'=>I (l.setIfInBounds i true) a' w') a w)
  (done:∀l a w,I l a w->l.size=ops.size->Region.ready .any ops l=[]->Q .normal a w) :
  ∀(n:Nat) (l:Array Bool) (a:Act) (w:World),I l a w->l.size=ops.size->jc0 l<=n->wpAny P .any ops Q n l a w:=by
 intro n
 induction n with
 | zero =>
  intro l a w hI hs hn
  have hr:Region.ready .any ops l=[]:=by
   cases hq:Region.ready .any ops l with
   | nil=>rfl
   | cons i rs =>
   obtain⟨o,ho,hl,_⟩:=xX (show i∈Region.ready .any ops l by rw[hq];simp)
   exfalso
   have hi:i<l.size:=by
    rcases jiK i l.size with h|h
    ·exact h
    simp[Array.getD,Nat.not_lt.2 h]at hl
   have hm:l[i]∈l.toList.filter (fun b => !b):=by
    rw[List.mem_filter]
    refine⟨by simp,?_⟩
    simp[Array.getD,hi]at hl
    simp[hl]
   have:0<jc0 l:=List.length_pos_of_mem hm
   omega
  exact⟨hr,done l a w hI hs hr⟩
 | succ n ih =>
 intro l a w hI hs hn
 refine⟨fun hr=>done l a w hI hs hr,fun i hi => ?_⟩
 obtain⟨o,ho,hl,he⟩:=xX hi
 refine wpOp_mono (fun a' w' hI'=>ih _ _ _ hI' (by simpa using hs) ?_) (step l i o a w hI hs ho hl he)
 have hi':i<l.size:=by
  rcases jiK i l.size with h|h
  ·exact h
  simp[Array.getD,Nat.not_lt.2 h]at hl
 have hlf:l[i]=false:=by simpa [Array.getD,hi']using hl
 have key:∀(xs:List Bool) (j:Nat) (hj:j<xs.length),xs[j]=false->((xs.set j true).filter (fun b => !b)).length+1=(xs.filter (fun b => !b)).length:=by
  intro xs
  induction xs with
  | nil=>intro j hj;simp at hj
  | cons x xs ih2 =>
  intro j hj hx
  cases j with
  | zero=>simp at hx;subst hx;simp
  | succ j =>
  have:=ih2 j (by simpa using hj) (by simpa using hx)
  cases x<;>simp at this ⊢ <;> omega
 have h2:=key l.toList i (by simpa using hi') (by simpa using hlf)
 unfold jc0 at hn ⊢
 have e:(l.setIfInBounds i true).toList=l.toList.set i true:=by simp
 rw[e]
 omega
def jhv(ops:Array Oper):Bool:=ops.all fun o=>match o.op with | .defer _=>false | _=>true
theorem jcD{ops:Array Oper}(h:jhv ops=true){i:Nat}{o:Oper}(ho:ops[i]?=some o):∀c,o.op ≠ .defer c:=by
 intro c e
 have hm:=Array.mem_of_getElem? ho
 have:=(Array.all_eq_true_iff_forall_mem.1 h) o hm
 simp[e]at this
theorem GA{n l:Nat}{P:Program}{o:Oper}{a:Act}{w:World}{next:Act->World->Prop}{Q:Exit->Act->World->Prop}(h:∀c,o.op ≠ .defer c)
  (g:o.wpIn Fence.wide n P a w next Q):o.wpIn (Fence.wide.inRound l) n P a w next Q:=by
 refine⟨g.1,?_⟩
 have g2:=g.2
 rw[Oper.semAt_eq _ _ _ h]at g2 ⊢
 generalize (execOp a.eval o).run P w=r at g2 ⊢
 cases r with
 | ok x w'=>cases x<;>exact g2
 | halt x w'=>cases x<;>exact g2
theorem vJ{n l:Nat}{P:Program}{md:Region.Mode}{ops:Array Oper}{Q:Exit->Act->World->Prop}(h:jhv ops=true):∀(fuel:Nat) (listed:Array Bool) (a:Act) (w:World),
  wpAnyIn Fence.wide n P md ops Q fuel listed a w->wpAnyIn (Fence.wide.inRound l) n P md ops Q fuel listed a w
 | 0,_,_,_,g=>g
 | fuel+1,listed,a,w,g=>by
  refine⟨g.1,fun i hi => ?_⟩
  have g2:=g.2 i hi
  unfold wpOpIn at g2 ⊢
  cases ho:ops[i]? with
  | none=>rw[ho]at g2;exact vJ h fuel _ _ _ g2
  | some o =>
  rw[ho]at g2
  simp only at g2 ⊢
  split at g2
  ·rename_i hw
   rw[if_pos hw]
   exact GA (jcD h ho) (opIn_mono (fun a w=>vJ h fuel _ a w) g2)
  rename_i hw
  rw[if_neg hw]
  exact⟨g2.1,vJ h fuel _ _ _ g2.2⟩
where
 opIn_mono {n:Nat} {P:Program} {o:Oper} {a:Act} {w:World} {K K':Act->World->Prop} {Q:Exit->Act->World->Prop} (h:∀a w,K a w->K' a w) (g:o.wpIn Fence.wide n P a w K Q):o.wpIn Fence.wide n P a w K' Q:=by
  refine⟨g.1,?_⟩
  have g2:=g.2
  generalize (Oper.semAt Fence.wide.round a.eval o).run P w=r at g2 ⊢
  cases r with
  | ok x w' =>
   cases x with
   | enter f args=>exact⟨g2.1,g2.2.mono fun e w hh=>by cases e<;>first | exact h _ _ hh | exact hh⟩
   | row f args=>exact⟨g2.1,fun c cs hr=>by obtain⟨v,w',hv,hs⟩:=g2.2 c cs hr;exact⟨v,w',h _ _ hv,hs⟩⟩
   | round l f t x y=>exact⟨g2.1,g2.2.mono fun e w hh=>by cases e<;>first | exact h _ _ hh | exact hh⟩
   | value v=>exact h _ _ g2
   | skip=>exact h _ _ g2
   | defer d=>exact h _ _ g2
   | _=>exact g2
  | halt x w'=>cases x<;>exact g2
theorem jbb{n:Nat}{P:Program}{row:String}{args:Array Value}{w:World}{R:Value->World->Prop}(h:Rows P row args w R):RowsIn Fence.wide n P row args w R:=by
 intro c cs _
 obtain⟨v,w',r,s⟩:=h c cs
 exact⟨v,w',r,stepsIn_wide.2 s⟩
theorem jbr{n:Nat}{P:Program}{o:Oper}{a:Act}{w:World}{K:Act->World->Prop}{Q:Exit->Act->World->Prop}(h:∀c,o.op ≠ .defer c)(g:o.wp P a w K Q):o.wpIn Fence.wide n P a w K Q:=by
 refine⟨fun _ _=>trivial,?_⟩
 unfold Oper.wp at g
 rw[Oper.semAt_eq _ _ _ h]
 generalize (execOp a.eval o).run P w=r at g ⊢
 cases r with
 | ok x w' =>
  cases x with
  | enter f args=>exact⟨fun q=>by simp[Fence.wide]at q,callsIn_wide.2 g⟩
  | row f args=>exact⟨fun q=>by simp[Fence.wide]at q,jbb g⟩
  | round l f t x y=>exact g.elim
  | value v=>exact g
  | skip=>exact g
  | defer d=>exact g
  | _=>exact g
 | halt x w'=>cases x<;>exact g
theorem JX{n:Nat}{P:Program}{md:Region.Mode}{ops:Array Oper}{Q:Exit->Act->World->Prop}(h:jhv ops=true)(hno:¬LetsOut Q):∀(fuel:Nat) (listed:Array Bool) (a:Act) (w:World),
  wpAny P md ops Q fuel listed a w->wpAnyIn Fence.wide n P md ops Q fuel listed a w
 | 0,_,_,_,g=>g
 | fuel+1,listed,a,w,g=>by
  refine⟨g.1,fun i hi => ?_⟩
  have g2:=g.2 i hi
  unfold wpOpIn
  unfold wpOp at g2
  cases ho:ops[i]? with
  | none=>rw[ho]at g2;exact JX h hno fuel _ _ _ g2
  | some o =>
  rw[ho]at g2
  simp only at g2 ⊢
  split at g2
  ·rename_i hw
   rw[if_pos hw]
   exact jbr (jcD h ho) (Oper.wp_mono (fun a w=>JX h hno fuel _ a w) (g2.resolve_right fun q=>hno q.2))
  rename_i hw
  rw[if_neg hw]
  exact⟨fun _ _=>trivial,JX h hno fuel _ _ _ g2⟩
theorem yf{n r:Nat}{P:Program}{id:Nat}{ops:Array Oper}{Q:Exit->Act->World->Prop}{a:Act}{w:World}(hd:jhv ops=true)(hno:¬LetsOut Q)(hm:P.follows .mixedOrders=true)(h:wpAny P .any ops Q ops.size (Array.replicate ops.size false) a w.drew):
  (Code.region id ops true).wpIn (Fence.wide.inRound r) n P Q a w :=
 wpIn_region_any hm (vJ hd _ _ _ _ (JX hd hno _ _ _ _ h))
end Go.Proofs.YtimfhnfcmhmjcaaGreatDoor
namespace Go.Proofs.YtimfhnfcmhmjcaaGreatDoor
open Go.RowKit Go.Shelf
def fl(l:Array Bool)(j:Nat):Bool:=l.getD j false
theorem jcB{w:World}{b:Nat}{t:TypeId}{x y:Value}(h:ja w b t #[x,y]):∀j u,[x,y][j]?=some u->w.cell? ((⟨b,0,none⟩:Addr).add j)=some u:=by
 intro j u hj
 have ea:(⟨b,0,none⟩:Addr).add j=⟨b,j,none⟩:=by unfold Addr.add;split<;>simp_all
 rw[ea,h.cell j];simpa using hj
abbrev sl(g n c:Nat):Value:=.slice (some ⟨g,0,none⟩) n c
end Go.Proofs.YtimfhnfcmhmjcaaGreatDoor
