/- Texts put together:PC,PD,PE,WA,RF,WB. -/
import Derived.Deep.DeepCutAuto
import Derived.ShutString
import Derived.BigCall
import Derived.ChangeAlike
import Derived.Outline
import Derived.IntWalk
import Derived.RangeFuncNested
import Derived.RangeFuncBound
import Derived.RangeFuncCalls
import Derived.RangeFuncLeaves
import Derived.Deep.RegionWith
import Derived.Deep.AppendLies
import Derived.Deep.RegionHeld3
import Derived.Test.YtpibhbjmcmfnmaaGreatDoorBfn8
set_option linter.unusedVariables false
set_option maxRecDepth 100000
set_option maxHeartbeats 16000000
namespace Go.Proofs.YtpibhbjmcmfnmaaGreatDoor
abbrev jmI:=@List.getElem?_append_left
abbrev jmU:=@Go.IntWalk.i64_in
abbrev jna:=@Go.World.putObj_heap_other
abbrev jnd:=@Go.Boxed.set
abbrev jno:=@List.takeWhile_prefix
abbrev jod:=@Go.Lib.extract_to_end
abbrev jol:=@Go.Boxed.alloc
abbrev jot:=@Go.World.alloc_heap_new
end Go.Proofs.YtpibhbjmcmfnmaaGreatDoor
namespace Go.Proofs.YtpibhbjmcmfnmaaGreatDoor
open Go.RowKit
theorem Yq(l:List (List UInt8))(x:List UInt8):qB (l++[x])=qB l++[.string (B x)]:=by unfold qB;simp
theorem jgy:(Tryz.prog.info? 9).map (fun i=>(i.zero,i.size,i.bytes))=some (some (.string ⟨#[]⟩),1,16):=by kernel_rfl
theorem Zo{w w':World}{T:Nat->Nat}{R:Nat}{a o:Option Nat}{t:Nat}(low:∀k,T k≠0->R<=k/\k<w.heap.size)(hs:w.heap.size<=w'.heap.size)(hR:R<=w.heap.size)(h:qX w.heap.size w'.heap.size a o)(ha:jD T a t)(ht:t≠0):
  ∀k,vk T w.heap.size o t k≠0->R<=k/\k<w'.heap.size:=by
 intro k hk
 unfold vk at hk
 split at hk
 ·rename_i hn
  rcases h with h|⟨j,h,_,h2⟩
  ·have:=low k (by rw[ha k (by rw[<- h];exact hn.2)];exact ht);omega
  have:=hn.2;rw[h]at this;cases this;omega
 have:=low k hk;omega
theorem jB.said{w w':World}{T:Nat->Nat}{R b:Nat}{text:ByteArray}{p p':PS}{V:PV}(h:jB w T R b text p V)(hR:R<=w.heap.size)(v1':Value)
  (hc:ja w' b 168 (vT p' text v1' V.v3 V.v6)) (hr:w'.ownsRow 0 9 1 v1' p'.said.length (qB p'.said)) (hk:qX w.heap.size w'.heap.size V.v1.ownBlock v1'.ownBlock)
  (ho:jt (fun r=>r=b\/some r=V.v1.ownBlock) w w') (e1:p'.items=p.items) (e2:p'.fields=p.fields) :
  ∃T',jB w' T' R b text p' {V with v1:=v1'}/\zE w T w' T':=by
 have hs:∀k,T k≠0->T k≠1->T k≠2->w'.heap[k]?=w.heap[k]?:=fun k h0 h1 h2=>ho.same k (h.low k h0).2 (by
  rintro(e|e)
  ·exact h1 (by rw[e];exact h.tp)
  exact h2 (h.t1 k e.symm))
 have s:∀{o:Option Nat} {t:Nat},jD T o t->3<=t->∀k,o=some k->w'.heap[k]?=w.heap[k]?:=fun ht hne k hk=>hs k (by rw[ht k hk];omega) (by rw[ht k hk];omega) (by rw[ht k hk];omega)
 have lo:∀{o:Option Nat} {t:Nat},jD T o t->t≠0->∀k,o=some k->k<w.heap.size:=fun ht hne k hk=>(h.low k (by rw[ht k hk];exact hne)).2
 refine⟨vk T w.heap.size v1'.ownBlock 2,⟨hc,by rw[zb h.lt];exact h.tp,hr,zS hk h.t1,?_,jj h.t3 (lo h.t3 (by decide)),?_,jj h.t6 (lo h.t6 (by decide)),by rw[e1];exact h.nf,fun i it v h1 h2 => ?_,Zo h.low ho.size hR hk h.t1 (by decide)⟩,
  ⟨ho.mono fun r hr' e => ?_,fun r hr'=>by rw[zb hr']⟩⟩
 ·rw[e1];exact jm h.r3 (s h.t3 (by decide))
 ·rw[e2];exact jm h.r6 (s h.t6 (by decide))
 ·obtain⟨a,c⟩:=h.rf i it v (by rw[<- e1];exact h1) h2
  exact⟨jm a (s c (by decide)),jj c (lo c (by decide))⟩
 rcases e with e|e
 ·rw[e,h.tp];decide
 rw[h.t1 r e.symm];decide
def KZ(p:PS)(x:Ln):PS:={p with begin_:=x.no,said:=[x.text]}
theorem jds{w:World}{T:Nat->Nat}{R b:Nat}{text:ByteArray}{p:PS}{V:PV}(h:jB w T R b text p V)(hR:R<=w.heap.size)(x:Ln):
  Calls Tryz.prog 144 #[.pointer (some ⟨b,0,none⟩),.agg #[.int .i64 x.no,.int .i64 x.at_,.string (B x.text),.bool x.ended]] w fun e w'=>e=.returned (.tuple #[])/\∃T',jC w' T' R b text (KZ p x)/\zE w T w' T':=by
 have hl:=h.lt
 have hcell:=h.cells
 have k0:w.cell? ⟨b,0,none⟩=some (.int .i64 p.begin_):=hcell.cell 0
 have k1:w.cell? ⟨b,1,none⟩=some V.v1:=hcell.cell 1
 have kf0:=hcell.frozen 0
 have kf1:=hcell.frozen 1
 have HF:=jl9 (fun w' v1' hc hr hk ho=>jB.said (p':=KZ p x) h hR (w':=w') v1' hc hr hk ho rfl rfl)
 have HC:=jl9 hcell
 clear h hcell
 go_enter Tryz.func144,Tryz.ntmps144
 go_wp2
 go_region
 all_goals
  go_wp2
  go_end0
  refine⟨rfl,?_⟩
  refine Exists.elim (HF.out _ (.slice (some ⟨w.heap.size+1,0,none⟩) 1 1) ?c ?r ?k ?o) fun T' g=>⟨T',⟨_,g.1⟩,g.2⟩
  case c =>
   have hc:=((((HC.out.set 0 (.int .i64 x.no)).set 1 (.slice (some ⟨w.heap.size+1,0,none⟩) 1 1)).alloc (.cells #[.int .i64 x.no,.int .i64 x.at_,.string (B x.text),.bool x.ended] 164)).alloc (.cells #[.string (B x.text)] 9)).drew
   simpa [vT,KZ]using hc
  case r =>
   have hz:(((w.setCell ⟨b,0,none⟩ (.int .i64 x.no)).setCell ⟨b,1,none⟩ (.slice (some ⟨w.heap.size+1,0,none⟩) 1 1)).alloc (.cells #[.int .i64 x.no,.int .i64 x.at_,.string (B x.text),.bool x.ended] 164)).heap.size=w.heap.size+1:=by simp[World.setCell]
   have:=World.ownsRow_lit (base:=0) (((w.setCell ⟨b,0,none⟩ (.int .i64 x.no)).setCell ⟨b,1,none⟩ (.slice (some ⟨w.heap.size+1,0,none⟩) 1 1)).alloc (.cells #[.int .i64 x.no,.int .i64 x.at_,.string (B x.text),.bool x.ended] 164)) (e:=9) (size:=1) #[.string (B x.text)] 1 (jmo _) (by decide) rfl
   rw[hz]at this
   exact jm this fun _ _=>rfl
  case k=>exact .inr ⟨w.heap.size+1,rfl,by omega,by simp[World.setCell,World.drew]⟩
  case o=>exact((((jt.refl _ w).setCell (p:=⟨b,0,none⟩) (.inl (.inl rfl)) _).setCell (p:=⟨b,1,none⟩) (.inl (.inl rfl)) _).alloc _).alloc _ |>.drew
theorem Je{w:World}{T:Nat->Nat}{b:Nat}{v:Value}{t:Nat}(hb:T b=1)(ht:jD T v.ownBlock t)(h:t≠1):v.ownBlock≠some b:=fun e=>h (by rw[<- ht b e,hb])
def xP(p:PS)(x:Ln):PS:={p with said:=p.said++[x.text]}
theorem jgK{w:World}{T:Nat->Nat}{R b:Nat}{text:ByteArray}{p:PS}{V:PV}(h:jB w T R b text p V)(hR:R<=w.heap.size)(x:Ln)(hn:p.said.length<=1000000):
  Calls Tryz.prog 143 #[.pointer (some ⟨b,0,none⟩),.agg #[.int .i64 x.no,.int .i64 x.at_,.string (B x.text),.bool x.ended]] w fun e w'=>e=.returned (.tuple #[])/\∃T',jC w' T' R b text (xP p x)/\zE w T w' T':=by
 obtain⟨i0,hi,hz0,hz1,hz2⟩:=info_parts jgy
 have hl:=h.lt
 have k1:w.cell? ⟨b,1,none⟩=some V.v1:=h.cells.cell 1
 have HF:=jl9 (fun w' v1' hc hr hk ho=>jB.said (p':=xP p x) h hR (w':=w') v1' hc hr hk ho rfl rfl)
 have HC:=jl9 h.cells
 have HO:=jl9 h.r1
 have HE:=jl9 (Je (w:=w) h.tp h.t1 (by decide))
 clear h
 go_enter Tryz.func143,Tryz.ntmps143
 go_wp2
 go_region_law ((refine jK rfl (.tmp 8) (.tmp 11) 56 rfl 9 i0 _ 1 16 Tryz.underlying56 hi hz0 hz1 hz2 rfl (by decide) V.v1 p.said.length (qB p.said) (by simp[Act.eval]) (by exact((HO.out.alloc _).alloc _).drew) ⟨w.heap.size+1,0,none⟩ 1 1 [.string (B x.text)] (by simp[Act.eval]) rfl (by have:=jN (w.alloc (.cells #[.int .i64 x.no,.int .i64 x.at_,.string (B x.text),.bool x.ended] 164)) 9 [.string (B x.text)];rw[jmw]at this;exact this) (by intro u hu;simp at hu;subst hu;rfl) (by unfold maxLen;omega) (by omega) ?_);intro v' w' ho hgr hbk;obtain⟨⟨g',cap',rfl⟩,hg',hbx,hk,hon⟩:=qj HC.out HO.out HE.out ((((jmc _ w).alloc (jma _) _).alloc (by simp) _).drew) ho hgr hbk;have k1':w'.cell? ⟨b,1,none⟩=some V.v1:=hg'.cell 1;have kf1':=hg'.frozen 1)
 all_goals
  go_wp2
  go_end0
  have hvg:(Value.slice (some ⟨g',0,none⟩) (p.said.length+1) cap').ownBlock≠some b:=by
   intro e
   rcases hk with h|⟨k,h,h2,_⟩
   ·exact HE.out (h.symm.trans e)
   rw[h]at e;cases e;omega
  refine⟨rfl,Exists.elim (HF.out _ (.slice (some ⟨g',0,none⟩) (p.said.length+1) cap') ?k1 ?k2 ?k3 ?k4) fun T' g=>⟨T',⟨_,g.1⟩,g.2⟩⟩
  case k1 =>
   have hc:=hg'.set 1 (.slice (some ⟨g',0,none⟩) (p.said.length+1) cap')
   simpa [vT,xP]using hc
  case k2 =>
   have hr:=jF (p:=⟨b,1,none⟩) ho hvg (.slice (some ⟨g',0,none⟩) (p.said.length+1) cap')
   have e1:(xP p x).said.length=p.said.length+1:=by simp[xP]
   have e2:qB (xP p x).said=qB p.said++[.string (B x.text)]:=Yq _ _
   rw[e1,e2]
   exact hr
  case k3=>unfold qX;simpa [World.setCell]using hk
  case k4=>exact(hon.mono (fun r _ h=>.inr h)).setCell (p:=⟨b,1,none⟩) (.inl (.inl rfl)) _
theorem jgz:(Tryz.prog.info? 236).map (fun i=>(i.zero,i.size,i.bytes))=some (some (.agg #[.int .i64 0,.string ⟨#[]⟩,.slice none 0 0]),3,48):=by kernel_rfl
theorem jhc(text:ByteArray)(a e:Nat):text.extract a e=B ((text.data.toList.take e).drop a):=by
 have h:=jnP text a e
 have h2:(text.data.toList.take e).drop a=(text.data.toList.drop a).take (e-a):=by rw[List.drop_take]
 rw[h2,<- h,jjl]
def Ql(T:Nat->Nat)(a c:Nat):Nat->Nat:=fun k=>if T k=a then c else T k
theorem yD{T:Nat->Nat}{a c:Nat}{o:Option Nat}{t:Nat}(h:jD T o t)(ht:t≠a):jD (Ql T a c) o t:=by
 intro k hk;unfold Ql;rw[if_neg (by rw[h k hk];exact ht)];exact h k hk
theorem jgn{T:Nat->Nat}{a c:Nat}{o:Option Nat}(h:jD T o a):jD (Ql T a c) o c:=by
 intro k hk;unfold Ql;rw[if_pos (h k hk)]
theorem Xb{T:Nat->Nat}{a c:Nat}(ha:a≠0)(hc:c≠0)(k:Nat):Ql T a c k=0↔T k=0:=by
 unfold Ql
 split
 ·rename_i h;rw[h];exact⟨fun e=>absurd e hc,fun e=>absurd e ha⟩
 exact Iff.rfl
theorem jB.item{w w':World}{T:Nat->Nat}{R b:Nat}{text:ByteArray}{p p':PS}{V:PV}(h:jB w T R b text p V)(hR:R<=w.heap.size)(v3':Value)(it:It)
  (hc:ja w' b 168 (vT p' text V.v1 v3' (.slice none 0 0))) (hr:w'.ownsRow 0 236 3 v3' (p.items.length+1) (zh p.items V.fvs++xk it V.v6)) (hk:qX w.heap.size w'.heap.size V.v3.ownBlock v3'.ownBlock)
  (ho:jt (fun r=>r=b\/some r=V.v3.ownBlock) w w') (e1:p'.items=p.items++[it]) (e2:p'.fields=[]) (e3:p'.said=p.said) (e4:it.fields=p.fields) :
  ∃T',jB w' T' R b text p' {V with v3:=v3',v6:=.slice none 0 0,fvs:=V.fvs++[V.v6]}/\zE w T w' T':=by
 have hs:∀k,T k≠0->T k≠1->T k≠3->w'.heap[k]?=w.heap[k]?:=fun k h0 h1 h2=>ho.same k (h.low k h0).2 (by
  rintro(e|e)
  ·exact h1 (by rw[e];exact h.tp)
  exact h2 (h.t3 k e.symm))
 have s:∀{o:Option Nat} {t:Nat},jD T o t->t≠0->t≠1->t≠3->∀k,o=some k->w'.heap[k]?=w.heap[k]?:=fun ht h0 h1 h3 k hk=>hs k (by rw[ht k hk];exact h0) (by rw[ht k hk];exact h1) (by rw[ht k hk];exact h3)
 have lo:∀{o:Option Nat} {t:Nat},jD T o t->t≠0->∀k,o=some k->k<w.heap.size:=fun ht hne k hk=>(h.low k (by rw[ht k hk];exact hne)).2
 have lowM:∀k,Ql T 4 5 k≠0->R<=k/\k<w.heap.size:=fun k hk=>h.low k (fun e=>hk ((Xb (by decide) (by decide) k).2 e))
 refine⟨vk (Ql T 4 5) w.heap.size v3'.ownBlock 3,⟨hc,?_,?_,?_,?_,?_,?_,?_,?_,?_,?_⟩,⟨ho.mono fun r hr' e => ?_,fun r hr'=>by rw[zb hr'];exact Xb (by decide) (by decide) r⟩⟩
 ·rw[zb h.lt];unfold Ql;rw[h.tp];rfl
 ·rw[e3];exact jm h.r1 (s h.t1 (by decide) (by decide) (by decide))
 ·exact jj (yD h.t1 (by decide)) (lo h.t1 (by decide))
 ·rw[e1,jmb,xj _ _ _ _ h.nf];exact hr
 ·exact zS hk (yD h.t3 (by decide))
 ·rw[e2];exact⟨by simp[jG],.inl ⟨rfl,rfl⟩⟩
 ·exact fun k hk=>by cases hk
 ·rw[e1,jmb,jmb,h.nf];rfl
 ·intro i it' v h1 h2
  rw[e1]at h1
  dsimp only at h2
  rcases jmF i p.items.length with q|q
  ·rw[jmI q]at h1
   rw[jmI (by rw[h.nf];exact q)]at h2
   obtain⟨a,c⟩:=h.rf i it' v h1 h2
   exact⟨jm a (s c (by decide) (by decide) (by decide)),jj (yD c (by decide)) (lo c (by decide))⟩
  rw[jmr q]at h1
  rw[jmr (by rw[h.nf];exact q),h.nf]at h2
  have hz:i-p.items.length=0:=by
   rcases Nat.eq_zero_or_pos (i-p.items.length) with z|z
   ·exact z
   rw[jmZ (by simp;omega)]at h1;cases h1
  rw[hz]at h1 h2
  cases h1;cases h2
  rw[e4]
  exact⟨jm h.r6 (s h.t6 (by decide) (by decide) (by decide)),jj (jgn h.t6) (lo h.t6 (by decide))⟩
 ·exact Zo lowM ho.size hR hk (yD h.t3 (by decide)) (by decide)
 rcases e with e|e
 ·rw[e,h.tp];decide
 rw[h.t3 r e.symm];decide
theorem Jn{w:World}{T:Nat->Nat}{R b:Nat}{text:ByteArray}{p:PS}{V:PV}(h:jB w T R b text p V)(hR:R<=w.heap.size)(kind e:Nat)(h1:p.at_<=e)(h2:e<=text.size)(h3:text.size<=1000000)(hn:p.items.length<=1000000):
  Calls Tryz.prog 145 #[.pointer (some ⟨b,0,none⟩),.int .i64 kind,.int .i64 e] w fun e' w'=>e'=.returned (.tuple #[])/\∃T',jC w' T' R b text (zi text.data.toList p kind e)/\zE w T w' T':=by
 obtain⟨i0,hi,hz0,hz1,hz2⟩:=info_parts jgz
 obtain⟨a6,c6,e6,_⟩:=jf h.r6
 have hl:=h.lt
 have HF:=jl9 (fun w' v3' hc hr hk ho=>jB.item (p':=zi text.data.toList p kind e) h hR (w':=w') v3' ⟨kind,(text.data.toList.take e).drop p.at_,p.fields⟩ hc hr hk ho rfl rfl rfl rfl)
 have HC:=jl9 h.cells
 have HO:=jl9 h.r3
 have HE:=jl9 (Je (w:=w) h.tp h.t3 (by decide))
 have HT:=jl9 (jhc text p.at_ e)
 have q3:w.cell? ⟨b,3,none⟩=some V.v3:=h.cells.cell 3
 have q2:w.cell? ⟨b,2,none⟩=some (.string text):=h.cells.cell 2
 have q5:w.cell? ⟨b,5,none⟩=some (.int .i64 p.at_):=h.cells.cell 5
 have q6:w.cell? ⟨b,6,none⟩=some (.slice a6 p.fields.length c6):=by rw[<- e6];exact h.cells.cell 6
 clear h
 go_enter Tryz.func145,Tryz.ntmps145
 go_wp2
 go_cut [] (fun wx=>∃g' cap',ja wx b 168 (vT p text V.v1 (.slice (some ⟨g',0,none⟩) (p.items.length+1) cap') V.v6) /\
  wx.ownsRow 0 236 3 (.slice (some ⟨g',0,none⟩) (p.items.length+1) cap') (p.items.length+1) (zh p.items V.fvs++[.int .i64 kind,.string (text.extract p.at_ e),.slice a6 p.fields.length c6]) /\
  qX w.heap.size wx.heap.size V.v3.ownBlock (Value.slice (some ⟨g',0,none⟩) (p.items.length+1) cap').ownBlock/\g'≠b/\jt (fun r=>r=b\/some r=V.v3.ownBlock) w wx)
 case first =>
  go_region_law ((refine jK rfl (.tmp 10) (.tmp 27) 126 rfl 236 i0 _ 3 48 Tryz.underlying126 hi hz0 hz1 hz2 rfl (by decide) V.v3 p.items.length (zh p.items V.fvs) (by simp[Act.eval]) (by exact(HO.out.alloc _).drew) ⟨w.heap.size,0,none⟩ 1 1 [.int .i64 kind,.string (text.extract p.at_ e),.slice a6 p.fields.length c6] (by simp[Act.eval]) rfl (jN w 236 [.int .i64 kind,.string (text.extract p.at_ e),.slice a6 p.fields.length c6]) (by intro u hu;simp at hu;rcases hu with rfl | rfl | rfl<;>rfl) (by unfold maxLen;omega) (by omega) ?_);intro v' w' ho hgr hbk;obtain⟨⟨g',cap',rfl⟩,hg',hbx,hk,hon⟩:=qj HC.out HO.out HE.out (((jmc _ w).alloc (jma _) _).drew) ho hgr hbk;have k3':w'.cell? ⟨b,3,none⟩=some V.v3:=hg'.cell 3;have kf3':=hg'.frozen 3)
  all_goals
   go_wp2
   go_meet
   have hvg:g'≠b:=by
    intro e
    rcases hk with h|⟨k,h,h2,_⟩
    ·exact HE.out (h.symm.trans (by rw[e];rfl))
    have hh:g'=k:=jmf (show some g'=some k from h)
    omega
   refine⟨g',cap',?_,jF (p:=⟨b,3,none⟩) ho (fun e=>hvg (by cases e;rfl)) _,?_,hvg,(hon.mono (fun r _ h=>.inr h)).setCell (p:=⟨b,3,none⟩) (.inl (.inl rfl)) _⟩
   ·simpa [vT]using hg'.set 3 (.slice (some ⟨g',0,none⟩) (p.items.length+1) cap')
   unfold qX;simpa [World.setCell]using hk
 case rest =>
 obtain⟨g',cap',hc,hr,hk,hvg,ho⟩:=hcut
 have k5:wc.cell? ⟨b,5,none⟩=some (.int .i64 p.at_):=hc.cell 5
 have kf5:=hc.frozen 5
 have k6:wc.cell? ⟨b,6,none⟩=some (.slice a6 p.fields.length c6):=by rw[<- e6];exact hc.cell 6
 have kf6:=hc.frozen 6
 go_wp2
 go_end0
 refine⟨rfl,Exists.elim (HF.out _ (.slice (some ⟨g',0,none⟩) (p.items.length+1) cap') ?k1 ?k2 ?k3 ?k4) fun T' g=>⟨T',⟨_,g.1⟩,g.2⟩⟩
 case k1 =>
  have:=(hc.set 5 (.int .i64 e)).set 6 (.slice none 0 0)
  simpa [vT,zi]using this
 case k2 =>
  have e9:xk ⟨kind,(text.data.toList.take e).drop p.at_,p.fields⟩ V.v6=[.int .i64 kind,.string (text.extract p.at_ e),.slice a6 p.fields.length c6]:=by
   unfold xk;rw[HT.out,e6]
  rw[e9]
  exact jF (p:=⟨b,6,none⟩) (jF (p:=⟨b,5,none⟩) hr (fun e=>hvg (by cases e;rfl)) _) (fun e=>hvg (by cases e;rfl)) _
 case k3=>unfold qX at hk ⊢;simpa [World.setCell]using hk
 case k4=>exact(ho.setCell (p:=⟨b,5,none⟩) (.inl (.inl rfl)) _).setCell (p:=⟨b,6,none⟩) (.inl (.inl rfl)) _
theorem Qd{w:World}{T:Nat->Nat}{R b:Nat}{text:ByteArray}{p:PS}(h:jC w T R b text p)(hR:R<=w.heap.size)(e:Nat)(h1:p.at_<=e)(h2:e<=text.size)(h3:text.size<=1000000)(hn:p.items.length<=1000000)(hs:p.stanzas<=1000000):
  Calls Tryz.prog 103 #[.pointer (some ⟨b,0,none⟩),.int .i64 e] w fun e' w'=>e'=.returned (.tuple #[])/\∃T',jC w' T' R b text (js text.data.toList p e)/\zE w T w' T':=by
 obtain⟨V,h⟩:=h
 obtain⟨a6,c6,e6,_⟩:=jf h.r6
 have q5:w.cell? ⟨b,5,none⟩=some (.int .i64 p.at_):=h.cells.cell 5
 have q6:w.cell? ⟨b,6,none⟩=some (.slice a6 p.fields.length c6):=by rw[<- e6];exact h.cells.cell 6
 unfold js
 by_cases he:p.at_=e
 ·rw[if_pos he]
  have g:jC w T R b text p:=⟨V,h⟩
  have x1:((p.at_:Int)==(e:Int))=true:=by rw[he];simp
  clear h
  go_enter Tryz.func103,Tryz.ntmps103
  go_wp2
  refine bodyPost_ret (results_none rfl _ _ _) rfl ?_
  exact⟨rfl,T,g,zE.refl _ _⟩
 rw[if_neg he]
 have x1:((p.at_:Int)==(e:Int))=false:=beq_eq_false_iff_ne.2 (by omega)
 by_cases hf:p.fields.length=0
 ·rw[if_pos hf]
  have x2:((p.fields.length:Int)==0)=true:=by rw[hf];rfl
  have EI:=jl9 (Jn h hR 2 e h1 h2 h3 hn)
  clear h
  go_enter Tryz.func103,Tryz.ntmps103
  go_wp2_with fail
  refine EI.out.mono ?_
  rintro e' w1 ⟨rfl,T1,g1,s1⟩
  go_wp2
  go_end0
  exact⟨rfl,T1,g1,s1⟩
 rw[if_neg hf]
 have x2:((p.fields.length:Int)==0)=false:=beq_eq_false_iff_ne.2 (by omega)
 have EI:=jl9 (Jn h hR 3 e h1 h2 h3 hn)
 clear h
 go_enter Tryz.func103,Tryz.ntmps103
 go_wp2_with fail
 refine EI.out.mono ?_
 rintro e' w1 ⟨rfl,T1,⟨V1,g1⟩,s1⟩
 have k4:w1.cell? ⟨b,4,none⟩=some (.int .i64 p.stanzas):=g1.cells.cell 4
 have kf4:=g1.cells.frozen 4
 have n1:IntKind.i64.wrap ((p.stanzas:Int)+1)=(p.stanzas:Int)+1:=jmU _ (by omega)
 go_wp2
 go_end0
 refine⟨rfl,T1,⟨V1,?_⟩,s1.trans ⟨((jt.refl _ _).setCell (p:=⟨b,4,none⟩) (.inl (by rw[g1.tp];decide)) _),fun _ _=>Iff.rfl⟩⟩
 have hc:ja (w1.setCell ⟨b,4,none⟩ (.int .i64 ((p.stanzas:Int)+1))) b 168 (vT {zi text.data.toList p 3 e with stanzas:=p.stanzas+1} text V1.v1 V1.v3 V1.v6):=by
  have:=g1.cells.set 4 (.int .i64 ((p.stanzas:Int)+1))
  simpa [vT]using this
 have ne:∀{o:Option Nat} {t:Nat},jD T1 o t->t≠1->o≠some b:=fun ht h1 e=>h1 (by rw[<- ht b e,g1.tp])
 exact⟨hc,g1.tp,jF g1.r1 (ne g1.t1 (by decide)) _,g1.t1,jF g1.r3 (ne g1.t3 (by decide)) _,g1.t3,jF g1.r6 (ne g1.t6 (by decide)) _,g1.t6,g1.nf,
  fun i it v a c=>⟨jF (g1.rf i it v a c).1 (ne (g1.rf i it v a c).2 (by decide)) _,(g1.rf i it v a c).2⟩,fun k hk=>by simpa [World.setCell]using g1.low k hk⟩
theorem qE(l:List UInt8)(c:UInt8):(Lib.indexByte l c = -1/\c∉l)\/(Lib.indexByte l c=((l.takeWhile (· != c)).length:Int)/\c∈l):=by
 induction l with
 | nil=>left;exact⟨rfl,by simp⟩
 | cons a t ih =>
 unfold Lib.indexByte
 by_cases h:a=c
 ·subst h;right;simp
 rcases ih with ⟨h1,h2⟩|⟨h1,h2⟩
 ·left;rw[h1];simp[h,h2,Ne.symm h]
 right;rw[h1];simp[h,h2]
theorem jja(s:ByteArray)(c:UInt8)(w:World)(h:c∉s.data.toList):
  Calls Tryz.prog 148 #[.string s,.string ⟨#[c]⟩] w fun e w'=>e=.returned (.tuple #[.string s,.string ⟨#[]⟩,.bool false])/\∃n,w'=w.drewN n:=by
 have e0:Lib.indexByte s.data.toList c = -1:=by
  rcases qE s.data.toList c with ⟨a,_⟩|⟨_,a⟩
  ·exact a
  exact absurd a h
 go_enter Tryz.func148,Tryz.ntmps148
 go_wp2_with (go_at_call 193;refine(Tryz.stringslite_Index_one s c _).mono ?_;rw[e0];rintro e w' ⟨rfl,rfl⟩)
 go_ret3
 exact⟨rfl,0,rfl⟩
theorem jhh(s:ByteArray)(c:UInt8)(w:World)(hs:s.size<=maxLen)(h:c∈s.data.toList):
  Calls Tryz.prog 148 #[.string s,.string ⟨#[c]⟩] w fun e w'=>e=.returned (.tuple #[.string (s.extract 0 (s.data.toList.takeWhile (· != c)).length),.string (s.extract ((s.data.toList.takeWhile (· != c)).length+1) s.size),.bool true])/\∃n,w'=w.drewN n:=by
 have e0:Lib.indexByte s.data.toList c=((s.data.toList.takeWhile (· != c)).length:Int):=by
  rcases qE s.data.toList c with ⟨_,a⟩|⟨a,_⟩
  ·exact absurd h a
  exact a
 have hlt:(s.data.toList.takeWhile (· != c)).length<s.size:=by
  rw[jmq]
  rcases jmF (s.data.toList.takeWhile (· != c)).length s.data.toList.length with h1|h1
  ·exact h1
  exfalso
  have h2:s.data.toList.takeWhile (· != c)=s.data.toList:=List.IsPrefix.eq_of_length_le (jno _) h1
  have h3:=List.all_eq_true.1 (jnT (p:=fun(x:UInt8)=>x != c) (l:=s.data.toList)) c (by rw[h2];exact h)
  simp at h3
 unfold maxLen at hs
 generalize (s.data.toList.takeWhile (· != c)).length=i at *
 have h1:IntKind.i64.wrap ((i:Int)+1)=(i:Int)+1:=jmU _ (by omega)
 go_enter Tryz.func148,Tryz.ntmps148
 go_wp2_with (go_at_call 193;refine(Tryz.stringslite_Index_one s c _).mono ?_;rw[e0];rintro e w' ⟨rfl,rfl⟩)
 go_quiet (fail)
 go_wp2
 go_ret3
 exact⟨rfl,_,rfl⟩
theorem jbi(s:ByteArray)(c:UInt8)(w:World)(h:c∉s.data.toList):
  Calls Tryz.prog 104 #[.string s,.string ⟨#[c]⟩] w fun e w'=>e=.returned (.tuple #[.string s,.string ⟨#[]⟩,.bool false])/\∃n,w'=w.drewN n:=by
 go_enter Tryz.func104,Tryz.ntmps104
 go_wp2_with (go_at_call 148;refine(jja s c _ h).mono ?_;rintro e w' ⟨rfl,n,rfl⟩)
 go_ret3
 exact⟨rfl,_,rfl⟩
theorem Kt(s:ByteArray)(c:UInt8)(w:World)(hs:s.size<=maxLen)(h:c∈s.data.toList):
  Calls Tryz.prog 104 #[.string s,.string ⟨#[c]⟩] w fun e w'=>e=.returned (.tuple #[.string (s.extract 0 (s.data.toList.takeWhile (· != c)).length),.string (s.extract ((s.data.toList.takeWhile (· != c)).length+1) s.size),.bool true])/\∃n,w'=w.drewN n:=by
 go_enter Tryz.func104,Tryz.ntmps104
 go_wp2_with (go_at_call 148;refine(jhh s c _ hs h).mono ?_;rintro e w' ⟨rfl,n,rfl⟩)
 go_ret3
 exact⟨rfl,_,rfl⟩
def qP(x:Ln):Array Value:=#[.int .i64 x.no,.int .i64 x.at_,.string ⟨x.text.toArray⟩,.bool x.ended]
def Kk(b:Bool):ByteArray:=if b then ⟨#[10]⟩ else ⟨#[]⟩
theorem GU(a b:Int)(t:ByteArray)(x:Bool)(w:World):
  Calls Tryz.prog 166 #[.agg #[.int .i64 a,.int .i64 b,.string t,.bool x]] w fun e w'=>e=.returned (.string (Kk x))/\w'=w.alloc (.cells #[.int .i64 a,.int .i64 b,.string t,.bool x] 164):=by
 cases x
 all_goals
  go_enter Tryz.func166,Tryz.ntmps166
  go_wp2
  go_ret
  exact⟨rfl,rfl⟩
structure vz(B k:Nat)(W W':World):Prop where
 size:W.heap.size<=W'.heap.size
 same:∀r,B<=r->r<B+k->W'.heap[r]?=W.heap[r]?
theorem vz.refl(B k:Nat)(W:World):vz B k W W:=⟨jma _,fun _ _ _=>rfl⟩
theorem vz.trans{B k:Nat}{X Y Z:World}(h:vz B k X Y)(g:vz B k Y Z):vz B k X Z :=
 ⟨jmy h.size g.size,fun r a b=>(g.same r a b).trans (h.same r a b)⟩
theorem vz.alloc{B k:Nat}{X Y:World}(h:vz B k X Y)(hs:B+k<=Y.heap.size)(o:Obj):vz B k X (Y.alloc o) :=
 h.trans ⟨by simp,fun r _ b=>jnp _ _ _ (by omega)⟩
theorem vz.setCell{B k:Nat}{X Y:World}(h:vz B k X Y){p:Addr}(hp:p.block<B\/B+k<=p.block)(u:Value):vz B k X (Y.setCell p u) :=
 h.trans ⟨by simp[World.setCell],fun r a b=>jmz _ _ _ _ (by omega)⟩
theorem vz.grown{B k:Nat}{X Y Z:World}(h:vz B k X Y){row:Option Nat}(hg:Y.grownBy Z row)(hs:B+k<=Y.heap.size)(hr:∀r,row=some r->r<B\/B+k<=r):vz B k X Z :=
 h.trans ⟨hg.size,fun r a b=>hg.block r (by omega) (fun e=>by have:=hr r e.symm;omega)⟩
theorem vz.below{B k n:Nat}{X Y Z:World}(h:vz B k X Y)(hb:Below n Y Z)(hn:B+k<=n):vz B k X Z :=
 h.trans ⟨hb.size,fun r _ b=>hb.block r (by omega)⟩
structure jY(B k:Nat)(W W':World):Prop where
 os:W'.os=W.os
 tape:W'.tape=W.tape
 output:W'.output=W.output
 size:W.heap.size<=W'.heap.size
 same:∀r,r<W.heap.size->r<B\/B+k<=r->W'.heap[r]?=W.heap[r]?
theorem jY.refl(B k:Nat)(W:World):jY B k W W:=⟨rfl,rfl,rfl,jma _,fun _ _ _=>rfl⟩
theorem jY.trans{B k:Nat}{X Y Z:World}(h:jY B k X Y)(g:jY B k Y Z):jY B k X Z :=
 ⟨g.os.trans h.os,g.tape.trans h.tape,g.output.trans h.output,jmy h.size g.size,fun r a b=>(g.same r (jmp a h.size) b).trans (h.same r a b)⟩
theorem jY.grown{B k:Nat}{X Y Z:World}(h:jY B k X Y){row:Option Nat}(hg:Y.grownBy Z row)(hr:∀r,row=some r->B<=r/\r<B+k):jY B k X Z :=
 h.trans ⟨hg.os,hg.tape,hg.output,hg.size,fun r a b=>hg.block r a (fun e=>by have:=hr r e.symm;omega)⟩
theorem jY.alloc{B k:Nat}{X Y:World}(h:jY B k X Y)(o:Obj):jY B k X (Y.alloc o) :=
 h.grown (World.grownBy_alloc Y o none) (fun r e=>by cases e)
theorem jY.putObj{B k:Nat}{X Y:World}(h:jY B k X Y){l:Nat}(o:Obj)(a:B<=l)(b:l<B+k):jY B k X (Y.putObj l o) :=
 h.grown (grownBy_putObj' Y l o) (fun r e=>by cases e;exact⟨a,b⟩)
theorem jY.sub{B k B' k':Nat}{X Y:World}(h:jY B' k' X Y)(a:B<=B')(b:B'+k'<=B+k):jY B k X Y :=
 ⟨h.os,h.tape,h.output,h.size,fun r c d=>h.same r c (by omega)⟩
theorem jY.below{B k n:Nat}{X Y:World}(h:jY B k X Y)(hn:n<=B)(hs:n<=X.heap.size):Below n X Y :=
 ⟨h.os,h.tape,h.output,h.size,fun r a=>h.same r (by omega) (by omega)⟩
theorem jY.box{B k b:Nat}{X Y:World}{t:TypeId}{v:Value}(h:jY B k X Y)(hv:Boxed X b t v)(hb:b<B\/B+k<=b):Boxed Y b t v :=
 (h.same b (Array.getElem?_eq_some_iff.1 (show X.heap[b]?=_ from hv)).1 hb).trans hv
theorem jY.row{B k:Nat}{X Y:World}{base:Nat}{e:TypeId}{size:Nat}{v:Value}{n:Nat}{xs:List Value}(h:jY B k X Y)(hr:X.ownsRow base e size v n xs)
  (hb:∀b,v.ownBlock=some b->b<B\/B+k<=b):Y.ownsRow base e size v n xs:=by
 refine⟨hr.1,?_⟩
 rcases hr.2 with hn|⟨g,cap,cur,rfl,hbase,hg,rest⟩
 ·exact .inl hn
 exact .inr ⟨g,cap,cur,rfl,hbase,(h.same g (Array.getElem?_eq_some_iff.1 hg).1 (hb g rfl)).trans hg,rest⟩
def zD{β:Type}(B k:Nat)(J:β->World->Prop):Prop:=∀s W W',J s W->jY B k W W'->J s W'
theorem zD.alloc{β:Type}{B k:Nat}{J:β->World->Prop}(h:zD B k J){s:β}{W:World}(o:Obj)(hs:J s W):J s (W.alloc o) :=
 h s W _ hs ((jY.refl _ _ _).alloc o)
theorem zD.putObj{β:Type}{B k:Nat}{J:β->World->Prop}(h:zD B k J){s:β}{W:World}{l:Nat}(o:Obj)(hs:J s W)(a:B<=l)(b:l<B+k):J s (W.putObj l o) :=
 h s W _ hs ((jY.refl _ _ _).putObj o a b)
theorem zD.and{β:Type}{B k:Nat}{I J:β->World->Prop}(h:zD B k I)(g:zD B k J):zD B k (fun s W=>I s W/\J s W) :=
 fun s W W' hs ht=>⟨h s W W' hs.1 ht,g s W W' hs.2 ht⟩
theorem zD.pure{β:Type}(B k:Nat)(p:β->Prop):zD B k (fun s (_:World)=>p s):=fun _ _ _ hs _=>hs
theorem zD.below{β:Type}{B k n:Nat}{w:World}(hn:n<=w.heap.size)(hB:n<=B):zD B k (fun(_:β) W=>Below n w W) :=
 fun _ _ _ hs ht=>hs.trans (ht.below hB (jmy hn hs.size))
theorem zD.box{β:Type}{B k b:Nat}{t:TypeId}(hb:b<B\/B+k<=b)(f:β->Value):zD B k (fun s W=>Boxed W b t (f s)) :=
 fun _ _ _ hs ht=>ht.box hs hb
def jjj{α:Type}(P:Program)(g:Nat)(lb:Array Value)(encs:α->Array Value)(k:Nat)(xs:List α)(w:World):Prop :=
 ∀(l:Nat) (J Jx:List α->World->Prop) (W:World),Below w.heap.size w W->zD W.heap.size k J ->
  (∀pre x post W1,xs=pre++x::post->W.heap.size+k<=W1.heap.size->J pre W1->YieldAt Fence.wide 7 P l (encs x) W1 fun e W' =>
   (e=.returned (.bool true)/\J (pre++[x]) W'/\vz W.heap.size k W1 W')\/(e=.returned (.bool false)/\Jx (pre++[x]) W')) ->
  J [] W ->
  CallsIn Fence.wide 8 P g (#[.func (.yield l) #[] #[]]++lb) W fun e W'=>(∃v,e=.returned v)/\(J xs W'\/∃pre,pre <+: xs/\Jx pre W')
def left{α:Type}(B k:Nat)(I:List α->World->Prop)(Ix:Code->List α->World->Prop)(xs:List α)(W:World):Exit->Act->World->Prop
 | .normal,_,W'=>vz B k W W'/\I xs W'
 | .ret,_,W'=>vz B k W W'/\Ix .ret xs W'
 | .exit id,_,W'=>vz B k W W'/\Ix (.exit id) xs W'
 | .goto t,_,W'=>vz B k W W'/\Ix (.goto t) xs W'
 | .panic _,_,_=>False
 | .outgrown,_,_=>False
def QK(B k:Nat)(M:Act->World->Prop)(W:World):Exit->Act->World->Prop :=
 Exit.then (fun a' W'=>vz B k W W'/\M a' W') (fun _ _ _=>False)
variable {P:Program}
def jfs{α:Type}(P:Program)(g:Nat)(lb:Array Value)(encs:α->Array Value)(k:Nat)(xs:List α)(K:World->Prop)(w:World):Prop :=
 ∀(l:Nat) (J Jx:List α->World->Prop) (W:World),Below w.heap.size w W->zD W.heap.size k J->(∀pre W,J pre W->K W) ->
  (∀pre x post W1,xs=pre++x::post->W.heap.size+k<=W1.heap.size->J pre W1->YieldAt Fence.wide 7 P l (encs x) W1 fun e W' =>
   (e=.returned (.bool true)/\J (pre++[x]) W'/\vz W.heap.size k W1 W')\/(e=.returned (.bool false)/\Jx (pre++[x]) W')) ->
  J [] W ->
  CallsIn Fence.wide 8 P g (#[.func (.yield l) #[] #[]]++lb) W fun e W'=>(∃v,e=.returned v)/\(J xs W'\/∃pre,pre <+: xs/\Jx pre W')
theorem YE{α:Type}{g:Operand}{ps:Array Tmp}{assign body:Code}{Q:Exit->Act->World->Prop}{a:Act}{w:World}
  {gf:Nat} {lb:Array Value} (hg:a.eval g=.func (.func gf) #[] lb) (eg:∀args w,(callFunc gf args).run P w=.ok (.enter gf args) w)
  {encs:α->Array Value} {k:Nat} {xs:List α} {K:World->Prop} (hseq:jfs P gf lb encs k xs K w) (hps:∀x,(encs x).size=ps.size)
  (I:List α->World->Prop) (Ix:Code->List α->World->Prop) (hI:zD w.heap.size (k+2) I) (hIx:∀c,zD w.heap.size 2 (Ix c)) (h0:I [] w) (hK:∀pre W,I pre W->K W)
  (M:List α->α->Act->World->Prop) (hM:∀pre x a',zD w.heap.size 2 (fun(_:Unit) W=>M pre x a' W))
  (hassign:∀(l:Nat) (pre:List α) (x:α) (post:List α) (W:World),xs=pre++x::post->w.heap.size+(k+2)<=W.heap.size->I pre W ->
   assign.wpIn (Fence.wide.inRound l) 7 P (QK w.heap.size (k+2) (M pre x) W) {tmps:=(ps.zip (encs x)).foldl (fun t (p,v)=>t.setIfInBounds p v) a.tmps,defers:=[]} W)
  (hbody:∀(l:Nat) (pre:List α) (x:α) (post:List α) (a':Act) (W:World),xs=pre++x::post->w.heap.size+(k+2)<=W.heap.size->M pre x a' W ->
   body.wpIn (Fence.wide.inRound l) 7 P (left w.heap.size (k+2) I Ix (pre++[x]) W) a' W)
  (hdone:∀(W:World),I xs W->W.heap[w.heap.size]?=some (.deferred (some []))->Q .normal {a with defers:={target:=.collected w.heap.size,args:=#[]}::a.defers} W)
  (hstop:∀(c:Code) (pre:List α) (W:World),pre <+: xs->Ix c pre W->W.heap[w.heap.size]?=some (.deferred (some []))->c.wpIn Fence.wide 9 P Q {a with defers:={target:=.collected w.heap.size,args:=#[]}::a.defers} W) :
  (Code.rangeFunc g ps assign body).wpIn Fence.wide 9 P Q a w:=by
 refine wpIn_rangeFunc fun fn _ => ?_
 show ∃l mark w₁ d w₁' f args w₂,(Instr.enterLoop fn a.tmps ps assign body none).run P w=.ok (l,mark) w₁/\_
 obtain⟨rec,hrec⟩:∃rec:LoopState->Option Code->Loop,rec=fun st pe=>{state:=st,pending:=pe,fn,tmps:=a.tmps,params:=ps,assign,body,defers:=w.heap.size}:=⟨_,rfl⟩
 obtain⟨W1,hW1⟩:∃W1,(w.alloc (.deferred (some []))).alloc (.loop (rec .ready none))=W1:=⟨_,rfl⟩
 have hz1:W1.heap.size=w.heap.size+2:=by rw[<- hW1];simp
 have hL1:W1.heap[w.heap.size+1]?=some (.loop (rec .ready none)):=by
  rw[<- hW1];have:=jot (w.alloc (.deferred (some []))) (.loop (rec .ready none));rwa [jmw]at this
 have hK1:W1.heap[w.heap.size]?=some (.deferred (some [])):=by
  rw[<- hW1];exact(jnp _ _ _ (by simp)).trans (jot w _)
 have hI1:I [] W1:=by rw[<- hW1];exact hI.alloc _ (hI.alloc _ h0)
 have hb1:Below w.heap.size w W1:=by rw[<- hW1];exact((jmc _ w).alloc (jma _) _).alloc (by simp) _
 have two:∀{A B:World},jY W1.heap.size k A B->∀q o,q<w.heap.size+2->A.heap[q]?=some o->B.heap[q]?=some o :=
  fun ht q o hq ho=>(ht.same q (Array.getElem?_eq_some_iff.1 ho).1 (by omega)).trans ho
 refine⟨w.heap.size+1,[{target:=.collected w.heap.size,args:=#[]}],W1,{target:=.fn (.func gf) lb,args:=#[.func (.yield (w.heap.size+1)) #[] #[]]},W1,gf,
  #[.func (.yield (w.heap.size+1)) #[] #[]]++lb,W1,?_,?_,fun _ _=>trivial,?_,(fun h=>by cases h),?_⟩
 ·rw[<- hW1,hrec];exact run_enterLoop_outer _ _ _ _ _
 ·simp only[resolve,hg]
  simp[go_sem]
 ·simp[invoke,go_sem,eg]
 refine(hseq (w.heap.size+1)
  (fun pre W=>I pre W/\W.heap[w.heap.size+1]?=some (.loop (rec .ready none))/\W.heap[w.heap.size]?=some (.deferred (some [])))
  (fun pre W=>∃c,Ix c pre W/\W.heap[w.heap.size+1]?=some (.loop (rec .done (some c)))/\W.heap[w.heap.size]?=some (.deferred (some [])))
  W1 hb1
  (fun s A B hs ht=>⟨hI s A B hs.1 (ht.sub (by omega) (by omega)),two ht _ _ (by omega) hs.2.1,two ht _ _ (by omega) hs.2.2⟩)
  (fun s A hs=>hK s A hs.1)
  ?_ ⟨hI1,hL1,hK1⟩).mono ?_
 ·
  rintro pre x post W hx hsz ⟨hi,hl,hk⟩
  rw[hz1]at hsz
  have hy:=run_yield (P:=P) (args:=encs x) hl (by rw[hrec];exact hps x)
  rw[hrec]at hy
  refine⟨fn,_,assign,body,hy,roundIn_of_wpIn trivial (wpIn_mono (hassign _ pre x post W hx (by omega) hi) ?_)⟩
  intro e a' Wa hp
  cases e with
  | normal =>
   obtain⟨hs1,hm⟩:=hp
   have hla:=(hs1.same (w.heap.size+1) (by omega) (by omega)).trans hl
   have hka:=(hs1.same w.heap.size (by omega) (by omega)).trans hk
   have hlt:=(Array.getElem?_eq_some_iff.1 hla).1
   refine⟨_,run_beginRound hla (by rw[hrec]),?_⟩
   have hl2:(Wa.putObj (w.heap.size+1) (.loop {rec .ready none with state:=.busy})).heap[w.heap.size+1]?=some (.loop {rec .ready none with state:=.busy}):=World.putObj_heap_same hlt
   have hk2:(Wa.putObj (w.heap.size+1) (.loop {rec .ready none with state:=.busy})).heap[w.heap.size]?=some (.deferred (some [])):=(jna (by omega)).trans hka
   have hn2:∀r,w.heap.size+2<=r->(Wa.putObj (w.heap.size+1) (.loop {rec .ready none with state:=.busy})).heap[r]?=Wa.heap[r]?:=fun r hr=>jna (by omega)
   have hz2:∀o,(Wa.putObj (w.heap.size+1) o).heap.size=Wa.heap.size:=fun o=>by simp
   have hm2:=(hM pre x a').putObj (s:=()) (.loop {rec .ready none with state:=.busy}) hm (l:=w.heap.size+1) (by omega) (by omega)
   have hsa:=hs1.size
   refine wpIn_mono (hbody _ pre x post a' _ hx (by rw[hz2];omega) hm2) ?_
   have fin:∀(jump:Option Code) (W3:World),vz w.heap.size (k+2) (Wa.putObj (w.heap.size+1) (.loop {rec .ready none with state:=.busy})) W3 ->
     (Instr.endRound (w.heap.size+1) jump).run P W3=.ok (.bool jump.isNone) (W3.putObj (w.heap.size+1) (.loop (rec (if jump.isNone then .ready else .done) jump))) /\
     (W3.putObj (w.heap.size+1) (.loop (rec (if jump.isNone then .ready else .done) jump))).heap[w.heap.size+1]?=some (.loop (rec (if jump.isNone then .ready else .done) jump)) /\
     (W3.putObj (w.heap.size+1) (.loop (rec (if jump.isNone then .ready else .done) jump))).heap[w.heap.size]?=some (.deferred (some [])):=fun jump W3 hs3=>by
    have hl3:=(hs3.same (w.heap.size+1) (by omega) (by omega)).trans hl2
    have hk3:=(hs3.same w.heap.size (by omega) (by omega)).trans hk2
    have:=run_endRound (P:=P) jump hl3
    rw[hrec]at this ⊢
    exact⟨this,World.putObj_heap_same (Array.getElem?_eq_some_iff.1 hl3).1,(jna (by omega)).trans hk3⟩
   intro e a3 W3 hp
   cases e with
   | normal =>
    obtain⟨hs3,hi3⟩:=hp
    obtain⟨hr,hl4,hk4⟩:=fin none W3 hs3
    refine⟨_,_,hr,.inl ⟨rfl,⟨hI.putObj _ hi3 (by omega) (by omega),hl4,hk4⟩,?_⟩⟩
    have hsz3:=hs3.size
    refine⟨by simp only[World.putObj,Array.size_setIfInBounds]at hsz3 ⊢;omega,fun r a b => ?_⟩
    rw[hz1]at a b
    rw[jna (by omega),hs3.same r (by omega) (by omega),hn2 r a,hs1.same r (by omega) (by omega)]
   | ret =>
    obtain⟨hs3,hi3⟩:=hp
    obtain⟨hr,hl4,hk4⟩:=fin (some .ret) W3 hs3
    exact⟨_,_,hr,.inr ⟨rfl,.ret,(hIx _).putObj _ hi3 (by omega) (by omega),hl4,hk4⟩⟩
   | exit id =>
    obtain⟨hs3,hi3⟩:=hp
    obtain⟨hr,hl4,hk4⟩:=fin (some (.exit id)) W3 hs3
    exact⟨_,_,hr,.inr ⟨rfl,.exit id,(hIx _).putObj _ hi3 (by omega) (by omega),hl4,hk4⟩⟩
   | goto t =>
    obtain⟨hs3,hi3⟩:=hp
    obtain⟨hr,hl4,hk4⟩:=fin (some (.goto t)) W3 hs3
    exact⟨_,_,hr,.inr ⟨rfl,.goto t,(hIx _).putObj _ hi3 (by omega) (by omega),hl4,hk4⟩⟩
   | panic ch=>exact hp.elim
   | outgrown=>exact hp.elim
  | ret=>exact hp.elim
  | exit id=>exact hp.elim
  | goto t=>exact hp.elim
  | panic ch=>exact hp.elim
  | outgrown=>exact hp.elim
 ·
  rintro e W2 ⟨⟨v,rfl⟩,(⟨hi,hl,hk⟩|⟨pre,hpre,c,hi,hl,hk⟩)⟩
  ·exact⟨none,_,by have:=run_endLoop (P:=P) hl (by rw[hrec];simp);rw[hrec]at this;exact this,hdone _ (hI.putObj _ hi (by omega) (by omega)) ((jna (by omega)).trans hk)⟩
  exact⟨some c,_,by have:=run_endLoop (P:=P) hl (by rw[hrec];simp);rw[hrec]at this;exact this,hstop c pre _ hpre ((hIx c).putObj _ hi (by omega) (by omega)) ((jna (by omega)).trans hk)⟩
theorem jdg{α:Type}{g:Operand}{ps:Array Tmp}{assign body:Code}{Q:Exit->Act->World->Prop}{a:Act}{w:World}
  {gf:Nat} {lb:Array Value} (hg:a.eval g=.func (.func gf) #[] lb) (eg:∀args w,(callFunc gf args).run P w=.ok (.enter gf args) w)
  {encs:α->Array Value} {k:Nat} {xs:List α} (hseq:jjj P gf lb encs k xs w) (hps:∀x,(encs x).size=ps.size)
  (I:List α->World->Prop) (Ix:Code->List α->World->Prop) (hI:zD w.heap.size (k+2) I) (hIx:∀c,zD w.heap.size 2 (Ix c)) (h0:I [] w)
  (M:List α->α->Act->World->Prop) (hM:∀pre x a',zD w.heap.size 2 (fun(_:Unit) W=>M pre x a' W))
  (hassign:∀(l:Nat) (pre:List α) (x:α) (post:List α) (W:World),xs=pre++x::post->w.heap.size+(k+2)<=W.heap.size->I pre W ->
   assign.wpIn (Fence.wide.inRound l) 7 P (QK w.heap.size (k+2) (M pre x) W) {tmps:=(ps.zip (encs x)).foldl (fun t (p,v)=>t.setIfInBounds p v) a.tmps,defers:=[]} W)
  (hbody:∀(l:Nat) (pre:List α) (x:α) (post:List α) (a':Act) (W:World),xs=pre++x::post->w.heap.size+(k+2)<=W.heap.size->M pre x a' W ->
   body.wpIn (Fence.wide.inRound l) 7 P (left w.heap.size (k+2) I Ix (pre++[x]) W) a' W)
  (hdone:∀(W:World),I xs W->W.heap[w.heap.size]?=some (.deferred (some []))->Q .normal {a with defers:={target:=.collected w.heap.size,args:=#[]}::a.defers} W)
  (hstop:∀(c:Code) (pre:List α) (W:World),pre <+: xs->Ix c pre W->W.heap[w.heap.size]?=some (.deferred (some []))->c.wpIn Fence.wide 9 P Q {a with defers:={target:=.collected w.heap.size,args:=#[]}::a.defers} W) :
  (Code.rangeFunc g ps assign body).wpIn Fence.wide 9 P Q a w :=
 YE (K:=fun _=>True) hg eg (fun l J Jx W hb ha _=>hseq l J Jx W hb ha) hps I Ix hI hIx h0 (fun _ _ _=>trivial) M hM hassign hbody hdone hstop
def jf4(s:ByteArray):ByteArray:=if nl s.data.toList then s.extract ((head s.data.toList).length+1) s.size else ⟨#[]⟩
theorem vt{p:UInt8->Bool}:∀{l:List UInt8},(∀x∈l,p x=true)->l.takeWhile p=l
 | [],_=>rfl
 | a::l,h=>by rw[jnc,h a (by simp),if_pos rfl,vt fun x hx=>h x (by simp[hx])]
theorem jhe(s:ByteArray)(w:World)(hs:s.size<=maxLen):
  Calls Tryz.prog 104 #[.string s,.string ⟨#[10]⟩] w fun e w'=>e=.returned (.tuple #[.string ⟨(head s.data.toList).toArray⟩,.string (jf4 s),.bool (nl s.data.toList)])/\∃n,w'=w.drewN n:=by
 by_cases h:(10:UInt8)∈s.data.toList
 ·have e1:nl s.data.toList=true:=by unfold nl;simpa using h
  have e2:s.extract 0 (s.data.toList.takeWhile (· != 10)).length=⟨(head s.data.toList).toArray⟩:=by
   have h0:=jnP s 0 (s.data.toList.takeWhile (· != 10)).length
   rw[<- jok (s.extract 0 _),h0]
   have:List.take ((s.data.toList.takeWhile (· != 10)).length-0) (List.drop 0 s.data.toList)=head s.data.toList:=by
    rw[jnX,Nat.sub_zero]
    exact(List.prefix_iff_eq_take.1 (jno _)).symm
   rw[this]
  refine(Kt s 10 w hs h).mono ?_
  rintro e w' ⟨rfl,n,rfl⟩
  refine⟨?_,n,rfl⟩
  rw[e1,e2];unfold jf4;rw[if_pos e1];rfl
 have e1:nl s.data.toList=false:=by unfold nl;simpa using h
 have e2:head s.data.toList=s.data.toList:=by
  exact vt fun x hx=>by simp;rintro rfl;exact h hx
 refine(jbi s 10 w h).mono ?_
 rintro e w' ⟨rfl,n,rfl⟩
 refine⟨?_,n,rfl⟩
 rw[e1,e2,jok];unfold jf4;rw[e1];rfl
structure Two(b c:Nat)(W W':World):Prop where
 os:W'.os=W.os
 tape:W'.tape=W.tape
 output:W'.output=W.output
 size:W.heap.size<=W'.heap.size
 same:∀r,r<W.heap.size->r≠b->r≠c->W'.heap[r]?=W.heap[r]?
theorem Two.refl(b c:Nat)(W:World):Two b c W W:=⟨rfl,rfl,rfl,jma _,fun _ _ _ _=>rfl⟩
theorem Two.alloc{b c:Nat}{X Y:World}(h:Two b c X Y)(o:Obj):Two b c X (Y.alloc o) :=
 ⟨h.os,h.tape,h.output,by simp;have:=h.size;omega,fun r a x y=>(jnp _ _ _ (jmp a h.size)).trans (h.same r a x y)⟩
theorem Two.setCell{b c:Nat}{X Y:World}(h:Two b c X Y){p:Addr}(hp:p.block=b\/p.block=c\/X.heap.size<=p.block)(u:Value):Two b c X (Y.setCell p u) :=
 ⟨h.os,h.tape,h.output,by simp only[World.setCell,Array.size_modify];exact h.size,fun r a x y=>(jmz _ _ _ _ (by omega)).trans (h.same r a x y)⟩
theorem Two.drew{b c:Nat}{X Y:World}(h:Two b c X Y):Two b c X Y.drew:=⟨h.os,h.tape,h.output,h.size,h.same⟩
theorem Two.drewN{b c:Nat}{X Y:World}(h:Two b c X Y)(n:Nat):Two b c X (Y.drewN n):=⟨h.os,h.tape,h.output,h.size,h.same⟩
theorem Two.box{b c d:Nat}{X Y:World}{t:TypeId}{v:Value}(h:Two b c X Y)(hv:Boxed X d t v)(x:d≠b)(y:d≠c):Boxed Y d t v :=
 (h.same d hv.lt x y).trans hv
theorem Two.turned{b c B k:Nat}{X Y:World}(h:Two b c X Y)(hb:B<=b/\b<B+k)(hc:B<=c/\c<B+k):jY B k X Y :=
 ⟨h.os,h.tape,h.output,h.size,fun r a x=>h.same r a (by omega) (by omega)⟩
theorem jio(s:ByteArray)(at_:Nat)(Bat Btx Bno:Nat)(w:World)(hat:Boxed w Bat 3 (.int .i64 at_))(htx:Boxed w Btx 9 (.string s))(he:at_=s.size):
  Calls Tryz.prog 185 #[.pointer (some ⟨Bat,0,none⟩),.pointer (some ⟨Btx,0,none⟩),.pointer (some ⟨Bno,0,none⟩)] w fun e w' =>
   e=.returned (.tuple #[.agg #[.int .i64 0,.int .i64 0,.string ⟨#[]⟩,.bool false],.bool false])/\Two Bno Bat w w':=by
 have c1:=hat.cell
 have c2:=htx.cell
 have z1:=hat.lt
 have z2:=htx.lt
 have e1:((at_:Int)==(s.size:Int))=true:=by rw[he];simp
 go_enter Tryz.func185,Tryz.ntmps185
 go_wp2
 refine bodyPost_ret (v:=.tuple #[.agg #[.int .i64 0,.int .i64 0,.string ⟨#[]⟩,.bool false],.bool false]) (by simp[results,Tryz.results185,go_sem]) rfl ⟨rfl,?_⟩
 exact(Two.refl _ _ _).alloc _
theorem jgl(s:ByteArray)(at_ no:Nat)(Bat Btx Bno:Nat)(w:World)(hat:Boxed w Bat 3 (.int .i64 at_))(htx:Boxed w Btx 9 (.string s))(hno:Boxed w Bno 3 (.int .i64 no))
  (h1:at_<s.size) (h2:no<s.size) (hs:s.size<=4294967295) (d1:Bat≠Btx) (d2:Bat≠Bno) (d3:Btx≠Bno) :
  Calls Tryz.prog 185 #[.pointer (some ⟨Bat,0,none⟩),.pointer (some ⟨Btx,0,none⟩),.pointer (some ⟨Bno,0,none⟩)] w fun e w' =>
   e=.returned (.tuple #[.agg (qP ⟨no,at_,head (s.data.toList.drop at_),nl (s.data.toList.drop at_)⟩),.bool true])/\Two Bno Bat w w'/\Boxed w' Bno 3 (.int .i64 (no+1:Nat))/\Boxed w' Bat 3 (.int .i64 (at_+qI (s.data.toList.drop at_):Nat)):=by
 have c1:=hat.cell
 have c2:=htx.cell
 have c3:=hno.cell
 have f3:=hno.frozen
 have z1:=hat.lt
 have z2:=htx.lt
 have z3:=hno.lt
 have e1:((at_:Int)==(s.size:Int))=false:=by rw[beq_eq_false_iff_ne];omega
 go_enter Tryz.func185,Tryz.ntmps185
 go_wp2_with fail
 have hx:(s.extract at_ s.size).data.toList=s.data.toList.drop at_:=jod s at_
 have hz:(s.extract at_ s.size).size<=maxLen:=by rw[jmq,hx];unfold maxLen;simp only[jmn,<- jmq];omega
 refine(jhe (s.extract at_ s.size) _ hz).mono ?_
 rw[hx]
 rintro e w1 ⟨rfl,n1,rfl⟩
 have hu:(head (s.data.toList.drop at_)).length+(Kk (nl (s.data.toList.drop at_))).size=qI (s.data.toList.drop at_):=by
  unfold qI Kk;cases nl (s.data.toList.drop at_)<;>rfl
 have hul:=XF (s.data.toList.drop at_)
 rw[jmn,<- jmq]at hul
 have hu':(⟨(head (s.data.toList.drop at_)).toArray⟩:ByteArray).size=(head (s.data.toList.drop at_)).length:=by simp[Lib.size_eq]
 generalize hhd:head (s.data.toList.drop at_)=hd at *
 generalize hen:nl (s.data.toList.drop at_)=en at *
 generalize hus:qI (s.data.toList.drop at_)=us at *
 have H1:=jl9 hhd
 have H2:=jl9 hen
 have H3:=jl9 hus
 clear hhd hen hus
 generalize jf4 (s.extract at_ s.size)=rs at *
 have HU:=jl9 hu
 have HU':=jl9 hu'
 clear hu hu' hx hz
 go_upto_region 5 with fail
 go_cut [] (fun wx=>Two Bno Bat w wx/\wx.heap.size=w.heap.size+1+1/\Boxed wx Bno 3 (.int .i64 (no+1:Nat))/\Boxed wx Bat 3 (.int .i64 at_) /\
  ja wx w.heap.size 164 #[.int .i64 0,.int .i64 0,.string ⟨#[]⟩,.bool false]/\ja wx (w.heap.size+1) 164 #[.int .i64 no,.int .i64 at_,.string ⟨hd.toArray⟩,.bool en])
 case first =>
  go_wp2_with fail
  go_meet
  refine⟨?_,?_,?_,?_,?_,?_⟩
  ·exact(((((((Two.refl Bno Bat w).alloc _).alloc _).drewN n1).setCell (.inr (.inr (by simp))) _).setCell (.inr (.inr (by simp))) _).setCell (.inl rfl) _)
  ·simp[World.setCell]
  ·exact jnd _ (ja.other (ja.other (((ja.alloc (ja.alloc hno _) _).drewN n1)) (by simp;omega) _) (by simp;omega) _)
  ·exact ja.other (ja.other (ja.other (((ja.alloc (ja.alloc hat _) _).drewN n1)) (by simp;omega) _) (by simp;omega) _) d2 _
  ·exact ja.other (ja.other (ja.other (((ja.alloc (ja.new w _ _) _).drewN n1)) (by simp) _) (by simp) _) (by simp;omega) _
  have h0:=ja.new (w.alloc (.cells #[.int .i64 0,.int .i64 0,.string ⟨#[]⟩,.bool false] 164)) 164 #[.int .i64 no,.int .i64 at_,.string ⟨#[]⟩,.bool false]
  rw[jmw]at h0
  exact ja.other (((h0.drewN n1).set 2 (.string ⟨hd.toArray⟩)).set 3 (.bool en)) (by simp;omega) _
 case rest =>
 obtain⟨t1,t2,t3,t4,t5,t6⟩:=hcut
 have t3':=jl9 t3
 have q0:=t4.cell
 have q2:wc.cell? ⟨w.heap.size+1,2,none⟩=some (.string ⟨hd.toArray⟩):=t6.cell 2
 have q3:wc.cell? ⟨w.heap.size+1,0,none⟩=some (.int .i64 no):=t6.cell 0
 have q4:wc.cell? ⟨w.heap.size+1,1,none⟩=some (.int .i64 at_):=t6.cell 1
 have g1:(wc.alloc (.cells #[.int .i64 no,.int .i64 at_,.string ⟨hd.toArray⟩,.bool en] 164)).cell? ⟨Bat,0,none⟩=some (.int .i64 at_):=(jol t4 _).cell
 have g2:(wc.alloc (.cells #[.int .i64 no,.int .i64 at_,.string ⟨hd.toArray⟩,.bool en] 164)).frozen? ⟨Bat,0,none⟩=false:=(jol t4 _).frozen
 have keepA:∀o,((wc.alloc o).cell? ⟨w.heap.size+1,0,none⟩=some (.int .i64 no)/\(wc.alloc o).cell? ⟨w.heap.size+1,1,none⟩=some (.int .i64 at_)/\(wc.alloc o).cell? ⟨w.heap.size+1,2,none⟩=some (.string ⟨hd.toArray⟩)/\(wc.alloc o).cell? ⟨w.heap.size+1,3,none⟩=some (.bool en)) :=
  fun o=>⟨(ja.alloc t6 o).cell 0,(ja.alloc t6 o).cell 1,(ja.alloc t6 o).cell 2,(ja.alloc t6 o).cell 3⟩
 have keepB:∀o v,(((wc.alloc o).setCell ⟨Bat,0,none⟩ v).cell? ⟨w.heap.size+1,0,none⟩=some (.int .i64 no)/\((wc.alloc o).setCell ⟨Bat,0,none⟩ v).cell? ⟨w.heap.size+1,1,none⟩=some (.int .i64 at_)/\((wc.alloc o).setCell ⟨Bat,0,none⟩ v).cell? ⟨w.heap.size+1,2,none⟩=some (.string ⟨hd.toArray⟩)/\((wc.alloc o).setCell ⟨Bat,0,none⟩ v).cell? ⟨w.heap.size+1,3,none⟩=some (.bool en)) :=
  fun o v=>by
   have hne:w.heap.size+1≠Bat:=by omega
   exact⟨((ja.alloc t6 o).other hne v).cell 0,((ja.alloc t6 o).other hne v).cell 1,((ja.alloc t6 o).other hne v).cell 2,((ja.alloc t6 o).other hne v).cell 3⟩
 have g3:(wc.alloc (.cells #[.int .i64 no,.int .i64 at_,.string ⟨hd.toArray⟩,.bool en] 164)).cell? ⟨w.heap.size+1,2,none⟩=some (.string ⟨hd.toArray⟩):=(ja.alloc t6 _).cell 2
 clear keepA keepB
 have n0:(Kk en).size<=1:=by unfold Kk;cases en<;>decide
 have n1:hd.length<=4294967295:=by have:=HU.out;omega
 have n2:hd.length+(Kk en).size<=s.size-at_:=by have:=HU.out;omega
 have n3:IntKind.i64.wrap ((hd.length:Int)+((Kk en).size:Int))=(hd.length:Int)+((Kk en).size:Int):=jmU _ (by omega)
 have n4:IntKind.i64.wrap ((at_:Int)+((hd.length:Int)+((Kk en).size:Int)))=(at_:Int)+((hd.length:Int)+((Kk en).size:Int)):=jmU _ (by omega)
 have q5:wc.cell? ⟨w.heap.size+1,3,none⟩=some (.bool en):=t6.cell 3
 go_upto_region 6 with fail
 go_cut [] (fun wx=>Two Bno Bat w wx/\Boxed wx Bno 3 (.int .i64 (no+1:Nat))/\Boxed wx Bat 3 (.int .i64 (at_+us:Nat)) /\
  ja wx w.heap.size 164 #[.int .i64 0,.int .i64 0,.string ⟨#[]⟩,.bool false]/\ja wx (w.heap.size+1) 164 #[.int .i64 no,.int .i64 at_,.string ⟨hd.toArray⟩,.bool en])
 case first =>
  go_region_with (go_at_call 166;refine(GU _ _ _ _ _).mono ?_;rintro e w1 ⟨rfl,rfl⟩)
  all_goals
   go_wp2_with fail
   go_meet
   have e9:Value.int .i64 ((at_:Int)+((hd.length:Int)+((Kk en).size:Int)))=Value.int .i64 ((at_+us:Nat):Int):=by have:=HU.out;congr 1;omega
   rw[e9]
   exact⟨((t1.alloc _).setCell (.inr (.inl rfl)) _).drew,ja.other (ja.alloc t3 _) (fun e=>d2 e.symm) _,jnd _ (jol t4 _),ja.other (ja.alloc t5 _) (by simp;omega) _,ja.other (ja.alloc t6 _) (by simp;omega) _⟩
 case rest =>
 obtain⟨r1,r2,r3,r4,r5⟩:=hcut
 have s0:wc.cell? ⟨w.heap.size+1,0,none⟩=some (.int .i64 no):=r5.cell 0
 have s1:wc.cell? ⟨w.heap.size+1,1,none⟩=some (.int .i64 at_):=r5.cell 1
 have s2:wc.cell? ⟨w.heap.size+1,2,none⟩=some (.string ⟨hd.toArray⟩):=r5.cell 2
 have s3:wc.cell? ⟨w.heap.size+1,3,none⟩=some (.bool en):=r5.cell 3
 have s4:wc.cell? ⟨w.heap.size,0,none⟩=some (.int .i64 0):=r4.cell 0
 have s5:wc.cell? ⟨w.heap.size,1,none⟩=some (.int .i64 0):=r4.cell 1
 have s6:wc.cell? ⟨w.heap.size,2,none⟩=some (.string ⟨#[]⟩):=r4.cell 2
 have s7:wc.cell? ⟨w.heap.size,3,none⟩=some (.bool false):=r4.cell 3
 have y0:=r4.frozen 0
 have y1:=r4.frozen 1
 have y2:=r4.frozen 2
 have y3:=r4.frozen 3
 go_wp2_with fail
 have k4:=(((r4.set 0 (.int .i64 no)).set 1 (.int .i64 at_)).set 2 (.string ⟨hd.toArray⟩)).set 3 (.bool en)
 have w0:=k4.cell 0
 have w1:=k4.cell 1
 have w2:=k4.cell 2
 have w3:=k4.cell 3
 simp at w0 w1 w2 w3
 refine bodyPost_ret (v:=.tuple #[.agg #[.int .i64 no,.int .i64 at_,.string ⟨hd.toArray⟩,.bool en],.bool true]) (by simp[results,Tryz.results185,go_sem,w0,w1,w2,w3]) rfl ?_
 have z5:Bat≠w.heap.size:=by omega
 have z6:Bno≠w.heap.size:=by omega
 refine⟨by rw[H1.out,H2.out];rfl,?_,?_,?_⟩
 ·exact(((r1.setCell (.inr (.inr (jma _))) _).setCell (.inr (.inr (jma _))) _).setCell (.inr (.inr (jma _))) _).setCell (.inr (.inr (jma _))) _
 ·exact ja.other (ja.other (ja.other (ja.other r2 z6 _) z6 _) z6 _) z6 _
 rw[H3.out];exact ja.other (ja.other (ja.other (ja.other r3 z5 _) z5 _) z5 _) z5 _
end Go.Proofs.YtpibhbjmcmfnmaaGreatDoor
