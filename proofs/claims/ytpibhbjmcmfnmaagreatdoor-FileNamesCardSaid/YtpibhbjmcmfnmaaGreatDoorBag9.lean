/- Texts put together:PB,PC,PD,PE,WA,RF. -/
import Derived.Deep.DeepCutAuto
import Derived.ShutString
import Derived.BigCall
import Derived.ChangeAlike
import Derived.Outline
import Derived.IntWalk
import Derived.RangeFuncNested
import Derived.RangeFuncBound
import Derived.RangeFuncCalls
import Derived.RangeFuncLeaves
import Derived.Test.YtpibhbjmcmfnmaaGreatDoorBag8
set_option linter.unusedVariables false
set_option maxRecDepth 100000
set_option maxHeartbeats 16000000
namespace Go.Proofs.YtpibhbjmcmfnmaaGreatDoor
abbrev jnj:=@List.getElem?_cons_succ
abbrev jnJ:=@List.getElem?_append_left
abbrev jn1:=@Go.IntWalk.i64_in
abbrev jof:=@Go.World.putObj_heap_other
abbrev jou:=@List.takeWhile_prefix
abbrev jpD:=@Go.World.alloc_heap_new
end Go.Proofs.YtpibhbjmcmfnmaaGreatDoor
namespace Go.Proofs.YtpibhbjmcmfnmaaGreatDoor
open Go.RowKit
structure PV where
 v1:Value
 v3:Value
 v6:Value
 fvs:List Value
def yn(p:PS)(text:ByteArray)(v1 v3 v6:Value):Array Value:=#[.int .i64 p.begin_,v1,.string text,v3,.int .i64 p.stanzas,.int .i64 p.at_,v6]
def xI(it:It)(v:Value):List Value:=[.int .i64 it.kind,.string (B it.raw),v]
def zq:List It->List Value->List Value
 | it::l,v::vs=>xI it v++zq l vs
 | _,_=>[]
theorem xH:∀(l:List It) (vs:List Value) (it:It) (v:Value),vs.length=l.length->zq (l++[it]) (vs++[v])=zq l vs++xI it v
 | [],[],it,v,_=>by simp[zq]
 | [],_::_,_,_,h=>by simp at h
 | a::l,[],it,v,h=>by simp at h
 | a::l,u::vs,it,v,h=>by
  have:=xH l vs it v (by simpa using h)
  simp only[jny,zq,this,jnx]
theorem xb:∀(l:List It) (vs:List Value) (i:Nat) (it:It) (v:Value),l[i]?=some it->vs[i]?=some v->(zq l vs)[i*3]?=some (.int .i64 it.kind)/\(zq l vs)[i*3+1]?=some (.string (B it.raw))/\(zq l vs)[i*3+1+1]?=some v
 | [],_,i,it,v,h,_=>by simp at h
 | a::l,[],i,it,v,_,h=>by simp at h
 | a::l,u::vs,0,it,v,h,h'=>by simp at h h';subst h h';exact⟨rfl,rfl,rfl⟩
 | a::l,u::vs,i+1,it,v,h,h'=>by
  obtain⟨x,y,z⟩:=xb l vs i it v (by simpa using h) (by simpa using h')
  have e:zq (a::l) (u::vs)=.int .i64 a.kind :: .string (B a.raw)::u::zq l vs:=rfl
  have k:(i+1)*3=i*3+1+1+1:=by omega
  have k1:i*3+1+1+1+1=(i*3+1)+1+1+1:=by omega
  have k2:i*3+1+1+1+1+1=(i*3+1+1)+1+1+1:=by omega
  rw[e,k]
  refine⟨?_,?_,?_⟩
  ·rw[jnj,jnj,jnj];exact x
  ·rw[k1,jnj,jnj,jnj];exact y
  rw[k2,jnj,jnj,jnj];exact z
theorem jbn(l:List Fld)(f:Fld):jM (l++[f])=jM l++[.string (B f.1),.string (B f.2)]:=by unfold jM;simp
def qQ(l:List (List UInt8)):List Value:=l.map fun x=>.string (B x)
structure jF(w:World)(T:Nat->Nat)(R b:Nat)(text:ByteArray)(p:PS)(V:PV):Prop where
 cells:ja w b 168 (yn p text V.v1 V.v3 V.v6)
 tp:T b=1
 r1:w.ownsRow 0 9 1 V.v1 p.said.length (qQ p.said)
 t1:jH T V.v1.ownBlock 2
 r3:w.ownsRow 0 236 3 V.v3 p.items.length (zq p.items V.fvs)
 t3:jH T V.v3.ownBlock 3
 r6:w.ownsRow 0 155 2 V.v6 p.fields.length (jM p.fields)
 t6:jH T V.v6.ownBlock 4
 nf:V.fvs.length=p.items.length
 rf:∀(i:Nat) (it:It) (v:Value),p.items[i]?=some it->V.fvs[i]?=some v->w.ownsRow 0 155 2 v it.fields.length (jM it.fields)/\jH T v.ownBlock 5
 low:∀k,T k≠0->R<=k/\k<w.heap.size
def jG(w:World)(T:Nat->Nat)(R b:Nat)(text:ByteArray)(p:PS):Prop:=∃V,jF w T R b text p V
structure zQ(w:World)(T:Nat->Nat)(w':World)(T':Nat->Nat):Prop where
 only:jv (fun r=>T r≠0) w w'
 old:∀r,r<w.heap.size->(T' r=0↔T r=0)
theorem zQ.refl(w:World)(T:Nat->Nat):zQ w T w T:=⟨jv.refl _ _,fun _ _=>Iff.rfl⟩
theorem zQ.trans{w w1 w2:World}{T T1 T2:Nat->Nat}(h:zQ w T w1 T1)(g:zQ w1 T1 w2 T2):zQ w T w2 T2 :=
 ⟨h.only.trans g.only (fun r hr hn=>fun e=>hn ((h.old r hr).2 e)),fun r hr=>(g.old r (jnw hr h.only.size)).trans (h.old r hr)⟩
theorem zQ.below{w w':World}{T:Nat->Nat}(h:Below w.heap.size w w'):zQ w T w' T:=⟨jv.of_below h (jnd _),fun _ _=>Iff.rfl⟩
theorem zQ.drewN{w w':World}{T T':Nat->Nat}(h:zQ w T w' T')(n:Nat):zQ w T (w'.drewN n) T':=⟨h.only.drewN n,h.old⟩
theorem jF.same{w w':World}{T:Nat->Nat}{R b:Nat}{text:ByteArray}{p:PS}{V:PV}(h:jF w T R b text p V)(hs:∀k,T k≠0->w'.heap[k]?=w.heap[k]?)(hz:w.heap.size<=w'.heap.size):jF w' T R b text p V:=by
 have s:∀{o:Option Nat} {t:Nat},jH T o t->t≠0->∀k,o=some k->w'.heap[k]?=w.heap[k]?:=fun ht hne k hk=>hs k (by rw[ht k hk];exact hne)
 exact⟨(hs b (by rw[h.tp];decide)).trans h.cells,h.tp,jq h.r1 (s h.t1 (by decide)),h.t1,jq h.r3 (s h.t3 (by decide)),h.t3,jq h.r6 (s h.t6 (by decide)),h.t6,h.nf,
  fun i it v h1 h2=>⟨jq (h.rf i it v h1 h2).1 (s (h.rf i it v h1 h2).2 (by decide)),(h.rf i it v h1 h2).2⟩,fun k hk=>⟨(h.low k hk).1,jnw (h.low k hk).2 hz⟩⟩
theorem jF.below{w w':World}{T:Nat->Nat}{R b:Nat}{text:ByteArray}{p:PS}{V:PV}(h:jF w T R b text p V)(hb:Below w.heap.size w w'):jF w' T R b text p V :=
 h.same (fun k hk=>hb.block k (h.low k hk).2) hb.size
theorem jG.below{w w':World}{T:Nat->Nat}{R b:Nat}{text:ByteArray}{p:PS}(h:jG w T R b text p)(hb:Below w.heap.size w w'):jG w' T R b text p:=by
 obtain⟨V,h⟩:=h;exact⟨V,h.below hb⟩
theorem jF.lt{w:World}{T:Nat->Nat}{R b:Nat}{text:ByteArray}{p:PS}{V:PV}(h:jF w T R b text p V):b<w.heap.size:=h.cells.lt
theorem jF.new(w:World)(text:ByteArray)(R:Nat)(hR:R<=w.heap.size):jF (w.alloc (.cells #[.int .i64 0,.slice none 0 0,.string text,.slice none 0 0,.int .i64 0,.int .i64 0,.slice none 0 0] 168)) (fun k=>if k=w.heap.size then 1 else 0) R w.heap.size text PS.new ⟨.slice none 0 0,.slice none 0 0,.slice none 0 0,[]⟩:=by
 have tn:∀t,jH (fun k=>if k=w.heap.size then 1 else 0) (Value.slice none 0 0).ownBlock t:=fun t k h=>by cases h
 have rn:∀e size,(w.alloc (.cells #[.int .i64 0,.slice none 0 0,.string text,.slice none 0 0,.int .i64 0,.int .i64 0,.slice none 0 0] 168)).ownsRow 0 e size (.slice none 0 0) 0 []:=fun e size=>⟨by simp,.inl ⟨rfl,rfl⟩⟩
 refine⟨ja.new _ _ _,if_pos rfl,rn _ _,tn 2,rn _ _,tn 3,rn _ _,tn 4,rfl,(fun i it v h _=>by cases h),fun k hk => ?_⟩
 have:k=w.heap.size:=by
  rcases Nat.decEq k w.heap.size with h|h
  ·rw[if_neg h]at hk;exact absurd rfl hk
  exact h
 subst this
 exact⟨hR,by simp⟩
theorem jg{w:World}{base:Nat}{e:TypeId}{size:Nat}{v:Value}{n:Nat}{xs:List Value}(h:w.ownsRow base e size v n xs):∃a cap,v=.slice a n cap/\n<=cap:=by
 rcases h.2 with ⟨rfl,rfl⟩|⟨g,cap,cur,rfl,_,_,hle,_⟩
 ·exact⟨none,0,rfl,jnd _⟩
 exact⟨_,cap,rfl,hle⟩
theorem yD{w:World}{T:Nat->Nat}{R b:Nat}{text:ByteArray}{p:PS}{V:PV}(h:jF w T R b text p V):
  Calls Tryz.prog 142 #[.pointer (some ⟨b,0,none⟩)] w fun e w'=>e=.returned (.bool (!p.said.isEmpty))/\w=w':=by
 obtain⟨a,cap,e1,hc⟩:=jg h.r1
 have c1:w.cell? ⟨b,1,none⟩=some (.slice a p.said.length cap):=by rw[<- e1];exact h.cells.cell 1
 have hb:(!p.said.isEmpty)=decide (0<p.said.length):=by cases p.said<;>simp
 rw[hb]
 clear h
 go_enter Tryz.func142,Tryz.ntmps142
 go_wp2
 go_ret
 exact⟨rfl,rfl⟩
theorem jie{w:World}{T:Nat->Nat}{R b:Nat}{text:ByteArray}{p:PS}{V:PV}(h:jF w T R b text p V):
  Calls Tryz.prog 147 #[.pointer (some ⟨b,0,none⟩)] w fun e w'=>e=.returned (.bool (Zt p))/\w=w':=by
 obtain⟨a,cap,e1,hc⟩:=jg h.r6
 have c1:w.cell? ⟨b,6,none⟩=some (.slice a p.fields.length cap):=by rw[<- e1];exact h.cells.cell 6
 have c2:w.cell? ⟨b,4,none⟩=some (.int .i64 p.stanzas):=h.cells.cell 4
 have hl:=h.lt
 unfold Zt
 clear h
 by_cases h0:p.fields.length=0
 ·rw[if_pos h0]
  rw[h0]at c1
  have e2:(p.stanzas==400)=((p.stanzas:Int)==400):=by rw[jod];simp;omega
  rw[e2]
  go_enter Tryz.func147,Tryz.ntmps147
  go_wp2
  go_ret
  exact⟨rfl,rfl⟩
 rw[if_neg h0]
 have e2:(p.fields.length==40)=((p.fields.length:Int)==40):=by rw[jod];simp;omega
 have e3:((p.fields.length:Int)==0)=false:=beq_eq_false_iff_ne.2 (by omega)
 rw[e2]
 go_enter Tryz.func147,Tryz.ntmps147
 go_wp2
 go_ret
 exact⟨rfl,rfl⟩
theorem Xp(l:List (List UInt8))(x:List UInt8):qQ (l++[x])=qQ l++[.string (B x)]:=by unfold qQ;simp
theorem jhX:(Tryz.prog.info? 9).map (fun i=>(i.zero,i.size,i.bytes))=some (some (.string ⟨#[]⟩),1,16):=by kernel_rfl
theorem ZQ{w w':World}{T:Nat->Nat}{R:Nat}{a o:Option Nat}{t:Nat}(low:∀k,T k≠0->R<=k/\k<w.heap.size)(hs:w.heap.size<=w'.heap.size)(hR:R<=w.heap.size)(h:vv w.heap.size w'.heap.size a o)(ha:jH T a t)(ht:t≠0):
  ∀k,vD T w.heap.size o t k≠0->R<=k/\k<w'.heap.size:=by
 intro k hk
 unfold vD at hk
 split at hk
 ·rename_i hn
  rcases h with h|⟨j,h,_,h2⟩
  ·have:=low k (by rw[ha k (by rw[<- h];exact hn.2)];exact ht);omega
  have:=hn.2;rw[h]at this;cases this;omega
 have:=low k hk;omega
theorem jF.said{w w':World}{T:Nat->Nat}{R b:Nat}{text:ByteArray}{p p':PS}{V:PV}(h:jF w T R b text p V)(hR:R<=w.heap.size)(v1':Value)
  (hc:ja w' b 168 (yn p' text v1' V.v3 V.v6)) (hr:w'.ownsRow 0 9 1 v1' p'.said.length (qQ p'.said)) (hk:vv w.heap.size w'.heap.size V.v1.ownBlock v1'.ownBlock)
  (ho:jv (fun r=>r=b\/some r=V.v1.ownBlock) w w') (e1:p'.items=p.items) (e2:p'.fields=p.fields) :
  ∃T',jF w' T' R b text p' {V with v1:=v1'}/\zQ w T w' T':=by
 have hs:∀k,T k≠0->T k≠1->T k≠2->w'.heap[k]?=w.heap[k]?:=fun k h0 h1 h2=>ho.same k (h.low k h0).2 (by
  rintro(e|e)
  ·exact h1 (by rw[e];exact h.tp)
  exact h2 (h.t1 k e.symm))
 have s:∀{o:Option Nat} {t:Nat},jH T o t->3<=t->∀k,o=some k->w'.heap[k]?=w.heap[k]?:=fun ht hne k hk=>hs k (by rw[ht k hk];omega) (by rw[ht k hk];omega) (by rw[ht k hk];omega)
 have lo:∀{o:Option Nat} {t:Nat},jH T o t->t≠0->∀k,o=some k->k<w.heap.size:=fun ht hne k hk=>(h.low k (by rw[ht k hk];exact hne)).2
 refine⟨vD T w.heap.size v1'.ownBlock 2,⟨hc,by rw[zj h.lt];exact h.tp,hr,qf hk h.t1,?_,jl h.t3 (lo h.t3 (by decide)),?_,jl h.t6 (lo h.t6 (by decide)),by rw[e1];exact h.nf,fun i it v h1 h2 => ?_,ZQ h.low ho.size hR hk h.t1 (by decide)⟩,
  ⟨ho.mono fun r hr' e => ?_,fun r hr'=>by rw[zj hr']⟩⟩
 ·rw[e1];exact jq h.r3 (s h.t3 (by decide))
 ·rw[e2];exact jq h.r6 (s h.t6 (by decide))
 ·obtain⟨a,c⟩:=h.rf i it v (by rw[<- e1];exact h1) h2
  exact⟨jq a (s c (by decide)),jl c (lo c (by decide))⟩
 rcases e with e|e
 ·rw[e,h.tp];decide
 rw[h.t1 r e.symm];decide
def Ux(p:PS)(x:Ln):PS:={p with begin_:=x.no,said:=[x.text]}
theorem jeE{w:World}{T:Nat->Nat}{R b:Nat}{text:ByteArray}{p:PS}{V:PV}(h:jF w T R b text p V)(hR:R<=w.heap.size)(x:Ln):
  Calls Tryz.prog 144 #[.pointer (some ⟨b,0,none⟩),.agg #[.int .i64 x.no,.int .i64 x.at_,.string (B x.text),.bool x.ended]] w fun e w'=>e=.returned (.tuple #[])/\∃T',jG w' T' R b text (Ux p x)/\zQ w T w' T':=by
 have hl:=h.lt
 have hcell:=h.cells
 have k0:w.cell? ⟨b,0,none⟩=some (.int .i64 p.begin_):=hcell.cell 0
 have k1:w.cell? ⟨b,1,none⟩=some V.v1:=hcell.cell 1
 have kf0:=hcell.frozen 0
 have kf1:=hcell.frozen 1
 have HF:=jnc (fun w' v1' hc hr hk ho=>jF.said (p':=Ux p x) h hR (w':=w') v1' hc hr hk ho rfl rfl)
 have HC:=jnc hcell
 clear h hcell
 go_enter Tryz.func144,Tryz.ntmps144
 go_wp2
 go_region
 all_goals
  go_wp2
  go_end0
  refine⟨rfl,?_⟩
  refine Exists.elim (HF.out _ (.slice (some ⟨w.heap.size+1,0,none⟩) 1 1) ?c ?r ?k ?o) fun T' g=>⟨T',⟨_,g.1⟩,g.2⟩
  case c =>
   have hc:=((((HC.out.set 0 (.int .i64 x.no)).set 1 (.slice (some ⟨w.heap.size+1,0,none⟩) 1 1)).alloc (.cells #[.int .i64 x.no,.int .i64 x.at_,.string (B x.text),.bool x.ended] 164)).alloc (.cells #[.string (B x.text)] 9)).drew
   simpa [yn,Ux]using hc
  case r =>
   have hz:(((w.setCell ⟨b,0,none⟩ (.int .i64 x.no)).setCell ⟨b,1,none⟩ (.slice (some ⟨w.heap.size+1,0,none⟩) 1 1)).alloc (.cells #[.int .i64 x.no,.int .i64 x.at_,.string (B x.text),.bool x.ended] 164)).heap.size=w.heap.size+1:=by simp[World.setCell]
   have:=World.ownsRow_lit (base:=0) (((w.setCell ⟨b,0,none⟩ (.int .i64 x.no)).setCell ⟨b,1,none⟩ (.slice (some ⟨w.heap.size+1,0,none⟩) 1 1)).alloc (.cells #[.int .i64 x.no,.int .i64 x.at_,.string (B x.text),.bool x.ended] 164)) (e:=9) (size:=1) #[.string (B x.text)] 1 (jnt _) (by decide) rfl
   rw[hz]at this
   exact jq this fun _ _=>rfl
  case k=>exact .inr ⟨w.heap.size+1,rfl,by omega,by simp[World.setCell,World.drew]⟩
  case o=>exact((((jv.refl _ w).setCell (p:=⟨b,0,none⟩) (.inl (.inl rfl)) _).setCell (p:=⟨b,1,none⟩) (.inl (.inl rfl)) _).alloc _).alloc _ |>.drew
theorem JD{w:World}{T:Nat->Nat}{b:Nat}{v:Value}{t:Nat}(hb:T b=1)(ht:jH T v.ownBlock t)(h:t≠1):v.ownBlock≠some b:=fun e=>h (by rw[<- ht b e,hb])
def Jn(p:PS)(x:Ln):PS:={p with said:=p.said++[x.text]}
theorem jib{w:World}{T:Nat->Nat}{R b:Nat}{text:ByteArray}{p:PS}{V:PV}(h:jF w T R b text p V)(hR:R<=w.heap.size)(x:Ln)(hn:p.said.length<=1000000):
  Calls Tryz.prog 143 #[.pointer (some ⟨b,0,none⟩),.agg #[.int .i64 x.no,.int .i64 x.at_,.string (B x.text),.bool x.ended]] w fun e w'=>e=.returned (.tuple #[])/\∃T',jG w' T' R b text (Jn p x)/\zQ w T w' T':=by
 obtain⟨i0,hi,hz0,hz1,hz2⟩:=info_parts jhX
 have hl:=h.lt
 have k1:w.cell? ⟨b,1,none⟩=some V.v1:=h.cells.cell 1
 have HF:=jnc (fun w' v1' hc hr hk ho=>jF.said (p':=Jn p x) h hR (w':=w') v1' hc hr hk ho rfl rfl)
 have HC:=jnc h.cells
 have HO:=jnc h.r1
 have HE:=jnc (JD (w:=w) h.tp h.t1 (by decide))
 clear h
 go_enter Tryz.func143,Tryz.ntmps143
 go_wp2
 go_region_law ((refine jP rfl (.tmp 8) (.tmp 11) 56 rfl 9 i0 _ 1 16 Tryz.underlying56 hi hz0 hz1 hz2 rfl (by decide) V.v1 p.said.length (qQ p.said) (by simp[Act.eval]) (by exact((HO.out.alloc _).alloc _).drew) ⟨w.heap.size+1,0,none⟩ 1 1 [.string (B x.text)] (by simp[Act.eval]) rfl (by have:=jS (w.alloc (.cells #[.int .i64 x.no,.int .i64 x.at_,.string (B x.text),.bool x.ended] 164)) 9 [.string (B x.text)];rw[jnB]at this;exact this) (by intro u hu;simp at hu;subst hu;rfl) (by unfold maxLen;omega) (by omega) ?_);intro v' w' ho hgr hbk;obtain⟨⟨g',cap',rfl⟩,hg',hbx,hk,hon⟩:=qu HC.out HO.out HE.out ((((jne _ w).alloc (jnd _) _).alloc (by simp) _).drew) ho hgr hbk;have k1':w'.cell? ⟨b,1,none⟩=some V.v1:=hg'.cell 1;have kf1':=hg'.frozen 1)
 all_goals
  go_wp2
  go_end0
  have hvg:(Value.slice (some ⟨g',0,none⟩) (p.said.length+1) cap').ownBlock≠some b:=by
   intro e
   rcases hk with h|⟨k,h,h2,_⟩
   ·exact HE.out (h.symm.trans e)
   rw[h]at e;cases e;omega
  refine⟨rfl,Exists.elim (HF.out _ (.slice (some ⟨g',0,none⟩) (p.said.length+1) cap') ?k1 ?k2 ?k3 ?k4) fun T' g=>⟨T',⟨_,g.1⟩,g.2⟩⟩
  case k1 =>
   have hc:=hg'.set 1 (.slice (some ⟨g',0,none⟩) (p.said.length+1) cap')
   simpa [yn,Jn]using hc
  case k2 =>
   have hr:=jK (p:=⟨b,1,none⟩) ho hvg (.slice (some ⟨g',0,none⟩) (p.said.length+1) cap')
   have e1:(Jn p x).said.length=p.said.length+1:=by simp[Jn]
   have e2:qQ (Jn p x).said=qQ p.said++[.string (B x.text)]:=Xp _ _
   rw[e1,e2]
   exact hr
  case k3=>unfold vv;simpa [World.setCell]using hk
  case k4=>exact(hon.mono (fun r _ h=>.inr h)).setCell (p:=⟨b,1,none⟩) (.inl (.inl rfl)) _
theorem jhY:(Tryz.prog.info? 236).map (fun i=>(i.zero,i.size,i.bytes))=some (some (.agg #[.int .i64 0,.string ⟨#[]⟩,.slice none 0 0]),3,48):=by kernel_rfl
theorem jiI(text:ByteArray)(a e:Nat):text.extract a e=B ((text.data.toList.take e).drop a):=by
 have h:=joX text a e
 have h2:(text.data.toList.take e).drop a=(text.data.toList.drop a).take (e-a):=by rw[List.drop_take]
 rw[h2,<- h,jjr]
def Vb(T:Nat->Nat)(a c:Nat):Nat->Nat:=fun k=>if T k=a then c else T k
theorem yY{T:Nat->Nat}{a c:Nat}{o:Option Nat}{t:Nat}(h:jH T o t)(ht:t≠a):jH (Vb T a c) o t:=by
 intro k hk;unfold Vb;rw[if_neg (by rw[h k hk];exact ht)];exact h k hk
theorem jhM{T:Nat->Nat}{a c:Nat}{o:Option Nat}(h:jH T o a):jH (Vb T a c) o c:=by
 intro k hk;unfold Vb;rw[if_pos (h k hk)]
theorem Ka{T:Nat->Nat}{a c:Nat}(ha:a≠0)(hc:c≠0)(k:Nat):Vb T a c k=0↔T k=0:=by
 unfold Vb
 split
 ·rename_i h;rw[h];exact⟨fun e=>absurd e hc,fun e=>absurd e ha⟩
 exact Iff.rfl
theorem jF.item{w w':World}{T:Nat->Nat}{R b:Nat}{text:ByteArray}{p p':PS}{V:PV}(h:jF w T R b text p V)(hR:R<=w.heap.size)(v3':Value)(it:It)
  (hc:ja w' b 168 (yn p' text V.v1 v3' (.slice none 0 0))) (hr:w'.ownsRow 0 236 3 v3' (p.items.length+1) (zq p.items V.fvs++xI it V.v6)) (hk:vv w.heap.size w'.heap.size V.v3.ownBlock v3'.ownBlock)
  (ho:jv (fun r=>r=b\/some r=V.v3.ownBlock) w w') (e1:p'.items=p.items++[it]) (e2:p'.fields=[]) (e3:p'.said=p.said) (e4:it.fields=p.fields) :
  ∃T',jF w' T' R b text p' {V with v3:=v3',v6:=.slice none 0 0,fvs:=V.fvs++[V.v6]}/\zQ w T w' T':=by
 have hs:∀k,T k≠0->T k≠1->T k≠3->w'.heap[k]?=w.heap[k]?:=fun k h0 h1 h2=>ho.same k (h.low k h0).2 (by
  rintro(e|e)
  ·exact h1 (by rw[e];exact h.tp)
  exact h2 (h.t3 k e.symm))
 have s:∀{o:Option Nat} {t:Nat},jH T o t->t≠0->t≠1->t≠3->∀k,o=some k->w'.heap[k]?=w.heap[k]?:=fun ht h0 h1 h3 k hk=>hs k (by rw[ht k hk];exact h0) (by rw[ht k hk];exact h1) (by rw[ht k hk];exact h3)
 have lo:∀{o:Option Nat} {t:Nat},jH T o t->t≠0->∀k,o=some k->k<w.heap.size:=fun ht hne k hk=>(h.low k (by rw[ht k hk];exact hne)).2
 have lowM:∀k,Vb T 4 5 k≠0->R<=k/\k<w.heap.size:=fun k hk=>h.low k (fun e=>hk ((Ka (by decide) (by decide) k).2 e))
 refine⟨vD (Vb T 4 5) w.heap.size v3'.ownBlock 3,⟨hc,?_,?_,?_,?_,?_,?_,?_,?_,?_,?_⟩,⟨ho.mono fun r hr' e => ?_,fun r hr'=>by rw[zj hr'];exact Ka (by decide) (by decide) r⟩⟩
 ·rw[zj h.lt];unfold Vb;rw[h.tp];rfl
 ·rw[e3];exact jq h.r1 (s h.t1 (by decide) (by decide) (by decide))
 ·exact jl (yY h.t1 (by decide)) (lo h.t1 (by decide))
 ·rw[e1,jnf,xH _ _ _ _ h.nf];exact hr
 ·exact qf hk (yY h.t3 (by decide))
 ·rw[e2];exact⟨by simp[jM],.inl ⟨rfl,rfl⟩⟩
 ·exact fun k hk=>by cases hk
 ·rw[e1,jnf,jnf,h.nf];rfl
 ·intro i it' v h1 h2
  rw[e1]at h1
  dsimp only at h2
  rcases jnK i p.items.length with q|q
  ·rw[jnJ q]at h1
   rw[jnJ (by rw[h.nf];exact q)]at h2
   obtain⟨a,c⟩:=h.rf i it' v h1 h2
   exact⟨jq a (s c (by decide) (by decide) (by decide)),jl (yY c (by decide)) (lo c (by decide))⟩
  rw[jnz q]at h1
  rw[jnz (by rw[h.nf];exact q),h.nf]at h2
  have hz:i-p.items.length=0:=by
   rcases Nat.eq_zero_or_pos (i-p.items.length) with z|z
   ·exact z
   rw[jnY (by simp;omega)]at h1;cases h1
  rw[hz]at h1 h2
  cases h1;cases h2
  rw[e4]
  exact⟨jq h.r6 (s h.t6 (by decide) (by decide) (by decide)),jl (jhM h.t6) (lo h.t6 (by decide))⟩
 ·exact ZQ lowM ho.size hR hk (yY h.t3 (by decide)) (by decide)
 rcases e with e|e
 ·rw[e,h.tp];decide
 rw[h.t3 r e.symm];decide
theorem JO{w:World}{T:Nat->Nat}{R b:Nat}{text:ByteArray}{p:PS}{V:PV}(h:jF w T R b text p V)(hR:R<=w.heap.size)(kind e:Nat)(h1:p.at_<=e)(h2:e<=text.size)(h3:text.size<=1000000)(hn:p.items.length<=1000000):
  Calls Tryz.prog 145 #[.pointer (some ⟨b,0,none⟩),.int .i64 kind,.int .i64 e] w fun e' w'=>e'=.returned (.tuple #[])/\∃T',jG w' T' R b text (zt text.data.toList p kind e)/\zQ w T w' T':=by
 obtain⟨i0,hi,hz0,hz1,hz2⟩:=info_parts jhY
 obtain⟨a6,c6,e6,_⟩:=jg h.r6
 have hl:=h.lt
 have HF:=jnc (fun w' v3' hc hr hk ho=>jF.item (p':=zt text.data.toList p kind e) h hR (w':=w') v3' ⟨kind,(text.data.toList.take e).drop p.at_,p.fields⟩ hc hr hk ho rfl rfl rfl rfl)
 have HC:=jnc h.cells
 have HO:=jnc h.r3
 have HE:=jnc (JD (w:=w) h.tp h.t3 (by decide))
 have HT:=jnc (jiI text p.at_ e)
 have q3:w.cell? ⟨b,3,none⟩=some V.v3:=h.cells.cell 3
 have q2:w.cell? ⟨b,2,none⟩=some (.string text):=h.cells.cell 2
 have q5:w.cell? ⟨b,5,none⟩=some (.int .i64 p.at_):=h.cells.cell 5
 have q6:w.cell? ⟨b,6,none⟩=some (.slice a6 p.fields.length c6):=by rw[<- e6];exact h.cells.cell 6
 clear h
 go_enter Tryz.func145,Tryz.ntmps145
 go_wp2
 go_cut [] (fun wx=>∃g' cap',ja wx b 168 (yn p text V.v1 (.slice (some ⟨g',0,none⟩) (p.items.length+1) cap') V.v6) /\
  wx.ownsRow 0 236 3 (.slice (some ⟨g',0,none⟩) (p.items.length+1) cap') (p.items.length+1) (zq p.items V.fvs++[.int .i64 kind,.string (text.extract p.at_ e),.slice a6 p.fields.length c6]) /\
  vv w.heap.size wx.heap.size V.v3.ownBlock (Value.slice (some ⟨g',0,none⟩) (p.items.length+1) cap').ownBlock/\g'≠b/\jv (fun r=>r=b\/some r=V.v3.ownBlock) w wx)
 case first =>
  go_region_law ((refine jP rfl (.tmp 10) (.tmp 27) 126 rfl 236 i0 _ 3 48 Tryz.underlying126 hi hz0 hz1 hz2 rfl (by decide) V.v3 p.items.length (zq p.items V.fvs) (by simp[Act.eval]) (by exact(HO.out.alloc _).drew) ⟨w.heap.size,0,none⟩ 1 1 [.int .i64 kind,.string (text.extract p.at_ e),.slice a6 p.fields.length c6] (by simp[Act.eval]) rfl (jS w 236 [.int .i64 kind,.string (text.extract p.at_ e),.slice a6 p.fields.length c6]) (by intro u hu;simp at hu;rcases hu with rfl | rfl | rfl<;>rfl) (by unfold maxLen;omega) (by omega) ?_);intro v' w' ho hgr hbk;obtain⟨⟨g',cap',rfl⟩,hg',hbx,hk,hon⟩:=qu HC.out HO.out HE.out (((jne _ w).alloc (jnd _) _).drew) ho hgr hbk;have k3':w'.cell? ⟨b,3,none⟩=some V.v3:=hg'.cell 3;have kf3':=hg'.frozen 3)
  all_goals
   go_wp2
   go_meet
   have hvg:g'≠b:=by
    intro e
    rcases hk with h|⟨k,h,h2,_⟩
    ·exact HE.out (h.symm.trans (by rw[e];rfl))
    have hh:g'=k:=jng (show some g'=some k from h)
    omega
   refine⟨g',cap',?_,jK (p:=⟨b,3,none⟩) ho (fun e=>hvg (by cases e;rfl)) _,?_,hvg,(hon.mono (fun r _ h=>.inr h)).setCell (p:=⟨b,3,none⟩) (.inl (.inl rfl)) _⟩
   ·simpa [yn]using hg'.set 3 (.slice (some ⟨g',0,none⟩) (p.items.length+1) cap')
   unfold vv;simpa [World.setCell]using hk
 case rest =>
 obtain⟨g',cap',hc,hr,hk,hvg,ho⟩:=hcut
 have k5:wc.cell? ⟨b,5,none⟩=some (.int .i64 p.at_):=hc.cell 5
 have kf5:=hc.frozen 5
 have k6:wc.cell? ⟨b,6,none⟩=some (.slice a6 p.fields.length c6):=by rw[<- e6];exact hc.cell 6
 have kf6:=hc.frozen 6
 go_wp2
 go_end0
 refine⟨rfl,Exists.elim (HF.out _ (.slice (some ⟨g',0,none⟩) (p.items.length+1) cap') ?k1 ?k2 ?k3 ?k4) fun T' g=>⟨T',⟨_,g.1⟩,g.2⟩⟩
 case k1 =>
  have:=(hc.set 5 (.int .i64 e)).set 6 (.slice none 0 0)
  simpa [yn,zt]using this
 case k2 =>
  have e9:xI ⟨kind,(text.data.toList.take e).drop p.at_,p.fields⟩ V.v6=[.int .i64 kind,.string (text.extract p.at_ e),.slice a6 p.fields.length c6]:=by
   unfold xI;rw[HT.out,e6]
  rw[e9]
  exact jK (p:=⟨b,6,none⟩) (jK (p:=⟨b,5,none⟩) hr (fun e=>hvg (by cases e;rfl)) _) (fun e=>hvg (by cases e;rfl)) _
 case k3=>unfold vv at hk ⊢;simpa [World.setCell]using hk
 case k4=>exact(ho.setCell (p:=⟨b,5,none⟩) (.inl (.inl rfl)) _).setCell (p:=⟨b,6,none⟩) (.inl (.inl rfl)) _
theorem QU{w:World}{T:Nat->Nat}{R b:Nat}{text:ByteArray}{p:PS}(h:jG w T R b text p)(hR:R<=w.heap.size)(e:Nat)(h1:p.at_<=e)(h2:e<=text.size)(h3:text.size<=1000000)(hn:p.items.length<=1000000)(hs:p.stanzas<=1000000):
  Calls Tryz.prog 103 #[.pointer (some ⟨b,0,none⟩),.int .i64 e] w fun e' w'=>e'=.returned (.tuple #[])/\∃T',jG w' T' R b text (jy text.data.toList p e)/\zQ w T w' T':=by
 obtain⟨V,h⟩:=h
 obtain⟨a6,c6,e6,_⟩:=jg h.r6
 have q5:w.cell? ⟨b,5,none⟩=some (.int .i64 p.at_):=h.cells.cell 5
 have q6:w.cell? ⟨b,6,none⟩=some (.slice a6 p.fields.length c6):=by rw[<- e6];exact h.cells.cell 6
 unfold jy
 by_cases he:p.at_=e
 ·rw[if_pos he]
  have g:jG w T R b text p:=⟨V,h⟩
  have x1:((p.at_:Int)==(e:Int))=true:=by rw[he];simp
  clear h
  go_enter Tryz.func103,Tryz.ntmps103
  go_wp2
  refine bodyPost_ret (results_none rfl _ _ _) rfl ?_
  exact⟨rfl,T,g,zQ.refl _ _⟩
 rw[if_neg he]
 have x1:((p.at_:Int)==(e:Int))=false:=beq_eq_false_iff_ne.2 (by omega)
 by_cases hf:p.fields.length=0
 ·rw[if_pos hf]
  have x2:((p.fields.length:Int)==0)=true:=by rw[hf];rfl
  have EI:=jnc (JO h hR 2 e h1 h2 h3 hn)
  clear h
  go_enter Tryz.func103,Tryz.ntmps103
  go_wp2_with fail
  refine EI.out.mono ?_
  rintro e' w1 ⟨rfl,T1,g1,s1⟩
  go_wp2
  go_end0
  exact⟨rfl,T1,g1,s1⟩
 rw[if_neg hf]
 have x2:((p.fields.length:Int)==0)=false:=beq_eq_false_iff_ne.2 (by omega)
 have EI:=jnc (JO h hR 3 e h1 h2 h3 hn)
 clear h
 go_enter Tryz.func103,Tryz.ntmps103
 go_wp2_with fail
 refine EI.out.mono ?_
 rintro e' w1 ⟨rfl,T1,⟨V1,g1⟩,s1⟩
 have k4:w1.cell? ⟨b,4,none⟩=some (.int .i64 p.stanzas):=g1.cells.cell 4
 have kf4:=g1.cells.frozen 4
 have n1:IntKind.i64.wrap ((p.stanzas:Int)+1)=(p.stanzas:Int)+1:=jn1 _ (by omega)
 go_wp2
 go_end0
 refine⟨rfl,T1,⟨V1,?_⟩,s1.trans ⟨((jv.refl _ _).setCell (p:=⟨b,4,none⟩) (.inl (by rw[g1.tp];decide)) _),fun _ _=>Iff.rfl⟩⟩
 have hc:ja (w1.setCell ⟨b,4,none⟩ (.int .i64 ((p.stanzas:Int)+1))) b 168 (yn {zt text.data.toList p 3 e with stanzas:=p.stanzas+1} text V1.v1 V1.v3 V1.v6):=by
  have:=g1.cells.set 4 (.int .i64 ((p.stanzas:Int)+1))
  simpa [yn]using this
 have ne:∀{o:Option Nat} {t:Nat},jH T1 o t->t≠1->o≠some b:=fun ht h1 e=>h1 (by rw[<- ht b e,g1.tp])
 exact⟨hc,g1.tp,jK g1.r1 (ne g1.t1 (by decide)) _,g1.t1,jK g1.r3 (ne g1.t3 (by decide)) _,g1.t3,jK g1.r6 (ne g1.t6 (by decide)) _,g1.t6,g1.nf,
  fun i it v a c=>⟨jK (g1.rf i it v a c).1 (ne (g1.rf i it v a c).2 (by decide)) _,(g1.rf i it v a c).2⟩,fun k hk=>by simpa [World.setCell]using g1.low k hk⟩
theorem qU(l:List UInt8)(c:UInt8):(Lib.indexByte l c = -1/\c∉l)\/(Lib.indexByte l c=((l.takeWhile (· != c)).length:Int)/\c∈l):=by
 induction l with
 | nil=>left;exact⟨rfl,by simp⟩
 | cons a t ih =>
 unfold Lib.indexByte
 by_cases h:a=c
 ·subst h;right;simp
 rcases ih with ⟨h1,h2⟩|⟨h1,h2⟩
 ·left;rw[h1];simp[h,h2,Ne.symm h]
 right;rw[h1];simp[h,h2]
theorem jkY(s:ByteArray)(c:UInt8)(w:World)(h:c∉s.data.toList):
  Calls Tryz.prog 148 #[.string s,.string ⟨#[c]⟩] w fun e w'=>e=.returned (.tuple #[.string s,.string ⟨#[]⟩,.bool false])/\∃n,w'=w.drewN n:=by
 have e0:Lib.indexByte s.data.toList c = -1:=by
  rcases qU s.data.toList c with ⟨a,_⟩|⟨_,a⟩
  ·exact a
  exact absurd a h
 go_enter Tryz.func148,Tryz.ntmps148
 go_wp2_with (go_at_call 193;refine(Tryz.stringslite_Index_one s c _).mono ?_;rw[e0];rintro e w' ⟨rfl,rfl⟩)
 go_ret3
 exact⟨rfl,0,rfl⟩
theorem jiN(s:ByteArray)(c:UInt8)(w:World)(hs:s.size<=maxLen)(h:c∈s.data.toList):
  Calls Tryz.prog 148 #[.string s,.string ⟨#[c]⟩] w fun e w'=>e=.returned (.tuple #[.string (s.extract 0 (s.data.toList.takeWhile (· != c)).length),.string (s.extract ((s.data.toList.takeWhile (· != c)).length+1) s.size),.bool true])/\∃n,w'=w.drewN n:=by
 have e0:Lib.indexByte s.data.toList c=((s.data.toList.takeWhile (· != c)).length:Int):=by
  rcases qU s.data.toList c with ⟨_,a⟩|⟨a,_⟩
  ·exact absurd h a
  exact a
 have hlt:(s.data.toList.takeWhile (· != c)).length<s.size:=by
  rw[jnu]
  rcases jnK (s.data.toList.takeWhile (· != c)).length s.data.toList.length with h1|h1
  ·exact h1
  exfalso
  have h2:s.data.toList.takeWhile (· != c)=s.data.toList:=List.IsPrefix.eq_of_length_le (jou _) h1
  have h3:=List.all_eq_true.1 (jo1 (p:=fun(x:UInt8)=>x != c) (l:=s.data.toList)) c (by rw[h2];exact h)
  simp at h3
 unfold maxLen at hs
 generalize (s.data.toList.takeWhile (· != c)).length=i at *
 have h1:IntKind.i64.wrap ((i:Int)+1)=(i:Int)+1:=jn1 _ (by omega)
 go_enter Tryz.func148,Tryz.ntmps148
 go_wp2_with (go_at_call 193;refine(Tryz.stringslite_Index_one s c _).mono ?_;rw[e0];rintro e w' ⟨rfl,rfl⟩)
 go_quiet (fail)
 go_wp2
 go_ret3
 exact⟨rfl,_,rfl⟩
theorem jcr(s:ByteArray)(c:UInt8)(w:World)(h:c∉s.data.toList):
  Calls Tryz.prog 104 #[.string s,.string ⟨#[c]⟩] w fun e w'=>e=.returned (.tuple #[.string s,.string ⟨#[]⟩,.bool false])/\∃n,w'=w.drewN n:=by
 go_enter Tryz.func104,Tryz.ntmps104
 go_wp2_with (go_at_call 148;refine(jkY s c _ h).mono ?_;rintro e w' ⟨rfl,n,rfl⟩)
 go_ret3
 exact⟨rfl,_,rfl⟩
theorem WR(s:ByteArray)(c:UInt8)(w:World)(hs:s.size<=maxLen)(h:c∈s.data.toList):
  Calls Tryz.prog 104 #[.string s,.string ⟨#[c]⟩] w fun e w'=>e=.returned (.tuple #[.string (s.extract 0 (s.data.toList.takeWhile (· != c)).length),.string (s.extract ((s.data.toList.takeWhile (· != c)).length+1) s.size),.bool true])/\∃n,w'=w.drewN n:=by
 go_enter Tryz.func104,Tryz.ntmps104
 go_wp2_with (go_at_call 148;refine(jiN s c _ hs h).mono ?_;rintro e w' ⟨rfl,n,rfl⟩)
 go_ret3
 exact⟨rfl,_,rfl⟩
def vl(x:Ln):Array Value:=#[.int .i64 x.no,.int .i64 x.at_,.string ⟨x.text.toArray⟩,.bool x.ended]
def Wx(b:Bool):ByteArray:=if b then ⟨#[10]⟩ else ⟨#[]⟩
theorem jbf(a b:Int)(t:ByteArray)(x:Bool)(w:World):
  Calls Tryz.prog 166 #[.agg #[.int .i64 a,.int .i64 b,.string t,.bool x]] w fun e w'=>e=.returned (.string (Wx x))/\w'=w.alloc (.cells #[.int .i64 a,.int .i64 b,.string t,.bool x] 164):=by
 cases x
 all_goals
  go_enter Tryz.func166,Tryz.ntmps166
  go_wp2
  go_ret
  exact⟨rfl,rfl⟩
structure vT(B k:Nat)(W W':World):Prop where
 size:W.heap.size<=W'.heap.size
 same:∀r,B<=r->r<B+k->W'.heap[r]?=W.heap[r]?
theorem vT.refl(B k:Nat)(W:World):vT B k W W:=⟨jnd _,fun _ _ _=>rfl⟩
theorem vT.trans{B k:Nat}{X Y Z:World}(h:vT B k X Y)(g:vT B k Y Z):vT B k X Z :=
 ⟨jns h.size g.size,fun r a b=>(g.same r a b).trans (h.same r a b)⟩
theorem vT.alloc{B k:Nat}{X Y:World}(h:vT B k X Y)(hs:B+k<=Y.heap.size)(o:Obj):vT B k X (Y.alloc o) :=
 h.trans ⟨by simp,fun r _ b=>jov _ _ _ (by omega)⟩
theorem vT.setCell{B k:Nat}{X Y:World}(h:vT B k X Y){p:Addr}(hp:p.block<B\/B+k<=p.block)(u:Value):vT B k X (Y.setCell p u) :=
 h.trans ⟨by simp[World.setCell],fun r a b=>jnE _ _ _ _ (by omega)⟩
theorem vT.grown{B k:Nat}{X Y Z:World}(h:vT B k X Y){row:Option Nat}(hg:Y.grownBy Z row)(hs:B+k<=Y.heap.size)(hr:∀r,row=some r->r<B\/B+k<=r):vT B k X Z :=
 h.trans ⟨hg.size,fun r a b=>hg.block r (by omega) (fun e=>by have:=hr r e.symm;omega)⟩
theorem vT.below{B k n:Nat}{X Y Z:World}(h:vT B k X Y)(hb:Below n Y Z)(hn:B+k<=n):vT B k X Z :=
 h.trans ⟨hb.size,fun r _ b=>hb.block r (by omega)⟩
structure zh(B k:Nat)(W W':World):Prop where
 os:W'.os=W.os
 tape:W'.tape=W.tape
 output:W'.output=W.output
 size:W.heap.size<=W'.heap.size
 same:∀r,r<W.heap.size->r<B\/B+k<=r->W'.heap[r]?=W.heap[r]?
theorem zh.refl(B k:Nat)(W:World):zh B k W W:=⟨rfl,rfl,rfl,jnd _,fun _ _ _=>rfl⟩
theorem zh.trans{B k:Nat}{X Y Z:World}(h:zh B k X Y)(g:zh B k Y Z):zh B k X Z :=
 ⟨g.os.trans h.os,g.tape.trans h.tape,g.output.trans h.output,jns h.size g.size,fun r a b=>(g.same r (jnw a h.size) b).trans (h.same r a b)⟩
theorem zh.grown{B k:Nat}{X Y Z:World}(h:zh B k X Y){row:Option Nat}(hg:Y.grownBy Z row)(hr:∀r,row=some r->B<=r/\r<B+k):zh B k X Z :=
 h.trans ⟨hg.os,hg.tape,hg.output,hg.size,fun r a b=>hg.block r a (fun e=>by have:=hr r e.symm;omega)⟩
theorem zh.alloc{B k:Nat}{X Y:World}(h:zh B k X Y)(o:Obj):zh B k X (Y.alloc o) :=
 h.grown (World.grownBy_alloc Y o none) (fun r e=>by cases e)
theorem zh.putObj{B k:Nat}{X Y:World}(h:zh B k X Y){l:Nat}(o:Obj)(a:B<=l)(b:l<B+k):zh B k X (Y.putObj l o) :=
 h.grown (grownBy_putObj' Y l o) (fun r e=>by cases e;exact⟨a,b⟩)
theorem zh.sub{B k B' k':Nat}{X Y:World}(h:zh B' k' X Y)(a:B<=B')(b:B'+k'<=B+k):zh B k X Y :=
 ⟨h.os,h.tape,h.output,h.size,fun r c d=>h.same r c (by omega)⟩
theorem zh.below{B k n:Nat}{X Y:World}(h:zh B k X Y)(hn:n<=B)(hs:n<=X.heap.size):Below n X Y :=
 ⟨h.os,h.tape,h.output,h.size,fun r a=>h.same r (by omega) (by omega)⟩
theorem zh.box{B k b:Nat}{X Y:World}{t:TypeId}{v:Value}(h:zh B k X Y)(hv:Boxed X b t v)(hb:b<B\/B+k<=b):Boxed Y b t v :=
 (h.same b (Array.getElem?_eq_some_iff.1 (show X.heap[b]?=_ from hv)).1 hb).trans hv
theorem zh.row{B k:Nat}{X Y:World}{base:Nat}{e:TypeId}{size:Nat}{v:Value}{n:Nat}{xs:List Value}(h:zh B k X Y)(hr:X.ownsRow base e size v n xs)
  (hb:∀b,v.ownBlock=some b->b<B\/B+k<=b):Y.ownsRow base e size v n xs:=by
 refine⟨hr.1,?_⟩
 rcases hr.2 with hn|⟨g,cap,cur,rfl,hbase,hg,rest⟩
 ·exact .inl hn
 exact .inr ⟨g,cap,cur,rfl,hbase,(h.same g (Array.getElem?_eq_some_iff.1 hg).1 (hb g rfl)).trans hg,rest⟩
def zN{β:Type}(B k:Nat)(J:β->World->Prop):Prop:=∀s W W',J s W->zh B k W W'->J s W'
theorem zN.alloc{β:Type}{B k:Nat}{J:β->World->Prop}(h:zN B k J){s:β}{W:World}(o:Obj)(hs:J s W):J s (W.alloc o) :=
 h s W _ hs ((zh.refl _ _ _).alloc o)
theorem zN.putObj{β:Type}{B k:Nat}{J:β->World->Prop}(h:zN B k J){s:β}{W:World}{l:Nat}(o:Obj)(hs:J s W)(a:B<=l)(b:l<B+k):J s (W.putObj l o) :=
 h s W _ hs ((zh.refl _ _ _).putObj o a b)
theorem zN.and{β:Type}{B k:Nat}{I J:β->World->Prop}(h:zN B k I)(g:zN B k J):zN B k (fun s W=>I s W/\J s W) :=
 fun s W W' hs ht=>⟨h s W W' hs.1 ht,g s W W' hs.2 ht⟩
theorem zN.pure{β:Type}(B k:Nat)(p:β->Prop):zN B k (fun s (_:World)=>p s):=fun _ _ _ hs _=>hs
theorem zN.below{β:Type}{B k n:Nat}{w:World}(hn:n<=w.heap.size)(hB:n<=B):zN B k (fun(_:β) W=>Below n w W) :=
 fun _ _ _ hs ht=>hs.trans (ht.below hB (jns hn hs.size))
theorem zN.box{β:Type}{B k b:Nat}{t:TypeId}(hb:b<B\/B+k<=b)(f:β->Value):zN B k (fun s W=>Boxed W b t (f s)) :=
 fun _ _ _ hs ht=>ht.box hs hb
def jk8{α:Type}(P:Program)(g:Nat)(lb:Array Value)(encs:α->Array Value)(k:Nat)(xs:List α)(w:World):Prop :=
 ∀(l:Nat) (J Jx:List α->World->Prop) (W:World),Below w.heap.size w W->zN W.heap.size k J ->
  (∀pre x post W1,xs=pre++x::post->W.heap.size+k<=W1.heap.size->J pre W1->YieldAt Fence.wide 7 P l (encs x) W1 fun e W' =>
   (e=.returned (.bool true)/\J (pre++[x]) W'/\vT W.heap.size k W1 W')\/(e=.returned (.bool false)/\Jx (pre++[x]) W')) ->
  J [] W ->
  CallsIn Fence.wide 8 P g (#[.func (.yield l) #[] #[]]++lb) W fun e W'=>(∃v,e=.returned v)/\(J xs W'\/∃pre,pre <+: xs/\Jx pre W')
def left{α:Type}(B k:Nat)(I:List α->World->Prop)(Ix:Code->List α->World->Prop)(xs:List α)(W:World):Exit->Act->World->Prop
 | .normal,_,W'=>vT B k W W'/\I xs W'
 | .ret,_,W'=>vT B k W W'/\Ix .ret xs W'
 | .exit id,_,W'=>vT B k W W'/\Ix (.exit id) xs W'
 | .goto t,_,W'=>vT B k W W'/\Ix (.goto t) xs W'
 | .panic _,_,_=>False
 | .outgrown,_,_=>False
def Vs(B k:Nat)(M:Act->World->Prop)(W:World):Exit->Act->World->Prop :=
 Exit.then (fun a' W'=>vT B k W W'/\M a' W') (fun _ _ _=>False)
variable {P:Program}
def jgP{α:Type}(P:Program)(g:Nat)(lb:Array Value)(encs:α->Array Value)(k:Nat)(xs:List α)(K:World->Prop)(w:World):Prop :=
 ∀(l:Nat) (J Jx:List α->World->Prop) (W:World),Below w.heap.size w W->zN W.heap.size k J->(∀pre W,J pre W->K W) ->
  (∀pre x post W1,xs=pre++x::post->W.heap.size+k<=W1.heap.size->J pre W1->YieldAt Fence.wide 7 P l (encs x) W1 fun e W' =>
   (e=.returned (.bool true)/\J (pre++[x]) W'/\vT W.heap.size k W1 W')\/(e=.returned (.bool false)/\Jx (pre++[x]) W')) ->
  J [] W ->
  CallsIn Fence.wide 8 P g (#[.func (.yield l) #[] #[]]++lb) W fun e W'=>(∃v,e=.returned v)/\(J xs W'\/∃pre,pre <+: xs/\Jx pre W')
theorem Xx{α:Type}{g:Operand}{ps:Array Tmp}{assign body:Code}{Q:Exit->Act->World->Prop}{a:Act}{w:World}
  {gf:Nat} {lb:Array Value} (hg:a.eval g=.func (.func gf) #[] lb) (eg:∀args w,(callFunc gf args).run P w=.ok (.enter gf args) w)
  {encs:α->Array Value} {k:Nat} {xs:List α} {K:World->Prop} (hseq:jgP P gf lb encs k xs K w) (hps:∀x,(encs x).size=ps.size)
  (I:List α->World->Prop) (Ix:Code->List α->World->Prop) (hI:zN w.heap.size (k+2) I) (hIx:∀c,zN w.heap.size 2 (Ix c)) (h0:I [] w) (hK:∀pre W,I pre W->K W)
  (M:List α->α->Act->World->Prop) (hM:∀pre x a',zN w.heap.size 2 (fun(_:Unit) W=>M pre x a' W))
  (hassign:∀(l:Nat) (pre:List α) (x:α) (post:List α) (W:World),xs=pre++x::post->w.heap.size+(k+2)<=W.heap.size->I pre W ->
   assign.wpIn (Fence.wide.inRound l) 7 P (Vs w.heap.size (k+2) (M pre x) W) {tmps:=(ps.zip (encs x)).foldl (fun t (p,v)=>t.setIfInBounds p v) a.tmps,defers:=[]} W)
  (hbody:∀(l:Nat) (pre:List α) (x:α) (post:List α) (a':Act) (W:World),xs=pre++x::post->w.heap.size+(k+2)<=W.heap.size->M pre x a' W ->
   body.wpIn (Fence.wide.inRound l) 7 P (left w.heap.size (k+2) I Ix (pre++[x]) W) a' W)
  (hdone:∀(W:World),I xs W->W.heap[w.heap.size]?=some (.deferred (some []))->Q .normal {a with defers:={target:=.collected w.heap.size,args:=#[]}::a.defers} W)
  (hstop:∀(c:Code) (pre:List α) (W:World),pre <+: xs->Ix c pre W->W.heap[w.heap.size]?=some (.deferred (some []))->c.wpIn Fence.wide 9 P Q {a with defers:={target:=.collected w.heap.size,args:=#[]}::a.defers} W) :
  (Code.rangeFunc g ps assign body).wpIn Fence.wide 9 P Q a w:=by
 refine wpIn_rangeFunc fun fn _ => ?_
 show ∃l mark w₁ d w₁' f args w₂,(Instr.enterLoop fn a.tmps ps assign body none).run P w=.ok (l,mark) w₁/\_
 obtain⟨rec,hrec⟩:∃rec:LoopState->Option Code->Loop,rec=fun st pe=>{state:=st,pending:=pe,fn,tmps:=a.tmps,params:=ps,assign,body,defers:=w.heap.size}:=⟨_,rfl⟩
 obtain⟨W1,hW1⟩:∃W1,(w.alloc (.deferred (some []))).alloc (.loop (rec .ready none))=W1:=⟨_,rfl⟩
 have hz1:W1.heap.size=w.heap.size+2:=by rw[<- hW1];simp
 have hL1:W1.heap[w.heap.size+1]?=some (.loop (rec .ready none)):=by
  rw[<- hW1];have:=jpD (w.alloc (.deferred (some []))) (.loop (rec .ready none));rwa [jnB]at this
 have hK1:W1.heap[w.heap.size]?=some (.deferred (some [])):=by
  rw[<- hW1];exact(jov _ _ _ (by simp)).trans (jpD w _)
 have hI1:I [] W1:=by rw[<- hW1];exact hI.alloc _ (hI.alloc _ h0)
 have hb1:Below w.heap.size w W1:=by rw[<- hW1];exact((jne _ w).alloc (jnd _) _).alloc (by simp) _
 have two:∀{A B:World},zh W1.heap.size k A B->∀q o,q<w.heap.size+2->A.heap[q]?=some o->B.heap[q]?=some o :=
  fun ht q o hq ho=>(ht.same q (Array.getElem?_eq_some_iff.1 ho).1 (by omega)).trans ho
 refine⟨w.heap.size+1,[{target:=.collected w.heap.size,args:=#[]}],W1,{target:=.fn (.func gf) lb,args:=#[.func (.yield (w.heap.size+1)) #[] #[]]},W1,gf,
  #[.func (.yield (w.heap.size+1)) #[] #[]]++lb,W1,?_,?_,fun _ _=>trivial,?_,(fun h=>by cases h),?_⟩
 ·rw[<- hW1,hrec];exact run_enterLoop_outer _ _ _ _ _
 ·simp only[resolve,hg]
  simp[go_sem]
 ·simp[invoke,go_sem,eg]
 refine(hseq (w.heap.size+1)
  (fun pre W=>I pre W/\W.heap[w.heap.size+1]?=some (.loop (rec .ready none))/\W.heap[w.heap.size]?=some (.deferred (some [])))
  (fun pre W=>∃c,Ix c pre W/\W.heap[w.heap.size+1]?=some (.loop (rec .done (some c)))/\W.heap[w.heap.size]?=some (.deferred (some [])))
  W1 hb1
  (fun s A B hs ht=>⟨hI s A B hs.1 (ht.sub (by omega) (by omega)),two ht _ _ (by omega) hs.2.1,two ht _ _ (by omega) hs.2.2⟩)
  (fun s A hs=>hK s A hs.1)
  ?_ ⟨hI1,hL1,hK1⟩).mono ?_
 ·
  rintro pre x post W hx hsz ⟨hi,hl,hk⟩
  rw[hz1]at hsz
  have hy:=run_yield (P:=P) (args:=encs x) hl (by rw[hrec];exact hps x)
  rw[hrec]at hy
  refine⟨fn,_,assign,body,hy,roundIn_of_wpIn trivial (wpIn_mono (hassign _ pre x post W hx (by omega) hi) ?_)⟩
  intro e a' Wa hp
  cases e with
  | normal =>
   obtain⟨hs1,hm⟩:=hp
   have hla:=(hs1.same (w.heap.size+1) (by omega) (by omega)).trans hl
   have hka:=(hs1.same w.heap.size (by omega) (by omega)).trans hk
   have hlt:=(Array.getElem?_eq_some_iff.1 hla).1
   refine⟨_,run_beginRound hla (by rw[hrec]),?_⟩
   have hl2:(Wa.putObj (w.heap.size+1) (.loop {rec .ready none with state:=.busy})).heap[w.heap.size+1]?=some (.loop {rec .ready none with state:=.busy}):=World.putObj_heap_same hlt
   have hk2:(Wa.putObj (w.heap.size+1) (.loop {rec .ready none with state:=.busy})).heap[w.heap.size]?=some (.deferred (some [])):=(jof (by omega)).trans hka
   have hn2:∀r,w.heap.size+2<=r->(Wa.putObj (w.heap.size+1) (.loop {rec .ready none with state:=.busy})).heap[r]?=Wa.heap[r]?:=fun r hr=>jof (by omega)
   have hz2:∀o,(Wa.putObj (w.heap.size+1) o).heap.size=Wa.heap.size:=fun o=>by simp
   have hm2:=(hM pre x a').putObj (s:=()) (.loop {rec .ready none with state:=.busy}) hm (l:=w.heap.size+1) (by omega) (by omega)
   have hsa:=hs1.size
   refine wpIn_mono (hbody _ pre x post a' _ hx (by rw[hz2];omega) hm2) ?_
   have fin:∀(jump:Option Code) (W3:World),vT w.heap.size (k+2) (Wa.putObj (w.heap.size+1) (.loop {rec .ready none with state:=.busy})) W3 ->
     (Instr.endRound (w.heap.size+1) jump).run P W3=.ok (.bool jump.isNone) (W3.putObj (w.heap.size+1) (.loop (rec (if jump.isNone then .ready else .done) jump))) /\
     (W3.putObj (w.heap.size+1) (.loop (rec (if jump.isNone then .ready else .done) jump))).heap[w.heap.size+1]?=some (.loop (rec (if jump.isNone then .ready else .done) jump)) /\
     (W3.putObj (w.heap.size+1) (.loop (rec (if jump.isNone then .ready else .done) jump))).heap[w.heap.size]?=some (.deferred (some [])):=fun jump W3 hs3=>by
    have hl3:=(hs3.same (w.heap.size+1) (by omega) (by omega)).trans hl2
    have hk3:=(hs3.same w.heap.size (by omega) (by omega)).trans hk2
    have:=run_endRound (P:=P) jump hl3
    rw[hrec]at this ⊢
    exact⟨this,World.putObj_heap_same (Array.getElem?_eq_some_iff.1 hl3).1,(jof (by omega)).trans hk3⟩
   intro e a3 W3 hp
   cases e with
   | normal =>
    obtain⟨hs3,hi3⟩:=hp
    obtain⟨hr,hl4,hk4⟩:=fin none W3 hs3
    refine⟨_,_,hr,.inl ⟨rfl,⟨hI.putObj _ hi3 (by omega) (by omega),hl4,hk4⟩,?_⟩⟩
    have hsz3:=hs3.size
    refine⟨by simp only[World.putObj,Array.size_setIfInBounds]at hsz3 ⊢;omega,fun r a b => ?_⟩
    rw[hz1]at a b
    rw[jof (by omega),hs3.same r (by omega) (by omega),hn2 r a,hs1.same r (by omega) (by omega)]
   | ret =>
    obtain⟨hs3,hi3⟩:=hp
    obtain⟨hr,hl4,hk4⟩:=fin (some .ret) W3 hs3
    exact⟨_,_,hr,.inr ⟨rfl,.ret,(hIx _).putObj _ hi3 (by omega) (by omega),hl4,hk4⟩⟩
   | exit id =>
    obtain⟨hs3,hi3⟩:=hp
    obtain⟨hr,hl4,hk4⟩:=fin (some (.exit id)) W3 hs3
    exact⟨_,_,hr,.inr ⟨rfl,.exit id,(hIx _).putObj _ hi3 (by omega) (by omega),hl4,hk4⟩⟩
   | goto t =>
    obtain⟨hs3,hi3⟩:=hp
    obtain⟨hr,hl4,hk4⟩:=fin (some (.goto t)) W3 hs3
    exact⟨_,_,hr,.inr ⟨rfl,.goto t,(hIx _).putObj _ hi3 (by omega) (by omega),hl4,hk4⟩⟩
   | panic ch=>exact hp.elim
   | outgrown=>exact hp.elim
  | ret=>exact hp.elim
  | exit id=>exact hp.elim
  | goto t=>exact hp.elim
  | panic ch=>exact hp.elim
  | outgrown=>exact hp.elim
 ·
  rintro e W2 ⟨⟨v,rfl⟩,(⟨hi,hl,hk⟩|⟨pre,hpre,c,hi,hl,hk⟩)⟩
  ·exact⟨none,_,by have:=run_endLoop (P:=P) hl (by rw[hrec];simp);rw[hrec]at this;exact this,hdone _ (hI.putObj _ hi (by omega) (by omega)) ((jof (by omega)).trans hk)⟩
  exact⟨some c,_,by have:=run_endLoop (P:=P) hl (by rw[hrec];simp);rw[hrec]at this;exact this,hstop c pre _ hpre ((hIx c).putObj _ hi (by omega) (by omega)) ((jof (by omega)).trans hk)⟩
theorem jes{α:Type}{g:Operand}{ps:Array Tmp}{assign body:Code}{Q:Exit->Act->World->Prop}{a:Act}{w:World}
  {gf:Nat} {lb:Array Value} (hg:a.eval g=.func (.func gf) #[] lb) (eg:∀args w,(callFunc gf args).run P w=.ok (.enter gf args) w)
  {encs:α->Array Value} {k:Nat} {xs:List α} (hseq:jk8 P gf lb encs k xs w) (hps:∀x,(encs x).size=ps.size)
  (I:List α->World->Prop) (Ix:Code->List α->World->Prop) (hI:zN w.heap.size (k+2) I) (hIx:∀c,zN w.heap.size 2 (Ix c)) (h0:I [] w)
  (M:List α->α->Act->World->Prop) (hM:∀pre x a',zN w.heap.size 2 (fun(_:Unit) W=>M pre x a' W))
  (hassign:∀(l:Nat) (pre:List α) (x:α) (post:List α) (W:World),xs=pre++x::post->w.heap.size+(k+2)<=W.heap.size->I pre W ->
   assign.wpIn (Fence.wide.inRound l) 7 P (Vs w.heap.size (k+2) (M pre x) W) {tmps:=(ps.zip (encs x)).foldl (fun t (p,v)=>t.setIfInBounds p v) a.tmps,defers:=[]} W)
  (hbody:∀(l:Nat) (pre:List α) (x:α) (post:List α) (a':Act) (W:World),xs=pre++x::post->w.heap.size+(k+2)<=W.heap.size->M pre x a' W ->
   body.wpIn (Fence.wide.inRound l) 7 P (left w.heap.size (k+2) I Ix (pre++[x]) W) a' W)
  (hdone:∀(W:World),I xs W->W.heap[w.heap.size]?=some (.deferred (some []))->Q .normal {a with defers:={target:=.collected w.heap.size,args:=#[]}::a.defers} W)
  (hstop:∀(c:Code) (pre:List α) (W:World),pre <+: xs->Ix c pre W->W.heap[w.heap.size]?=some (.deferred (some []))->c.wpIn Fence.wide 9 P Q {a with defers:={target:=.collected w.heap.size,args:=#[]}::a.defers} W) :
  (Code.rangeFunc g ps assign body).wpIn Fence.wide 9 P Q a w :=
 Xx (K:=fun _=>True) hg eg (fun l J Jx W hb ha _=>hseq l J Jx W hb ha) hps I Ix hI hIx h0 (fun _ _ _=>trivial) M hM hassign hbody hdone hstop
end Go.Proofs.YtpibhbjmcmfnmaaGreatDoor
