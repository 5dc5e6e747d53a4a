/- Texts put together:QD,QE,QF,QG,QH,NY,NL,NM,RM,RO,EU,ET,GI,CA,CP,AB,DA,MA,MB. -/
import Derived.Lib.AtoiAll
import Derived.Lib.ItoaLen
import Derived.Lib.CutLaws
import Derived.Test.YtimfhnfcmhmjcaaGreatDoorBgr15
set_option linter.unusedVariables false
set_option maxRecDepth 100000
set_option maxHeartbeats 16000000
namespace Go.Proofs.YtimfhnfcmhmjcaaGreatDoor
abbrev jjF:=@List.isPrefixOf_iff_prefix
abbrev jjQ:=@Bool.true_and
abbrev jjS:=@Nat.xor_lt_two_pow
abbrev jjU:=@List.eq_nil_of_length_eq_zero
abbrev jj2:=@List.eq_nil_or_concat
abbrev jj3:=@List.concat_eq_append
abbrev jj9:=@Nat.mod_lt
abbrev jkh:=@Nat.testBit_xor
abbrev jkq:=@List.append_cancel_left
abbrev jkx:=@Nat.xor_assoc
abbrev jkF:=@Nat.eq_of_testBit_eq
end Go.Proofs.YtimfhnfcmhmjcaaGreatDoor
namespace Go.Proofs.YtimfhnfcmhmjcaaGreatDoor
open Go.RowKit Go.Shelf
def jif(w:World)(v:Value)(xs:List Ln):Prop :=
 ∃A cap,v=.slice A xs.length cap/\xs.length<=cap/\∀(i:Nat) (x:Ln),xs[i]?=some x->∃b off,A=some ⟨b,off,none⟩/\b<w.heap.size/\w.cell? ⟨b,off+i,none⟩=some (.int .i64 (jz x.text:Nat))
def Gx(xs:List Ln)(i:Nat):Nat:=if i=0 then 0 else match xs[i-1]? with | some x=>jz x.text | none=>0
theorem Vp(xs:List Ln)(v:Value)(i:Nat)(w:World)(h:jif w v xs)(hi:i<xs.length)(hn:xs.length<=1000000):
  Calls Tryz.prog 176 #[v,.int .i64 i] w fun e w'=>e=.returned (.bool (decide (Gx xs i=4\/Gx xs i=3)))/\w=w':=by
 obtain⟨A,cap,rfl,hle,hc⟩:=h
 by_cases h0:i=0
 ·subst h0
  have e:decide (Gx xs 0=4\/Gx xs 0=3)=false:=rfl
  rw[e]
  clear hc
  go_enter Tryz.func176,Tryz.ntmps176
  go_wp2
  go_ret
  exact⟨rfl,rfl⟩
 obtain⟨j,rfl⟩:∃j,i=j+1:=⟨i-1,by omega⟩
 obtain⟨y,hy⟩:∃y,xs[j]?=some y:=⟨_,jim (by omega)⟩
 obtain⟨b,off,rfl,hbb,c0⟩:=hc j y hy
 have hp:Gx xs (j+1)=jz y.text:=by unfold Gx;rw[if_neg (by omega),Nat.add_sub_cancel,hy]
 rw[hp]
 have e1:IntKind.i64.wrap (((j+1:Nat):Int)-1)=(j:Int):=by rw[jiM _ (by omega)];omega
 have e2:(((j+1:Nat):Int)-1)=(j:Int):=by omega
 have e3:(0:Int)<((j+1:Nat):Int):=by omega
 clear hc hp hy
 rcases Xd y.text with hk|hk|hk|hk|hk
 all_goals
  rw[hk]at c0 ⊢
  go_enter Tryz.func176,Tryz.ntmps176
  go_wp2
  go_ret
  exact⟨rfl,rfl⟩
end Go.Proofs.YtimfhnfcmhmjcaaGreatDoor
namespace Go.Proofs.YtimfhnfcmhmjcaaGreatDoor
open Go.RowKit Go.Shelf
attribute [local go_sem] jit
end Go.Proofs.YtimfhnfcmhmjcaaGreatDoor
namespace Go.Proofs.YtimfhnfcmhmjcaaGreatDoor
end Go.Proofs.YtimfhnfcmhmjcaaGreatDoor
namespace Go.Proofs.YtimfhnfcmhmjcaaGreatDoor
open Go.RowKit Go.Shelf
theorem jfF{ps:List Pr}{es:List En}(h:ps.map Prod.fst=es):WG ps=es.map Prod.fst:=by
 rw[<- h,jjA];rfl
end Go.Proofs.YtimfhnfcmhmjcaaGreatDoor
namespace Go.Proofs.YtimfhnfcmhmjcaaGreatDoor
open Go.RowKit
structure jie(a0:Act)(w0:World)(n:Nat)(dst:Nat->Option Nat)(Pv:Nat->Value->World->Prop)(R:World->World->Prop)(l:Array Bool)(a:Act)(w:World):Prop where
 dfr:a.defers=a0.defers
 sz:a.tmps.size=a0.tmps.size
 frm:∀j,(∀k,k<n->dst k≠some j)->a.tmps[j]?=a0.tmps[j]?
 val:∀i d,l.getD i false=true->dst i=some d->∃v,a.tmps[d]?=some v/\Pv i v w
 wd:R w0 w
def pvL(L:List (Value->World->Prop))(i:Nat)(v:Value)(w:World):Prop:=match L[i]? with | some P=>P v w | none=>True
def jhq:List (Value->World->Prop)->Prop
 | []=>True
 | P::r=>(∀v x y,Below x.heap.size x y->P v x->P v y)/\jhq r
theorem VL:∀{L:List (Value->World->Prop)} (_:jhq L) {i:Nat} {v:Value} {x y:World},Below x.heap.size x y->pvL L i v x->pvL L i v y
 | [],_,i,v,x,y,_,_=>trivial
 | P::r,h,0,v,x,y,hb,hp=>h.1 v x y hb hp
 | P::r,h,i+1,v,x,y,hb,hp=>VL (L:=r) h.2 (i:=i) hb hp
end Go.Proofs.YtimfhnfcmhmjcaaGreatDoor
namespace Go.Proofs.YtimfhnfcmhmjcaaGreatDoor
open Go.RowKit Go.Shelf
attribute [local go_sem] jit
theorem evT{a:Act}{i:Nat}{v:Value}(h:a.tmps[i]?=some v):a.eval (.tmp i)=v:=by
 show a.tmps.getD i undef=v
 rw[jju,h];rfl
theorem xo{ops:Array Oper}{o:Oper}{a:Act}(h:o.guard=none):Region.wanted o (yielded ops a.tmps)=true:=by
 unfold Region.wanted;rw[h]
theorem jcV:∀(L:List (Nat×Value)) (s t:Array Value),s.size=t.size->(∀p∈L,s[p.1]?=some p.2)->(∀j,j∉L.map Prod.fst->s[j]?=t[j]?)->s=L.foldl (fun u p=>u.setIfInBounds p.1 p.2) t
 | [],s,t,_,_,h=>Array.ext_getElem? (fun j=>h j (by simp))
 | p::L,s,t,hs,h1,h2=>by
  rw[List.foldl_cons]
  refine jcV L s _ (by simpa using hs) (fun q hq=>h1 q (jir _ hq)) (fun j hj => ?_)
  rw[ji8]
  have hp:=h1 p jis
  by_cases q:p.1=j
  ·have:p.1<t.size:=by rw[<- hs];exact(Array.getElem?_eq_some_iff.1 hp).1
   rw[if_pos q,if_pos this,<- q];exact hp
  rw[if_neg q]
  exact h2 j (by rw[jiX];intro hm;rcases List.mem_cons.1 hm with e | e;exact q e.symm;exact hj e)
theorem Uv{a a0:Act}(L:List (Nat×Value))(hd:a.defers=a0.defers)(hs:a.tmps.size=a0.tmps.size)(h1:∀p∈L,a.tmps[p.1]?=some p.2)(h2:∀j,j∉L.map Prod.fst->a.tmps[j]?=a0.tmps[j]?):a={a0 with tmps:=L.foldl (fun u p=>u.setIfInBounds p.1 p.2) a0.tmps}:=by
 have:=jcV L a.tmps a0.tmps hs h1 h2
 obtain⟨t,d⟩:=a
 obtain⟨t0,d0⟩:=a0
 simp only at this hd ⊢
 subst this hd
 rfl
section
variable {o:Oper} {a:Act} {w:World} {K:Act->World->Prop} {Q:Exit->Act->World->Prop}
theorem jeO{v:Value}(e:(execOp a.eval o).run Tryz.prog w=.ok (.value v) w)(hK:K (a.put o.dst v) w):Oper.wp Tryz.prog o a w K Q:=by
 unfold Oper.wp
 rw[e];exact hK
theorem jdH{x:Operand}{T:TypeId}{k b i j:Nat}(hf:(Instr.fieldAt T (.pointer (some ⟨b,i,none⟩)) k).run Tryz.prog w=.ok (.pointer (some ⟨b,j,none⟩)) w)(ho:o.op=Op.fieldAddr T x k)(hx:a.eval x=.pointer (some ⟨b,i,none⟩))(hK:K (a.put o.dst (.pointer (some ⟨b,j,none⟩))) w):Oper.wp Tryz.prog o a w K Q :=
 jeO (by simp only[execOp,ho,hx];simp[hf]) hK
theorem yT{x:Operand}{T:TypeId}{b i:Nat}{u:Value}(hl:(Instr.loadAt T (.pointer (some ⟨b,i,none⟩))).run Tryz.prog w=.ok u w)(ho:o.op=Op.load T x)(hx:a.eval x=.pointer (some ⟨b,i,none⟩))(hK:K (a.put o.dst u) w):Oper.wp Tryz.prog o a w K Q :=
 jeO (by simp only[execOp,ho,hx];simp[hl]) hK
end
section
variable {o:Oper} {a:Act} {w:World} {K:Act->World->Prop} {Q:Exit->Act->World->Prop} {T:Value->World->Prop}
theorem Wx{x:Operand}{u:Value}(F:Nat){T1:TypeId}(ho:o.op=Op.call {callee:=Callee.value (Operand.func F),args:=#[x],argTypes:=#[T1]})(hx:a.eval x=u)
  (en:∀args w,(callFunc F args).run Tryz.prog w=.ok (.enter F args) w) (hC:Calls Tryz.prog F #[u] w fun e w'=>∃v,e=.returned v/\T v w') (hK:∀v w',T v w'->K (a.put o.dst v) w'):Oper.wp Tryz.prog o a w K Q:=by
 unfold Oper.wp
 have e:(execOp a.eval o).run Tryz.prog w=.ok (.enter F #[u]) w:=by
  have hf:a.eval (.func F)=.func (.func F) #[] #[]:=rfl
  generalize a.eval=ρ at hx hf ⊢
  simp only[execOp,ho]
  simp[go_sem,resolve,invoke,hx,hf,en]
 rw[e]
 refine hC.mono ?_
 rintro e w' ⟨v,rfl,h⟩
 exact hK v w' h
end
section
variable {o:Oper} {a:Act} {w:World} {K:Act->World->Prop} {Q:Exit->Act->World->Prop}
end
theorem jb6{w:World}{v:Value}{fs:List Fld}{b:Nat}{T:TypeId}{cur:Array Value}(h:yH w v fs)(hne:fs≠[])(hb:v.ownBlock=some b)(hc:ja w b T cur)(hn:∀x∈cur,∀s,x ≠ .string s):False:=by
 obtain⟨A,cap,rfl,hle,hcs⟩:=h
 obtain⟨f,hf⟩:∃f,fs[0]?=some f:=by
  cases fs with
  | nil=>exact absurd rfl hne
  | cons a r=>exact⟨a,rfl⟩
 obtain⟨b',off,rfl,_,c0,_⟩:=hcs 0 f hf
 have e:b'=b:=by cases hb;rfl
 subst e
 rw[Nat.zero_mul,jkl,hc.cell off]at c0
 exact hn _ (Array.mem_of_getElem? c0) _ rfl
end Go.Proofs.YtimfhnfcmhmjcaaGreatDoor
namespace Go.Proofs.YtimfhnfcmhmjcaaGreatDoor.Rp
open Go.RowKit Go.Shelf
attribute [local go_sem] jit
theorem Gl{fn:Func}{p u:Tmp}{ty:TypeId}(h:fn.results=#[.cell p ty,.tmp u])(tmps:Array Value)(P:Program)(w:World):
  (results fn tmps).run P w=((asAddr (tmps.getD p undef)).run P w).andThen fun a w₁=>((loadVar ty a).run P w₁).andThen fun v w₂=>.ok (.tuple #[v,tmps.getD u undef]) w₂:=by
 simp only[results,h]
 simp[Sem.run_bind,Result.andThen]
theorem jbc{fn:Func}{p u:Tmp}(h:fn.results=#[.cell p 87,.tmp u])(tmps:Array Value)(w:World)(b:Nat)(cur:Array Value)(hp:tmps.getD p undef=.pointer (some ⟨b,0,none⟩))
  (hc:ja w b 87 cur) (hz:cur.size=3):(results fn tmps).run Tryz.prog w=.ok (.tuple #[.agg cur,tmps.getD u undef]) w:=by
 have L:=run_loadVar_row (P:=Tryz.prog) w b 87 87 cur (0,0) _ hc Tryz.underlying87 rfl (by rw[hz];kernel_rfl)
 rw[Gl h,hp]
 show((loadVar _ _).run _ _).andThen _=_
 rw[L];rfl
theorem jhu{W:World}{b:Nat}{T:TypeId}{a0 a1 a2:Value}(h:ja W b T #[a0,a1,a2])(v0 v1 v2:Value):
  ja (((W.setCell ⟨b,0,none⟩ v0).setCell ⟨b,1,none⟩ v1).setCell ⟨b,2,none⟩ v2) b T #[v0,v1,v2]/\jB (· = b) W (((W.setCell ⟨b,0,none⟩ v0).setCell ⟨b,1,none⟩ v1).setCell ⟨b,2,none⟩ v2):=by
 have k:=((h.set 0 v0).set 1 v1).set 2 v2
 refine⟨by simpa [List.setIfInBounds_toArray,List.set]using k,(((jB.refl (· = b) W).cellS 0 v0).cellS 1 v1).cellS 2 v2⟩
theorem jdA{w w':World}{s:List UInt8}{its:List It}{e:Ending}(h:OfR w s e w')(hp:jA s=.ok its)(hs:s.length<=60000):
  Below w.heap.size w w'/\∃lb ev ps,e=.returned (.tuple #[ptr lb,.nilIface])/\zk w.heap.size w' lb ev ps (zP its) s.length:=by
 obtain⟨b1,lb,ev,ps,rfl,hlb,hev,hla,hps⟩:=h.yes hp
 have h1:=yB hp
 have hlen:(zP its).es.length<=s.length/\(zP its).next<=(s.length:Int)+1:=by
  have h2:(zP its).es.length=its.length:=Zb 1 its
  have h3:=(xC 1 its).2
  have h4:(zP its).next=jK 1 its:=rfl
  have h5:=h1.2.1
  omega
 refine⟨b1,lb,ev,ps,rfl,hla,hps,jfZ hp,fun e he => ?_,hlb,hev,hlen.1,hlen.2⟩
 have h2:e.1∈its:=by rw[<- Je 1 its];exact List.mem_map_of_mem he
 obtain⟨q1,q2⟩:=h1.2.2 _ h2
 exact⟨by omega,by omega⟩
theorem jcC{S0:Nat}{w:World}{lb:Nat}{ev:Value}{ps:List Pr}{l:LS}{m b:Nat}{T:TypeId}{cur:Array Value}(C:zk S0 w lb ev ps l m)(hc:ja w b T cur)(hn:∀x∈cur,∀s,x ≠ .string s)(hb:b<S0):∀r,Qq lb ev ps (.slice none 0 0) [] r->r≠b:=by
 rintro r (rfl|h|h|⟨p,hp,hne,h⟩|⟨p,hp,_⟩) e
 ·have:=C.lb0;omega
 ·have:=C.ev0 r h;omega
 ·cases h
 ·exact jb6 (C.la.lr.ents.each p hp).1 hne (by rw[h,e]) hc hn
 cases hp
def jgx:Value:=.agg #[.pointer none,.int .i64 0,.slice none 0 0]
def Uw(w w':World)(s:List UInt8)(bs:List (List Ed))(e:Ending):Prop:=Below w.heap.size w w' /\
  ((∃a n u,jA s=.error (a,n)/\e=.returned (.tuple #[jgx,u])/\jl w.heap.size w' u a n) \/
   (∃its i u,jA s=.ok its/\vY (zP its) bs i/\e=.returned (.tuple #[jgx,u])/\jl w.heap.size w' u i 10) \/
   (∃its k lb ev ps gv us,jA s=.ok its/\qp (zP its) bs=some k/\e=.returned (.tuple #[.agg #[ptr lb,.int .i64 (zP its).next,gv],.nilIface])/\zk w.heap.size w' lb ev ps k (s.length+yi bs)/\XR w.heap.size w' gv (WV (zP its) bs) us))
theorem jia{w w7:World}(hB:Below w.heap.size w w7)(C7:ja w7 w.heap.size 87 #[.pointer none,.int .i64 0,.slice none 0 0])(k:Nat)(X:World)
  (hX:X=(((w7.alloc (.cells #[.int .i64 (k:Int),.iface 54 (.int .i64 10)] 94)).setCell ⟨w.heap.size,0,none⟩ (.pointer none)).setCell ⟨w.heap.size,1,none⟩ (.int .i64 0)).setCell ⟨w.heap.size,2,none⟩ (.slice none 0 0)) :
  Below w.heap.size w X/\ja X w.heap.size 87 #[.pointer none,.int .i64 0,.slice none 0 0]/\jl w.heap.size X (.iface 91 (.pointer (some ⟨w7.heap.size,0,none⟩))) k 10:=by
 subst hX
 have hF:=ja.new w7 94 #[.int .i64 (k:Int),.iface 54 (.int .i64 10)]
 have hb:=hB.alloc hB.size (.cells #[.int .i64 (k:Int),.iface 54 (.int .i64 10)] 94)
 obtain⟨h1,h2⟩:=jhu (C7.alloc (.cells #[.int .i64 (k:Int),.iface 54 (.int .i64 10)] 94)) (.pointer none) (.int .i64 0) (.slice none 0 0)
 have hlt:=C7.lt
 exact⟨hb.trans (h2.to_below hb.size (fun r hr e=>by omega)),h1,⟨w7.heap.size,hB.size,rfl,by rw[jQ 10 (by decide)];exact hF.only h2 (fun e=>by omega)⟩⟩
theorem VM(s:List UInt8)(bs:List (List Ed))(v:Value)(w:World)(hs:s.length+yi bs<=5000)(hn:bs.length<=100000)(hv:BtV w v bs)(hb:je2 bs)(hg:ErrT w):
  Calls Tryz.prog 40 #[.string (B s),v] w fun e w'=>Uw w w' s bs e:=by
 obtain⟨w0,hw0⟩:∃z,w.alloc (.cells #[.pointer none,.int .i64 0,.slice none 0 0] 87)=z:=⟨_,rfl⟩
 have hb0:Below w.heap.size w w0:=by rw[<- hw0];exact(jil _ w).alloc (jij _) _
 have hz0:w0.heap.size=w.heap.size+1:=by rw[<- hw0];simp
 have C0:ja w0 w.heap.size 87 #[.pointer none,.int .i64 0,.slice none 0 0]:=by rw[<- hw0];exact ja.new _ _ _
 have OF:=jii (jgR (B s) (by rw[jm];omega) w0)
 rw[jo]at OF
 have HB0:=jii hb0
 have HC0:=jii C0
 have HW0:=jii hw0
 have HZ0:=jii hz0
 have BV:Hid (∀W,Below w.heap.size w W->BtV W v bs/\ErrT W):=fun W hW=>⟨hv.below hW (jij _),hg.below hW (jij _)⟩
 have HBS:=jii hb
 obtain⟨A,cap,rfl,hcap,_⟩:=_root_.id hv
 clear hb0 C0 hw0 hz0 hv hg hb
 go_enter Tryz.func40,Tryz.ntmps40
 go_wp2_with fail
 rw[HW0.out]
 refine OF.out.mono ?_
 rintro e w1 hof
 clear OF
 cases hp:jA s with
 | error an =>
  obtain⟨a,n⟩:=an
  obtain⟨b1,u,rfl,hf⟩:=hof.no hp
  obtain⟨q,hq,rfl,hqc⟩:=hf
  have B1:=jii (HB0.out.trans (b1.mono HB0.out.size))
  have C1:=jb HC0.out b1 HC0.out.lt
  obtain⟨P1,o1⟩:=jhu C1 (.pointer none) (.int .i64 0) (.slice none 0 0)
  have HP1:=jii P1
  have BF:=jii (B1.out.trans (o1.to_below B1.out.size (fun r hr e=>by omega)))
  have hq1:w.heap.size+1<=q:=by have:=HZ0.out;omega
  have HF:=jii (show jl w.heap.size _ (.iface 91 (.pointer (some ⟨q,0,none⟩))) a n from⟨q,by omega,rfl,hqc.only o1 (fun e=>by omega)⟩)
  have c0:=C1.cell 0
  have c1:=C1.cell 1
  have c2:=C1.cell 2
  have f0:=C1.frozen 0
  have f1:=C1.frozen 1
  have f2:=C1.frozen 2
  simp only[jiv,jiu,jio]at c0 c1 c2
  have HP:=jii hp
  clear hof hqc b1 C1 P1 o1 hp
  go_wp2_with fail
  refine bodyPost_ret (jbc rfl _ _ w.heap.size _ rfl HP1.out rfl) rfl ?_
  exact⟨BF.out,.inl ⟨a,n,_,HP.out,rfl,HF.out⟩⟩
 | ok its =>
 obtain⟨b1,lb,ev,ps,rfl,CY⟩:=jdA hof hp (by omega)
 have B1:=jii (HB0.out.trans (b1.mono HB0.out.size))
 have C1:=jii (jb HC0.out b1 HC0.out.lt)
 have hlo0:=HB0.out.size
 have HCY:=jii CY
 have NX:=jii (VS lb ev ps _ w1 CY.la.lr ⟨by have:=CY.ok.pos;omega,by have:=CY.nx;omega⟩)
 have HP:=jii hp
 have hz1:=b1.size
 clear hof hp b1 CY
 unfold ptr at *
 go_wp2_with fail
 refine NX.out.mono ?_
 rintro e w1' ⟨rfl,rfl⟩
 obtain⟨w2,hw2⟩:∃z,w1.alloc (.cells #[.pointer (some ⟨lb,0,none⟩),.int .i64 (zP its).next,.slice none 0 0] 87)=z:=⟨_,rfl⟩
 have b12:Below w1.heap.size w1 w2:=by rw[<- hw2];exact(jil _ _).alloc (jij _) _
 have C2:ja w2 w1.heap.size 87 #[.pointer (some ⟨lb,0,none⟩),.int .i64 (zP its).next,.slice none 0 0]:=by rw[<- hw2];exact ja.new _ _ _
 have hz12:w1.heap.size<w2.heap.size:=C2.lt
 have B2:=jii (B1.out.trans (b12.mono B1.out.size))
 have CR2:=jii (jb C1.out b12 (by have:=HZ0.out;omega))
 have PL2:=jii (show XP w0.heap.size w2 w1.heap.size (zP its).next (zP its) (s.length+yi (bs.take 0)) (WV (zP its) (bs.take 0)) from⟨⟨lb,ev,ps,_,[],C2,by simpa [yi]using HCY.out.below b12 (jij _),XR.nil _ _⟩,hz1⟩)
 have HW2:=jii hw2
 have hB1:=B1.out.size
 have hlow:w.heap.size<w0.heap.size:=by have:=HZ0.out;omega
 generalize hl0:zP its=l0 at *
 clear NX HCY b12 C2 hw2
 go_wp2_with fail
 rw[HW2.out]
 go_loopw [26] (fun iv wr=>∃(i:Nat) (k:LS),i<=bs.length/\iv=.int .i64 (i:Nat)/\qp l0 (bs.take i)=some k/\Below w.heap.size w wr/\ja wr w.heap.size 87 #[.pointer none,.int .i64 0,.slice none 0 0]/\XP w0.heap.size wr w1.heap.size l0.next k (s.length+yi (bs.take i)) (WV l0 (bs.take i))) (fun iv _=>bs.length-(intOf iv).toNat)
 case atStart=>exact⟨0,l0,jiD _,rfl,rfl,B2.out,CR2.out,PL2.out⟩
 case round =>
 obtain⟨i,k,hi,rfl,hpl,hb,hC,hP⟩:=hrel
 by_cases hlt:i<bs.length
 ·obtain⟨x,hx⟩:∃x,bs[i]?=some x:=⟨_,jim hlt⟩
  obtain⟨hbv,hge⟩:=BV.out wr hb
  obtain⟨A',cap',e',_,hc⟩:=_root_.id hbv
  obtain⟨g,off,u,eA,hgl,cg,hu⟩:=hc i x hx
  injection e' with e1 e2 e3
  subst e1
  subst e3
  subst eA
  obtain⟨ua,uc,rfl,_⟩:=_root_.id hu
  have hst:=YG bs i
  have hDO:=jii (jhd hP x _ hu (HBS.out x (jiA hx)) hge (by omega) (by rw[jb0,jiq];omega))
  have HCR:=jii hC
  have HB:=jii hb
  have HPL:=jii hpl
  have HX:=jii hx
  clear hP hC hb hpl hx hbv hge hc hu hst
  go_wp2_with fail
  refine hDO.out.mono ?_
  rintro e w5 ⟨b5,h5⟩
  have B5:=jii (HB.out.trans (b5.mono (by omega)))
  have C5:=jb HCR.out b5 hlow
  have h05:=b5.size
  have hlw5:=B5.out.size
  rcases h5 with ⟨h0,rfl⟩|⟨h0,rfl,hP5⟩
  ·
   have RF:=jii (show vY l0 bs i from⟨k,x,HPL.out,HX.out,h0⟩)
   have CA:=jii (jia B5.out C5 i)
   have c0:=C5.cell 0
   have c1:=C5.cell 1
   have c2:=C5.cell 2
   have f0:=C5.frozen 0
   have f1:=C5.frozen 1
   have f2:=C5.frozen 2
   simp only[jiv,jiu,jio]at c0 c1 c2
   have d0:∀o,(w5.alloc o).cell? ⟨w.heap.size,0,none⟩=_:=fun o=>((C5.alloc o).cell 0).trans rfl
   have d1:∀o,(w5.alloc o).cell? ⟨w.heap.size,1,none⟩=_:=fun o=>((C5.alloc o).cell 1).trans rfl
   have d2:∀o,(w5.alloc o).cell? ⟨w.heap.size,2,none⟩=_:=fun o=>((C5.alloc o).cell 2).trans rfl
   have g0:∀o,(w5.alloc o).frozen? ⟨w.heap.size,0,none⟩=false:=fun o=>(C5.alloc o).frozen 0
   have g1:∀o,(w5.alloc o).frozen? ⟨w.heap.size,1,none⟩=false:=fun o=>(C5.alloc o).frozen 1
   have g2:∀o,(w5.alloc o).frozen? ⟨w.heap.size,2,none⟩=false:=fun o=>(C5.alloc o).frozen 2
   clear b5 C5 hDO h0
   go_wp2_with fail
   refine bodyPost_ret (jbc rfl _ _ w.heap.size _ rfl (CA.out _ rfl).2.1 rfl) rfl ?_
   exact⟨(CA.out _ rfl).1,.inr (.inl ⟨its,i,_,HP.out,by rw[hl0];exact RF.out,rfl,(CA.out _ rfl).2.2⟩)⟩
  have HC5:=jii C5
  have HP5:=jii hP5
  have PN:Hid (qp l0 (bs.take (i+1))=some (qH k x)):=by
   show _=_
   rw[Vz HX.out,xY HPL.out,if_pos h0]
  have GN:Hid (WV l0 (bs.take (i+1))=WV l0 (bs.take i)++[zd k x]):=by
   show _=_
   rw[Vz HX.out,WU _ _ _ _ HPL.out]
  have SN:Hid (yi (bs.take (i+1))=yi (bs.take i)+x.length):=jfc HX.out
  clear b5 C5 hP5 hDO h0
  go_wp2_with fail
  go_roundw
  case rel=>exact⟨i+1,qH k x,hlt,by go_num,PN.out,B5.out,HC5.out,by rw[GN.out,SN.out,<- jjE];exact HP5.out⟩
  case measure=>simp[intOf];omega
 have hil:bs.take i=bs:=ji2 (by omega)
 rw[hil]at hpl hP
 obtain⟨⟨lbk,evk,psk,gvk,usk,cK,CK,GK⟩,_⟩:=hP
 obtain⟨ga,gc,rfl,_⟩:=je GK.row
 have hne:w.heap.size≠w1.heap.size:=by omega
 obtain⟨PE,oE⟩:=jhu hC (ptr lbk) (.int .i64 l0.next) (.slice ga (WV l0 bs).length gc)
 have KE:=CK.only oE (fun r hr e=>jcC CK hC (by intro x hx s;simp at hx;rcases hx with rfl | rfl | rfl<;>exact fun h=>by cases h) hlow r hr e)
 have GE:=GK.box hC (by decide) (by decide) oE
 have HKE:=jii (show zk w.heap.size _ lbk evk psk k (s.length+yi bs) from⟨KE.la,KE.es,KE.ok,KE.sz,by have:=KE.lb0;omega,fun b e=>by have:=KE.ev0 b e;omega,KE.len,KE.nx⟩)
 have HGE:=jii (show XR w.heap.size _ _ (WV l0 bs) usk from⟨jC GE.row (by omega),fun i g u h1 h2=>jC (GE.each i g u h1 h2) (by omega)⟩)
 have HPE:=jii PE
 have BE:=jii (hb.trans (oE.to_below hb.size (fun r hr e=>by omega)))
 have HPL:=jii hpl
 have c0:=hC.cell 0
 have c1:=hC.cell 1
 have c2:=hC.cell 2
 have f0:=hC.frozen 0
 have f1:=hC.frozen 1
 have f2:=hC.frozen 2
 have d0:=cK.cell 0
 have d1:=cK.cell 1
 have d2:=cK.cell 2
 simp only[jiv,jiu,jio]at c0 c1 c2 d0 d1 d2
 clear hpl cK CK GK PE oE KE GE hb hC
 unfold ptr at *
 go_wp2_with fail
 refine bodyPost_ret (jbc rfl _ _ w.heap.size _ rfl HPE.out rfl) rfl ?_
 exact⟨BE.out,.inr (.inr ⟨its,k,lbk,evk,psk,_,usk,HP.out,by rw[hl0];exact HPL.out,by rw[hl0];rfl,HKE.out,by rw[hl0];exact HGE.out⟩)⟩
end Go.Proofs.YtimfhnfcmhmjcaaGreatDoor.Rp
namespace Go.Proofs.YtimfhnfcmhmjcaaGreatDoor.Sm.M
def st(x:Nat):Nat:=if x / 2147483648=1 then (x*2 % 4294967296) ^^^ 79764919 else x*2 % 4294967296
def stn:Nat->Nat->Nat
 | 0,x=>x
 | n+1,x=>stn n (st x)
def jf5(x c:Nat):Nat:=stn 8 (x ^^^ (c*16777216))
def feed(x:Nat)(l:List UInt8):Nat:=l.foldl (fun x c=>jf5 x c.toNat) x
theorem jfk(x:Nat):st x<4294967296:=by
 unfold st
 split
 ·exact jjS (n:=32) (jj9 _ (by decide)) (by decide)
 exact jj9 _ (by decide)
theorem stn_lt(n x:Nat)(h:x<4294967296):stn n x<4294967296:=by
 induction n generalizing x with
 | zero=>exact h
 | succ n ih=>exact ih _ (jfk x)
theorem stn_succ(n x:Nat):stn (n+1) x=st (stn n x):=by
 induction n generalizing x with
 | zero=>rfl
 | succ n ih=>show stn (n+1) (st x)=st (stn n (st x));exact ih _
theorem jei(x c:Nat)(h:x<4294967296)(hc:c<256):jf5 x c<4294967296 :=
 stn_lt _ _ (jjS (n:=32) h (by omega))
theorem feed_lt(l:List UInt8)(x:Nat)(h:x<4294967296):feed x l<4294967296:=by
 induction l generalizing x with
 | nil=>exact h
 | cons c l ih=>exact ih _ (jei x _ h c.toNat_lt)
theorem feed_append(x:Nat)(l r:List UInt8):feed x (l++r)=feed (feed x l) r:=by
 simp[feed,List.foldl_append]
theorem feed_snoc(x:Nat)(l:List UInt8)(c:UInt8):feed x (l++[c])=jf5 (feed x l) c.toNat:=by
 simp[feed,List.foldl_append]
theorem tb(x i:Nat)(h:x<4294967296):(x*2 % 4294967296).testBit i=(decide (i<32)&&decide (0<i)&&x.testBit (i-1)):=by
 have:(x*2 % 4294967296)=(x <<< 1) % 2 ^ 32:=by rw[Nat.shiftLeft_eq]
 rw[this,Nat.testBit_mod_two_pow,Nat.testBit_shiftLeft]
 by_cases h1:i<32<;>by_cases h2:0<i<;>simp[h1,h2]<;>omega
theorem top(x:Nat)(h:x<4294967296):(x / 2147483648=1)↔x.testBit 31=true:=by
 rw[Nat.testBit_eq_decide_div_mod_eq,show 2 ^ 31=2147483648 from rfl]
 simp;omega
theorem jfm(x y:Nat)(hx:x<4294967296)(hy:y<4294967296):(x ^^^ y)*2 % 4294967296=(x*2 % 4294967296) ^^^ (y*2 % 4294967296):=by
 apply jkF
 intro i
 rw[tb _ _ (jjS (n:=32) hx hy),jkh,jkh,tb _ _ hx,tb _ _ hy]
 cases decide (i<32)<;>cases decide (0<i)<;>simp
theorem jgH(x y:Nat)(hx:x<4294967296)(hy:y<4294967296):st (x ^^^ y)=st x ^^^ st y:=by
 have hxy:x ^^^ y<4294967296:=jjS (n:=32) hx hy
 unfold st
 rw[jfm x y hx hy]
 simp only[top x hx,top y hy,top _ hxy,jkh]
 generalize x*2 % 4294967296=a
 generalize y*2 % 4294967296=b
 generalize 79764919=p
 cases x.testBit 31<;>cases y.testBit 31<;>simp
 ·rw[jkx]
 ·rw[jkx,jkx,Nat.xor_comm b p]
 rw[jkx,Nat.xor_comm p,jkx,Nat.xor_self,Nat.xor_zero]
theorem jfe(n x y:Nat)(hx:x<4294967296)(hy:y<4294967296):stn n (x ^^^ y)=stn n x ^^^ stn n y:=by
 induction n generalizing x y with
 | zero=>rfl
 | succ n ih=>show stn n (st _)=_;rw[jgH x y hx hy,ih _ _ (jfk x) (jfk y)];rfl
theorem jgI(x:Nat)(h:x<2147483648):st x=x*2:=by
 unfold st;rw[if_neg (by omega)];omega
theorem jff(n x:Nat)(h:x*2 ^ n<4294967296):stn n x=x*2 ^ n:=by
 induction n generalizing x with
 | zero=>simp[stn]
 | succ n ih =>
 have e:x*2 ^ (n+1)=x*2*2 ^ n:=by rw[Nat.pow_succ,Nat.mul_comm (2 ^ n) 2,Nat.mul_assoc]
 have hx:x<2147483648:=by
  have:=Nat.one_le_two_pow (n:=n)
  have h2:x*2*1<=x*2*2 ^ n:=Nat.mul_le_mul_left _ this
  omega
 show stn n (st x)=_
 rw[jgI x hx,ih _ (by rw[<- e];exact h),e]
theorem four(x:Nat)(hx:x<4294967296):stn 4 x=(x*16 % 4294967296) ^^^ stn 4 (x / 268435456*268435456):=by
 have e:x=(x / 268435456*268435456) ^^^ (x % 268435456):=by
  have h:=Nat.two_pow_add_eq_or_of_lt (i:=28) (b:=x % 268435456) (jj9 _ (by decide)) (x / 268435456)
  have h2:x / 268435456*268435456 ^^^ x % 268435456=2 ^ 28*(x / 268435456)+x % 268435456:=by
   rw[Nat.mul_comm,show(268435456:Nat)=2 ^ 28 from rfl]
   apply jkF
   intro i
   rw[h,jkh,Nat.testBit_or,Nat.testBit_two_pow_mul,Nat.testBit_mod_two_pow]
   by_cases hi:i<28
   ·simp[hi,Nat.not_le.2 hi]
   simp[hi]
  omega
 have hh:x / 268435456*268435456<4294967296:=by omega
 have hl:x % 268435456<4294967296:=by omega
 conv=>lhs;rw[e]
 rw[jfe 4 _ _ hh hl,jff 4 (x % 268435456) (by omega),Nat.xor_comm]
 congr 1
 omega
theorem m24(c:Nat)(h:c<256):c*16777216<4294967296:=by omega
theorem m16(c:Nat)(h:c<256):c*65536<16777216:=by omega
theorem a1(t:Nat):t*65536*256=t*16777216:=by omega
theorem a2(t:Nat):t*256*256=t*65536:=by omega
theorem z24(p y:Nat)(h:p*16777216=y)(hy:y<16777216):p=0/\y=0:=by omega
end Go.Proofs.YtimfhnfcmhmjcaaGreatDoor.Sm.M
namespace Go.Proofs.YtimfhnfcmhmjcaaGreatDoor.Sm
def cat(ss:List ByteArray):List UInt8:=ss.flatMap (·.data.toList)
theorem jez(ss:List ByteArray)(k:Nat)(s:ByteArray)(h:ss[k]?=some s):cat (ss.take (k+1))=cat (ss.take k)++s.data.toList:=by
 have hk:k<ss.length:=by
  rcases jiK k ss.length with h'|h'
  ·exact h'
  rw[jiW h']at h;cases h
 rw[List.take_succ_eq_append_getElem hk,cat,jiN]
 have:ss[k]=s:=by rw[jim hk]at h;injection h
 rw[this]
 simp[cat]
def M.crc(l:List UInt8):Nat:=4294967295-M.feed 4294967295 l
theorem M.crc_lt(l:List UInt8):M.crc l<4294967296:=by unfold M.crc;omega
def dg(n:Nat):UInt8:=if n<10 then UInt8.ofNat (48+n) else UInt8.ofNat (87+n)
def figs(x:Nat):ByteArray:=⟨#[dg (x / 268435456 % 16),dg (x / 16777216 % 16),dg (x / 1048576 % 16),dg (x / 65536 % 16),dg (x / 4096 % 16),dg (x / 256 % 16),dg (x / 16 % 16),dg (x % 16)]⟩
def val(c:Nat):Option Nat:=if 48<=c/\c<=57 then some (c-48) else if 97<=c/\c<=102 then some (c-87) else none
def DIG:List UInt8:=[48,49,50,51,52,53,54,55,56,57,97,98,99,100,101,102]
def ix(c:Nat):Int:=match val c with | some d=>d | none => -1
theorem jgz{c d:Nat}(h:val c=some d):d<16:=by
 unfold val at h
 split at h
 ·injection h;omega
 split at h
 ·injection h;omega
 cases h
def tk(acc:Nat):List UInt8->Option Nat
 | []=>some acc
 | c::l=>match val c.toNat with
  | none=>none
  | some d=>tk (acc*16 % 4294967296+d) l
def takes(l:List UInt8):Option Nat:=if l.length=8 then tk 0 l else none
theorem jhe:∀(c:Fin 256) (k:Fin 16),((dg k.val).toNat=c.val)↔(val c.val=some k.val):=by decide +kernel
theorem jgA{n:Nat}(h:n<16):val (dg n).toNat=some n:=by
 exact(jhe ⟨(dg n).toNat,(dg n).toNat_lt⟩ ⟨n,h⟩).1 rfl
theorem YC(acc n:Nat)(l:List UInt8)(h:n<16):tk acc (dg n::l)=tk (acc*16 % 4294967296+n) l:=by
 rw[tk,jgA h]
theorem takes_figs(x:Nat)(hx:x<4294967296):takes (figs x).data.toList=some x:=by
 unfold takes
 rw[if_pos (show(figs x).data.toList.length=8 from rfl)]
 have e:(figs x).data.toList=[dg (x / 268435456 % 16),dg (x / 16777216 % 16),dg (x / 1048576 % 16),dg (x / 65536 % 16),dg (x / 4096 % 16),dg (x / 256 % 16),dg (x / 16 % 16),dg (x % 16)]:=rfl
 rw[e,YC _ _ _ (by omega),YC _ _ _ (by omega),YC _ _ _ (by omega),YC _ _ _ (by omega),YC _ _ _ (by omega),YC _ _ _ (by omega),YC _ _ _ (by omega),YC _ _ _ (by omega)]
 rw[show 0*16 % 4294967296+x / 268435456 % 16=x / 268435456 by omega,show x / 268435456*16 % 4294967296+x / 16777216 % 16=x / 16777216 by omega,
  show x / 16777216*16 % 4294967296+x / 1048576 % 16=x / 1048576 by omega,show x / 1048576*16 % 4294967296+x / 65536 % 16=x / 65536 by omega,
  show x / 65536*16 % 4294967296+x / 4096 % 16=x / 4096 by omega,show x / 4096*16 % 4294967296+x / 256 % 16=x / 256 by omega,
  show x / 256*16 % 4294967296+x / 16 % 16=x / 16 by omega,show x / 16*16 % 4294967296+x % 16=x by omega]
 rfl
end Go.Proofs.YtimfhnfcmhmjcaaGreatDoor.Sm
namespace Go.Proofs.YtimfhnfcmhmjcaaGreatDoor
open Go.Lib
theorem Yk{u:Nat}(h:u<10):(UInt8.ofNat (48+u)).toNat=48+u:=by
 rw[UInt8.toNat_ofNat'];omega
theorem zX(u:Nat):∀c∈decDigits u,48<=c.toNat/\c.toNat<=57:=by
 induction u using Nat.strongRecOn with
 | _ u ih =>
 intro c hc
 by_cases h:u<10
 ·rw[decDigits_one h]at hc
  rw[List.mem_singleton.1 hc,Yk h];omega
 rw[decDigits,dif_neg h]at hc
 rcases List.mem_append.1 hc with hc|hc
 ·exact ih (u / 10) (by omega) c hc
 rw[List.mem_singleton.1 hc,Yk (by omega)];omega
theorem Uh(u:Nat):decDigits u≠[]:=by
 intro h
 have:=decDigits_length u
 have:=nDigits_pos u
 rw[h]at *;simp at *;omega
theorem QN(c:UInt8):∀(l:List UInt8) (acc:Nat),parseUint10 acc (l++[c])=(match parseUint10 acc l with | .ok a=>parseUint10 a [c] | NumEnd.syntax=>NumEnd.syntax | .range=>.range)
 | [],acc=>rfl
 | d::r,acc=>by
  show parseUint10 acc (d::(r++[c]))=_
  unfold parseUint10
  split
  ·split
   ·rfl
   split
   ·rfl
   exact QN c r _
  rfl
theorem xx(u:Nat)(hu:u<18446744073709551616):parseUint10 0 (decDigits u)=.ok u:=by
 induction u using Nat.strongRecOn with
 | _ u ih =>
 by_cases h:u<10
 ·rw[decDigits_one h]
  unfold parseUint10
  rw[Yk h,if_pos (by omega),if_neg (by omega),if_neg (by omega)]
  unfold parseUint10
  congr 1;omega
 rw[decDigits,dif_neg h,QN,ih (u / 10) (by omega) (by omega)]
 show parseUint10 (u / 10) _=_
 unfold parseUint10
 rw[Yk (show u % 10<10 by omega),if_pos (by omega),if_neg (by omega),if_neg (by omega)]
 unfold parseUint10
 congr 1;omega
def I64(n:Int):Prop := -9223372036854775808<=n/\n<=9223372036854775807
theorem jcL{n:Int}(h:I64 n):atoiAll (itoa n)=.ok n:=by
 obtain⟨h0,h1⟩:=h
 unfold itoa
 by_cases hn:n<0
 ·rw[if_pos hn]
  unfold atoiAll
  have e45:(45:UInt8).toNat=45:=rfl
  simp only[e45,or_true,if_true]
  have hm:parseMag (decDigits n.natAbs)=.ok n.natAbs:=by
   unfold parseMag
   rw[if_neg (Uh _),xx _ (by omega)]
  rw[hm]
  simp only[not_true,false_and,if_false,true_and]
  rw[if_neg (by omega)]
  congr 1;omega
 rw[if_neg hn]
 have hm:parseMag (decDigits n.toNat)=.ok n.toNat:=by
  unfold parseMag
  rw[if_neg (Uh _),xx _ (by omega)]
 cases hd:decDigits n.toNat with
 | nil=>exact absurd hd (Uh _)
 | cons c r =>
 have hc:=zX n.toNat c (by rw[hd];exact jis)
 unfold atoiAll
 simp only
 rw[if_neg (by omega),<- hd,hm]
 simp only
 rw[if_neg (by omega),if_neg (by omega),if_neg (by omega)]
 congr 1;omega
def qm(l:List UInt8):Int:=match atoiAll l with | .ok v=>v | NumEnd.syntax=>0 | .range=>atoiSat l
theorem vD{n:Int}(h:I64 n):qm (itoa n)=n:=by unfold qm;rw[jcL h]
theorem GS(n:Int):∀c∈itoa n,c.toNat=45\/(48<=c.toNat/\c.toNat<=57):=by
 intro c hc
 unfold itoa at hc
 split at hc
 ·rcases List.mem_cons.1 hc with rfl|hc
  ·exact .inl rfl
  exact .inr (zX _ c hc)
 exact .inr (zX _ c hc)
theorem jfG{n:Int}{c:UInt8}(h1:c.toNat≠45)(h2:c.toNat<48\/57<c.toNat):c∉itoa n:=fun hc=>by
 have:=GS n c hc
 omega
theorem jdQ{a b:Int}(ha:I64 a)(hb:I64 b)(h:itoa a=itoa b):a=b:=by
 rw[<- vD ha,<- vD hb,h]
end Go.Proofs.YtimfhnfcmhmjcaaGreatDoor
namespace Go.Proofs.YtimfhnfcmhmjcaaGreatDoor.Fr
open Go.Lib
def sp:Bool->List UInt8->Bool
 | _,[]=>true
 | s,c::l=>(!s || c==32)&&sp (c==10) l
def vQ(s:Bool)(l:List UInt8):Bool:=match l.getLast? with | none=>s | some c=>c==10
def vn(l:List UInt8):Bool:=l.getLast?==some 10
def goodR(l:List UInt8):Bool:=decide (2<=l.length)&&decide (l.length<=50000)&&vn l&&sp true l
def AMD:List UInt8:=[37,97,109,101,110,100,32]
def END:List UInt8:=[37,101,110,100,32]
def jM(n:Nat)(f:List UInt8):List UInt8:=AMD++(decDigits n++32::f)
def zF(n:Nat):List UInt8:=END++(decDigits n++[10])
def recR(n:Nat)(f b:List UInt8):List UInt8:=jM n f++10::(b++zF n)
def zZ(b:List UInt8):List UInt8:=(Sm.figs (Sm.M.crc b)).data.toList
def fullR(b:List UInt8):List UInt8:=recR b.length (zZ b) b
def Xo(f:List UInt8):Prop:=∃x,Sm.takes f=some x
structure XQ(l:List UInt8)(n:Nat)(f:List UInt8):Prop where
 lo:2<=n
 hi:n<=50000
 fig:Xo f
 eq:l=jM n f
def yd(t:List UInt8):Prop:=∃n f b z,goodR b=true/\b.length=n/\Xo f/\t++z=recR n f b/\z≠[]
def qJ(t b:List UInt8):Prop:=goodR b=true/\∃more,t=fullR b++more
def vE(t:List UInt8)(k:Nat)(b:List UInt8)(n:Nat):Prop :=
 (qJ t b/\k=1/\n=(fullR b).length)\/(yd t/\k=2/\b=[]/\n=0)\/(¬yd t/\(¬∃b,qJ t b)/\k=3/\b=[]/\n=0)
theorem jgg{a b:Nat}(ha:a<18446744073709551616)(hb:b<18446744073709551616)(h:decDigits a=decDigits b):a=b:=by
 have h1:=xx a ha
 rw[h,xx b hb]at h1
 injection h1 with h1
 exact h1.symm
theorem vW{n:Nat}(h:¬n<10):decDigits n=decDigits (n / 10)++[UInt8.ofNat (48+n % 10)]:=by rw[decDigits,dif_neg h]
theorem Zd{n:Nat}(h:n<=99999):(decDigits n).length<=5:=by
 have step:∀(k m:Nat),(m<10 ^ k->(decDigits m).length<=k)->∀u,u<10 ^ (k+1)->(u / 10=m\/u<10)->(decDigits u).length<=k+1:=by
  intro k m ih u hu hm
  by_cases h10:u<10
  ·rw[decDigits_one h10];simp
  rcases hm with hm|hm
  ·rw[vW h10,jik,hm]
   have:m<10 ^ k:=by rw[Nat.pow_succ]at hu;omega
   have:=ih this
   simp;omega
  exact absurd hm h10
 have h0:∀k u:Nat,1<=k->u<10 ^ k->(decDigits u).length<=k:=by
  intro k
  induction k with
  | zero=>intro u hk;omega
  | succ k ih =>
  intro u _ hu
  by_cases hk:k=0
  ·subst hk
   rw[decDigits_one (by simpa using hu)];simp
  exact step k (u / 10) (ih (u / 10) (by omega)) u hu (.inl rfl)
 exact h0 5 n (by omega) (by omega)
theorem jaq:∀(n:Nat) (ds r:List UInt8),ds≠[]->ds++r=decDigits n->∃v,ds=decDigits v/\v<=n/\(1<=n->1<=v):=by
 intro n
 induction n using Nat.strongRecOn with
 | _ n ih =>
 intro ds r hd h
 by_cases h10:n<10
 ·rw[decDigits_one h10]at h
  cases ds with
  | nil=>exact absurd rfl hd
  | cons c ds =>
  have hl:=congrArg List.length h
  simp only[jik,jin,jiJ]at hl
  obtain⟨rfl,rfl⟩:ds=[]/\r=[]:=by constructor<;>apply jjU<;>omega
  exact⟨n,by rw[decDigits_one h10];simpa using h,jij _,id⟩
 rcases jj2 r with rfl|⟨r0,x,rfl⟩
 ·exact⟨n,by simpa using h,jij _,id⟩
 rw[vW h10,jj3,<- jix]at h
 have h1:=(List.append_inj' h rfl).1
 obtain⟨v,e,hv,h1v⟩:=ih (n / 10) (by omega) ds r0 hd h1
 exact⟨v,e,by omega,fun _=>h1v (by omega)⟩
theorem jeq(n:Nat):(10:UInt8)∉decDigits n:=fun h=>by have:=zX n _ h;simp at this
theorem Yl(n:Nat):(32:UInt8)∉decDigits n:=fun h=>by have:=zX n _ h;simp at this
theorem ZO{f:List UInt8}(h:Xo f):f.length=8:=by
 obtain⟨x,h⟩:=h
 unfold Sm.takes at h
 split at h
 ·assumption
 cases h
def jfQ(c:UInt8):Bool:=(Sm.val c.toNat).isSome
theorem jeK:∀(l:List UInt8) (acc:Nat),(∃x,Sm.tk acc l=some x)↔l.all jfQ=true
 | [],acc=>by simp[Sm.tk]
 | c::l,acc=>by
  unfold Sm.tk
  cases hv:Sm.val c.toNat with
  | none=>simp[jfQ,hv]
  | some d=>simp only[jkb,jfQ,hv,Option.isSome_some,jjQ];exact jeK l _
theorem xD{f:List UInt8}:Xo f↔f.length=8/\f.all jfQ=true:=by
 unfold Xo Sm.takes
 by_cases h:f.length=8
 ·simp only[h,if_true,true_and];exact jeK f 0
 simp[h]
theorem jg1{c:UInt8}(h:jfQ c=true):c≠10/\c≠32:=by
 constructor<;>(rintro rfl;revert h;decide)
theorem jee{f:List UInt8}(h:Xo f):(10:UInt8)∉f:=fun hm=>(jg1 (List.all_eq_true.1 (xD.1 h).2 _ hm)).1 rfl
theorem ql(b:List UInt8):Xo (zZ b):=⟨_,Sm.takes_figs _ (Sm.M.crc_lt b)⟩
theorem qA{n:Nat}{f:List UInt8}(h:Xo f):(10:UInt8)∉jM n f:=by
 unfold jM AMD
 have:=jeq n
 have:=jee h
 simp_all
theorem split_at{m:UInt8}:∀{a b x y:List UInt8},m∉a->m∉b->a++m::x=b++m::y->a=b/\x=y
 | [],[],x,y,_,_,h=>by simpa using h
 | [],c::b,x,y,_,hb,h=>by simp at h;exact absurd (h.1▸jis) hb
 | c::a,[],x,y,ha,_,h=>by simp at h;exact absurd (h.1▸jis) ha
 | c::a,d::b,x,y,ha,hb,h=>by
  simp only[jiz,List.cons.injEq]at h
  obtain⟨rfl,h⟩:=h
  obtain⟨rfl,rfl⟩:=split_at (fun q=>ha (jir _ q)) (fun q=>hb (jir _ q)) h
  exact⟨rfl,rfl⟩
theorem VZ{n n':Nat}{f f':List UInt8}(hn:n<=50000)(hn':n'<=50000)(h:jM n f=jM n' f'):n=n'/\f=f':=by
 unfold jM at h
 have h1:=jkq h
 obtain⟨h2,h3⟩:=split_at (Yl n) (Yl n') h1
 exact⟨jgg (by omega) (by omega) h2,h3⟩
end Go.Proofs.YtimfhnfcmhmjcaaGreatDoor.Fr
namespace Go.Proofs.YtimfhnfcmhmjcaaGreatDoor.Hd
open Go.Lib
def Yy:List UInt8:=[35,37,103,101,110,32]
def ze(g:Nat):List UInt8:=Yy++(decDigits g++[10,10])
def Of(t:List UInt8)(g:Nat):Prop:=1<=g/\g<=2147483648/\∃r,t=ze g++r
def Jp(t:List UInt8)(n:Nat):Prop:=Of t n\/(n=0/\∀g,¬Of t g)
theorem jcu(n:Nat):(10:UInt8)∉decDigits n:=fun h=>by have:=zX n _ h;simp at this
theorem jge{a b:Nat}(ha:a<=2147483648)(hb:b<=2147483648)(h:decDigits a=decDigits b):a=b:=by
 have e:itoa (a:Int)=itoa (b:Int):=by rw[itoa_nonneg,itoa_nonneg,h]
 have:=jdQ (by constructor<;>omega) (by constructor<;>omega) e
 omega
theorem zi(g:Nat)(r:List UInt8):ze g++r=Yy++(decDigits g++10::(10::r)):=by unfold ze;simp
theorem WR{a b:Nat}(ha:a<=2147483648)(hb:b<=2147483648){r q:List UInt8}(h:ze a++r=ze b++q):a=b/\r=q:=by
 rw[zi,zi]at h
 obtain⟨h1,h2⟩:=Fr.split_at (jcu a) (jcu b) (jkq h)
 exact⟨jge ha hb h1,by simpa using h2⟩
theorem jgQ{t:List UInt8}{a b:Nat}(h:Of t a)(h':Of t b):a=b:=by
 obtain⟨_,h2,r,e⟩:=h
 obtain⟨_,h4,q,e'⟩:=h'
 exact(WR h2 h4 (e.symm.trans e')).1
theorem gen_one{t:List UInt8}{a b:Nat}(h:Jp t a)(h':Jp t b):a=b:=by
 rcases h with h|⟨rfl,h⟩<;>rcases h' with h'|⟨rfl,h'⟩
 ·exact jgQ h h'
 ·exact absurd h (h' _)
 ·exact absurd h' (h _)
 rfl
theorem jct(g:Nat)(hg:g<=2147483648):1<=(decDigits g).length/\(decDigits g).length<=20:=by
 constructor
 ·have:=Uh g
  cases h:decDigits g with
  | nil=>exact absurd h this
  | cons a l=>simp
 rw[decDigits_length];exact nDigits_le20 g (by omega)
theorem jdW(g:Nat)(hg:g<=2147483648):9<=(ze g).length/\(ze g).length<=28:=by
 have:=jct g hg
 unfold ze Yy
 simp only[jik,jin,jiJ];omega
theorem VZ{a b:Nat}(ha:a<=2147483648)(hb:b<=2147483648):ze a=ze b↔a=b :=
 ⟨fun h=>(WR (r:=[]) (q:=[]) ha hb (by rw[h])).1,fun h=>by rw[h]⟩
theorem WJ:∀(ds r:List UInt8),(10:UInt8)∉ds->index (ds++10::10::r) [10,10]=ds.length
 | [],r,_=>by simp[index]
 | c::ds,r,h=>by
  have hc:c≠10:=fun e=>h (by simp[e])
  have ih:=WJ ds r (fun q=>h (jir _ q))
  have hp:List.isPrefixOf [10,10] (c::(ds++10::10::r))=false:=by
   have hb:((10:UInt8)==c)=false:=by simpa using fun e=>hc e.symm
   simp[List.isPrefixOf,hb]
  rw[jiz,index,hp,ih]
  simp only[Bool.false_eq_true,if_false]
  rw[if_neg (by simp)]
  simp
theorem jhf(ds r:List UInt8)(h:(10:UInt8)∉ds):(cut (ds++10::10::r) [10,10]).1=ds:=by
 unfold cut
 rw[WJ ds r h,if_pos (by omega)]
 simp
theorem jaO(r:List UInt8):trimPrefix (Yy++r) Yy=r:=by
 unfold trimPrefix hasPrefix Yy
 rw[if_pos (by simp[List.isPrefixOf])]
 simp
def figs(t:List UInt8):List UInt8:=(cut (trimPrefix t Yy) [10,10]).1
theorem jf4{t:List UInt8}{g:Nat}(h:Of t g):figs t=decDigits g:=by
 obtain⟨_,_,r,rfl⟩:=h
 unfold figs
 rw[zi,jaO,jhf _ _ (jcu g)]
theorem jed(t:List UInt8):(figs t).length<=t.length:=by
 unfold figs cut
 split
 ·rw[jiq]
  unfold trimPrefix;split
  ·rw[jiw];omega
  omega
 show(trimPrefix t Yy).length<=_
 unfold trimPrefix;split
 ·rw[jiw];omega
 omega
theorem YW{t:List UInt8}{g:Nat}(h1:1<=g)(h2:g<=2147483648):hasPrefix t (ze g)=true↔Of t g:=by
 unfold hasPrefix
 rw[jjF]
 exact⟨fun⟨r,e⟩=>⟨h1,h2,r,e.symm⟩,fun⟨_,_,r,e⟩=>⟨r,e.symm⟩⟩
theorem jd4(t:List UInt8):Jp t (if 1<=qm (figs t)/\qm (figs t)<=2147483648/\hasPrefix t (ze (qm (figs t)).toNat)=true then (qm (figs t)).toNat else 0):=by
 split
 ·rename_i h
  obtain⟨h1,h2,h3⟩:=h
  exact .inl ((YW (by omega) (by omega)).1 h3)
 rename_i h
 refine .inr ⟨rfl,fun g hg=>h ?_⟩
 have e:=jf4 hg
 have hv:qm (figs t)=g:=by
  rw[e,<- itoa_nonneg]
  obtain⟨h1,h2,_⟩:=hg
  exact vD (by constructor<;>omega)
 rw[hv]
 have h1:=hg.1
 have h2:=hg.2.1
 refine⟨by omega,by omega,?_⟩
 rw[jks]
 exact(YW h1 h2).2 hg
theorem gen_lt{t:List UInt8}{n:Nat}(h:Jp t n):n<=2147483648:=by
 rcases h with h|⟨rfl,_⟩
 ·exact h.2.1
 omega
theorem jfT{t:List UInt8}{n:Nat}(h:Jp t n)(hn:1<=n):∃r,t=ze n++r:=by
 rcases h with h|⟨rfl,_⟩
 ·exact h.2.2
 omega
theorem gen_short{t:List UInt8}(h:t.length<9):Jp t 0:=.inr ⟨rfl,by
 rintro g ⟨h1,h2,r,rfl⟩
 have:=jdW g h2
 simp only[jik]at h;omega⟩
theorem Zz(l:List UInt8)(r:List UInt8)(no c:Nat)(h:(10:UInt8)∉l):jF no c (l++10::r)=⟨no,c,l,true⟩::jF (no+1) (c+l.length+1) r:=by
 obtain⟨h1,h2⟩:=ZF l r h
 have hu:zY (l++10::r)=l.length+1:=by unfold zY;rw[h1,h2];rfl
 have hd:(l++10::r).drop (l.length+1)=r:=by
  rw[show l++10::r=(l++[10])++r by simp]
  exact jjo (by simp)
 rw[jq _ _ _ (by simp),h1,h2,hu,hd]
 rfl
def two(g:Nat):List It:=[⟨2,Yy++(decDigits g++[10]),[]⟩,⟨1,[10],[]⟩]
end Go.Proofs.YtimfhnfcmhmjcaaGreatDoor.Hd
