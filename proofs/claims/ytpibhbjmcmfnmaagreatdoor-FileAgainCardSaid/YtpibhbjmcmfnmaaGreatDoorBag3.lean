/- Texts put together:VH,OC,VF,VG,VI,VJ,VK,VL. -/
import Derived.Deep.RegionLaw
import Derived.RegionTactic
import Derived.Shelf.SlMaps.Clone
import Derived.BigRegion
import Derived.Test.YtpibhbjmcmfnmaaGreatDoorBag2
set_option linter.unusedVariables false
set_option maxRecDepth 100000
set_option maxHeartbeats 16000000
namespace Go.Proofs.YtpibhbjmcmfnmaaGreatDoor
abbrev jni:=@List.length_cons
abbrev jnz:=@List.getElem?_append_right
abbrev jnB:=@Go.World.size_alloc
abbrev jnG:=@List.length_nil
abbrev jow:=@Nat.le_succ
abbrev jps:=@List.foldl_append
end Go.Proofs.YtpibhbjmcmfnmaaGreatDoor
namespace Go.Proofs.YtpibhbjmcmfnmaaGreatDoor.Vf
open Go.RowKit Go.Maps
structure zo where
 off:ByteArray
 on:ByteArray
 file:Nat
def zo.cells(c:zo):List Value:=[.string c.off,.string c.on,.int .i64 c.file]
def ve(off on:List UInt8)(file:Nat)(l:Dir):Dir:=if on=[] then jiG l off else jlh (jiG l off) on file
theorem YU(l:Dir)(k:List UInt8):(jiG l k).length<=l.length:=jpz _ _
theorem Xd(off on:ByteArray)(file:Nat)(b n:Nat)(l:Dir)(w:World)(ho:w.ownsMap Tryz.prog 9 (plainElem Tryz.prog 3) b n (zY l))(hn:n<=1000000)(h1:off.size<=1000000)(h2:on.size<=1000000)(hf:file<=1000000):
  Calls Tryz.prog 89 #[.agg #[.string off,.string on,.int .i64 file],.map (some b)] w fun e w'=>e=.returned (.tuple #[]) /\
   w'.ownsMap Tryz.prog 9 (plainElem Tryz.prog 3) b (n+1) (zY (ve off.data.toList on.data.toList file l))/\jv (· = b) w w':=by
 have k1:=joM Tryz.underlying9 (s:=off) (by unfold maxLen;omega)
 have k2:=joM Tryz.underlying9 (s:=on) (by unfold maxLen;omega)
 have hfl:plainElem (H:=Unit) Tryz.prog 3 (.int .i64 (file:Int))=some (.lit (.int .i64 (file:Int)),[]):=plainElem_int Tryz.underlying3 (by simp[Lit.wf,IntKind.min,IntKind.max,IntKind.signed,IntKind.bits];omega)
 unfold ve
 by_cases he:on.data.toList=[]
 ·rw[if_pos he]
  have hoe:on=⟨#[]⟩:=by rw[<- joz on,he]
  clear he
  subst hoe
  go_enter Tryz.func89,Tryz.ntmps89
  go_wp2_with (at_delete;refine wpList_delete_own _ rfl _ _ 88 9 rfl 3 jjc Tryz.underlying88 _ b n (zY l) rfl (ho.alloc _) _ _ rfl k1 ?_;intro w1 hown1 hturn1;have bx:=(ja.new w 118 #[.string off,.string ⟨#[]⟩,.int .i64 file]).grown hturn1.grown (by have:=ho.lt;intro e;cases e;omega);have bx1:=bx.cell 1;simp at bx1)
  go_end0
  rw[jad]at hown1
  exact⟨rfl,hown1.mono (by omega),((jv.refl _ w).alloc _).grown hturn1.grown (fun k hk=>.inl (by cases hk;rfl))⟩
 rw[if_neg he]
 have hne:on.toList.isEmpty=false:=by
  rw[jn0];cases hq:on.data.toList with
  | nil=>exact absurd hq he
  | cons _ _=>rfl
 have hne2:(!on.toList.isEmpty)=true:=by rw[hne];rfl
 clear he
 go_enter Tryz.func89,Tryz.ntmps89
 go_wp2_with (first | (at_delete;refine wpList_delete_own _ rfl _ _ 88 9 rfl 3 jjc Tryz.underlying88 _ b n (zY l) rfl (ho.alloc _) _ _ rfl k1 ?_;intro w1 hown1 hturn1;have bx:=(ja.new w 118 #[.string off,.string on,.int .i64 file]).grown hturn1.grown (by have:=ho.lt;intro e;cases e;omega);have bx1:=bx.cell 1;have bx2:=bx.cell 2;simp at bx1 bx2) | (at_mapUpdate;refine wpList_mapUpdate_own _ rfl _ _ _ 88 rfl 9 3 jjc Tryz.underlying88 _ b n _ rfl hown1 (by unfold maxLen;omega) _ _ _ rfl rfl k2 _ [] hfl ?_;intro w2 hown2 hgrow2))
 go_end0
 rw[jad,jgb]at hown2
 exact⟨rfl,hown2,(((jv.refl _ w).alloc _).grown hturn1.grown (fun k hk=>.inl (by cases hk;rfl))).grown hgrow2 (fun k hk=>.inl (by cases hk;rfl))⟩
end Go.Proofs.YtpibhbjmcmfnmaaGreatDoor.Vf
namespace Go.Proofs.YtpibhbjmcmfnmaaGreatDoor
open Go.RowKit
theorem jP{P:Program}{ops:Array Oper}{o:Oper}{a:Act}{w:World}{K:Act->World->Prop}{Q:Exit->Act->World->Prop}{E:Prop}
  (hg:o.guard=none) (s x:Operand) (t:TypeId) (hop:o.op=Op.call {callee:=Callee.builtin Builtin.append,args:=#[s,x],argTypes:=#[t,t]})
  (e:TypeId) (i:TypeInfo) (z:Value) (size bytes:Nat) (ht:P.underlying t=some (.slice e)) (hi:P.info? e=some i) (hz:i.zero=some z)
  (hsize:i.size=size) (hby:i.bytes=bytes) (hzs:z.cells.size=size) (hsz:0<size)
  (v:Value) (n:Nat) (xs:List Value) (hs:a.eval s=v) (hown:w.ownsRow 0 e size v n xs)
  (ad:Addr) (m c:Nat) (news:List Value) (hx:a.eval x=.slice (some ad) m c) (hl:news.length=m*size) (hnews:∀j u,news[j]?=some u->w.cell? (ad.add j)=some u) (h1:∀u∈news,u.oneCell'=true)
  (h63:n+m<=maxLen) (hbytes:(n+m)*bytes<=140737488355328)
  (hK:∀v' w',w'.ownsRow 0 e size v' (n+m) (xs++news)->w.grownBy w' v.ownBlock->(v'.ownBlock=v.ownBlock\/v'.ownBlock=some w.heap.size)->K (a.put o.dst v') w') :
  if Region.wanted o (yielded ops a.tmps)=true then Oper.wp P o a w K Q else E:=by
 have hw:Region.wanted o (yielded ops a.tmps)=true:=by simp[Region.wanted,hg]
 rw[if_pos hw]
 obtain⟨v',w',hr,h2,h3,h4,h5⟩:=run_append_own_at (P:=P) w 0 t o.type e i z size bytes ht hi hz hsize hby hzs hsz v n xs hown ad m c news hl hnews h1 h63 hbytes (jnt _)
 unfold Oper.wp
 simp[execOp,hop,resolve,invoke,builtin,hs,hx,hr,Result.andThen]
 exact hK v' w' h2 h3 h5
theorem jS(w:World)(t:TypeId)(cs:List Value):∀j u,cs[j]?=some u->(w.alloc (.cells cs.toArray t)).cell? ((⟨w.heap.size,0,none⟩:Addr).add j)=some u:=by
 intro j u hj
 have:=(ja.new w t cs.toArray).cell j
 have e:(⟨w.heap.size,0,none⟩:Addr).add j=⟨w.heap.size,j,none⟩:=by unfold Addr.add;split<;>simp_all
 rw[e,this,jnl,hj]
theorem Uz{w:World}{base:Nat}{e:TypeId}{size:Nat}{v:Value}{n:Nat}{xs:List Value}(h:w.ownsRow base e size v (n+1) xs):∃g cap,v=.slice (some ⟨g,0,none⟩) (n+1) cap:=by
 rcases h.2 with ⟨_,h⟩|⟨g,cap,_,h,_⟩
 ·omega
 exact⟨g,cap,h⟩
theorem qu{w W w':World}{g:Nat}{t:TypeId}{cur:Array Value}(hg:ja w g t cur){vw v':Value}{n:Nat}{xs A:List Value}{e:TypeId}{size:Nat}(hown:w.ownsRow 0 e size vw n xs)(hne:vw.ownBlock≠some g)
  (hb:Below w.heap.size w W) (ho:w'.ownsRow 0 e size v' (n+1) (xs++A)) (hgr:W.grownBy w' vw.ownBlock) (hbk:v'.ownBlock=vw.ownBlock\/v'.ownBlock=some W.heap.size) :
  (∃g' cap,v'=.slice (some ⟨g',0,none⟩) (n+1) cap)/\ja w' g t cur/\(∀r,w.heap.size<=r->r<W.heap.size->w'.heap[r]?=W.heap[r]?) /\
   (v'.ownBlock=vw.ownBlock\/∃k,v'.ownBlock=some k/\w.heap.size<=k/\k<w'.heap.size)/\jv (fun r=>some r=vw.ownBlock) w w':=by
 have hs:=hb.size
 refine⟨Uz ho,(hgr.block g (jnw hg.lt hs) (fun e=>hne e.symm)).trans ((hb.block g hg.lt).trans hg),fun r h1 h2=>hgr.block r h2 (fun e => ?_),?_,?_⟩
 ·have:=(hown.lt r e.symm).2;omega
 ·rcases hbk with h|h
  ·exact .inl h
  exact .inr ⟨_,h,hs,(ho.lt _ h).2⟩
 exact(jv.of_below hb (jnd _)).grown hgr (fun k hk=>.inl hk.symm)
def jH(T:Nat->Nat)(o:Option Nat)(t:Nat):Prop:=∀b,o=some b->T b=t
def vD(T:Nat->Nat)(lo:Nat)(o:Option Nat)(t:Nat):Nat->Nat:=fun b=>if lo<=b/\o=some b then t else T b
def vv(lo hi:Nat)(a b:Option Nat):Prop:=b=a\/∃k,b=some k/\lo<=k/\k<hi
theorem zj{T:Nat->Nat}{lo:Nat}{o:Option Nat}{t b:Nat}(h:b<lo):vD T lo o t b=T b:=by
 unfold vD;rw[if_neg (by omega)]
theorem qf{T:Nat->Nat}{lo hi:Nat}{a b:Option Nat}{t:Nat}(h:vv lo hi a b)(ha:jH T a t):jH (vD T lo b t) b t:=by
 intro k hk
 unfold vD
 split
 ·rfl
 rename_i hn
 rcases h with h|⟨j,h,h1,_⟩
 ·exact ha k (by rw[<- h];exact hk)
 rw[h]at hk;cases hk;exact absurd ⟨h1,h⟩ hn
theorem jl{T:Nat->Nat}{lo:Nat}{o c:Option Nat}{t u:Nat}(hc:jH T c u)(hl:∀k,c=some k->k<lo):jH (vD T lo o t) c u:=by
 intro k hk;rw[zj (hl k hk)];exact hc k hk
theorem vi{T:Nat->Nat}{lo hi m:Nat}{a o:Option Nat}{t:Nat}(hT:∀b,T b≠0->b<m)(hm:m<=hi)(h:vv lo hi a o)(ha:∀k,a=some k->k<m):∀b,vD T lo o t b≠0->b<hi:=by
 intro b hb
 unfold vD at hb
 split at hb
 ·rename_i hn
  rcases h with h|⟨j,h,_,h2⟩
  ·have:=ha b (by rw[<- h];exact hn.2);omega
  have:=hn.2;rw[h]at this;cases this;exact h2
 have:=hT b hb;omega
structure vd(w:World)(T:Nat->Nat)(w':World)(T':Nat->Nat):Prop where
 only:jv (fun r=>T r≠0) w w'
 old:∀r,r<w.heap.size->T' r=T r
theorem vd.trans{w w1 w2:World}{T T1 T2:Nat->Nat}(h:vd w T w1 T1)(g:vd w1 T1 w2 T2):vd w T w2 T2 :=
 ⟨h.only.trans g.only (fun r hr hn=>by rw[<- h.old r hr];exact hn),fun r hr=>(g.old r (jnw hr h.only.size)).trans (h.old r hr)⟩
theorem vd.below{w w':World}{T:Nat->Nat}(h:Below w.heap.size w w'):vd w T w' T:=⟨jv.of_below h (jnd _),fun _ _=>rfl⟩
theorem vd.undrew{w w':World}{T T':Nat->Nat}(h:vd w.drew T w' T'):vd w T w' T':=⟨⟨h.only.os,h.only.tape,h.only.output,h.only.size,h.only.same⟩,h.old⟩
end Go.Proofs.YtpibhbjmcmfnmaaGreatDoor
namespace Go.Proofs.YtpibhbjmcmfnmaaGreatDoor.Vf
open Go.RowKit
theorem YF:(Tryz.prog.info? 101).map (fun i=>(i.zero,i.size,i.bytes))=some (some (.agg #[.int .i64 0,.string ⟨#[]⟩,.string ⟨#[]⟩,.string ⟨#[]⟩,.int .i64 0]),5,64):=by kernel_rfl
structure qM where
 kind:Nat
 name:ByteArray
 other:ByteArray
 bytes:ByteArray
 at_:Nat
def qM.cells(a:qM):List Value:=[.int .i64 a.kind,.string a.name,.string a.other,.string a.bytes,.int .i64 a.at_]
def jA(l:List qM):List Value:=l.flatMap qM.cells
theorem Jv(l:List qM)(a:qM):jA (l++[a])=jA l++a.cells:=by unfold jA;simp
structure Jw(g o:Nat)(cur:Array Value)(vw:Value)(n:Nat)(xs:List Value)(news:List Value)(size':Int)(w w':World):Prop where
 ex:∃v',ja w' g 98 ((cur.setIfInBounds (o+1) v').setIfInBounds (o+2) (.int .i64 size'))/\w'.ownsRow 0 101 5 v' (n+1) (xs++news)/\(v'.ownBlock=vw.ownBlock\/∃k,v'.ownBlock=some k/\w.heap.size<=k/\k<w'.heap.size)
 only:jv (fun r=>r=g\/some r=vw.ownBlock) w w'
theorem Jw.mk'{g o:Nat}{cur:Array Value}{vw v':Value}{n:Nat}{xs news:List Value}{size':Int}{w w':World}(hlt:g<w.heap.size)(hg:ja w' g 98 cur)(ho:w'.ownsRow 0 101 5 v' (n+1) (xs++news))(hne:vw.ownBlock≠some g)
  (hk:v'.ownBlock=vw.ownBlock\/∃k,v'.ownBlock=some k/\w.heap.size<=k/\k<w'.heap.size) (hon:jv (fun r=>some r=vw.ownBlock) w w') :
  Jw g o cur vw n xs news size' w ((w'.setCell ⟨g,o+1,none⟩ v').setCell ⟨g,o+2,none⟩ (.int .i64 size')):=by
 have hvg:v'.ownBlock≠some g:=by
  intro e
  rcases hk with h|⟨k,h,h2,_⟩
  ·exact hne (h.symm.trans e)
  rw[h]at e;cases e;omega
 refine⟨⟨v',(hg.set _ _).set _ _,jK (jK ho hvg _) hvg _,?_⟩,?_⟩
 ·simpa [World.setCell]using hk
 exact((hon.mono (S':=fun r=>r=g\/some r=vw.ownBlock) (fun r _ h=>.inr h)).setCell (p:=⟨g,o+1,none⟩) (.inl (.inl rfl)) _).setCell (p:=⟨g,o+2,none⟩) (.inl (.inl rfl)) _
theorem Jw.drew{g o:Nat}{cur:Array Value}{vw:Value}{n:Nat}{xs news:List Value}{size':Int}{w w':World}(h:Jw g o cur vw n xs news size' w w'):Jw g o cur vw n xs news size' w w'.drew:=⟨h.ex,h.only.drew⟩
theorem jg3(g o:Nat)(cur:Array Value)(vw:Value)(size:Nat)(n:Nat)(xs:List Value)(name other bytes:ByteArray)(at_:Nat)(w:World)
  (hg:ja w g 98 cur) (h1:cur[o+1]?=some vw) (h2:cur[o+2]?=some (.int .i64 size)) (hown:w.ownsRow 0 101 5 vw n xs) (hne:vw.ownBlock≠some g) (hn:n<=1000000) :
  Calls Tryz.prog 65 #[.pointer (some ⟨g,o,none⟩),.agg #[.int .i64 3,.string name,.string other,.string bytes,.int .i64 at_]] w fun e w'=>e=.returned (.tuple #[]) /\
   Jw g o cur vw n xs [.int .i64 3,.string name,.string other,.string bytes,.int .i64 at_] at_ w w':=by
 obtain⟨i0,hi,hz0,hz1,hz2⟩:=info_parts YF
 have c1:w.cell? ⟨g,o+1,none⟩=some vw:=by rw[hg.cell,h1]
 have hgl:=hg.lt
 have HO:=jnc hown
 have HE:=jnc hne
 clear hown hne
 go_enter Tryz.func65,Tryz.ntmps65
 go_wp2
 go_region_law ((refine jP rfl (.tmp 8) (.tmp 10) 48 rfl 101 i0 _ 5 64 Tryz.underlying48 hi hz0 hz1 hz2 rfl (by decide) vw n xs (by simp[Act.eval]) (by exact((HO.out.alloc _).alloc _).drew) ⟨w.heap.size+1,0,none⟩ 1 1 [.int .i64 3,.string name,.string other,.string bytes,.int .i64 at_] (by simp[Act.eval]) rfl (by have:=jS (w.alloc (.cells #[.int .i64 3,.string name,.string other,.string bytes,.int .i64 at_] 101)) 101 [.int .i64 3,.string name,.string other,.string bytes,.int .i64 at_];rw[jnB]at this;exact this) (by intro u hu;simp at hu;rcases hu with rfl | rfl | rfl | rfl | rfl<;>rfl) (by unfold maxLen;omega) (by omega) ?_);intro v' w' ho hgr hbk;obtain⟨⟨g',cap',rfl⟩,hg',hbx,hk,hon⟩:=qu hg HO.out HE.out ((((jne _ w).alloc (jnd _) _).alloc (by simp) _).drew) ho hgr hbk;have k1:=(hg'.cell (o+1)).trans h1;have kf1:=hg'.frozen (o+1);have k2:=(hg'.cell (o+2)).trans h2;have kf2:=hg'.frozen (o+2);have bx:ja w' w.heap.size 101 #[.int .i64 3,.string name,.string other,.string bytes,.int .i64 at_]:=(hbx _ (jnd _) (by simp;omega)).trans ((ja.new w _ _).alloc _);have b0:=bx.cell 0;have b3:=bx.cell 3;have b4:=bx.cell 4;simp at b0 b3 b4)
 all_goals
  go_wp2
  refine bodyPost_ret (v:=.tuple #[]) (by simp[results,Tryz.results65,go_sem]) rfl ⟨rfl,Jw.mk' hgl hg' ho HE.out hk hon⟩
theorem jcP(g o:Nat)(cur:Array Value)(vw:Value)(size:Nat)(n:Nat)(xs:List Value)(name other bytes:ByteArray)(at_:Nat)(w:World)
  (hg:ja w g 98 cur) (h1:cur[o+1]?=some vw) (h2:cur[o+2]?=some (.int .i64 size)) (hown:w.ownsRow 0 101 5 vw n xs) (hne:vw.ownBlock≠some g) (hn:n<=1000000) (hsz:size<=1000000) (hb:bytes.size<=1000000) :
  Calls Tryz.prog 65 #[.pointer (some ⟨g,o,none⟩),.agg #[.int .i64 2,.string name,.string other,.string bytes,.int .i64 at_]] w fun e w'=>e=.returned (.tuple #[]) /\
   Jw g o cur vw n xs [.int .i64 2,.string name,.string other,.string bytes,.int .i64 at_] ((size:Int)+(bytes.size:Int)) w w':=by
 obtain⟨i0,hi,hz0,hz1,hz2⟩:=info_parts YF
 have c1:w.cell? ⟨g,o+1,none⟩=some vw:=by rw[hg.cell,h1]
 have hgl:=hg.lt
 have HO:=jnc hown
 have HE:=jnc hne
 clear hown hne
 go_enter Tryz.func65,Tryz.ntmps65
 go_wp2
 go_region_law ((refine jP rfl (.tmp 8) (.tmp 10) 48 rfl 101 i0 _ 5 64 Tryz.underlying48 hi hz0 hz1 hz2 rfl (by decide) vw n xs (by simp[Act.eval]) (by exact((HO.out.alloc _).alloc _).drew) ⟨w.heap.size+1,0,none⟩ 1 1 [.int .i64 2,.string name,.string other,.string bytes,.int .i64 at_] (by simp[Act.eval]) rfl (by have:=jS (w.alloc (.cells #[.int .i64 2,.string name,.string other,.string bytes,.int .i64 at_] 101)) 101 [.int .i64 2,.string name,.string other,.string bytes,.int .i64 at_];rw[jnB]at this;exact this) (by intro u hu;simp at hu;rcases hu with rfl | rfl | rfl | rfl | rfl<;>rfl) (by unfold maxLen;omega) (by omega) ?_);intro v' w' ho hgr hbk;obtain⟨⟨g',cap',rfl⟩,hg',hbx,hk,hon⟩:=qu hg HO.out HE.out ((((jne _ w).alloc (jnd _) _).alloc (by simp) _).drew) ho hgr hbk;have k1:=(hg'.cell (o+1)).trans h1;have kf1:=hg'.frozen (o+1);have k2:=(hg'.cell (o+2)).trans h2;have kf2:=hg'.frozen (o+2);have bx:ja w' w.heap.size 101 #[.int .i64 2,.string name,.string other,.string bytes,.int .i64 at_]:=(hbx _ (jnd _) (by simp;omega)).trans ((ja.new w _ _).alloc _);have b0:=bx.cell 0;have b3:=bx.cell 3;have b4:=bx.cell 4;simp at b0 b3 b4)
 all_goals
  go_wp2
  go_region
  all_goals
   go_wp2
   go_end0
   exact⟨rfl,(Jw.mk' hgl hg' ho HE.out hk hon).drew⟩
end Go.Proofs.YtpibhbjmcmfnmaaGreatDoor.Vf
namespace Go.Proofs.YtpibhbjmcmfnmaaGreatDoor.Vf
open Go.RowKit
attribute [local go_sem] jT xo
structure Did(p:Nat)(cells:Value->Array Value)(v9:Value)(n:Nat)(xs news:List Value)(w w':World):Prop where
 ex:∃v',ja w' p 94 (cells v')/\w'.ownsRow 0 101 5 v' (n+1) (xs++news)/\(v'.ownBlock=v9.ownBlock\/∃k,v'.ownBlock=some k/\w.heap.size<=k/\k<w'.heap.size)
 only:jv (fun r=>r=p\/some r=v9.ownBlock) w w'
theorem Did.mk'{p:Nat}{units left:Int}{armed gone:Bool}{room:Int}{v5 v6 v7 v8 v9 v':Value}{n:Nat}{xs news:List Value}{w w1 w':World}(hlt:p<w.heap.size)(hx:jv (· = p) w w1)(hg:ja w' p 94 (jh units armed left gone room v5 v6 v7 v8 v9))
  (ho:w'.ownsRow 0 101 5 v' (n+1) (xs++news)) (hne:v9.ownBlock≠some p)
  (hk:v'.ownBlock=v9.ownBlock\/∃k,v'.ownBlock=some k/\w1.heap.size<=k/\k<w'.heap.size) (hon:jv (fun r=>some r=v9.ownBlock) w1 w') :
  Did p (jh units armed left gone room v5 v6 v7 v8) v9 n xs news w (w'.setCell ⟨p,9,none⟩ v'):=by
 have hs:=hx.size
 have hvg:v'.ownBlock≠some p:=by
  intro e
  rcases hk with h|⟨k,h,h2,_⟩
  ·exact hne (h.symm.trans e)
  rw[h]at e;cases e;omega
 refine⟨⟨v',by simpa [jh]using hg.set 9 v',jK ho hvg _,?_⟩,?_⟩
 ·rcases hk with h|⟨k,h,h2,h3⟩
  ·exact .inl h
  exact .inr ⟨k,h,by omega,by simpa [World.setCell]using h3⟩
 exact((hx.mono (S':=fun r=>r=p\/some r=v9.ownBlock) (fun r _ h=>.inl h)).trans hon (fun r _ h=>.inr h)).setCell (p:=⟨p,9,none⟩) (.inl (.inl rfl)) _
theorem jkO(p:Nat)(units left:Int)(gone:Bool)(room:Int)(v5 v6 v7 v8 v9:Value)(kind at_:Nat)(name other bytes:ByteArray)(w:World)
  (hd:ja w p 94 (jh units true left gone room v5 v6 v7 v8 v9)) (hu:0<=units) (hu2:units<=1000000000) (hl:left=0) :
  Calls Tryz.prog 62 #[.pointer (some ⟨p,0,none⟩),.agg #[.int .i64 kind,.string name,.string other,.string bytes,.int .i64 at_]] w fun e w' =>
   e=.returned (qm 3)/\ja w' p 94 (jh units true left true room v5 v6 v7 v8 v9)/\jv (· = p) w w':=by
 have C:=Yc p 94 units left true gone room v5 v6 v7 v8 v9 1 (w.alloc (.cells #[.int .i64 kind,.string name,.string other,.string bytes,.int .i64 at_] 101)) (hd.alloc _) (by omega) (by omega) hu (by omega) (by omega) (by omega)
 subst hl
 simp only[vg,Int.reduceLT,decide_true,Bool.or_true,if_true,Int.sub_zero,Int.add_zero,Bool.and_self]at C
 have HC:=jnc C
 clear C hd
 go_enter Tryz.func62,Tryz.ntmps62
 go_wp2_with fail
 refine HC.out.mono ?_
 rintro e w1 ⟨rfl,hd1,hon⟩
 have hon2:jv (· = p) w w1:=((jv.refl _ w).alloc _).trans hon (fun _ _ h=>h)
 clear HC hon
 go_wp2
 go_ret
 exact⟨rfl,hd1,hon2⟩
theorem jmD(p:Nat)(units left:Int)(armed gone:Bool)(room:Int)(v5 v6 v7 v8 v9:Value)(kind at_:Nat)(name other bytes:ByteArray)(n:Nat)(xs:List Value)(w:World)
  (hd:ja w p 94 (jh units armed left gone room v5 v6 v7 v8 v9)) (hu:0<=units) (hu2:units<=1000000000) (hl:0<=left) (hl2:left<=9223372036854775807) (ha:armed=false\/1<=left)
  (hown:w.ownsRow 0 101 5 v9 n xs) (hne:v9.ownBlock≠some p) (hn:n<=1000000) :
  Calls Tryz.prog 62 #[.pointer (some ⟨p,0,none⟩),.agg #[.int .i64 kind,.string name,.string other,.string bytes,.int .i64 at_]] w fun e w' =>
   e=.returned (qm 0)/\Did p (jh (units+1) armed (if armed then left-1 else left) gone room v5 v6 v7 v8) v9 n xs [.int .i64 kind,.string name,.string other,.string bytes,.int .i64 at_] w w':=by
 have C:=Yc p 94 units left armed gone room v5 v6 v7 v8 v9 1 (w.alloc (.cells #[.int .i64 kind,.string name,.string other,.string bytes,.int .i64 at_] 101)) (hd.alloc _) (by omega) (by omega) hu (by omega) (by omega) (by omega)
 have hsp:vg armed left 1=1:=by
  unfold vg
  rcases ha with rfl|h
  ·rfl
  simp;omega
 have hgo:(gone || (armed&&decide (left<1)))=gone:=by
  rcases ha with rfl|h
  ·simp
  have:decide (left<1)=false:=decide_eq_false (by omega)
  simp[this]
 rw[hsp,hgo]at C
 obtain⟨i0,hi,hz0,hz1,hz2⟩:=info_parts YF
 have hpl:=hd.lt
 have HC:=jnc C
 have HO:=jnc hown
 have HE:=jnc hne
 have HB:=jnc (ja.new w 101 #[.int .i64 kind,.string name,.string other,.string bytes,.int .i64 at_])
 clear C hd hsp hgo hown hne ha
 generalize (if armed then left-1 else left)=left' at *
 go_enter Tryz.func62,Tryz.ntmps62
 go_wp2_with fail
 refine HC.out.mono ?_
 rintro e w1 ⟨rfl,hd1,hon⟩
 have hon2:jv (· = p) w w1:=((jv.refl _ w).alloc _).trans hon (fun _ _ h=>h)
 have bx:ja w1 w.heap.size 101 #[.int .i64 kind,.string name,.string other,.string bytes,.int .i64 at_]:=HB.out.only hon (by omega)
 have ho1:Hid (w1.ownsRow 0 101 5 v9 n xs):=jN HO.out hon2 (fun b hb e=>HE.out (by rw[hb];exact congrArg some e))
 have b0:=bx.cell 0;have b1:=bx.cell 1;have b2:=bx.cell 2;have b3:=bx.cell 3;have b4:=bx.cell 4
 simp at b0 b1 b2 b3 b4
 have d9:w1.cell? ⟨p,9,none⟩=some v9:=hd1.cell 9
 have hpl1:=hd1.lt
 clear HC hon HB bx
 go_wp2
 go_region_law ((refine jP rfl (.tmp 15) (.tmp 17) 48 rfl 101 i0 _ 5 64 Tryz.underlying48 hi hz0 hz1 hz2 rfl (by decide) v9 n xs (by simp[Act.eval]) (by exact(ho1.out.alloc _).drew) ⟨w1.heap.size,0,none⟩ 1 1 [.int .i64 kind,.string name,.string other,.string bytes,.int .i64 at_] (by simp[Act.eval]) rfl (jS w1 101 [.int .i64 kind,.string name,.string other,.string bytes,.int .i64 at_]) (by intro u hu;simp at hu;rcases hu with rfl | rfl | rfl | rfl | rfl<;>rfl) (by unfold maxLen;omega) (by omega) ?_);intro v' w' ho hgr hbk;obtain⟨⟨g',cap',rfl⟩,hg',hbx,hk,hon⟩:=qu hd1 ho1.out HE.out (((jne _ w1).alloc (jnd _) _).drew) ho hgr hbk;have k9:w'.cell? ⟨p,9,none⟩=some v9:=hg'.cell 9;have kf9:=hg'.frozen 9)
 all_goals
  go_wp2
  go_ret
  exact⟨rfl,Did.mk' hpl hon2 hg' ho HE.out hk hon⟩
end Go.Proofs.YtpibhbjmcmfnmaaGreatDoor.Vf
namespace Go.Proofs.YtpibhbjmcmfnmaaGreatDoor.Vf
open Go.RowKit Go.Maps
attribute [local go_sem] jkb jlH
theorem Kl:(Tryz.prog.info? 118).map (fun i=>(i.zero,i.size,i.bytes))=some (some (.agg #[.string ⟨#[]⟩,.string ⟨#[]⟩,.int .i64 0]),3,40):=by kernel_rfl
def jaQ(w w':World)(a b:Option Nat):Prop:=b=a\/∃k,b=some k/\w.heap.size<=k/\k<w'.heap.size
structure JX(p:Nat)(cells:Value->Value->Value->Array Value)(v5 v6 v7:Value)(nm:Nat)(ls l:Dir)(n:Nat)(xs news:List Value)(w w':World):Prop where
 ex:∃v5' v6' v7',ja w' p 94 (cells v5' v6' v7')/\zR w' nm v5' ls/\zR w' nm v6' l/\v5' ≠ .map none/\v6' ≠ .map none/\w'.ownsRow 0 118 3 v7' (n+1) (xs++news) /\
  jaQ w w' (jt v5) (jt v5')/\jaQ w w' (jt v6) (jt v6')/\jaQ w w' v7.ownBlock v7'.ownBlock /\
  (∀k,jt v5'=some k->jt v6'≠some k)/\(∀k,jt v5'=some k->v7'.ownBlock≠some k)/\(∀k,jt v6'=some k->v7'.ownBlock≠some k)
 only:jv (fun r=>r=p\/some r=jt v6\/some r=v7.ownBlock) w w'
theorem JX.mk'{p b5 b6:Nat}{units left:Int}{armed gone:Bool}{room:Int}{v5 v6 v7 v8 v9 v':Value}{nm:Nat}{ls l:Dir}{n:Nat}{xs news:List Value}{w w1 w':World}(hlt:p<w.heap.size)
  (hx:jv (fun r=>r=p\/some r=jt v6) w w1) (hg:ja w' p 94 (jh units armed left gone room (.map (some b5)) (.map (some b6)) v7 v8 v9))
  (ho:w'.ownsRow 0 118 3 v' (n+1) (xs++news)) (hr:∀k,v7.ownBlock=some k->k<w.heap.size)
  (hk:v'.ownBlock=v7.ownBlock\/∃k,v'.ownBlock=some k/\w1.heap.size<=k/\k<w'.heap.size) (hon:jv (fun r=>some r=v7.ownBlock) w1 w')
  (h5:zR w1 nm (.map (some b5)) ls) (h6:w1.ownsMap Tryz.prog 9 (plainElem Tryz.prog 3) b6 nm (zY l))
  (a1:v7.ownBlock≠some p) (a2:b6≠p) (a3:v7.ownBlock≠some b6) (a4:b5≠p) (a5:b5≠b6) (a6:v7.ownBlock≠some b5)
  (s5:jt v5=some b5\/w.heap.size<=b5) (s6:jt v6=some b6\/w.heap.size<=b6) :
  JX p (fun x y z=>jh units armed left gone room x y z v8 v9) v5 v6 v7 nm ls l n xs news w (w'.setCell ⟨p,7,none⟩ v'):=by
 have hs:=hx.size
 have hs2:=hon.size
 have l5:b5<w1.heap.size:=h5.lt _ rfl
 have l6:b6<w1.heap.size:=h6.lt
 have key:∀b,b<w1.heap.size->v7.ownBlock≠some b->v'.ownBlock≠some b:=by
  intro b hb hne e
  rcases hk with h|⟨k,h,h2,_⟩
  ·exact hne (h.symm.trans e)
  rw[h]at e;cases e;omega
 have m5:zR (w'.setCell ⟨p,7,none⟩ v') nm (.map (some b5)) ls:=h5.same fun b hb=>by
  cases hb
  exact(jnE _ _ _ _ a4).trans (hon.same b5 l5 (fun e=>a6 e.symm))
 have m6:zR (w'.setCell ⟨p,7,none⟩ v') nm (.map (some b6)) l:=(show zR w1 nm (.map (some b6)) l from .inr ⟨b6,rfl,h6⟩).same fun b hb=>by
  cases hb
  exact(jnE _ _ _ _ a2).trans (hon.same b6 l6 (fun e=>a3 e.symm))
 have hz:(w'.setCell ⟨p,7,none⟩ v').heap.size=w'.heap.size:=by simp[World.setCell]
 refine⟨⟨.map (some b5),.map (some b6),v',by simpa [jh]using hg.set 7 v',m5,m6,by simp,by simp,jK ho (key p (by omega) a1) _,?_,?_,?_,?_,?_,?_⟩,?_⟩
 ·rcases s5 with h|h
  ·exact .inl h.symm
  exact .inr ⟨b5,rfl,h,by rw[hz];omega⟩
 ·rcases s6 with h|h
  ·exact .inl h.symm
  exact .inr ⟨b6,rfl,h,by rw[hz];omega⟩
 ·rcases hk with h|⟨k,h,h2,h3⟩
  ·exact .inl h
  exact .inr ⟨k,h,by omega,by rw[hz];exact h3⟩
 ·intro k hk5 hk6;cases hk5;cases hk6;exact a5 rfl
 ·intro k hk5;cases hk5;exact key b5 l5 a6
 ·intro k hk5;cases hk5;exact key b6 l6 a3
 refine jv.setCell (p:=⟨p,7,none⟩) ?_ (.inl (.inl rfl)) _
 exact(hx.mono (S':=fun r=>r=p\/some r=jt v6\/some r=v7.ownBlock) (fun r _ h=>by rcases h with h | h;exact .inl h;exact .inr (.inl h))).trans hon (fun r _ h=>.inr (.inr h))
theorem jdO(p:Nat)(units left:Int)(armed gone:Bool)(room:Int)(b5 b6:Nat)(v7 v8 v9:Value)(nm:Nat)(ls l:Dir)(n:Nat)(xs:List Value)(off on:ByteArray)(file:Nat)(w:World)
  (hd:ja w p 94 (jh units armed left gone room (.map (some b5)) (.map (some b6)) v7 v8 v9)) (h5:zR w nm (.map (some b5)) ls) (h6:w.ownsMap Tryz.prog 9 (plainElem Tryz.prog 3) b6 nm (zY l))
  (hown:w.ownsRow 0 118 3 v7 n xs) (a1:v7.ownBlock≠some p) (a2:b6≠p) (a3:v7.ownBlock≠some b6) (a4:b5≠p) (a5:b5≠b6) (a6:v7.ownBlock≠some b5)
  (hnm:nm<=1000000) (hn:n<=1000000) (h1:off.size<=1000000) (h2:on.size<=1000000) (hf:file<=1000000) :
  Calls Tryz.prog 63 #[.pointer (some ⟨p,5,none⟩),.agg #[.string off,.string on,.int .i64 file]] w fun e w'=>e=.returned (.tuple #[]) /\
   JX p (fun x y z=>jh units armed left gone room x y z v8 v9) (.map (some b5)) (.map (some b6)) v7 (nm+1) ls (ve off.data.toList on.data.toList file l) n xs [.string off,.string on,.int .i64 file] w w':=by
 obtain⟨i0,hi,hz0,hz1,hz2⟩:=info_parts Kl
 have hpl:=hd.lt
 have d6:w.cell? ⟨p,6,none⟩=some (.map (some b6)):=hd.cell 6
 have C:=fun W (hb:Below w.heap.size w W)=>Xd off on file b6 nm l W (by
  obtain⟨es,clock,hk,r⟩:=h6
  exact⟨es,clock,(hb.block b6 (Array.getElem?_eq_some_iff.1 hk).1).trans hk,r⟩) hnm h1 h2 hf
 have HC:=jnc C
 have H6:=jnc h6
 have H5:=jnc h5
 have HO:=jnc hown
 have A1:=jnc a1;have A2:=jnc a2;have A3:=jnc a3;have A4:=jnc a4;have A5:=jnc a5;have A6:=jnc a6
 clear C h6 h5 hown a1 a2 a3 a4 a5 a6
 go_enter Tryz.func63,Tryz.ntmps63
 go_wp2
 go_region_law ((go_simp;go_at_call 89;refine(HC.out _ (((jne _ w).alloc (jnd _) _).drew)).mono ?_;rintro e w1 ⟨rfl,hm1,hon1⟩))
 all_goals
  have hxb:jv (· = b6) w w1:=(((jv.refl (· = b6) w).alloc _).drew).trans hon1 (fun r _ h=>h)
  have hd1:ja w1 p 94 _:=hd.only hxb (fun e=>A2.out e.symm)
  have bx:ja w1 w.heap.size 118 #[.string off,.string on,.int .i64 file]:=((ja.new w 118 #[.string off,.string on,.int .i64 file]).drew).only hon1 (fun e=>by have:=H6.out.lt;omega)
  have b0:=bx.cell 0;have b1:=bx.cell 1;have b2:=bx.cell 2
  simp at b0 b1 b2
  have ho1:Hid (w1.ownsRow 0 118 3 v7 n xs):=jN HO.out hxb (fun b hb e=>A3.out (by rw[hb];exact congrArg some e))
  have d7:w1.cell? ⟨p,7,none⟩=some v7:=hd1.cell 7
  have hpl1:=hd1.lt
  have HM:=jnc hm1
  have HX:=jnc hxb
  clear hm1 hxb hon1 bx
  go_wp2
  go_region_law ((refine jP rfl (.tmp 27) (.tmp 29) 89 rfl 118 i0 _ 3 40 Tryz.underlying89 hi hz0 hz1 hz2 rfl (by decide) v7 n xs (by simp[Act.eval]) (by exact(ho1.out.alloc _).drew) ⟨w1.heap.size,0,none⟩ 1 1 [.string off,.string on,.int .i64 file] (by simp[Act.eval]) rfl (jS w1 118 [.string off,.string on,.int .i64 file]) (by intro u hu;simp at hu;rcases hu with rfl | rfl | rfl<;>rfl) (by unfold maxLen;omega) (by omega) ?_);intro v' w' ho hgr hbk;obtain⟨⟨g',cap',rfl⟩,hg',hbx,hk,hon⟩:=qu hd1 ho1.out A1.out (((jne _ w1).alloc (jnd _) _).drew) ho hgr hbk;have k7:w'.cell? ⟨p,7,none⟩=some v7:=hg'.cell 7;have kf7:=hg'.frozen 7)
  all_goals
   go_wp2
   go_end0
   refine⟨rfl,JX.mk' hpl (HX.out.mono fun r _ h=>.inr (by rw[h];rfl)) hg' ho (fun k hk=>(HO.out.lt k hk).2) hk hon ((H5.out.only HX.out (fun b hb e=>A5.out (by cases hb;exact e))).mono (jow _)) HM.out A1.out A2.out A3.out A4.out A5.out A6.out (.inl rfl) (.inl rfl)⟩
theorem jdP(p:Nat)(units left:Int)(armed gone:Bool)(room:Int)(v7 v8 v9:Value)(nm:Nat)(n:Nat)(xs:List Value)(off on:ByteArray)(file:Nat)(w:World)
  (hd:ja w p 94 (jh units armed left gone room (.map none) (.map none) v7 v8 v9))
  (hown:w.ownsRow 0 118 3 v7 n xs) (a1:v7.ownBlock≠some p)
  (hnm:nm<=1000000) (hn:n<=1000000) (h1:off.size<=1000000) (h2:on.size<=1000000) (hf:file<=1000000) :
  Calls Tryz.prog 63 #[.pointer (some ⟨p,5,none⟩),.agg #[.string off,.string on,.int .i64 file]] w fun e w'=>e=.returned (.tuple #[]) /\
   JX p (fun x y z=>jh units armed left gone room x y z v8 v9) (.map none) (.map none) v7 (nm+1) [] (ve off.data.toList on.data.toList file []) n xs [.string off,.string on,.int .i64 file] w w':=by
 obtain⟨i0,hi,hz0,hz1,hz2⟩:=info_parts Kl
 have hpl:=hd.lt
 have d5:w.cell? ⟨p,5,none⟩=some (.map none):=hd.cell 5
 have d6:w.cell? ⟨p,6,none⟩=some (.map none):=hd.cell 6
 have f5:=hd.frozen 5
 have f6:=hd.frozen 6
 have C:=fun W (hm:W.ownsMap Tryz.prog 9 (plainElem Tryz.prog 3) (w.heap.size+1+1) nm (zY []))=>Xd off on file (w.heap.size+1+1) nm [] W hm hnm h1 h2 hf
 have HC:=jnc C
 have HO:=jnc hown
 have A1:=jnc a1
 clear C hown a1
 have hmm:=@run_makeMap Tryz.prog
 have g1:=((hd.alloc (.cells #[.string off,.string on,.int .i64 file] 118)).alloc (.map #[] 0)).alloc (.map #[] 0)
 have g2:=g1.set 5 (.map (some (w.heap.size+1)))
 have q5:=g1.cell 5
 have q6:=g2.cell 6
 have q5f:=g1.frozen 5
 have q6f:=g2.frozen 6
 simp[jh]at q5 q6
 have g3:=g2.set 6 (.map (some (w.heap.size+1+1)))
 have hsz:((w.alloc (.cells #[.string off,.string on,.int .i64 file] 118)).alloc (.map #[] 0)).heap.size=w.heap.size+1+1:=by simp
 have hsz1:(w.alloc (.cells #[.string off,.string on,.int .i64 file] 118)).heap.size=w.heap.size+1:=by simp
 have m5:(w.alloc (.cells #[.string off,.string on,.int .i64 file] 118) |>.alloc (.map #[] 0)).ownsMap Tryz.prog 9 (plainElem Tryz.prog 3) (w.heap.size+1) nm (zY []):=by
  have:=World.ownsMap_made (H:=Unit) (w.alloc (.cells #[.string off,.string on,.int .i64 file] 118)) Tryz.prog 9 (plainElem Tryz.prog 3)
  rw[hsz1]at this;exact this.mono (jnt _)
 have m6:((w.alloc (.cells #[.string off,.string on,.int .i64 file] 118) |>.alloc (.map #[] 0)).alloc (.map #[] 0)).ownsMap Tryz.prog 9 (plainElem Tryz.prog 3) (w.heap.size+1+1) nm (zY []):=by
  have:=World.ownsMap_made (H:=Unit) ((w.alloc (.cells #[.string off,.string on,.int .i64 file] 118)).alloc (.map #[] 0)) Tryz.prog 9 (plainElem Tryz.prog 3)
  rw[hsz]at this;exact this.mono (jnt _)
 obtain⟨W0,hW0,hd0,bx,hm5,hm6,hon0⟩:∃W0,((((w.alloc (.cells #[.string off,.string on,.int .i64 file] 118)).alloc (.map #[] 0)).alloc (.map #[] 0)).setCell ⟨p,5,none⟩ (.map (some (w.heap.size+1)))).setCell ⟨p,6,none⟩ (.map (some (w.heap.size+1+1)))=W0 /\
   ja W0 p 94 (jh units armed left gone room (.map (some (w.heap.size+1))) (.map (some (w.heap.size+1+1))) v7 v8 v9)/\ja W0 w.heap.size 118 #[.string off,.string on,.int .i64 file] /\
   W0.ownsMap Tryz.prog 9 (plainElem Tryz.prog 3) (w.heap.size+1) nm (zY [])/\W0.ownsMap Tryz.prog 9 (plainElem Tryz.prog 3) (w.heap.size+1+1) nm (zY [])/\jv (· = p) w W0:=by
  refine⟨_,rfl,by simpa [jh]using g3,?_,?_,?_,?_⟩
  ·exact((((ja.new w _ _).alloc _).alloc _).other (p:=⟨p,5,none⟩) (by show _≠p;omega) _).other (p:=⟨p,6,none⟩) (by show _≠p;omega) _
  ·exact((m5.alloc _).setCell (a:=⟨p,5,none⟩) (by show _≠p;omega) _).setCell (a:=⟨p,6,none⟩) (by show _≠p;omega) _
  ·exact(m6.setCell (a:=⟨p,5,none⟩) (by show _≠p;omega) _).setCell (a:=⟨p,6,none⟩) (by show _≠p;omega) _
  exact(((((jv.refl (· = p) w).alloc _).alloc _).alloc _).cellS 5 _).cellS 6 _
 have HW:=jnc hW0
 have hpl0:=hd0.lt
 have e6:W0.cell? ⟨p,6,none⟩=some (.map (some (w.heap.size+1+1))):=hd0.cell 6
 have b0:=bx.cell 0;have b1:=bx.cell 1;have b2:=bx.cell 2
 simp at b0 b1 b2
 have M5:=jnc hm5;have M6:=jnc hm6;have BX:=jnc bx
 clear g1 g2 g3 hsz hsz1 m5 m6 hW0 hm5 hm6 bx
 go_enter Tryz.func63,Tryz.ntmps63
 go_wp2
 rw[HW.out]
 clear hmm q5 q6 q5f q6f d5 d6 f5 f6 HW
 go_region_law ((go_simp;go_at_call 89;refine(HC.out _ M6.out.drew).mono ?_;rintro e w1 ⟨rfl,hm1,hon1⟩))
 all_goals
  have hxb:jv (· = w.heap.size+1+1) W0 w1:=((jv.refl (· = w.heap.size+1+1) W0).drew).trans hon1 (fun r _ h=>h)
  have hd1:ja w1 p 94 _:=hd0.only hxb (fun e=>by omega)
  have bx:ja w1 w.heap.size 118 #[.string off,.string on,.int .i64 file]:=BX.out.only hxb (fun e=>by omega)
  have b0:=bx.cell 0;have b1:=bx.cell 1;have b2:=bx.cell 2
  simp at b0 b1 b2
  have ho0:=jN HO.out hon0 (fun b hb e=>A1.out (by rw[hb];exact congrArg some e))
  have ho1:Hid (w1.ownsRow 0 118 3 v7 n xs):=jN ho0 hxb (fun b hb e=>by have:=(HO.out.lt b hb).2;omega)
  have d7:w1.cell? ⟨p,7,none⟩=some v7:=hd1.cell 7
  have hpl1:=hd1.lt
  have HM:=jnc hm1
  have hx:jv (fun r=>r=p\/some r=jt (.map none)) w w1:=(hon0.mono (S':=fun r=>r=p\/some r=jt (.map none)) (fun r _ h=>.inl h)).trans hxb (fun r h e=>by omega)
  have HX:=jnc hx
  have m5':zR w1 (nm+1) (.map (some (w.heap.size+1))) []:=((show zR W0 nm _ [] from .inr ⟨_,rfl,M5.out⟩).only hxb (fun b hb e=>by cases hb;omega)).mono (jow _)
  have H5:=jnc m5'
  clear hm1 hxb hon1 bx ho0 hx m5'
  go_wp2
  go_region_law ((refine jP rfl (.tmp 27) (.tmp 29) 89 rfl 118 i0 _ 3 40 Tryz.underlying89 hi hz0 hz1 hz2 rfl (by decide) v7 n xs (by simp[Act.eval]) (by exact(ho1.out.alloc _).drew) ⟨w1.heap.size,0,none⟩ 1 1 [.string off,.string on,.int .i64 file] (by simp[Act.eval]) rfl (jS w1 118 [.string off,.string on,.int .i64 file]) (by intro u hu;simp at hu;rcases hu with rfl | rfl | rfl<;>rfl) (by unfold maxLen;omega) (by omega) ?_);intro v' w' ho hgr hbk;obtain⟨⟨g',cap',rfl⟩,hg',hbx,hk,hon⟩:=qu hd1 ho1.out A1.out (((jne _ w1).alloc (jnd _) _).drew) ho hgr hbk;have k7:w'.cell? ⟨p,7,none⟩=some v7:=hg'.cell 7;have kf7:=hg'.frozen 7)
  all_goals
   go_wp2
   go_end0
   have hv7:∀b,w.heap.size<=b->v7.ownBlock≠some b:=fun b hb e=>by have:=(HO.out.lt b e).2;omega
   refine⟨rfl,JX.mk' hpl HX.out hg' ho (fun k hk=>(HO.out.lt k hk).2) hk hon H5.out HM.out A1.out (by omega) (hv7 _ (by omega)) (by omega) (by omega) (hv7 _ (by omega)) (.inr (by omega)) (.inr (by omega))⟩
theorem KB(b n:Nat)(l:Dir)(w:World)(ho:w.ownsMap Tryz.prog 9 (plainElem Tryz.prog 3) b n (zY l)):
  Calls Tryz.prog 87 #[.map (some b)] w fun e w'=>e=.returned (.map (some w.heap.size))/\w'.ownsMap Tryz.prog 9 (plainElem Tryz.prog 3) w.heap.size n (zY l)/\Below w.heap.size w w'/\w'.heap.size=w.heap.size+1:=by
 obtain⟨es,clock,hb,F,hs,hD⟩:=ho
 have fin:Calls Tryz.prog 87 #[.map (some b)] w fun e w'=>e=.returned (.map (some w.heap.size))/\w'=w.alloc (.map es clock):=by
  clear F hs hD
  go_enter Tryz.func87,Tryz.ntmps87
  go_wp2
  rw[run_callFunc_extern Tryz.func127 (by kernel_rfl) (by kernel_rfl) (by kernel_rfl) (e:=Extern.MapsClone.clone) (by kernel_rfl),run_maps_clone_sl w 88 hb]
  simp only[Result.andThen]
  rw[Oper.upon_value]
  go_wp2
  rw[run_typeAssert_map_sl _ 88 20 _ _ _ Tryz.underlying88]
  simp only[Result.andThen]
  rw[Oper.upon_value]
  go_wp2
  go_ret
  exact⟨rfl,rfl⟩
 refine fin.mono fun e w' ⟨he,hw⟩ => ?_
 subst hw
 exact⟨he,⟨es,clock,(MapKept.heap_alloc w _).1,F,hs,hD⟩,(jne _ w).alloc (jnd _) _,by simp⟩
theorem jd0(w:World):Calls Tryz.prog 87 #[.map none] w fun e w'=>e=.returned (.map none)/\w=w':=by
 go_enter Tryz.func87,Tryz.ntmps87
 go_wp2
 go_ret
 exact⟨rfl,rfl⟩
def jU(l:List zo):List Value:=l.flatMap zo.cells
def zX(cs:List zo)(l:Dir):Dir:=cs.foldl (fun l c=>ve c.off.data.toList c.on.data.toList c.file l) l
theorem jd3(cs:List zo)(k:Nat)(h:k<cs.length):(jU cs)[k*3]?=some (.string cs[k].off)/\(jU cs)[k*3+1]?=some (.string cs[k].on)/\(jU cs)[k*3+2]?=some (.int .i64 cs[k].file):=by
 induction cs generalizing k with
 | nil=>simp at h
 | cons c cs ih =>
 have e:jU (c::cs)=[.string c.off,.string c.on,.int .i64 c.file]++jU cs:=rfl
 rw[e]
 cases k with
 | zero=>exact⟨rfl,rfl,rfl⟩
 | succ k =>
 have:=ih k (by simpa using h)
 simp only[List.getElem_cons_succ]
 rw[jnz (by simp;omega),jnz (by simp;omega),jnz (by simp;omega)]
 simp only[jni,jnG]
 rw[show(k+1)*3-(0+1+1+1)=k*3 by omega,show(k+1)*3+1-(0+1+1+1)=k*3+1 by omega,show(k+1)*3+2-(0+1+1+1)=k*3+2 by omega]
 exact this
theorem yH{w:World}{base:Nat}{e:TypeId}{size:Nat}{g n cap:Nat}{xs:List Value}(h:w.ownsRow base e size (.slice (some ⟨g,0,none⟩) n cap) n xs){j:Nat}{u:Value}(hj:xs[j]?=some u):w.cell? ⟨g,j,none⟩=some u:=by
 have:=h.cells (g:=g) rfl j u hj
 have e:(⟨g,0,none⟩:Addr).add j=⟨g,j,none⟩:=by unfold Addr.add;split<;>simp_all
 rwa [e]at this
structure jgT(p:Nat)(cells:Value->Value->Array Value)(v5:Value)(nm:Nat)(l:Dir)(w w':World):Prop where
 ex:∃v6',ja w' p 94 (cells v6' (.slice none 0 0))/\zR w' nm v5 l/\zR w' nm v6' l/\(v5=.map none↔v6'=.map none)/\(jt v6'=none\/∃k,jt v6'=some k/\w.heap.size<=k/\k<w'.heap.size)
 only:jv (fun r=>r=p\/some r=jt v5) w w'
def vF(n:Int)(m:Nat):Nat:=min n.toNat m
theorem jdS(p:Nat)(units left:Int)(armed gone:Bool)(room:Int)(b5:Nat)(v6 v8 v9:Value)(nm:Nat)(ls:Dir)(g cap:Nat)(cs:List zo)(n:Int)(w:World)
  (hd:ja w p 94 (jh units armed left gone room (.map (some b5)) v6 (.slice (some ⟨g,0,none⟩) cs.length cap) v8 v9)) (h5:w.ownsMap Tryz.prog 9 (plainElem Tryz.prog 3) b5 nm (zY ls))
  (hown:w.ownsRow 0 118 3 (.slice (some ⟨g,0,none⟩) cs.length cap) cs.length (jU cs)) (a1:g≠p) (a2:b5≠p) (a3:g≠b5)
  (hnm:nm+cs.length<=1000000) (hs:∀c∈cs,c.off.size<=1000000/\c.on.size<=1000000/\c.file<=1000000) (hw:(Lit.int .i64 n).wf=true) :
  Calls Tryz.prog 50 #[.pointer (some ⟨p,5,none⟩),.int .i64 n] w fun e w'=>e=.returned (.tuple #[]) /\
   jgT p (fun x y=>jh units armed left gone room (.map (some b5)) x y v8 v9) (.map (some b5)) (nm+cs.length) (zX (cs.take (vF n cs.length)) ls) w w':=by
 have hn : -9223372036854775808<=n/\n<=9223372036854775807:=by
  simpa [Lit.wf,IntKind.min,IntKind.max,IntKind.signed,IntKind.bits]using hw
 obtain⟨hn1,hn2⟩:=hn
 have hkle:vF n cs.length<=cs.length:=Nat.min_le_right _ _
 have hm:(min (max n 0) (cs.length:Int))=(vF n cs.length:Int):=by unfold vF;omega
 have hcapn:cs.length<=cap/\cap<=maxLen:=by
  rcases hown.2 with ⟨h,_⟩|⟨_,_,_,h,_,_,h1,h2,_⟩
  ·cases h
  cases h;exact⟨h1,h2⟩
 obtain⟨hc1,hc2⟩:=hcapn
 have d7:w.cell? ⟨p,7,none⟩=some (.slice (some ⟨g,0,none⟩) cs.length cap):=hd.cell 7
 have hpl:=hd.lt
 have HO:=jnc hown
 have H5:=jnc h5
 have HS:=jnc hs
 clear hown h5 hs
 go_enter Tryz.func50,Tryz.ntmps50
 go_wp2
 go_quiet (fail)
 go_wp2
 go_loopw [20] (fun i wr=>∃k:Nat,k<=vF n cs.length/\i=.int .i64 k/\wr.ownsMap Tryz.prog 9 (plainElem Tryz.prog 3) b5 (nm+k) (zY (zX (cs.take k) ls))/\jv (· = b5) w wr) (fun i _=>vF n cs.length-(intOf i).toNat)
 case atStart=>exact⟨0,jnt _,rfl,H5.out,(jv.refl (· = b5) w).drewN nq⟩
 case round =>
 obtain⟨k,hk,rfl,hmk,honk⟩:=hrel
 by_cases hlt:k<vF n cs.length
 ·have hlt2:k<cs.length:=by omega
  obtain⟨q0,q1,q2⟩:=jd3 cs k hlt2
  have hr:=jN HO.out honk (fun b hb e=>a3 (by cases hb;exact e))
  have r0:=yH hr q0
  have r1:=yH hr q1
  have r2:=yH hr q2
  obtain⟨s1,s2,s3⟩:=HS.out cs[k] (jn8 hlt2)
  have ht:cs.take (k+1)=cs.take k++[cs[k]]:=by rw[joo hlt2]
  have hfold:zX (cs.take (k+1)) ls=ve cs[k].off.data.toList cs[k].on.data.toList cs[k].file (zX (cs.take k) ls):=by unfold zX;rw[ht,jps];rfl
  have HF:=jnc hfold
  have hd1:ja wr p 94 _:=hd.only honk (fun e=>a2 e.symm)
  have d5:wr.cell? ⟨p,5,none⟩=some (.map (some b5)):=hd1.cell 5
  have hpl1:=hd1.lt
  have HM:=jnc hmk
  have HN:=jnc honk
  have hgr:g<wr.heap.size:=(hr.lt g rfl).2
  generalize cs[k].off=off at *
  generalize cs[k].on=on at *
  generalize cs[k].file=file at *
  have C:=fun W (hm:W.ownsMap Tryz.prog 9 (plainElem Tryz.prog 3) b5 (nm+k) (zY (zX (cs.take k) ls)))=>Xd off on file b5 (nm+k) (zX (cs.take k) ls) W hm (by omega) s1 s2 s3
  have HC:=jnc C
  clear C q0 q1 q2 hfold ht hmk honk hr s1 s2 s3
  have hsz:=hn1
  go_wp2
  go_region_law ((go_simp;go_at_call 89;refine(HC.out _ ((HM.out.alloc _).drew)).mono ?_;rintro e w1 ⟨rfl,hm1,hon1⟩))
  all_goals
   have HM1:=jnc hm1
   have HN1:=jnc hon1
   clear hm1 hon1
   go_wp2
   go_roundw
   case rel=>exact⟨k+1,by omega,by go_num,by rw[HF.out];exact HM1.out,HN.out.trans ((((jv.refl (· = b5) wr).alloc _).drew).trans HN1.out (fun _ _ h=>h)) (fun _ _ h=>h)⟩
   case measure=>simp[intOf];omega
 obtain rfl:k=vF n cs.length:=by omega
 have hd1:ja wr p 94 _:=hd.only honk (fun e=>a2 e.symm)
 have d7':wr.cell? ⟨p,7,none⟩=some (.slice (some ⟨g,0,none⟩) cs.length cap):=hd1.cell 7
 have f7':=hd1.frozen 7
 have hd2:=hd1.set 7 (.slice none 0 0)
 have d5':=hd2.cell 5
 have d6':=hd2.cell 6
 simp[jh]at d5' d6'
 have HD2:=jnc hd2
 have HM:=jnc (hmk.mono (n':=nm+cs.length) (by omega))
 have HN:=jnc honk
 have C:=KB b5 (nm+cs.length) (zX (cs.take (vF n cs.length)) ls) (wr.setCell ⟨p,7,none⟩ (.slice none 0 0)) (HM.out.setCell (a:=⟨p,7,none⟩) a2 _)
 have HC:=jnc C
 clear hmk honk hd2 C
 go_wp2_with fail
 refine HC.out.mono ?_
 rintro e w2 ⟨rfl,hm2,hb2,hs2⟩
 have hz:(wr.setCell ⟨p,7,none⟩ (.slice none 0 0)).heap.size=wr.heap.size:=by simp[World.setCell]
 rw[hz]at hm2 hb2 hs2
 have hd3:=HD2.out.below hb2 hd1.lt
 have d6'':=hd3.cell 6
 have f6'':=hd3.frozen 6
 simp[jh]at d6''
 have hon2:jv (fun r=>r=p\/some r=jt (.map (some b5))) w w2 :=
  ((HN.out.mono (S':=fun r=>r=p\/some r=jt (.map (some b5))) (fun r _ h=>.inr (by rw[h];rfl))).setCell (p:=⟨p,7,none⟩) (.inl (.inl rfl)) _).below hb2 HN.out.size
 have hm5:w2.ownsMap Tryz.prog 9 (plainElem Tryz.prog 3) b5 (nm+cs.length) (zY (zX (cs.take (vF n cs.length)) ls)):=by
  obtain⟨es,clock,hk5,r⟩:=HM.out.setCell (a:=⟨p,7,none⟩) a2 (.slice none 0 0)
  exact⟨es,clock,(hb2.block b5 HM.out.lt).trans hk5,r⟩
 have P:=jnc (show jgT p (fun x y=>jh units armed left gone room (.map (some b5)) x y v8 v9) (.map (some b5)) (nm+cs.length) (zX (cs.take (vF n cs.length)) ls) w (w2.setCell ⟨p,6,none⟩ (.map (some wr.heap.size))) from by
  have hwl:=HN.out.size
  have hpw:=hd1.lt
  refine⟨⟨.map (some wr.heap.size),by simpa [jh]using hd3.set 6 (.map (some wr.heap.size)),.inr ⟨b5,rfl,hm5.setCell (a:=⟨p,6,none⟩) a2 _⟩,.inr ⟨_,rfl,hm2.setCell (a:=⟨p,6,none⟩) (by show _≠p;omega) _⟩,by simp,.inr ⟨_,rfl,hwl,by simp[World.setCell];omega⟩⟩,hon2.setCell (p:=⟨p,6,none⟩) (.inl (.inl rfl)) _⟩)
 clear HC HM HN HD2 hm2 hb2 hs2 hz hd3 hon2 hm5 d5' d6' d7' f7'
 go_wp2
 go_end0
 exact⟨rfl,P.out⟩
theorem xV(v:Value)(n:Nat)(l:Dir)(w:World)(h:zR w n v l):
  Calls Tryz.prog 87 #[v] w fun e w'=>∃v',e=.returned v'/\zR w' n v' l/\(v=.map none↔v'=.map none)/\(jt v'=none\/∃k,jt v'=some k/\w.heap.size<=k/\k<w'.heap.size)/\Below w.heap.size w w'/\∃o,v'=.map o:=by
 rcases h with ⟨rfl,rfl⟩|⟨b,rfl,ho⟩
 ·refine(jd0 w).mono ?_
  rintro e w' ⟨rfl,rfl⟩
  exact⟨_,rfl,.inl ⟨rfl,rfl⟩,Iff.rfl,.inl rfl,jne _ _,_,rfl⟩
 refine(KB b n l w ho).mono ?_
 rintro e w' ⟨rfl,hm,hb,hs⟩
 exact⟨_,rfl,.inr ⟨_,rfl,hm⟩,by simp,.inr ⟨_,rfl,jnd _,by omega⟩,hb,_,rfl⟩
theorem jgc(p:Nat)(units left:Int)(armed gone:Bool)(room:Int)(v5 v6 v8 v9:Value)(nm:Nat)(ls:Dir)(n:Int)(w:World)
  (hd:ja w p 94 (jh units armed left gone room v5 v6 (.slice none 0 0) v8 v9)) (h5:zR w nm v5 ls) (a2:jt v5≠some p) (hw:(Lit.int .i64 n).wf=true) :
  Calls Tryz.prog 50 #[.pointer (some ⟨p,5,none⟩),.int .i64 n] w fun e w'=>e=.returned (.tuple #[]) /\
   jgT p (fun x y=>jh units armed left gone room v5 x y v8 v9) v5 nm ls w w':=by
 have hn : -9223372036854775808<=n/\n<=9223372036854775807:=by
  simpa [Lit.wf,IntKind.min,IntKind.max,IntKind.signed,IntKind.bits]using hw
 obtain⟨hn1,hn2⟩:=hn
 have hm:(min (max n 0) (0:Int))=0:=by omega
 have d7:w.cell? ⟨p,7,none⟩=some (.slice none 0 0):=hd.cell 7
 have hpl:=hd.lt
 have H5:=jnc h5
 clear h5
 go_enter Tryz.func50,Tryz.ntmps50
 go_wp2
 go_quiet (fail)
 go_wp2
 go_loopw [20] (fun i wr=>i=.int .i64 0/\wr=w.drewN nq) (fun i _=>0)
 case atStart=>exact⟨rfl,rfl⟩
 case round =>
 obtain⟨rfl,rfl⟩:=hrel
 have hd1:ja (w.drewN nq) p 94 _:=hd.drewN nq
 have d7':(w.drewN nq).cell? ⟨p,7,none⟩=some (.slice none 0 0):=hd1.cell 7
 have f7':=hd1.frozen 7
 have hd2:=hd1.set 7 (.slice none 0 0)
 have d5':=hd2.cell 5
 have d6':=hd2.cell 6
 simp[jh]at d5' d6'
 have HD2:=jnc hd2
 have hm5:zR ((w.drewN nq).setCell ⟨p,7,none⟩ (.slice none 0 0)) nm v5 ls:=(H5.out.drewN nq).same fun b hb=>jnE _ _ _ _ (fun e=>a2 (by rw[hb];exact congrArg some e))
 have C:=xV v5 nm ls ((w.drewN nq).setCell ⟨p,7,none⟩ (.slice none 0 0)) hm5
 have HC:=jnc C
 have HM:=jnc hm5
 clear hd2 C hm5
 go_wp2_with fail
 refine HC.out.mono ?_
 rintro e w2 ⟨v',rfl,hm2,hv2,hk2,hb2,o,rfl⟩
 have hz:((w.drewN nq).setCell ⟨p,7,none⟩ (.slice none 0 0)).heap.size=w.heap.size:=by simp[World.setCell,World.drewN]
 rw[hz]at hb2 hk2
 have hd3:=HD2.out.below hb2 hd1.lt
 have d6'':=hd3.cell 6
 have f6'':=hd3.frozen 6
 simp[jh]at d6''
 have hon2:jv (fun r=>r=p\/some r=jt v5) w w2 :=
  (((jv.refl (fun r=>r=p\/some r=jt v5) w).drewN nq).setCell (p:=⟨p,7,none⟩) (.inl (.inl rfl)) _).below hb2 (jnd _)
 have P:=jnc (show jgT p (fun x y=>jh units armed left gone room v5 x y v8 v9) v5 nm ls w (w2.setCell ⟨p,6,none⟩ (.map o)) from by
  have hne:jt (.map o)≠some p:=by
   rcases hk2 with h|⟨k,h,h1,_⟩
   ·rw[h];simp
   rw[h];intro e;cases e;omega
  refine⟨⟨.map o,by simpa [jh]using hd3.set 6 (.map o),?_,hm2.same fun b hb=>jnE _ _ _ _ (fun e=>hne (by rw[hb];exact congrArg some e)),hv2,?_⟩,hon2.setCell (p:=⟨p,6,none⟩) (.inl (.inl rfl)) _⟩
  ·exact HM.out.same fun b hb=>(jnE _ _ _ _ (fun e=>a2 (by rw[hb];exact congrArg some e))).trans (hb2.block b (by have:=HM.out.lt b hb;rw[hz]at this;exact this))
  rcases hk2 with h|⟨k,h,h1,h2⟩
  ·exact .inl h
  exact .inr ⟨k,h,h1,by simpa [World.setCell]using h2⟩)
 clear HC HM HD2 hm2 hv2 hk2 hb2 hz hd3 hon2 d5' d6' d7' f7'
 go_wp2
 go_end0
 exact⟨rfl,P.out⟩
end Go.Proofs.YtpibhbjmcmfnmaaGreatDoor.Vf
