/- Texts put together:WP,AH,AJ,EN,EV. -/
import Derived.Test.YtpibhbjmcmfnmaaGreatDoorBag24
set_option linter.unusedVariables false
set_option maxRecDepth 100000
set_option maxHeartbeats 16000000
namespace Go.Proofs.YtpibhbjmcmfnmaaGreatDoor
open Go.RowKit Go.Shelf Tryz
section
attribute [local go_sem] jnn
def jct(p:List UInt8)(xs:List Ln):List UInt8:=xs.flatMap fun x=>Lib.trimPrefix x.text p++if x.ended then [10] else []
theorem jag(p:List UInt8)(pre:List Ln)(x:Ln):jct p (pre++[x])=jct p pre++Lib.trimPrefix x.text p++(Wx x.ended).data.toList:=by
 have e:(Wx x.ended).data.toList=if x.ended then [10] else []:=by unfold Wx;cases x.ended<;>rfl
 rw[e]
 simp[jct]
theorem WT(p:List UInt8):∀xs:List Ln,(jct p xs).length<=(xs.flatMap Ln.bytes).length
 | []=>by simp[jct]
 | x::xs=>by
  have ih:=WT p xs
  have h1:=Lib.trimPrefix_le x.text p
  have e:jct p (x::xs)=(Lib.trimPrefix x.text p++if x.ended then [10] else [])++jct p xs:=by simp[jct]
  rw[e,jnA]
  simp only[jnf,Ln.bytes]
  omega
theorem jjj(p:List UInt8)(xs:List Ln)(h:∀x∈xs,Lib.hasPrefix x.text p=true):dd p (xs.map KW)=(jct p xs,true):=by
 unfold dd
 rw[if_pos]
 ·rw[List.flatMap_map]
  congr 1
  unfold jct
  induction xs with
  | nil=>rfl
  | cons x xs ih =>
  rw[jnA,jnA,ih (fun y hy=>h y (jnm _ hy))]
  have:=h x jno
  simp only[Lib.trimPrefix,this,if_true,KW]
  rfl
 rw[jnZ]
 intro y hy
 obtain⟨x,hx,rfl⟩:=List.mem_map.1 hy
 exact h x hx
theorem jgi(p:List UInt8)(xs:List Ln)(x:Ln)(hx:x∈xs)(h:Lib.hasPrefix x.text p=false):dd p (xs.map KW)=([],false):=by
 unfold dd
 rw[if_neg]
 intro ha
 have:=(List.all_eq_true.1 ha) (KW x) (List.mem_map.2 ⟨x,hx,rfl⟩)
 have e:Lib.hasPrefix x.text p=true:=this
 rw[h]at e
 cases e
def Vc(w:World)(p:ByteArray)(W:World):Prop :=
 Boxed W w.heap.size 9 (.string p)/\Boxed W (w.heap.size+1) 9 (.string ⟨#[]⟩)/\Boxed W (w.heap.size+2) 4 (.bool false)/\Below w.heap.size w W
theorem Vc.turned{w:World}{p:ByteArray}{W W':World}{B k:Nat}(h:Vc w p W)(ht:zh B k W W')(hB:w.heap.size+2<B):Vc w p W' :=
 ⟨ht.box h.1 (.inl (by omega)),ht.box h.2.1 (.inl (by omega)),ht.box h.2.2.1 (.inl hB),h.2.2.2.trans (ht.below (by omega) h.2.2.2.size)⟩
theorem Vc.alloc{w:World}{p:ByteArray}{W:World}(h:Vc w p W)(o:Obj):Vc w p (W.alloc o):=⟨h.1.alloc _,h.2.1.alloc _,h.2.2.1.alloc _,h.2.2.2.alloc h.2.2.2.size _⟩
theorem Vc.wrote{w:World}{p:ByteArray}{W W':World}{b R:Nat}(h:Vc w p W)(ho:qK b R W W')(hb:w.heap.size+2<b)(hR:w.heap.size+2<R):Vc w p W' :=
 ⟨ho.box h.1 (by omega) (by omega),ho.box h.2.1 (by omega) (by omega),ho.box h.2.2.1 (by omega) (by omega),h.2.2.2.trans (ho.below (by omega) (by omega) h.2.2.2.size)⟩
def jmk(w:World)(p:ByteArray)(R:Nat)(pre:List Ln)(W:World):Prop :=
 Vc w p W/\Bld (w.heap.size+3) R (jct p.data.toList pre) W/\∀x∈pre,Lib.hasPrefix x.text p.data.toList=true
def jna(w:World)(p:ByteArray)(c:Code)(pre:List Ln)(W:World):Prop :=
 Vc w p W/\c=.ret/\∃x∈pre,Lib.hasPrefix x.text p.data.toList=false
theorem ji3(w W:World)(a b:ByteArray×Bool)(tmps:Array Value)(h4:Boxed W (w.heap.size+1) 9 (.string a.1))(h5:Boxed W (w.heap.size+2) 4 (.bool b.2))(hK:W.heap[w.heap.size+5]?=some (.deferred (some [])))(hB:Below w.heap.size w W)(t4:tmps[4]?=some (.pointer (some ⟨w.heap.size+1,0,none⟩)))(t5:tmps[5]?=some (.pointer (some ⟨w.heap.size+2,0,none⟩))):
  bodyPostM Fence.wide 9 prog Tryz.f249 (fun e w'=>e=.returned (.tuple #[.string a.1,.bool b.2])/\Below w.heap.size w w') .ret {tmps:=tmps,defers:=[{target:=.collected (w.heap.size+5),args:=#[]}]} W:=by
 have p1:=grownBy_putObj' W (w.heap.size+5) (.deferred none)
 have zW:w.heap.size+5<W.heap.size:=(Array.getElem?_eq_some_iff.1 hK).1
 have r4:Boxed (W.putObj (w.heap.size+5) (.deferred none)) (w.heap.size+1) 9 (.string a.1):=(p1.block _ (by omega) (fun e=>by have:=jng e;omega)).trans h4
 have r5:Boxed (W.putObj (w.heap.size+5) (.deferred none)) (w.heap.size+2) 4 (.bool b.2):=(p1.block _ (by omega) (fun e=>by have:=jng e;omega)).trans h5
 have c4:=r4.cell
 have c5:=r5.cell
 refine⟨by simp,.inl ⟨_,_,rfl,run_takeDeferred hK,?_⟩⟩
 exact⟨.tuple #[.string a.1,.bool b.2],by simp[results,Tryz.f249,go_sem,t4,t5,c4,c5],rfl,hB.trans (belowK_b (w:=w) (jnd _) W _ _ _ (by omega) hK rfl rfl)⟩
theorem jdU(s p:ByteArray)(hs:s.size<=1000000000)(w:World):
  Calls prog 249 #[.string s,.string p] w fun e w'=>e=.returned (.tuple #[.string ⟨(dd p.data.toList ((jf s.data.toList).map KW)).1.toArray⟩,.bool (dd p.data.toList ((jf s.data.toList).map KW)).2])/\Below w.heap.size w w':=by
 have hjl:((jf s.data.toList).flatMap Ln.bytes).length<=1000000000:=by rw[zg,<- jnu];exact hs
 obtain⟨xs,hxs⟩:∃xs,jf s.data.toList=xs:=⟨_,rfl⟩
 rw[hxs]at hjl ⊢
 have HXS:=jnc hxs
 clear hxs
 refine callsIn_wide (n:=9).1 ?_
 refine callsIn_of_wp_marks func249 rfl trivial ?_ rfl
 simp only[ntmps249,jnV,jni,jnG,Nat.reduceAdd,Nat.reduceSub,jn3,jn4,joa,jn5,jnU,jny]
 gi_wp2_with fail
 refine⟨trivial,(callsIn_wide.2 (yG s _)).mono ?_⟩
 rintro e w3 ⟨rfl,rfl⟩
 gi_wp2_with fail
 have k1:=joy w 9 (.string p)
 have k2:=xZ w (.cells #[.string p] 9) 9 (.string ⟨#[]⟩)
 have k3:=Qk w (.cells #[.string p] 9) (.cells #[.string ⟨#[]⟩] 9) 4 (.bool false)
 have kb:=Bld.new (((w.alloc (.cells #[.string p] 9)).alloc (.cells #[.string ⟨#[]⟩] 9)).alloc (.cells #[.bool false] 4)) (w.heap.size+10)
 have kz:(((w.alloc (.cells #[.string p] 9)).alloc (.cells #[.string ⟨#[]⟩] 9)).alloc (.cells #[.bool false] 4)).heap.size=w.heap.size+3:=by simp
 rw[kz]at kb
 have rooms:Vc w p (((w.alloc (.cells #[.string p] 9)).alloc (.cells #[.string ⟨#[]⟩] 9)).alloc (.cells #[.bool false] 4)) :=
  ⟨(k1.alloc _).alloc _,k2.alloc _,k3,((((jne _ w).alloc (jnd _) _).alloc (by simp) _).alloc (by simp;omega) _)⟩
 generalize ((w.alloc (.cells #[.string p] 9)).alloc (.cells #[.string ⟨#[]⟩] 9)).alloc (.cells #[.bool false] 4)=w1 at *
 have k7:=xZ w1 (.cells #[.pointer none,.slice none 0 0] 182) 9 (.string s)
 rw[kz]at k7
 have HH:=vf s (w.heap.size+4) _ k7 (by omega)
 rw[HXS.out]at HH
 have hz:((w1.alloc (.cells #[.pointer none,.slice none 0 0] 182)).alloc (.cells #[.string s] 9)).heap.size=w.heap.size+5:=by simp[kz]
 have ab:∀k,k<=5->zN (w.heap.size+5) k (jmk w p (w.heap.size+10)):=fun k hk pre W W' h ht =>
  ⟨h.1.turned ht (by omega),h.2.1.turned ht (by omega) (by omega),h.2.2⟩
 have init:jmk w p (w.heap.size+10) [] ((w1.alloc (.cells #[.pointer none,.slice none 0 0] 182)).alloc (.cells #[.string s] 9)) :=
  ⟨(rooms.alloc _).alloc _,kb.alloc _,fun x hx=>by cases hx⟩
 refine vW (gf:=139) (lb:=#[.pointer (some ⟨w.heap.size+4,0,none⟩)]) rfl (enters_of func139 (by kernel_rfl) rfl) HH (fun _=>rfl)
  (jmk w p (w.heap.size+10)) (jna w p) (by rw[hz];exact ab _ (by omega)) (fun c pre W W' h ht=>⟨h.1.turned ht (by rw[hz];omega),h.2⟩) init
  (fun a pre x a' W=>∃Bx,w.heap.size+5+5<=Bx/\a'={tmps:=(a.tmps.setIfInBounds 12 (.agg (vl x))).setIfInBounds 7 (.pointer (some ⟨Bx,0,none⟩)),defers:=[]}/\ja W Bx 164 (vl x) /\
   jmk w p (w.heap.size+10) pre W)
  ?hM ?assign ?body ?done ?stop
 case hM =>
  rw[hz]
  rintro a pre x a' _ W W' ⟨Bx,h1,h2,h3,h4⟩ ht
  exact⟨Bx,h1,h2,(ht.same Bx h3.lt (.inr (by omega))).trans h3,ab 2 (by omega) pre W W' h4 ht⟩
 case assign =>
  rw[hz]
  intro l pre x post W hx hsz hi
  clear hx
  dsimp only[vl]
  gi_wp2
  exact⟨(vT.refl _ _ W).alloc hsz _,W.heap.size,by omega,rfl,ja.new _ _ _,hi.1.alloc _,hi.2.1.alloc _,hi.2.2⟩
 case body =>
  rw[hz]
  rintro l pre x post a' W hx hsz ⟨Bx,hB,rfl,hc,h1,h2,h3⟩
  have hlen:=WT p.data.toList (pre++[x])
  have hlen2:((pre++[x]).flatMap Ln.bytes).length<=1000000000:=by
   rw[hx,show pre++x::post=(pre++[x])++post by simp,jnO,jnf]at hjl
   omega
  have hlen:=jns hlen hlen2
  rw[jag]at hlen
  simp only[jnf,<- jnu]at hlen
  have HS:=jnc (jag p.data.toList pre x)
  clear hx hjl hlen2
  simp only[jnq,jnM,jnN,vl]at hc ⊢
  have hne:Bx≠w.heap.size+3:=by omega
  obtain⟨en,hen⟩:∃en,x.ended=en:=⟨_,rfl⟩
  rw[hen]at hlen hc ⊢
  have c3:=h1.1.cell
  have p2:W.cell? ⟨Bx,2,none⟩=some (.string ⟨x.text.toArray⟩):=hc.cell 2
  gi_wp2_with fail
  refine⟨trivial,((callsIn_wide.2 (Tryz.strings_CutPrefix ⟨x.text.toArray⟩ p W)).inRound l).mono ?_⟩
  rintro e V ⟨rfl,rfl⟩
  have eh:Lib.hasPrefix (⟨x.text.toArray⟩:ByteArray).data.toList p.data.toList=Lib.hasPrefix x.text p.data.toList:=rfl
  have et:Lib.trimPrefix (⟨x.text.toArray⟩:ByteArray).data.toList p.data.toList=Lib.trimPrefix x.text p.data.toList:=rfl
  rw[eh,et]
  cases hp:Lib.hasPrefix x.text p.data.toList
  ·have c4:=h1.2.1.cell
   have f4:=h1.2.1.frozen
   have c5:V.cell? ⟨w.heap.size+1+1,0,none⟩=some (.bool false):=h1.2.2.1.cell
   have f5:V.frozen? ⟨w.heap.size+1+1,0,none⟩=false:=h1.2.2.1.frozen
   gi_wp2
   refine⟨((vT.refl _ _ _).setCell (.inl (by show w.heap.size+1<_;omega)) _).setCell (.inl (by show w.heap.size+1+1<_;omega)) _,?_,rfl,x,by simp,hp⟩
   refine⟨Jd (Jd h1.1 (by omega) _) (by omega) _,Jd (joi _ h1.2.1) (by omega) _,joi _ (Jd h1.2.2.1 (by omega) _),?_⟩
   exact(h1.2.2.2.setCell (p:=⟨w.heap.size+1,0,none⟩) (by show _<=w.heap.size+1;omega) _).setCell (p:=⟨w.heap.size+1+1,0,none⟩) (by show _<=w.heap.size+1+1;omega) _
  gi_wp2_with fail
  refine⟨trivial,((callsIn_wide.2 (Qv (w.heap.size+3) (w.heap.size+10) _ ⟨(Lib.trimPrefix x.text p.data.toList).toArray⟩ V h2 (by omega) (by omega) ?_)).inRound l).mono ?_⟩
  ·have e1:(⟨(Lib.trimPrefix x.text p.data.toList).toArray⟩:ByteArray).size=(Lib.trimPrefix x.text p.data.toList).length:=by simp[ByteArray.size]
   omega
  rintro e W2 ⟨rfl,b2,o2⟩
  have m2:ja W2 Bx 164 _:=o2.other hc hne (by decide)
  have z2:=o2.size
  have q0:W2.cell? ⟨Bx,0,none⟩=some (.int .i64 x.no):=m2.cell 0
  have q1:W2.cell? ⟨Bx,1,none⟩=some (.int .i64 x.at_):=m2.cell 1
  have q2:W2.cell? ⟨Bx,2,none⟩=some (.string ⟨x.text.toArray⟩):=m2.cell 2
  have q3:W2.cell? ⟨Bx,3,none⟩=some (.bool en):=m2.cell 3
  gi_wp2_with fail
  refine⟨trivial,((callsIn_wide.2 (jbf _ _ _ _ _)).inRound l).mono ?_⟩
  rintro e W3 ⟨rfl,rfl⟩
  gi_wp2_with fail
  refine⟨trivial,((callsIn_wide.2 (Qv (w.heap.size+3) (w.heap.size+10) _ (Wx en) _ (b2.alloc _) (by omega) (by simp;omega) ?_)).inRound l).mono ?_⟩
  ·simp only[jnf]
   omega
  rintro e W4 ⟨rfl,b3,o3⟩
  gi_wp2_with fail
  have oo:=(o2.alloc (.cells #[.int .i64 x.no,.int .i64 x.at_,.string ⟨x.text.toArray⟩,.bool en] 164)).trans o3
  refine⟨oo.stay (by omega) (by omega) (by omega),h1.wrote oo (by omega) (by omega),?_,?_⟩
  ·rw[HS.out,hen]
   exact b3
  intro y hy
  rcases List.mem_append.1 hy with h|h
  ·exact h3 y h
  rw[List.mem_singleton.1 h];exact hp
 case done =>
  rw[hz]
  rintro W ⟨h1,h2,h3⟩ hmark
  have zW:w.heap.size+5<W.heap.size:=(Array.getElem?_eq_some_iff.1 hmark).1
  gi_wp2_with fail
  refine⟨trivial,(callsIn_wide.2 (Tryz.Builder_String_any_k (w.heap.size+3) (w.heap.size+3) _ W (h2.library (by omega) (by omega)) (by omega))).mono ?_⟩
  rintro e W1 ⟨rfl,_,g2,g3⟩
  have hK:W1.heap[w.heap.size+5]?=some (.deferred (some [])):=g3 _ _ hmark (by simp) (fun c fz e=>by cases e)
  have b4:Boxed W1 (w.heap.size+1) 9 (.string ⟨#[]⟩):=jlr h1.2.1 g2 (by omega)
  have b5:Boxed W1 (w.heap.size+2) 4 (.bool false):=jlr h1.2.2.1 g2 (by omega)
  have hbel:Below w.heap.size w W1:=h1.2.2.2.trans (g2.mono (by omega))
  have c4:=b4.cell
  have f4:=b4.frozen
  have c5:W1.cell? ⟨w.heap.size+1+1,0,none⟩=some (.bool false):=b5.cell
  have f5:W1.frozen? ⟨w.heap.size+1+1,0,none⟩=false:=b5.frozen
  clear k1 k2 k3 kb k7 HH ab init rooms
  gi_wp2
  rw[jjj _ _ h3]
  obtain⟨W2,hW2⟩:∃W2,(W1.setCell ⟨w.heap.size+1,0,none⟩ (.string ⟨(jct p.data.toList xs).toArray⟩)).setCell ⟨w.heap.size+1+1,0,none⟩ (.bool true)=W2:=⟨_,rfl⟩
  have e4:Boxed W2 (w.heap.size+1) 9 (.string ⟨(jct p.data.toList xs).toArray⟩):=by rw[<- hW2];exact Jd (joi _ b4) (by omega) _
  have e5:Boxed W2 (w.heap.size+2) 4 (.bool true):=by rw[<- hW2];exact joi _ (Jd b5 (by omega) _)
  have eK:W2.heap[w.heap.size+5]?=some (.deferred (some [])):=by
   rw[<- hW2]
   exact(jnE _ _ _ _ (by show w.heap.size+5≠w.heap.size+1+1;omega)).trans ((jnE _ _ _ _ (by show w.heap.size+5≠w.heap.size+1;omega)).trans hK)
  have eB:Below w.heap.size w W2:=by
   rw[<- hW2]
   exact(hbel.setCell (p:=⟨w.heap.size+1,0,none⟩) (by show _<=w.heap.size+1;omega) _).setCell (p:=⟨w.heap.size+1+1,0,none⟩) (by show _<=w.heap.size+1+1;omega) _
  rw[hW2]
  exact ji3 w W2 (⟨(jct p.data.toList xs).toArray⟩,true) (⟨#[]⟩,true) _ e4 e5 eK eB rfl rfl
 case stop =>
 rw[hz]
 rintro c pre W hpre ⟨h1,rfl,x,hx,hp⟩ hmark
 gi_wp2
 rw[jgi _ _ x (hpre.subset hx) hp]
 exact ji3 w W (⟨#[]⟩,false) (⟨#[]⟩,false) _ h1.2.1 h1.2.2.1 hmark h1.2.2.2 rfl rfl
theorem jgJ(l:List UInt8)(w:World):Calls prog 198 #[.string (B l)] w fun e w'=>e=.returned (.int .i64 (Jt l))/\Below w.heap.size w w':=by
 obtain⟨wa,hwa⟩:∃wa,wa=w.alloc (.cells #[.int .i64 1,.int .i64 2,.int .i64 3] 3):=⟨_,rfl⟩
 have HB:Hid (Below w.heap.size w wa):=by show Below _ _ _;rw[hwa];exact(jne _ w).alloc (jnd _) _
 have c0:wa.cell? ⟨w.heap.size,0,none⟩=some (.int .i64 1):=by rw[hwa];simp
 have c1:wa.cell? ⟨w.heap.size,1,none⟩=some (.int .i64 2):=by rw[hwa];simp
 have c2:wa.cell? ⟨w.heap.size,2,none⟩=some (.int .i64 3):=by rw[hwa];simp
 have W1:=jnc (Ve 1 wa)
 have W2:=jnc (Ve 2 wa)
 have W3:=jnc (Ve 3 wa)
 have KD:=jnc (show Jt l=if l=qC 1 then 1 else if l=qC 2 then 2 else if l=qC 3 then 3 else 0 from rfl)
 have eq:∀k,((B (qC k)).toList==(B l).toList)=decide (l=qC k):=fun k=>by
  rw[jjl,jod,decide_eq_true_eq,decide_eq_true_eq];exact⟨fun h=>h.symm,fun h=>h.symm⟩
 have e1:=eq 1
 have e2:=eq 2
 have e3:=eq 3
 clear eq
 subst hwa
 go_enter func198,ntmps198
 go_wp2_with fail
 go_loopw [7] (fun i wr=>∃k:Nat,k<=3/\i=.int .i64 k/\wr=w.alloc (.cells #[.int .i64 1,.int .i64 2,.int .i64 3] 3)/\(1<=k->l≠qC 1)/\(2<=k->l≠qC 2)/\(3<=k->l≠qC 3)) (fun i _=>3-(intOf i).toNat)
 case atStart=>exact⟨0,jnt _,rfl,rfl,(by omega),(by omega),(by omega)⟩
 case round =>
 obtain⟨k,hk,rfl,hwr,n1,n2,n3⟩:=hrel
 subst hwr
 obtain rfl|rfl|rfl|rfl:k=0\/k=1\/k=2\/k=3:=by omega
 ·by_cases hq:l=qC 1
  ·rw[decide_eq_true hq]at e1
   have KD1:Hid (Jt l=1):=by show _=_;rw[KD.out,if_pos hq]
   clear n1 n2 n3 hq
   go_wp2_with fail
   refine W1.out.mono ?_
   rintro e w2 ⟨rfl,rfl⟩
   go_wp2_with fail
   go_ret
   exact⟨by rw[KD1.out];rfl,HB.out⟩
  rw[decide_eq_false hq]at e1
  clear n1 n2 n3
  go_wp2_with fail
  refine W1.out.mono ?_
  rintro e w2 ⟨rfl,rfl⟩
  go_wp2_with fail
  go_roundw
  case rel=>exact⟨1,by omega,by go_num,by first | trivial | rfl,(fun _=>hq),(by omega),(by omega)⟩
  case measure=>simp[intOf]
 ·have n1':=n1 (by omega)
  by_cases hq:l=qC 2
  ·rw[decide_eq_true hq]at e2
   have KD1:Hid (Jt l=2):=by show _=_;rw[KD.out,if_neg n1',if_pos hq]
   clear n1 n2 n3 hq n1'
   go_wp2_with fail
   refine W2.out.mono ?_
   rintro e w2 ⟨rfl,rfl⟩
   go_wp2_with fail
   go_ret
   exact⟨by rw[KD1.out];rfl,HB.out⟩
  rw[decide_eq_false hq]at e2
  clear n1 n2 n3
  go_wp2_with fail
  refine W2.out.mono ?_
  rintro e w2 ⟨rfl,rfl⟩
  go_wp2_with fail
  go_roundw
  case rel=>exact⟨2,by omega,by go_num,by first | trivial | rfl,(fun _=>n1'),(fun _=>hq),(by omega)⟩
  case measure=>simp[intOf]
 ·have n1':=n1 (by omega)
  have n2':=n2 (by omega)
  by_cases hq:l=qC 3
  ·rw[decide_eq_true hq]at e3
   have KD1:Hid (Jt l=3):=by show _=_;rw[KD.out,if_neg n1',if_neg n2',if_pos hq]
   clear n1 n2 n3 hq n1' n2'
   go_wp2_with fail
   refine W3.out.mono ?_
   rintro e w2 ⟨rfl,rfl⟩
   go_wp2_with fail
   go_ret
   exact⟨by rw[KD1.out];rfl,HB.out⟩
  rw[decide_eq_false hq]at e3
  clear n1 n2 n3
  go_wp2_with fail
  refine W3.out.mono ?_
  rintro e w2 ⟨rfl,rfl⟩
  go_wp2_with fail
  go_roundw
  case rel=>exact⟨3,by omega,by go_num,by first | trivial | rfl,(fun _=>n1'),(fun _=>n2'),(fun _=>hq)⟩
  case measure=>simp[intOf]
 have KD1:Hid (Jt l=0):=by show _=_;rw[KD.out,if_neg (n1 (by omega)),if_neg (n2 (by omega)),if_neg (n3 (by omega))]
 clear n1 n2 n3
 go_wp2_with fail
 go_ret
 exact⟨by rw[KD1.out];rfl,HB.out⟩
theorem jmE(p:List UInt8)(xs:List Ln):(dd p (xs.map KW)).1.length<=(xs.flatMap Ln.bytes).length:=by
 by_cases h:∀x∈xs,Lib.hasPrefix x.text p=true
 ·rw[jjj p xs h];exact WT p xs
 simp only[Classical.not_forall]at h
 obtain⟨x,hx,hp⟩:=h
 rw[jgi p xs x hx (by simpa using hp)];exact jnt _
theorem jbT(its:List It):(Vh its).length=jdZ its:=by
 unfold Vh jdZ
 rw[jnI]
 congr 2
theorem jfr(rs:List (List Fld))(n:Nat)(h:∀r∈rs,r.length<=n):Ug rs<=rs.length*n:=by
 unfold Ug
 induction rs with
 | nil=>simp
 | cons r rs ih =>
 have:=ih (fun x hx=>h x (jnm _ hx))
 have:=h r jno
 rw[jnH,jom,jni,Nat.add_mul];omega
def Xi(w w':World)(u:Value)(fs:List Fld):Prop:=w'.ownsRow w.heap.size 155 2 u fs.length (jM fs)/\Below w.heap.size w w'
theorem jbr(t:List UInt8)(ht:t.length<=60000)(w:World):Calls prog 199 #[.string (B t)] w fun e w'=>∃u,e=.returned u/\Xi w w' u (qD t):=by
 have DE:=jnc (jdU (B t) ⟨#[32,32]⟩ (by rw[jm];omega) w)
 rw[ju]at DE
 rw[show(⟨#[32,32]⟩:ByteArray).data.toList=[32,32] from rfl]at DE
 obtain⟨d,hd⟩:∃d,(dd [32,32] ((jf t).map KW)).1=d:=⟨_,rfl⟩
 have hdl:d.length<=60000:=by
  have:=jmE [32,32] (jf t)
  rw[zg,hd]at this
  omega
 rw[hd]at DE
 have UN:Hid (qD t=match jE d with | .error _=>[] | .ok its=>(Vh its).flatten):=by show _=_;unfold qD;rw[hd];rfl
 have PR:=jnc (fun W=>Yk (B d) (by rw[jm];exact hdl) W)
 rw[ju]at PR
 rw[show(⟨d.toArray⟩:ByteArray)=B d from rfl]at DE
 generalize (dd [32,32] ((jf t).map KW)).2=okd at *
 clear hd
 go_enter func199,ntmps199
 go_wp2_with fail
 refine DE.out.mono ?_
 rintro e w1 ⟨rfl,b1⟩
 have B1:=jnc b1
 have PR1:=jnc (PR.out w1)
 clear DE b1 PR
 go_wp2_with fail
 refine PR1.out.mono ?_
 rintro e w2 hp
 cases hpl:jE d with
 | error an =>
  obtain⟨a,n⟩:=an
  obtain⟨b2,v,rfl,q,_,rfl,_⟩:=je6 hp hpl
  rw[hpl]at UN
  have SZ:=jnc (Yb [] (.slice none 0 0) w2 (Its.empty w2 none 0) (fun i b off n cap m c e=>by cases e) (by simp) (fun it hit=>by cases hit))
  have B2:=jnc (B1.out.trans (b2.mono B1.out.size))
  clear b2 hp PR1
  go_wp2_with fail
  refine SZ.out.mono ?_
  rintro e w3 ⟨u,vs,rfl,hacc⟩
  have CC:=jnc (KA hacc (by simp[Ug,Vh]) (by simp[Vh]))
  have B3:=jnc (B2.out.trans (hacc.below.mono B2.out.size))
  clear hacc SZ
  go_wp2_with fail
  refine CC.out.mono ?_
  rintro e w4 ⟨x,rfl,hx,b4⟩
  have R:Hid (Xi w w4 x (qD t)):=by
   show Xi _ _ _ _
   rw[UN.out]
   exact⟨zk hx B3.out.size,B3.out.trans (b4.mono B3.out.size)⟩
  clear hx b4 CC
  go_wp2_with fail
  go_ret
  exact⟨_,rfl,R.out⟩
 | ok its =>
 obtain⟨b2,v,rfl,hI,hN⟩:=jbX hp hpl
 rw[hpl]at UN
 obtain⟨_,hil,hif⟩:=Je hpl
 have hcnt:=Yj hpl
 rw[<- jbT]at hcnt
 have SZ:=jnc (Yb its v w2 hI hN (by omega) (fun it hit=>by have:=(hif it hit).1;omega))
 have hrl:Ug (Vh its)<=1000000:=by
  have:=jfr (Vh its) 40 (fun r hr=>by
   unfold Vh at hr
   obtain⟨it,h1,rfl⟩:=List.mem_map.1 hr
   exact(hif it (List.mem_filter.1 h1).1).1)
  omega
 have B2:=jnc (B1.out.trans (b2.mono B1.out.size))
 have HN:=jnc (And.intro hrl hcnt)
 obtain⟨ia,ic,rfl,_,_⟩:=hI
 clear b2 hp PR1 hN hif hil hrl hcnt
 go_wp2_with fail
 refine SZ.out.mono ?_
 rintro e w3 ⟨u,vs,rfl,hacc⟩
 have CC:=jnc (KA hacc HN.out.1 (by have:=HN.out.2;omega))
 have B3:=jnc (B2.out.trans (hacc.below.mono B2.out.size))
 clear hacc SZ
 go_wp2_with fail
 refine CC.out.mono ?_
 rintro e w4 ⟨x,rfl,hx,b4⟩
 have R:Hid (Xi w w4 x (qD t)):=by
  show Xi _ _ _ _
  rw[UN.out]
  exact⟨zk hx B3.out.size,B3.out.trans (b4.mono B3.out.size)⟩
 clear hx b4 CC
 go_wp2_with fail
 go_ret
 exact⟨_,rfl,R.out⟩
theorem Us(c:UInt8):∀t:List UInt8,c∉t->t.takeWhile (· != c)=t
 | [],_=>rfl
 | x::r,h=>by
  have hx:(x != c)=true:=by
   have:c≠x:=fun e=>h (e▸jno)
   simp;exact fun e=>this e.symm
  rw[joe,if_pos hx,Us c r (fun hm=>h (jnm _ hm))]
theorem jcs(t:List UInt8)(c:UInt8)(ht:t.length<=1000000)(w:World):
  Calls prog 104 #[.string (B t),.string ⟨#[c]⟩] w fun e w'=>(∃b,e=.returned (.tuple #[.string (B (t.takeWhile (· != c))),.string (B (t.drop ((t.takeWhile (· != c)).length+1))),.bool b]))/\Below w.heap.size w w':=by
 by_cases h:c∈t
 ·refine(WR (B t) c w (by rw[jm];unfold maxLen;omega) (by rw[ju];exact h)).mono ?_
  rintro e w' ⟨rfl,n,rfl⟩
  refine⟨⟨true,?_⟩,qn (jne _ _) n⟩
  rw[ju]
  have e1:(B t).extract 0 (t.takeWhile (· != c)).length=B (t.takeWhile (· != c)):=by
   have:∃r,t=t.takeWhile (· != c)++r:=⟨t.dropWhile (· != c),List.takeWhile_append_dropWhile.symm⟩
   obtain⟨r,hr⟩:=this
   generalize t.takeWhile (· != c)=k at *
   subst hr
   apply joA
   simp[B,ByteArray.data_extract]
  have e2:(B t).extract ((t.takeWhile (· != c)).length+1) (B t).size=B (t.drop ((t.takeWhile (· != c)).length+1)):=by
   generalize (t.takeWhile (· != c)).length+1=k
   apply joA
   rw[jm]
   simp[B,ByteArray.data_extract]
   exact jnD (by rw[jnr];omega)
  rw[e1,e2]
 refine(jcr (B t) c w (by rw[ju];exact h)).mono ?_
 rintro e w' ⟨rfl,n,rfl⟩
 refine⟨⟨false,?_⟩,qn (jne _ _) n⟩
 have e1:t.takeWhile (· != c)=t:=Us c t h
 rw[e1,jn6 (by omega)];rfl
theorem xP{N:Nat}{w w':World}(h:Below N w w'){p:Addr}(hp:N<=p.block)(k:Nat):Below N w (w'.freeze p k):=by
 unfold World.freeze
 by_cases hk:k=0
 ·rw[if_pos hk];exact h
 rw[if_neg hk]
 refine⟨h.os,h.tape,h.output,?_,fun j hj => ?_⟩
 ·simp;exact h.size
 simp only[jo8]
 rw[if_neg (by omega)]
 exact h.block j hj
theorem JU(w:World)(e:TypeId)(s:ByteArray):Below w.heap.size w (Lib.bytesWorld w e s):=by
 unfold Lib.bytesWorld
 exact xP ((jne _ w).drew.alloc (jnd _) _) (jnd _) _
theorem atoi_any(l:List UInt8)(hl:l.length<=1000000)(w:World)(ht:Tabs w):
  Calls prog 138 #[.string (B l)] w fun e w'=>(∃T q,e=.returned (.tuple #[.int .i64 (qX l),.nilIface])\/e=.returned (.tuple #[.int .i64 (qX l),.iface T q]))/\Below w.heap.size w w':=by
 cases h:Lib.atoiAll l with
 | ok v =>
  refine(Tryz.strconv_Atoi_ok (B l) (by rw[jm];omega) v (by rw[ju];exact h) w).mono ?_
  rintro e w' ⟨rfl,hw⟩
  refine⟨⟨0,undef,.inl (by unfold qX;rw[h])⟩,?_⟩
  rcases hw with rfl|⟨t,rfl⟩
  ·exact jne _ _
  exact JU _ _ _
 | range =>
  obtain⟨tp,p,hv⟩:=ht.ran
  refine(Tryz.strconv_Atoi_range_var (B l) (by rw[jm];omega) (by rw[ju];exact h) tp p w hv).mono ?_
  rintro e w' ⟨N,rfl,_,_,hb⟩
  exact⟨⟨_,_,.inr (by unfold qX;rw[h,ju])⟩,hb⟩
 | _ =>
 obtain⟨tp,p,hv⟩:=ht.syn
 refine(Tryz.strconv_Atoi_syntax_var (B l) (by rw[jm];omega) (by rw[ju];exact h) tp p w hv).mono ?_
 rintro e w' ⟨N,rfl,_,_,hb⟩
 exact⟨⟨_,_,.inr (by unfold qX;rw[h])⟩,hb⟩
theorem Wc{fn:Func}{p:Tmp}{ty:TypeId}(h:fn.results=#[.cell p ty])(tmps:Array Value)(P:Program)(w:World):
  (results fn tmps).run P w=((asAddr (tmps.getD p undef)).run P w).andThen fun a w₁=>(loadVar ty a).run P w₁:=by
 simp only[results,h]
 simp[Sem.run_bind,Result.andThen]
theorem jhm{fn:Func}{p:Tmp}(h:fn.results=#[.cell p 63])(tmps:Array Value)(w:World)(b:Nat)(cur:Array Value)(hp:tmps.getD p undef=.pointer (some ⟨b,0,none⟩))
  (hc:ja w b 63 cur) (hz:cur.size=3):(results fn tmps).run prog w=.ok (.agg cur) w:=by
 have L:=run_loadVar_row (P:=prog) w b 63 63 cur (0,0) _ hc underlying63 rfl (by rw[hz];kernel_rfl)
 rw[Wc h,hp]
 show(loadVar _ _).run _ _=_
 exact L
theorem jjw(l p:List UInt8):(Lib.trimPrefix l p).length<=l.length:=by
 unfold Lib.trimPrefix
 split
 ·rw[jnr];omega
 exact jnd _
theorem jbI(l:List UInt8)(p:UInt8->Bool):(l.takeWhile p).length<=l.length:=(List.takeWhile_sublist p).length_le
def jiZ(lo:Nat)(t:List UInt8)(v:Value)(w:World):Prop:=∃u,v=.agg #[.int .i64 (qY t).kind,.int .i64 (qY t).id,u]/\w.ownsRow lo 155 2 u (qY t).fields.length (jM (qY t).fields)
theorem jaw(t:List UInt8)(ht:t.length<=60000)(w:World)(hT:Tabs w):
  Calls prog 153 #[.string (B t)] w fun e w'=>∃v,e=.returned v/\jiZ w.heap.size t v w'/\Below w.heap.size w w':=by
 obtain⟨wa,hwa⟩:∃wa,wa=w.alloc (.cells #[.int .i64 0,.int .i64 0,.slice none 0 0] 63):=⟨_,rfl⟩
 have hba:Below w.heap.size w wa:=by rw[hwa];exact(jne _ w).alloc (jnd _) _
 have hza:wa.heap.size=w.heap.size+1:=by rw[hwa];simp
 have CX:=jnc (show ja wa w.heap.size 63 #[.int .i64 0,.int .i64 0,.slice none 0 0] by rw[hwa];exact ja.new _ _ _)
 have HBA:=jnc hba
 have l1:(xq t).length<=60000:=by have:=jbI t (· != 10);unfold xq;omega
 have l2:=jjw (xq t) [32]
 have l3:(Yq t).length<=60000:=by have:=jbI (Lib.trimPrefix (xq t) [32]) (· != 32);unfold Yq;omega
 have l4:(jiq t).length<=60000:=by unfold jiq;rw[jnr];omega
 have l5:(qJ t).length<=60000:=by unfold qJ;rw[jnr];omega
 have C1:=jnc (jcs t 10 (by omega) wa)
 rw[show t.takeWhile (· != 10)=xq t from rfl,show t.drop ((xq t).length+1)=qJ t from rfl]at C1
 have TP:=jnc (fun W=>Tryz.strings_TrimPrefix (B (xq t)) ⟨#[32]⟩ W)
 rw[ju,show(⟨#[32]⟩:ByteArray).data.toList=[32] from rfl]at TP
 rw[show(⟨(Lib.trimPrefix (xq t) [32]).toArray⟩:ByteArray)=B (Lib.trimPrefix (xq t) [32]) from rfl]at TP
 have C2:=jnc (fun W=>jcs (Lib.trimPrefix (xq t) [32]) 32 (by omega) W)
 rw[show(Lib.trimPrefix (xq t) [32]).takeWhile (· != 32)=Yq t from rfl,show(Lib.trimPrefix (xq t) [32]).drop ((Yq t).length+1)=jiq t from rfl]at C2
 have AT:=jnc (fun W (hW:Below w.heap.size w W)=>atoi_any (jiq t) (by omega) W (hT.below hW (jnd _)))
 have KN:=jnc (fun W=>jgJ (Yq t) W)
 have UF:=jnc (fun W=>jbr (qJ t) l5 W)
 have SD:Hid (qY t=⟨Jt (Yq t),qX (jiq t),qD (qJ t)⟩):=rfl
 generalize xq t=la at *
 generalize B (Lib.trimPrefix la [32])=tl at *
 generalize qJ t=re at *
 generalize Yq t=na at *
 generalize jiq t=fi at *
 clear hba hT l1 l2 l3 l4 l5
 subst hwa
 go_enter func153,ntmps153
 go_wp2_with fail
 refine C1.out.mono ?_
 rintro e w1 ⟨⟨b1,rfl⟩,h1⟩
 have HB1:=jnc (HBA.out.trans (h1.mono HBA.out.size))
 have K1:=jnc (je CX.out h1 (by rw[hza];omega))
 have z1:=h1.size
 rw[hza]at z1
 have TP1:=jnc (TP.out w1)
 clear C1 h1 TP CX
 go_wp2_with fail
 refine TP1.out.mono ?_
 rintro e w2 ⟨rfl,rfl⟩
 have C22:=jnc (C2.out w2)
 clear TP1 C2
 go_wp2_with fail
 refine C22.out.mono ?_
 rintro e w3 ⟨⟨b3,rfl⟩,h3⟩
 have HB3:=jnc (HB1.out.trans (h3.mono HB1.out.size))
 have K3:=jnc (je K1.out h3 (by omega))
 have z3:=h3.size
 have AT3:=jnc (AT.out w3 HB3.out)
 clear C22 h3 K1 AT
 go_wp2_with fail
 refine AT3.out.mono ?_
 rintro e w4 ⟨⟨T,q,hq⟩,h4⟩
 have HB4:=jnc (HB3.out.trans (h4.mono HB3.out.size))
 have K4:=jnc (je K3.out h4 (by omega))
 have z4:=h4.size
 have KN4:=jnc (KN.out w4)
 clear AT3 h4 K3 KN
 rcases hq with rfl|rfl
 all_goals
  go_wp2_with fail
  refine KN4.out.mono ?_
  rintro e w5 ⟨rfl,h5⟩
  have HB5:=jnc (HB4.out.trans (h5.mono HB4.out.size))
  have K5:=jnc (je K4.out h5 (by omega))
  have z5:=h5.size
  have UF5:=jnc (UF.out w5)
  clear KN4 h5 K4 UF
  go_wp2_with fail
  refine UF5.out.mono ?_
  rintro e w6 ⟨u,rfl,hu,h6⟩
  have HB6:=jnc (HB5.out.trans (h6.mono HB5.out.size))
  have K6:=je K5.out h6 (by omega)
  obtain⟨ua,uc,rfl,_⟩:=jg hu
  have hlow:∀k,(Value.slice ua (qD re).length uc).ownBlock=some k->w.heap.size<k:=fun k hk=>by have:=(hu.lt k hk).1;omega
  have k0:=K6.cell 0
  have k1:=K6.cell 1
  have k2:=K6.cell 2
  have f0:=K6.frozen 0
  have f1:=K6.frozen 1
  have f2:=K6.frozen 2
  have R7:=jnc (((K6.set 0 (.int .i64 (Jt na))).set 1 (.int .i64 (qX fi))).set 2 (.slice ua (qD re).length uc))
  have HU:=jnc (zk (base':=w.heap.size) hu (by omega))
  have HL:=jnc hlow
  clear UF5 h6 K5 hu K6 hlow
  go_wp2_with fail
  refine bodyPost_ret (jhm rfl _ _ w.heap.size _ rfl R7.out rfl) rfl ?_
  refine⟨_,rfl,?_,((HB6.out.setCell (p:=⟨w.heap.size,0,none⟩) (jnd _) _).setCell (p:=⟨w.heap.size,1,none⟩) (jnd _) _).setCell (p:=⟨w.heap.size,2,none⟩) (jnd _) _⟩
  rw[show jiZ w.heap.size t=fun v w'=>∃u,v=.agg #[.int .i64 (qY t).kind,.int .i64 (qY t).id,u]/\w'.ownsRow w.heap.size 155 2 u (qY t).fields.length (jM (qY t).fields) from rfl,SD.out]
  have hn:∀p:Addr,p.block=w.heap.size->∀k,(Value.slice ua (qD re).length uc).ownBlock=some k->k≠p.block:=fun p hp k hk=>by have:=HL.out k hk;omega
  exact⟨_,rfl,jK (p:=⟨w.heap.size,2,none⟩) (jK (p:=⟨w.heap.size,1,none⟩) (jK (p:=⟨w.heap.size,0,none⟩) HU.out (fun e=>by have:=HL.out _ e;simp at this) _) (fun e=>by have:=HL.out _ e;simp at this) _) (fun e=>by have:=HL.out _ e;simp at this) _⟩
end
section
attribute [local go_sem] jnn
def WG:List Ed->List Value->List Value
 | ed::r,fv::q=>.int .i64 ed.kind :: .int .i64 ed.id::fv::WG r q
 | _,_=>[]
theorem Kx:∀(l:List Ed) (vs:List Value) (ed:Ed) (v:Value),vs.length=l.length->WG (l++[ed]) (vs++[v])=WG l vs++[.int .i64 ed.kind,.int .i64 ed.id,v]
 | [],[],ed,v,_=>rfl
 | a::l,b::vs,ed,v,h=>by
  show _::_::_::WG (l++[ed]) (vs++[v])=_
  rw[Kx l vs ed v (by simpa using h)];rfl
 | [],_::_,_,_,h=>by simp at h
 | _::_,[],_,_,h=>by simp at h
theorem jcl:∀(l:List Ed) (vs:List Value) (i:Nat) (ed:Ed) (v:Value),l[i]?=some ed->vs[i]?=some v->(WG l vs)[i*3]?=some (.int .i64 ed.kind)/\(WG l vs)[i*3+1]?=some (.int .i64 ed.id)/\(WG l vs)[i*3+1+1]?=some v
 | [],_,i,_,_,h,_=>by simp at h
 | _::_,[],i,_,_,_,h=>by simp at h
 | a::l,b::vs,0,ed,v,h1,h2=>by simp at h1 h2;subst h1 h2;exact⟨rfl,rfl,rfl⟩
 | a::l,b::vs,i+1,ed,v,h1,h2=>by
  obtain⟨x,y,z⟩:=jcl l vs i ed v (by simpa using h1) (by simpa using h2)
  rw[show(i+1)*3=i*3+3 by omega]
  exact⟨x,y,z⟩
structure Qq(lo:Nat)(w:World)(v:Value)(eds:List Ed)(fvs:List Value):Prop where
 row:w.ownsRow lo 63 3 v eds.length (WG eds fvs)
 len:fvs.length=eds.length
 each:∀(i:Nat) ed fv,eds[i]?=some ed->fvs[i]?=some fv->w.ownsRow lo 155 2 fv ed.fields.length (jM ed.fields)
theorem Qq.below{lo:Nat}{w w':World}{v:Value}{eds:List Ed}{fvs:List Value}{N:Nat}(h:Qq lo w v eds fvs)(hb:Below N w w')(hN:w.heap.size<=N):Qq lo w' v eds fvs :=
 ⟨zL h.row hb hN,h.len,fun i ed fv h1 h2=>zL (h.each i ed fv h1 h2) hb hN⟩
theorem Qq.edv{lo:Nat}{w:World}{v:Value}{eds:List Ed}{fvs:List Value}(h:Qq lo w v eds fvs):EdV w v eds:=by
 by_cases h0:eds=[]
 ·subst h0
  obtain⟨A,c,rfl,hle⟩:=jg h.row
  exact⟨A,c,rfl,hle,fun i ed hi=>by simp at hi⟩
 have hn:eds.length≠0:=fun e=>h0 (List.length_eq_zero_iff.1 e)
 have hrow:=h.row
 obtain⟨g,cap,hug⟩:=joD hrow (by omega)
 have hle:eds.length<=cap:=by
  obtain⟨A,c,e,hle⟩:=jg h.row
  rw[hug]at e;cases e;exact hle
 rw[hug]at hrow
 refine⟨_,cap,hug,hle,fun i ed hi => ?_⟩
 have hil:=(List.getElem?_eq_some_iff.1 hi).1
 obtain⟨fv,hfv⟩:∃fv,fvs[i]?=some fv:=⟨_,jnh (by rw[h.len];exact hil)⟩
 obtain⟨a0,a1,a2⟩:=jcl eds fvs i ed fv hi hfv
 refine⟨g,0,fv,rfl,(hrow.lt g rfl).2,?_,?_,?_,ZK.own (h.each i ed fv hi hfv)⟩
 ·rw[jnX,jnL hrow (i*3) (by omega),a0]
 ·rw[jnX,jnL hrow (i*3+1) (by omega),a1]
 rw[jnX,jnL hrow (i*3+1+1) (by omega),a2]
theorem jfD:(prog.info? 63).map (fun i=>(i.zero,i.size,i.bytes))=some (some (.agg #[.int .i64 0,.int .i64 0,.slice none 0 0]),3,40):=by kernel_rfl
end
end Go.Proofs.YtpibhbjmcmfnmaaGreatDoor
