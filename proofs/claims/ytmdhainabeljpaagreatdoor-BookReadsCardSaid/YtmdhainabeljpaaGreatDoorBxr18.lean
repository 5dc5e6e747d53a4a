/- Texts put together:WP,AH,AJ,EN,EH,EI,N0,EK,EV. -/
import Derived.Test.YtmdhainabeljpaaGreatDoorBxr17
set_option linter.unusedVariables false
set_option maxRecDepth 100000
set_option maxHeartbeats 16000000
namespace Go.Proofs.YtmdhainabeljpaaGreatDoor
open Go.RowKit Go.Shelf
attribute [local go_sem] jil
def GU(p:List UInt8)(xs:List Ln):List UInt8:=xs.flatMap fun x=>Lib.trimPrefix x.text p++if x.ended then [10] else []
theorem KZ(p:List UInt8)(pre:List Ln)(x:Ln):GU p (pre++[x])=GU p pre++Lib.trimPrefix x.text p++(Vj x.ended).data.toList:=by
 have e:(Vj x.ended).data.toList=if x.ended then [10] else []:=by unfold Vj;cases x.ended<;>rfl
 rw[e]
 simp[GU]
theorem XG(p:List UInt8):∀xs:List Ln,(GU p xs).length<=(xs.flatMap Ln.bytes).length
 | []=>by simp[GU]
 | x::xs=>by
  have ih:=XG p xs
  have h1:=Lib.trimPrefix_le x.text p
  have e:GU p (x::xs)=(Lib.trimPrefix x.text p++if x.ended then [10] else [])++GU p xs:=by simp[GU]
  rw[e,jio]
  simp only[jh7,Ln.bytes]
  omega
theorem jfd(p:List UInt8)(xs:List Ln)(h:∀x∈xs,Lib.hasPrefix x.text p=true):dd p (xs.map YU)=(GU p xs,true):=by
 unfold dd
 rw[if_pos]
 ·rw[List.flatMap_map]
  congr 1
  unfold GU
  induction xs with
  | nil=>rfl
  | cons x xs ih =>
  rw[jio,jio,ih (fun y hy=>h y (jif _ hy))]
  have:=h x jig
  simp only[Lib.trimPrefix,this,if_true,YU]
  rfl
 rw[jj6]
 intro y hy
 obtain⟨x,hx,rfl⟩:=List.mem_map.1 hy
 exact h x hx
theorem jcX(p:List UInt8)(xs:List Ln)(x:Ln)(hx:x∈xs)(h:Lib.hasPrefix x.text p=false):dd p (xs.map YU)=([],false):=by
 unfold dd
 rw[if_neg]
 intro ha
 have:=(List.all_eq_true.1 ha) (YU x) (List.mem_map.2 ⟨x,hx,rfl⟩)
 have e:Lib.hasPrefix x.text p=true:=this
 rw[h]at e
 cases e
def Qe(w:World)(p:ByteArray)(W:World):Prop :=
 Boxed W w.heap.size 9 (.string p)/\Boxed W (w.heap.size+1) 9 (.string ⟨#[]⟩)/\Boxed W (w.heap.size+2) 4 (.bool false)/\Below w.heap.size w W
theorem Qe.turned{w:World}{p:ByteArray}{W W':World}{B k:Nat}(h:Qe w p W)(ht:zc B k W W')(hB:w.heap.size+2<B):Qe w p W' :=
 ⟨ht.box h.1 (.inl (by omega)),ht.box h.2.1 (.inl (by omega)),ht.box h.2.2.1 (.inl hB),h.2.2.2.trans (ht.below (by omega) h.2.2.2.size)⟩
theorem Qe.alloc{w:World}{p:ByteArray}{W:World}(h:Qe w p W)(o:Obj):Qe w p (W.alloc o):=⟨h.1.alloc _,h.2.1.alloc _,h.2.2.1.alloc _,h.2.2.2.alloc h.2.2.2.size _⟩
theorem Qe.wrote{w:World}{p:ByteArray}{W W':World}{b R:Nat}(h:Qe w p W)(ho:qE b R W W')(hb:w.heap.size+2<b)(hR:w.heap.size+2<R):Qe w p W' :=
 ⟨ho.box h.1 (by omega) (by omega),ho.box h.2.1 (by omega) (by omega),ho.box h.2.2.1 (by omega) (by omega),h.2.2.2.trans (ho.below (by omega) (by omega) h.2.2.2.size)⟩
def jhw(w:World)(p:ByteArray)(R:Nat)(pre:List Ln)(W:World):Prop :=
 Qe w p W/\Bld (w.heap.size+3) R (GU p.data.toList pre) W/\∀x∈pre,Lib.hasPrefix x.text p.data.toList=true
def jh3(w:World)(p:ByteArray)(c:Code)(pre:List Ln)(W:World):Prop :=
 Qe w p W/\c=.ret/\∃x∈pre,Lib.hasPrefix x.text p.data.toList=false
theorem jeT(w W:World)(a b:ByteArray×Bool)(tmps:Array Value)(h4:Boxed W (w.heap.size+1) 9 (.string a.1))(h5:Boxed W (w.heap.size+2) 4 (.bool b.2))(hK:W.heap[w.heap.size+5]?=some (.deferred (some [])))(hB:Below w.heap.size w W)(t4:tmps[4]?=some (.pointer (some ⟨w.heap.size+1,0,none⟩)))(t5:tmps[5]?=some (.pointer (some ⟨w.heap.size+2,0,none⟩))):
  bodyPostM Fence.wide 9 Tryz.prog Tryz.f155 (fun e w'=>e=.returned (.tuple #[.string a.1,.bool b.2])/\Below w.heap.size w w') .ret {tmps:=tmps,defers:=[{target:=.collected (w.heap.size+5),args:=#[]}]} W:=by
 have p1:=grownBy_putObj' W (w.heap.size+5) (.deferred none)
 have zW:w.heap.size+5<W.heap.size:=(Array.getElem?_eq_some_iff.1 hK).1
 have r4:Boxed (W.putObj (w.heap.size+5) (.deferred none)) (w.heap.size+1) 9 (.string a.1):=(p1.block _ (by omega) (fun e=>by have:=jh9 e;omega)).trans h4
 have r5:Boxed (W.putObj (w.heap.size+5) (.deferred none)) (w.heap.size+2) 4 (.bool b.2):=(p1.block _ (by omega) (fun e=>by have:=jh9 e;omega)).trans h5
 have c4:=r4.cell
 have c5:=r5.cell
 refine⟨by simp,.inl ⟨_,_,rfl,run_takeDeferred hK,?_⟩⟩
 exact⟨.tuple #[.string a.1,.bool b.2],by simp[results,Tryz.f155,go_sem,t4,t5,c4,c5],rfl,hB.trans (belowK_b (w:=w) (jh6 _) W _ _ _ (by omega) hK rfl rfl)⟩
theorem ja6(s p:ByteArray)(hs:s.size<=1000000000)(w:World):
  Calls Tryz.prog 155 #[.string s,.string p] w fun e w'=>e=.returned (.tuple #[.string ⟨(dd p.data.toList ((jf s.data.toList).map YU)).1.toArray⟩,.bool (dd p.data.toList ((jf s.data.toList).map YU)).2])/\Below w.heap.size w w':=by
 have hjl:((jf s.data.toList).flatMap Ln.bytes).length<=1000000000:=by rw[jB,<- jij];exact hs
 obtain⟨xs,hxs⟩:∃xs,jf s.data.toList=xs:=⟨_,rfl⟩
 rw[hxs]at hjl ⊢
 have HXS:=jh5 hxs
 clear hxs
 refine callsIn_wide (n:=9).1 ?_
 refine callsIn_of_wp_marks Tryz.func155 rfl trivial ?_ rfl
 simp only[Tryz.ntmps155,jjw,jic,jiW,Nat.reduceAdd,Nat.reduceSub,jjm,jjn,jjx,jjp,ji4,jiq]
 gi_wp2_with fail
 refine⟨trivial,(callsIn_wide.2 (yj s _)).mono ?_⟩
 rintro e w3 ⟨rfl,rfl⟩
 gi_wp2_with fail
 have k1:=jjV w 9 (.string p)
 have k2:=ZB w (.cells #[.string p] 9) 9 (.string ⟨#[]⟩)
 have k3:=Vr w (.cells #[.string p] 9) (.cells #[.string ⟨#[]⟩] 9) 4 (.bool false)
 have kb:=Bld.new (((w.alloc (.cells #[.string p] 9)).alloc (.cells #[.string ⟨#[]⟩] 9)).alloc (.cells #[.bool false] 4)) (w.heap.size+10)
 have kz:(((w.alloc (.cells #[.string p] 9)).alloc (.cells #[.string ⟨#[]⟩] 9)).alloc (.cells #[.bool false] 4)).heap.size=w.heap.size+3:=by simp
 rw[kz]at kb
 have rooms:Qe w p (((w.alloc (.cells #[.string p] 9)).alloc (.cells #[.string ⟨#[]⟩] 9)).alloc (.cells #[.bool false] 4)) :=
  ⟨(k1.alloc _).alloc _,k2.alloc _,k3,((((jh8 _ w).alloc (jh6 _) _).alloc (by simp) _).alloc (by simp;omega) _)⟩
 generalize ((w.alloc (.cells #[.string p] 9)).alloc (.cells #[.string ⟨#[]⟩] 9)).alloc (.cells #[.bool false] 4)=w1 at *
 have k7:=ZB w1 (.cells #[.pointer none,.slice none 0 0] 137) 9 (.string s)
 rw[kz]at k7
 have HH:=qQ s (w.heap.size+4) _ k7 (by omega)
 rw[HXS.out]at HH
 have hz:((w1.alloc (.cells #[.pointer none,.slice none 0 0] 137)).alloc (.cells #[.string s] 9)).heap.size=w.heap.size+5:=by simp[kz]
 have ab:∀k,k<=5->Js (w.heap.size+5) k (jhw w p (w.heap.size+10)):=fun k hk pre W W' h ht =>
  ⟨h.1.turned ht (by omega),h.2.1.turned ht (by omega) (by omega),h.2.2⟩
 have init:jhw w p (w.heap.size+10) [] ((w1.alloc (.cells #[.pointer none,.slice none 0 0] 137)).alloc (.cells #[.string s] 9)) :=
  ⟨(rooms.alloc _).alloc _,kb.alloc _,fun x hx=>by cases hx⟩
 refine vy (gf:=68) (lb:=#[.pointer (some ⟨w.heap.size+4,0,none⟩)]) rfl (enters_of Tryz.func68 (by kernel_rfl) rfl) HH (fun _=>rfl)
  (jhw w p (w.heap.size+10)) (jh3 w p) (by rw[hz];exact ab _ (by omega)) (fun c pre W W' h ht=>⟨h.1.turned ht (by rw[hz];omega),h.2⟩) init
  (fun a pre x a' W=>∃Bx,w.heap.size+5+5<=Bx/\a'={tmps:=(a.tmps.setIfInBounds 12 (.agg (zO x))).setIfInBounds 7 (.pointer (some ⟨Bx,0,none⟩)),defers:=[]}/\jd W Bx 76 (zO x) /\
   jhw w p (w.heap.size+10) pre W)
  ?hM ?assign ?body ?done ?stop
 case hM =>
  rw[hz]
  rintro a pre x a' _ W W' ⟨Bx,h1,h2,h3,h4⟩ ht
  exact⟨Bx,h1,h2,(ht.same Bx h3.lt (.inr (by omega))).trans h3,ab 2 (by omega) pre W W' h4 ht⟩
 case assign =>
  rw[hz]
  intro l pre x post W hx hsz hi
  clear hx
  dsimp only[zO]
  gi_wp2
  exact⟨(yh.refl _ _ W).alloc hsz _,W.heap.size,by omega,rfl,jd.new _ _ _,hi.1.alloc _,hi.2.1.alloc _,hi.2.2⟩
 case body =>
  rw[hz]
  rintro l pre x post a' W hx hsz ⟨Bx,hB,rfl,hc,h1,h2,h3⟩
  have hlen:=XG p.data.toList (pre++[x])
  have hlen2:((pre++[x]).flatMap Ln.bytes).length<=1000000000:=by
   rw[hx,show pre++x::post=(pre++[x])++post by simp,jiG,jh7]at hjl
   omega
  have hlen:=jiv hlen hlen2
  rw[KZ]at hlen
  simp only[jh7,<- jij]at hlen
  have HS:=jh5 (KZ p.data.toList pre x)
  clear hx hjl hlen2
  simp only[jiw,jiU,jiV,zO]at hc ⊢
  have hne:Bx≠w.heap.size+3:=by omega
  obtain⟨en,hen⟩:∃en,x.ended=en:=⟨_,rfl⟩
  rw[hen]at hlen hc ⊢
  have c3:=h1.1.cell
  have p2:W.cell? ⟨Bx,2,none⟩=some (.string ⟨x.text.toArray⟩):=hc.cell 2
  gi_wp2_with fail
  refine⟨trivial,((callsIn_wide.2 (Tryz.strings_CutPrefix ⟨x.text.toArray⟩ p W)).inRound l).mono ?_⟩
  rintro e V ⟨rfl,rfl⟩
  have eh:Lib.hasPrefix (⟨x.text.toArray⟩:ByteArray).data.toList p.data.toList=Lib.hasPrefix x.text p.data.toList:=rfl
  have et:Lib.trimPrefix (⟨x.text.toArray⟩:ByteArray).data.toList p.data.toList=Lib.trimPrefix x.text p.data.toList:=rfl
  rw[eh,et]
  cases hp:Lib.hasPrefix x.text p.data.toList
  ·have c4:=h1.2.1.cell
   have f4:=h1.2.1.frozen
   have c5:V.cell? ⟨w.heap.size+1+1,0,none⟩=some (.bool false):=h1.2.2.1.cell
   have f5:V.frozen? ⟨w.heap.size+1+1,0,none⟩=false:=h1.2.2.1.frozen
   gi_wp2
   refine⟨((yh.refl _ _ _).setCell (.inl (by show w.heap.size+1<_;omega)) _).setCell (.inl (by show w.heap.size+1+1<_;omega)) _,?_,rfl,x,by simp,hp⟩
   refine⟨xF (xF h1.1 (by omega) _) (by omega) _,xF (jjy _ h1.2.1) (by omega) _,jjy _ (xF h1.2.2.1 (by omega) _),?_⟩
   exact(h1.2.2.2.setCell (p:=⟨w.heap.size+1,0,none⟩) (by show _<=w.heap.size+1;omega) _).setCell (p:=⟨w.heap.size+1+1,0,none⟩) (by show _<=w.heap.size+1+1;omega) _
  gi_wp2_with fail
  refine⟨trivial,((callsIn_wide.2 (ZF (w.heap.size+3) (w.heap.size+10) _ ⟨(Lib.trimPrefix x.text p.data.toList).toArray⟩ V h2 (by omega) (by omega) ?_)).inRound l).mono ?_⟩
  ·have e1:(⟨(Lib.trimPrefix x.text p.data.toList).toArray⟩:ByteArray).size=(Lib.trimPrefix x.text p.data.toList).length:=by simp[ByteArray.size]
   omega
  rintro e W2 ⟨rfl,b2,o2⟩
  have m2:jd W2 Bx 76 _:=o2.other hc hne (by decide)
  have z2:=o2.size
  have q0:W2.cell? ⟨Bx,0,none⟩=some (.int .i64 x.no):=m2.cell 0
  have q1:W2.cell? ⟨Bx,1,none⟩=some (.int .i64 x.at_):=m2.cell 1
  have q2:W2.cell? ⟨Bx,2,none⟩=some (.string ⟨x.text.toArray⟩):=m2.cell 2
  have q3:W2.cell? ⟨Bx,3,none⟩=some (.bool en):=m2.cell 3
  gi_wp2_with fail
  refine⟨trivial,((callsIn_wide.2 (Ui _ _ _ _ _)).inRound l).mono ?_⟩
  rintro e W3 ⟨rfl,rfl⟩
  gi_wp2_with fail
  refine⟨trivial,((callsIn_wide.2 (ZF (w.heap.size+3) (w.heap.size+10) _ (Vj en) _ (b2.alloc _) (by omega) (by simp;omega) ?_)).inRound l).mono ?_⟩
  ·simp only[jh7]
   omega
  rintro e W4 ⟨rfl,b3,o3⟩
  gi_wp2_with fail
  have oo:=(o2.alloc (.cells #[.int .i64 x.no,.int .i64 x.at_,.string ⟨x.text.toArray⟩,.bool en] 76)).trans o3
  refine⟨oo.stay (by omega) (by omega) (by omega),h1.wrote oo (by omega) (by omega),?_,?_⟩
  ·rw[HS.out,hen]
   exact b3
  intro y hy
  rcases List.mem_append.1 hy with h|h
  ·exact h3 y h
  rw[List.mem_singleton.1 h];exact hp
 case done =>
  rw[hz]
  rintro W ⟨h1,h2,h3⟩ hmark
  have zW:w.heap.size+5<W.heap.size:=(Array.getElem?_eq_some_iff.1 hmark).1
  gi_wp2_with fail
  refine⟨trivial,(callsIn_wide.2 (Tryz.Builder_String_any_k (w.heap.size+3) (w.heap.size+3) _ W (h2.library (by omega) (by omega)) (by omega))).mono ?_⟩
  rintro e W1 ⟨rfl,_,g2,g3⟩
  have hK:W1.heap[w.heap.size+5]?=some (.deferred (some [])):=g3 _ _ hmark (by simp) (fun c fz e=>by cases e)
  have b4:Boxed W1 (w.heap.size+1) 9 (.string ⟨#[]⟩):=jgB h1.2.1 g2 (by omega)
  have b5:Boxed W1 (w.heap.size+2) 4 (.bool false):=jgB h1.2.2.1 g2 (by omega)
  have hbel:Below w.heap.size w W1:=h1.2.2.2.trans (g2.mono (by omega))
  have c4:=b4.cell
  have f4:=b4.frozen
  have c5:W1.cell? ⟨w.heap.size+1+1,0,none⟩=some (.bool false):=b5.cell
  have f5:W1.frozen? ⟨w.heap.size+1+1,0,none⟩=false:=b5.frozen
  clear k1 k2 k3 kb k7 HH ab init rooms
  gi_wp2
  rw[jfd _ _ h3]
  obtain⟨W2,hW2⟩:∃W2,(W1.setCell ⟨w.heap.size+1,0,none⟩ (.string ⟨(GU p.data.toList xs).toArray⟩)).setCell ⟨w.heap.size+1+1,0,none⟩ (.bool true)=W2:=⟨_,rfl⟩
  have e4:Boxed W2 (w.heap.size+1) 9 (.string ⟨(GU p.data.toList xs).toArray⟩):=by rw[<- hW2];exact xF (jjy _ b4) (by omega) _
  have e5:Boxed W2 (w.heap.size+2) 4 (.bool true):=by rw[<- hW2];exact jjy _ (xF b5 (by omega) _)
  have eK:W2.heap[w.heap.size+5]?=some (.deferred (some [])):=by
   rw[<- hW2]
   exact(jiJ _ _ _ _ (by show w.heap.size+5≠w.heap.size+1+1;omega)).trans ((jiJ _ _ _ _ (by show w.heap.size+5≠w.heap.size+1;omega)).trans hK)
  have eB:Below w.heap.size w W2:=by
   rw[<- hW2]
   exact(hbel.setCell (p:=⟨w.heap.size+1,0,none⟩) (by show _<=w.heap.size+1;omega) _).setCell (p:=⟨w.heap.size+1+1,0,none⟩) (by show _<=w.heap.size+1+1;omega) _
  rw[hW2]
  exact jeT w W2 (⟨(GU p.data.toList xs).toArray⟩,true) (⟨#[]⟩,true) _ e4 e5 eK eB rfl rfl
 case stop =>
 rw[hz]
 rintro c pre W hpre ⟨h1,rfl,x,hx,hp⟩ hmark
 have zW:w.heap.size+5<W.heap.size:=(Array.getElem?_eq_some_iff.1 hmark).1
 gi_wp2
 rw[jcX _ _ x (hpre.subset hx) hp]
 exact jeT w W (⟨#[]⟩,false) (⟨#[]⟩,false) _ h1.2.1 h1.2.2.1 hmark h1.2.2.2 rfl rfl
theorem jdf(l:List UInt8)(w:World):Calls Tryz.prog 121 #[.string (B l)] w fun e w'=>e=.returned (.int .i64 (xV l))/\Below w.heap.size w w':=by
 obtain⟨wa,hwa⟩:∃wa,wa=w.alloc (.cells #[.int .i64 1,.int .i64 2,.int .i64 3] 3):=⟨_,rfl⟩
 have HB:Hid (Below w.heap.size w wa):=by show Below _ _ _;rw[hwa];exact(jh8 _ w).alloc (jh6 _) _
 have c0:wa.cell? ⟨w.heap.size,0,none⟩=some (.int .i64 1):=by rw[hwa];simp
 have c1:wa.cell? ⟨w.heap.size,1,none⟩=some (.int .i64 2):=by rw[hwa];simp
 have c2:wa.cell? ⟨w.heap.size,2,none⟩=some (.int .i64 3):=by rw[hwa];simp
 have W1:=jh5 (Qg 1 wa)
 have W2:=jh5 (Qg 2 wa)
 have W3:=jh5 (Qg 3 wa)
 have KD:=jh5 (show xV l=if l=zZ 1 then 1 else if l=zZ 2 then 2 else if l=zZ 3 then 3 else 0 from rfl)
 have eq:∀k,((B (zZ k)).toList==(B l).toList)=decide (l=zZ k):=fun k=>by
  rw[jfe,jiX,decide_eq_true_eq,decide_eq_true_eq];exact⟨fun h=>h.symm,fun h=>h.symm⟩
 have e1:=eq 1
 have e2:=eq 2
 have e3:=eq 3
 clear eq
 subst hwa
 go_enter Tryz.func121,Tryz.ntmps121
 go_wp2_with fail
 go_loopw [7] (fun i wr=>∃k:Nat,k<=3/\i=.int .i64 k/\wr=w.alloc (.cells #[.int .i64 1,.int .i64 2,.int .i64 3] 3)/\(1<=k->l≠zZ 1)/\(2<=k->l≠zZ 2)/\(3<=k->l≠zZ 3)) (fun i _=>3-(intOf i).toNat)
 case atStart=>exact⟨0,jii _,rfl,rfl,(by omega),(by omega),(by omega)⟩
 case round =>
 obtain⟨k,hk,rfl,hwr,n1,n2,n3⟩:=hrel
 subst hwr
 obtain rfl|rfl|rfl|rfl:k=0\/k=1\/k=2\/k=3:=by omega
 ·by_cases hq:l=zZ 1
  ·rw[decide_eq_true hq]at e1
   have KD1:Hid (xV l=1):=by show _=_;rw[KD.out,if_pos hq]
   clear n1 n2 n3 hq
   go_wp2_with fail
   refine W1.out.mono ?_
   rintro e w2 ⟨rfl,rfl⟩
   go_wp2_with fail
   go_ret
   exact⟨by rw[KD1.out];rfl,HB.out⟩
  rw[decide_eq_false hq]at e1
  clear n1 n2 n3
  go_wp2_with fail
  refine W1.out.mono ?_
  rintro e w2 ⟨rfl,rfl⟩
  go_wp2_with fail
  go_roundw
  case rel=>exact⟨1,by omega,by go_num,by first | trivial | rfl,(fun _=>hq),(by omega),(by omega)⟩
  case measure=>simp[intOf]
 ·have n1':=n1 (by omega)
  by_cases hq:l=zZ 2
  ·rw[decide_eq_true hq]at e2
   have KD1:Hid (xV l=2):=by show _=_;rw[KD.out,if_neg n1',if_pos hq]
   clear n1 n2 n3 hq n1'
   go_wp2_with fail
   refine W2.out.mono ?_
   rintro e w2 ⟨rfl,rfl⟩
   go_wp2_with fail
   go_ret
   exact⟨by rw[KD1.out];rfl,HB.out⟩
  rw[decide_eq_false hq]at e2
  clear n1 n2 n3
  go_wp2_with fail
  refine W2.out.mono ?_
  rintro e w2 ⟨rfl,rfl⟩
  go_wp2_with fail
  go_roundw
  case rel=>exact⟨2,by omega,by go_num,by first | trivial | rfl,(fun _=>n1'),(fun _=>hq),(by omega)⟩
  case measure=>simp[intOf]
 ·have n1':=n1 (by omega)
  have n2':=n2 (by omega)
  by_cases hq:l=zZ 3
  ·rw[decide_eq_true hq]at e3
   have KD1:Hid (xV l=3):=by show _=_;rw[KD.out,if_neg n1',if_neg n2',if_pos hq]
   clear n1 n2 n3 hq n1' n2'
   go_wp2_with fail
   refine W3.out.mono ?_
   rintro e w2 ⟨rfl,rfl⟩
   go_wp2_with fail
   go_ret
   exact⟨by rw[KD1.out];rfl,HB.out⟩
  rw[decide_eq_false hq]at e3
  clear n1 n2 n3
  go_wp2_with fail
  refine W3.out.mono ?_
  rintro e w2 ⟨rfl,rfl⟩
  go_wp2_with fail
  go_roundw
  case rel=>exact⟨3,by omega,by go_num,by first | trivial | rfl,(fun _=>n1'),(fun _=>n2'),(fun _=>hq)⟩
  case measure=>simp[intOf]
 have KD1:Hid (xV l=0):=by show _=_;rw[KD.out,if_neg (n1 (by omega)),if_neg (n2 (by omega)),if_neg (n3 (by omega))]
 clear n1 n2 n3
 go_wp2_with fail
 go_ret
 exact⟨by rw[KD1.out];rfl,HB.out⟩
theorem jhI(p:List UInt8)(xs:List Ln):(dd p (xs.map YU)).1.length<=(xs.flatMap Ln.bytes).length:=by
 by_cases h:∀x∈xs,Lib.hasPrefix x.text p=true
 ·rw[jfd p xs h];exact XG p xs
 simp only[Classical.not_forall]at h
 obtain⟨x,hx,hp⟩:=h
 rw[jcX p xs x hx (by simpa using hp)];exact jii _
theorem Gk(its:List It):(Qj its).length=jdn its:=by
 unfold Qj jdn
 rw[jiA]
 congr 2
theorem jck(rs:List (List Fld))(n:Nat)(h:∀r∈rs,r.length<=n):XO rs<=rs.length*n:=by
 unfold XO
 induction rs with
 | nil=>simp
 | cons r rs ih =>
 have:=ih (fun x hx=>h x (jif _ hx))
 have:=h r jig
 rw[jiP,ji5,jic,Nat.add_mul];omega
def VA(w w':World)(u:Value)(fs:List Fld):Prop:=w'.ownsRow w.heap.size 71 2 u fs.length (jt fs)/\Below w.heap.size w w'
theorem Us(t:List UInt8)(ht:t.length<=60000)(w:World):Calls Tryz.prog 122 #[.string (B t)] w fun e w'=>∃u,e=.returned u/\VA w w' u (qw t):=by
 have DE:=jh5 (ja6 (B t) ⟨#[32,32]⟩ (by rw[je];omega) w)
 rw[ji]at DE
 rw[show(⟨#[32,32]⟩:ByteArray).data.toList=[32,32] from rfl]at DE
 obtain⟨d,hd⟩:∃d,(dd [32,32] ((jf t).map YU)).1=d:=⟨_,rfl⟩
 have hdl:d.length<=60000:=by
  have:=jhI [32,32] (jf t)
  rw[jB,hd]at this
  omega
 rw[hd]at DE
 have UN:Hid (qw t=match za d with | .error _=>[] | .ok its=>(Qj its).flatten):=by show _=_;unfold qw;rw[hd];rfl
 have PR:=jh5 (fun W=>Kt (B d) (by rw[je];exact hdl) W)
 rw[ji]at PR
 rw[show(⟨d.toArray⟩:ByteArray)=B d from rfl]at DE
 generalize (dd [32,32] ((jf t).map YU)).2=okd at *
 clear hd
 go_enter Tryz.func122,Tryz.ntmps122
 go_wp2_with fail
 refine DE.out.mono ?_
 rintro e w1 ⟨rfl,b1⟩
 have B1:=jh5 b1
 have PR1:=jh5 (PR.out w1)
 clear DE b1 PR
 go_wp2_with fail
 refine PR1.out.mono ?_
 rintro e w2 hp
 cases hpl:za d with
 | error an =>
  obtain⟨a,n⟩:=an
  obtain⟨b2,v,rfl,q,_,rfl,_⟩:=jfD hp hpl
  rw[hpl]at UN
  have SZ:=jh5 (Qx [] (.slice none 0 0) w2 (Its.empty w2 none 0) (fun i b off n cap m c e=>by cases e) (by simp) (fun it hit=>by cases hit))
  have B2:=jh5 (B1.out.trans (b2.mono B1.out.size))
  clear b2 hp PR1
  go_wp2_with fail
  refine SZ.out.mono ?_
  rintro e w3 ⟨u,vs,rfl,hacc⟩
  have CC:=jh5 (YJ hacc (by simp[XO,Qj]) (by simp[Qj]))
  have B3:=jh5 (B2.out.trans (hacc.below.mono B2.out.size))
  clear hacc SZ
  go_wp2_with fail
  refine CC.out.mono ?_
  rintro e w4 ⟨x,rfl,hx,b4⟩
  have R:Hid (VA w w4 x (qw t)):=by
   show VA _ _ _ _
   rw[UN.out]
   exact⟨zd hx B3.out.size,B3.out.trans (b4.mono B3.out.size)⟩
  clear hx b4 CC
  go_wp2_with fail
  go_ret
  exact⟨_,rfl,R.out⟩
 | ok its =>
 obtain⟨b2,v,rfl,hI,hN⟩:=jdJ hp hpl
 rw[hpl]at UN
 obtain⟨_,hil,hif⟩:=Yl hpl
 have hcnt:=Ks hpl
 rw[<- Gk]at hcnt
 have SZ:=jh5 (Qx its v w2 hI hN (by omega) (fun it hit=>by have:=(hif it hit).1;omega))
 have hrl:XO (Qj its)<=1000000:=by
  have:=jck (Qj its) 40 (fun r hr=>by
   unfold Qj at hr
   obtain⟨it,h1,rfl⟩:=List.mem_map.1 hr
   exact(hif it (List.mem_filter.1 h1).1).1)
  omega
 have B2:=jh5 (B1.out.trans (b2.mono B1.out.size))
 have HN:=jh5 (And.intro hrl hcnt)
 obtain⟨ia,ic,rfl,_,_⟩:=hI
 clear b2 hp PR1 hN hif hil hrl hcnt
 go_wp2_with fail
 refine SZ.out.mono ?_
 rintro e w3 ⟨u,vs,rfl,hacc⟩
 have CC:=jh5 (YJ hacc HN.out.1 (by have:=HN.out.2;omega))
 have B3:=jh5 (B2.out.trans (hacc.below.mono B2.out.size))
 clear hacc SZ
 go_wp2_with fail
 refine CC.out.mono ?_
 rintro e w4 ⟨x,rfl,hx,b4⟩
 have R:Hid (VA w w4 x (qw t)):=by
  show VA _ _ _ _
  rw[UN.out]
  exact⟨zd hx B3.out.size,B3.out.trans (b4.mono B3.out.size)⟩
 clear hx b4 CC
 go_wp2_with fail
 go_ret
 exact⟨_,rfl,R.out⟩
theorem XV(c:UInt8):∀t:List UInt8,c∉t->t.takeWhile (· != c)=t
 | [],_=>rfl
 | x::r,h=>by
  have hx:(x != c)=true:=by
   have:c≠x:=fun e=>h (e▸jig)
   simp;exact fun e=>this e.symm
  rw[jiR,if_pos hx,XV c r (fun hm=>h (jif _ hm))]
theorem GT(t:List UInt8)(c:UInt8)(ht:t.length<=1000000)(w:World):
  Calls Tryz.prog 33 #[.string (B t),.string ⟨#[c]⟩] w fun e w'=>(∃b,e=.returned (.tuple #[.string (B (t.takeWhile (· != c))),.string (B (t.drop ((t.takeWhile (· != c)).length+1))),.bool b]))/\Below w.heap.size w w':=by
 by_cases h:c∈t
 ·refine(XF (B t) c w (by rw[je];unfold maxLen;omega) (by rw[ji];exact h)).mono ?_
  rintro e w' ⟨rfl,n,rfl⟩
  refine⟨⟨true,?_⟩,qT (jh8 _ _) n⟩
  rw[ji]
  have e1:(B t).extract 0 (t.takeWhile (· != c)).length=B (t.takeWhile (· != c)):=by
   have:∃r,t=t.takeWhile (· != c)++r:=⟨t.dropWhile (· != c),List.takeWhile_append_dropWhile.symm⟩
   obtain⟨r,hr⟩:=this
   generalize t.takeWhile (· != c)=k at *
   subst hr
   apply jjf
   simp[B,ByteArray.data_extract]
  have e2:(B t).extract ((t.takeWhile (· != c)).length+1) (B t).size=B (t.drop ((t.takeWhile (· != c)).length+1)):=by
   generalize (t.takeWhile (· != c)).length+1=k
   apply jjf
   rw[je]
   simp[B,ByteArray.data_extract]
   exact jiC (by rw[jik];omega)
  rw[e1,e2]
 refine(GS (B t) c w (by rw[ji];exact h)).mono ?_
 rintro e w' ⟨rfl,n,rfl⟩
 refine⟨⟨false,?_⟩,qT (jh8 _ _) n⟩
 have e1:t.takeWhile (· != c)=t:=XV c t h
 rw[e1,ji0 (by omega)];rfl
theorem xw{N:Nat}{w w':World}(h:Below N w w'){p:Addr}(hp:N<=p.block)(k:Nat):Below N w (w'.freeze p k):=by
 unfold World.freeze
 by_cases hk:k=0
 ·rw[if_pos hk];exact h
 rw[if_neg hk]
 refine⟨h.os,h.tape,h.output,?_,fun j hj => ?_⟩
 ·simp;exact h.size
 simp only[jjJ]
 rw[if_neg (by omega)]
 exact h.block j hj
theorem Jq(w:World)(e:TypeId)(s:ByteArray):Below w.heap.size w (Lib.bytesWorld w e s):=by
 unfold Lib.bytesWorld
 exact xw ((jh8 _ w).drew.alloc (jh6 _) _) (jh6 _) _
theorem atoi_any(l:List UInt8)(hl:l.length<=1000000)(w:World)(ht:Tabs w):
  Calls Tryz.prog 67 #[.string (B l)] w fun e w'=>(∃T q,e=.returned (.tuple #[.int .i64 (zX l),.nilIface])\/e=.returned (.tuple #[.int .i64 (zX l),.iface T q]))/\Below w.heap.size w w':=by
 cases h:Lib.atoiAll l with
 | ok v =>
  refine(Tryz.strconv_Atoi_ok (B l) (by rw[je];omega) v (by rw[ji];exact h) w).mono ?_
  rintro e w' ⟨rfl,hw⟩
  refine⟨⟨0,undef,.inl (by unfold zX;rw[h])⟩,?_⟩
  rcases hw with rfl|⟨t,rfl⟩
  ·exact jh8 _ _
  exact Jq _ _ _
 | range =>
  obtain⟨tp,p,hv⟩:=ht.ran
  refine(Tryz.strconv_Atoi_range_var (B l) (by rw[je];omega) (by rw[ji];exact h) tp p w hv).mono ?_
  rintro e w' ⟨N,rfl,_,_,hb⟩
  exact⟨⟨_,_,.inr (by unfold zX;rw[h,ji])⟩,hb⟩
 | _ =>
 obtain⟨tp,p,hv⟩:=ht.syn
 refine(Tryz.strconv_Atoi_syntax_var (B l) (by rw[je];omega) (by rw[ji];exact h) tp p w hv).mono ?_
 rintro e w' ⟨N,rfl,_,_,hb⟩
 exact⟨⟨_,_,.inr (by unfold zX;rw[h])⟩,hb⟩
theorem YX{fn:Func}{p:Tmp}{ty:TypeId}(h:fn.results=#[.cell p ty])(tmps:Array Value)(P:Program)(w:World):
  (results fn tmps).run P w=((asAddr (tmps.getD p undef)).run P w).andThen fun a w₁=>(loadVar ty a).run P w₁:=by
 simp only[results,h]
 simp[Sem.run_bind,Result.andThen]
theorem jdy{fn:Func}{p:Tmp}(h:fn.results=#[.cell p 40])(tmps:Array Value)(w:World)(b:Nat)(cur:Array Value)(hp:tmps.getD p undef=.pointer (some ⟨b,0,none⟩))
  (hc:jd w b 40 cur) (hz:cur.size=3):(results fn tmps).run Tryz.prog w=.ok (.agg cur) w:=by
 have L:=run_loadVar_row (P:=Tryz.prog) w b 40 40 cur (0,0) _ hc Tryz.underlying40 rfl (by rw[hz];kernel_rfl)
 rw[YX h,hp]
 show(loadVar _ _).run _ _=_
 exact L
theorem jfj(l p:List UInt8):(Lib.trimPrefix l p).length<=l.length:=by
 unfold Lib.trimPrefix
 split
 ·rw[jik];omega
 exact jh6 _
theorem Gb(l:List UInt8)(p:UInt8->Bool):(l.takeWhile p).length<=l.length:=(ji9 p).length_le
def jeM(lo:Nat)(t:List UInt8)(v:Value)(w:World):Prop:=∃u,v=.agg #[.int .i64 (qO t).kind,.int .i64 (qO t).id,u]/\w.ownsRow lo 71 2 u (qO t).fields.length (jt (qO t).fields)
theorem Wl(t:List UInt8)(ht:t.length<=60000)(w:World)(hT:Tabs w):
  Calls Tryz.prog 86 #[.string (B t)] w fun e w'=>∃v,e=.returned v/\jeM w.heap.size t v w'/\Below w.heap.size w w':=by
 obtain⟨wa,hwa⟩:∃wa,wa=w.alloc (.cells #[.int .i64 0,.int .i64 0,.slice none 0 0] 40):=⟨_,rfl⟩
 have hba:Below w.heap.size w wa:=by rw[hwa];exact(jh8 _ w).alloc (jh6 _) _
 have hza:wa.heap.size=w.heap.size+1:=by rw[hwa];simp
 have CX:=jh5 (show jd wa w.heap.size 40 #[.int .i64 0,.int .i64 0,.slice none 0 0] by rw[hwa];exact jd.new _ _ _)
 have HBA:=jh5 hba
 have l1:(yV t).length<=60000:=by have:=Gb t (· != 10);unfold yV;omega
 have l2:=jfj (yV t) [32]
 have l3:(QR t).length<=60000:=by have:=Gb (Lib.trimPrefix (yV t) [32]) (· != 32);unfold QR;omega
 have l4:(jem t).length<=60000:=by unfold jem;rw[jik];omega
 have l5:(YZ t).length<=60000:=by unfold YZ;rw[jik];omega
 have C1:=jh5 (GT t 10 (by omega) wa)
 rw[show t.takeWhile (· != 10)=yV t from rfl,show t.drop ((yV t).length+1)=YZ t from rfl]at C1
 have TP:=jh5 (fun W=>Tryz.strings_TrimPrefix (B (yV t)) ⟨#[32]⟩ W)
 rw[ji,show(⟨#[32]⟩:ByteArray).data.toList=[32] from rfl]at TP
 rw[show(⟨(Lib.trimPrefix (yV t) [32]).toArray⟩:ByteArray)=B (Lib.trimPrefix (yV t) [32]) from rfl]at TP
 have C2:=jh5 (fun W=>GT (Lib.trimPrefix (yV t) [32]) 32 (by omega) W)
 rw[show(Lib.trimPrefix (yV t) [32]).takeWhile (· != 32)=QR t from rfl,show(Lib.trimPrefix (yV t) [32]).drop ((QR t).length+1)=jem t from rfl]at C2
 have AT:=jh5 (fun W (hW:Below w.heap.size w W)=>atoi_any (jem t) (by omega) W (hT.below hW (jh6 _)))
 have KN:=jh5 (fun W=>jdf (QR t) W)
 have UF:=jh5 (fun W=>Us (YZ t) l5 W)
 have SD:Hid (qO t=⟨xV (QR t),zX (jem t),qw (YZ t)⟩):=rfl
 generalize yV t=la at *
 generalize B (Lib.trimPrefix la [32])=tl at *
 generalize YZ t=re at *
 generalize QR t=na at *
 generalize jem t=fi at *
 clear hba hT l1 l2 l3 l4 l5
 subst hwa
 go_enter Tryz.func86,Tryz.ntmps86
 go_wp2_with fail
 refine C1.out.mono ?_
 rintro e w1 ⟨⟨b1,rfl⟩,h1⟩
 have HB1:=jh5 (HBA.out.trans (h1.mono HBA.out.size))
 have K1:=jh5 (jb CX.out h1 (by rw[hza];omega))
 have z1:=h1.size
 rw[hza]at z1
 have TP1:=jh5 (TP.out w1)
 clear C1 h1 TP CX
 go_wp2_with fail
 refine TP1.out.mono ?_
 rintro e w2 ⟨rfl,rfl⟩
 have C22:=jh5 (C2.out w2)
 clear TP1 C2
 go_wp2_with fail
 refine C22.out.mono ?_
 rintro e w3 ⟨⟨b3,rfl⟩,h3⟩
 have HB3:=jh5 (HB1.out.trans (h3.mono HB1.out.size))
 have K3:=jh5 (jb K1.out h3 (by omega))
 have z3:=h3.size
 have AT3:=jh5 (AT.out w3 HB3.out)
 clear C22 h3 K1 AT
 go_wp2_with fail
 refine AT3.out.mono ?_
 rintro e w4 ⟨⟨T,q,hq⟩,h4⟩
 have HB4:=jh5 (HB3.out.trans (h4.mono HB3.out.size))
 have K4:=jh5 (jb K3.out h4 (by omega))
 have z4:=h4.size
 have KN4:=jh5 (KN.out w4)
 clear AT3 h4 K3 KN
 rcases hq with rfl|rfl
 all_goals
  go_wp2_with fail
  refine KN4.out.mono ?_
  rintro e w5 ⟨rfl,h5⟩
  have HB5:=jh5 (HB4.out.trans (h5.mono HB4.out.size))
  have K5:=jh5 (jb K4.out h5 (by omega))
  have z5:=h5.size
  have UF5:=jh5 (UF.out w5)
  clear KN4 h5 K4 UF
  go_wp2_with fail
  refine UF5.out.mono ?_
  rintro e w6 ⟨u,rfl,hu,h6⟩
  have HB6:=jh5 (HB5.out.trans (h6.mono HB5.out.size))
  have K6:=jb K5.out h6 (by omega)
  obtain⟨ua,uc,rfl,_⟩:=jg hu
  have hlow:∀k,(Value.slice ua (qw re).length uc).ownBlock=some k->w.heap.size<k:=fun k hk=>by have:=(hu.lt k hk).1;omega
  have k0:=K6.cell 0
  have k1:=K6.cell 1
  have k2:=K6.cell 2
  have f0:=K6.frozen 0
  have f1:=K6.frozen 1
  have f2:=K6.frozen 2
  have R7:=jh5 (((K6.set 0 (.int .i64 (xV na))).set 1 (.int .i64 (zX fi))).set 2 (.slice ua (qw re).length uc))
  have HU:=jh5 (zd (base':=w.heap.size) hu (by omega))
  have HL:=jh5 hlow
  clear UF5 h6 K5 hu K6 hlow
  go_wp2_with fail
  refine bodyPost_ret (jdy rfl _ _ w.heap.size _ rfl R7.out rfl) rfl ?_
  refine⟨_,rfl,?_,((HB6.out.setCell (p:=⟨w.heap.size,0,none⟩) (jh6 _) _).setCell (p:=⟨w.heap.size,1,none⟩) (jh6 _) _).setCell (p:=⟨w.heap.size,2,none⟩) (jh6 _) _⟩
  rw[show jeM w.heap.size t=fun v w'=>∃u,v=.agg #[.int .i64 (qO t).kind,.int .i64 (qO t).id,u]/\w'.ownsRow w.heap.size 71 2 u (qO t).fields.length (jt (qO t).fields) from rfl,SD.out]
  have hn:∀p:Addr,p.block=w.heap.size->∀k,(Value.slice ua (qw re).length uc).ownBlock=some k->k≠p.block:=fun p hp k hk=>by have:=HL.out k hk;omega
  exact⟨_,rfl,jT (p:=⟨w.heap.size,2,none⟩) (jT (p:=⟨w.heap.size,1,none⟩) (jT (p:=⟨w.heap.size,0,none⟩) HU.out (fun e=>by have:=HL.out _ e;simp at this) _) (fun e=>by have:=HL.out _ e;simp at this) _) (fun e=>by have:=HL.out _ e;simp at this) _⟩
end Go.Proofs.YtmdhainabeljpaaGreatDoor
namespace Go.Proofs.YtmdhainabeljpaaGreatDoor
open Go.RowKit Go.Shelf
end Go.Proofs.YtmdhainabeljpaaGreatDoor
namespace Go.Proofs.YtmdhainabeljpaaGreatDoor
open Go.RowKit Go.Shelf
attribute [local go_sem] jil
def jhU(z:Int):Value:=.int .i64 z
def yv:List Ed->List Value->List Value
 | ed::r,fv::q=>.int .i64 ed.kind :: .int .i64 ed.id::fv::yv r q
 | _,_=>[]
theorem Zz:∀(l:List Ed) (vs:List Value) (ed:Ed) (v:Value),vs.length=l.length->yv (l++[ed]) (vs++[v])=yv l vs++[.int .i64 ed.kind,.int .i64 ed.id,v]
 | [],[],ed,v,_=>rfl
 | a::l,b::vs,ed,v,h=>by
  show _::_::_::yv (l++[ed]) (vs++[v])=_
  rw[Zz l vs ed v (by simpa using h)];rfl
 | [],_::_,_,_,h=>by simp at h
 | _::_,[],_,_,h=>by simp at h
theorem JT:∀(l:List Ed) (vs:List Value) (i:Nat) (ed:Ed) (v:Value),l[i]?=some ed->vs[i]?=some v->(yv l vs)[i*3]?=some (.int .i64 ed.kind)/\(yv l vs)[i*3+1]?=some (.int .i64 ed.id)/\(yv l vs)[i*3+1+1]?=some v
 | [],_,i,_,_,h,_=>by simp at h
 | _::_,[],i,_,_,_,h=>by simp at h
 | a::l,b::vs,0,ed,v,h1,h2=>by simp at h1 h2;subst h1 h2;exact⟨rfl,rfl,rfl⟩
 | a::l,b::vs,i+1,ed,v,h1,h2=>by
  obtain⟨x,y,z⟩:=JT l vs i ed v (by simpa using h1) (by simpa using h2)
  rw[show(i+1)*3=i*3+3 by omega]
  exact⟨x,y,z⟩
structure vM(lo:Nat)(w:World)(v:Value)(eds:List Ed)(fvs:List Value):Prop where
 row:w.ownsRow lo 40 3 v eds.length (yv eds fvs)
 len:fvs.length=eds.length
 each:∀(i:Nat) ed fv,eds[i]?=some ed->fvs[i]?=some fv->w.ownsRow lo 71 2 fv ed.fields.length (jt ed.fields)
theorem vM.below{lo:Nat}{w w':World}{v:Value}{eds:List Ed}{fvs:List Value}{N:Nat}(h:vM lo w v eds fvs)(hb:Below N w w')(hN:w.heap.size<=N):vM lo w' v eds fvs :=
 ⟨jJ h.row hb hN,h.len,fun i ed fv h1 h2=>jJ (h.each i ed fv h1 h2) hb hN⟩
theorem vM.edv{lo:Nat}{w:World}{v:Value}{eds:List Ed}{fvs:List Value}(h:vM lo w v eds fvs):EdV w v eds:=by
 by_cases h0:eds=[]
 ·subst h0
  obtain⟨A,c,rfl,hle⟩:=jg h.row
  exact⟨A,c,rfl,hle,fun i ed hi=>by simp at hi⟩
 have hn:eds.length≠0:=fun e=>h0 (List.length_eq_zero_iff.1 e)
 have hrow:=h.row
 obtain⟨g,cap,hug⟩:=jjd hrow (by omega)
 have hle:eds.length<=cap:=by
  obtain⟨A,c,e,hle⟩:=jg h.row
  rw[hug]at e;cases e;exact hle
 rw[hug]at hrow
 refine⟨_,cap,hug,hle,fun i ed hi => ?_⟩
 have hil:=(List.getElem?_eq_some_iff.1 hi).1
 obtain⟨fv,hfv⟩:∃fv,fvs[i]?=some fv:=⟨_,jia (by rw[h.len];exact hil)⟩
 obtain⟨a0,a1,a2⟩:=JT eds fvs i ed fv hi hfv
 refine⟨g,0,fv,rfl,(hrow.lt g rfl).2,?_,?_,?_,jhx.own (h.each i ed fv hi hfv)⟩
 ·rw[jiH,jin hrow (i*3) (by omega),a0]
 ·rw[jiH,jin hrow (i*3+1) (by omega),a1]
 rw[jiH,jin hrow (i*3+1+1) (by omega),a2]
theorem WY:(Tryz.prog.info? 40).map (fun i=>(i.zero,i.size,i.bytes))=some (some (.agg #[.int .i64 0,.int .i64 0,.slice none 0 0]),3,40):=by kernel_rfl
end Go.Proofs.YtmdhainabeljpaaGreatDoor
