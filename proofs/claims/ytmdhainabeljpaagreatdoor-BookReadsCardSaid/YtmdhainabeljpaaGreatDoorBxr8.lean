/- Texts put together:SB,MC,MD,ME,MF,PU,TA. -/
import Derived.Test.YtmdhainabeljpaaGreatDoorBxr7
set_option linter.unusedVariables false
set_option maxRecDepth 100000
set_option maxHeartbeats 16000000
namespace Go.Proofs.YtmdhainabeljpaaGreatDoor
abbrev jjz:=@List.drop_append_of_le_length
end Go.Proofs.YtmdhainabeljpaaGreatDoor
namespace Go.Proofs.YtmdhainabeljpaaGreatDoor.Bk
open Go.RowKit Go.Shelf
attribute [local go_sem] jil
def jhN(w:World)(s:ByteArray)(pre:List Ln)(W:World):Prop:=Boxed W w.heap.size 9 (.string s)/\Boxed W (w.heap.size+1) 9 (.string ⟨#[]⟩)/\Below w.heap.size w W/\∀y∈pre,Up y.text=false
def jh1(w:World)(s:ByteArray)(c:Code)(pre:List Ln)(W:World):Prop:=Below w.heap.size w W/\c=.ret/\∃x,pre.find? (fun y=>Up y.text)=some x/\Boxed W (w.heap.size+1) 9 (.string (s.extract 0 x.at_))
theorem jc8(w W:World)(u:ByteArray)(tmps:Array Value)(h:Boxed W (w.heap.size+1) 9 (.string u))(hK:W.heap[w.heap.size+3]?=some (.deferred (some [])))(hB:Below w.heap.size w W)(t2:tmps[2]?=some (.pointer (some ⟨w.heap.size+1,0,none⟩))):
  bodyPostM Fence.wide 9 Tryz.prog Tryz.f14 (fun e w'=>e=.returned (.string u)/\Below w.heap.size w w') .ret {tmps:=tmps,defers:=[{target:=.collected (w.heap.size+3),args:=#[]}]} W:=by
 have p1:=grownBy_putObj' W (w.heap.size+3) (.deferred none)
 have zW:w.heap.size+3<W.heap.size:=(Array.getElem?_eq_some_iff.1 hK).1
 have r:Boxed (W.putObj (w.heap.size+3) (.deferred none)) (w.heap.size+1) 9 (.string u):=(p1.block _ (by omega) (fun e=>by have:=jh9 e;omega)).trans h
 have c:=r.cell
 refine⟨by simp,.inl ⟨_,_,rfl,run_takeDeferred hK,?_⟩⟩
 exact⟨.string u,by simp[results,Tryz.f14,go_sem,t2,c],rfl,hB.trans (belowK_b (w:=w) (jh6 _) W _ _ _ (by omega) hK rfl rfl)⟩
theorem jeG(s:ByteArray)(hsz:s.size<=100000)(w:World):
  Calls Tryz.prog 14 #[.string s] w fun e w'=>e=.returned (.string (s.extract 0 (vP (jf s.data.toList) s.size)))/\Below w.heap.size w w':=by
 obtain⟨xs,hxs⟩:∃xs,jf s.data.toList=xs:=⟨_,rfl⟩
 have HXS:=jh5 hxs
 have HH:=fun w b=>qQ s b w
 rw[hxs]at HH ⊢
 have FULL:Hid (s.extract 0 s.size=s):=by
  show s.extract 0 s.size=s
  apply jjf
  simp
 have LEN:Hid (∀pre x post,xs=pre++x::post->x.text.length<=s.size/\x.at_<=s.size):=fun pre x post h=>by
  have hj:=jB s.data.toList
  have ha:=(qz s.data.toList pre x post (hxs.trans h)).2
  rw[hxs,h,jiG,jio]at hj
  have:=congrArg List.length hj
  simp only[jh7]at this
  rw[<- jij]at this
  have hb:x.text.length<=x.bytes.length:=by unfold Ln.bytes;rw[jh7];omega
  omega
 clear hxs
 refine callsIn_wide (n:=9).1 ?_
 refine callsIn_of_wp_marks Tryz.func14 rfl trivial ?_ rfl
 simp only[Tryz.ntmps14,jjw,jic,jiW,Nat.reduceAdd,Nat.reduceSub,jjm,jjn,jjx,jjp,ji4,jiq]
 gi_wp2_with fail
 refine⟨trivial,(callsIn_wide.2 (yj s _)).mono ?_⟩
 rintro e w3 ⟨rfl,rfl⟩
 gi_wp2_with fail
 have k1:=((jjV w 9 (.string s)).alloc (.cells #[.string ⟨#[]⟩] 9)).alloc (.cells #[.string s] 9)
 have k2:=(ZB w (.cells #[.string s] 9) 9 (.string ⟨#[]⟩)).alloc (.cells #[.string s] 9)
 have k3:=Vr w (.cells #[.string s] 9) (.cells #[.string ⟨#[]⟩] 9) 9 (.string s)
 have kb:Below w.heap.size w (((w.alloc (.cells #[.string s] 9)).alloc (.cells #[.string ⟨#[]⟩] 9)).alloc (.cells #[.string s] 9)):=(((jh8 _ w).alloc (jh6 _) _).alloc (by simp) _).alloc (by simp;omega) _
 have kz:(((w.alloc (.cells #[.string s] 9)).alloc (.cells #[.string ⟨#[]⟩] 9)).alloc (.cells #[.string s] 9)).heap.size=w.heap.size+3:=by simp
 generalize ((w.alloc (.cells #[.string s] 9)).alloc (.cells #[.string ⟨#[]⟩] 9)).alloc (.cells #[.string s] 9)=w1 at *
 have ab:∀k,k<=5->Js (w.heap.size+3) k (jhN w s):=fun k hk pre W W' h ht =>
  ⟨ht.box h.1 (.inl (by omega)),ht.box h.2.1 (.inl (by omega)),h.2.2.1.trans (ht.below (by omega) h.2.2.1.size),h.2.2.2⟩
 refine vy (gf:=68) (lb:=#[.pointer (some ⟨w.heap.size+2,0,none⟩)]) rfl (enters_of Tryz.func68 (by kernel_rfl) rfl) (HH w1 _ k3 (by omega)) (fun _=>rfl)
  (jhN w s) (jh1 w s) (by rw[kz];exact ab _ (by omega)) (fun c pre W W' h ht=>by
   obtain⟨h1,h2,x,h3,h4⟩:=h
   exact⟨h1.trans (ht.below (by rw[kz];omega) h1.size),h2,x,h3,ht.box h4 (.inl (by rw[kz];omega))⟩) ⟨k1,k2,kb,fun y h=>by cases h⟩
  (fun a pre x a' W=>∃Bx,w.heap.size+3+5<=Bx/\a'={tmps:=(a.tmps.setIfInBounds 6 (.agg (zO x))).setIfInBounds 3 (.pointer (some ⟨Bx,0,none⟩)),defers:=[]}/\jd W Bx 76 (zO x)/\jhN w s pre W)
  ?hM ?assign ?body ?done ?stop
 case hM =>
  rw[kz]
  rintro a pre x a' _ W W' ⟨Bx,h1,h2,h3,h4⟩ ht
  exact⟨Bx,h1,h2,(ht.same Bx h3.lt (.inr (by omega))).trans h3,ab 2 (by omega) pre W W' h4 ht⟩
 case assign =>
  rw[kz]
  intro l pre x post W hx hsz hi
  clear hx
  dsimp only[zO]
  gi_wp2
  exact⟨(yh.refl _ _ W).alloc hsz _,W.heap.size,by omega,rfl,jd.new _ _ _,hi.1.alloc _,hi.2.1.alloc _,hi.2.2.1.alloc hi.2.2.1.size _,hi.2.2.2⟩
 case body =>
  rw[kz]
  rintro l pre x post a' W hx hsz ⟨Bx,hB,rfl,hc,h1,h2,h3,h4⟩
  obtain⟨hl1,hl2⟩:=LEN.out pre x post hx
  clear hx
  simp only[jiw,jiU,jiV,zO]at hc ⊢
  have hne:Bx≠w.heap.size:=by omega
  have p1:W.cell? ⟨Bx,1,none⟩=some (.int .i64 x.at_):=hc.cell 1
  have p2:W.cell? ⟨Bx,2,none⟩=some (.string ⟨x.text.toArray⟩):=hc.cell 2
  have BG:=Fr.beginsF_any ⟨x.text.toArray⟩ (by show x.text.toArray.size<=_;simp;omega) W
  have eb:(Fr.signB (⟨x.text.toArray⟩:ByteArray).data.toList&&decide (jk (⟨x.text.toArray⟩:ByteArray).data.toList=5))=Up x.text:=rfl
  rw[eb]at BG
  gi_wp2_with fail
  refine⟨trivial,((callsIn_wide.2 BG).inRound l).mono ?_⟩
  rintro e V ⟨rfl,hV⟩
  have st:yh (w.heap.size+3) (3+2) W V:=⟨hV.size,fun r a b=>hV.block r (by omega)⟩
  have g1:Boxed V w.heap.size 9 (.string s):=(hV.block _ h1.lt).trans h1
  have g2:Boxed V (w.heap.size+1) 9 (.string ⟨#[]⟩):=(hV.block _ h2.lt).trans h2
  have g3:Below w.heap.size w V:=h3.trans (hV.mono h3.size)
  cases hbx:Up x.text with
  | false =>
   gi_wp2
   refine⟨st,g1,g2,g3,fun y hy => ?_⟩
   rcases List.mem_append.1 hy with hy|hy
   ·exact h4 y hy
   rw[List.mem_singleton.1 hy];exact hbx
  | true =>
  have hcV:jd V Bx 76 _:=(hV.block _ hc.lt).trans hc
  have p1':V.cell? ⟨Bx,1,none⟩=some (.int .i64 x.at_):=by rw[hcV.cell];rfl
  have c1:=g1.cell
  have c2:=g2.cell
  have f2:=g2.frozen
  have fnd:(pre++[x]).find? (fun y=>Up y.text)=some x:=by
   rw[List.find?_append,List.find?_eq_none.2 (fun y hy=>by rw[h4 y hy];simp),Option.none_or,List.find?_cons]
   simp[hbx]
  have hl3:(x.at_:Int)<=s.size:=by omega
  gi_wp2
  exact⟨st.setCell (p:=⟨w.heap.size+1,0,none⟩) (.inl (by show w.heap.size+1<_;omega)) _,g3.setCell (p:=⟨w.heap.size+1,0,none⟩) (by show w.heap.size<=w.heap.size+1;omega) _,rfl,x,fnd,jjy _ g2⟩
 case done =>
  rw[kz]
  rintro W ⟨h1,h2,h3,h4⟩ hmark
  have zW:w.heap.size+3<W.heap.size:=(Array.getElem?_eq_some_iff.1 hmark).1
  have c1:=h1.cell
  have c2:=h2.cell
  have f2:=h2.frozen
  have e:vP xs s.size=s.size:=by
   unfold vP
   rw[List.find?_eq_none.2 (fun y hy=>by rw[h4 y hy];simp)]
  have eu:s.extract 0 (vP xs s.size)=s:=by rw[e];exact FULL.out
  gi_wp2
  exact jc8 w _ (s.extract 0 (vP xs s.size)) _ (by rw[eu];exact jjy _ h2) ((jiJ _ _ _ _ (by show w.heap.size+3≠w.heap.size+1;omega)).trans hmark) (h3.setCell (p:=⟨w.heap.size+1,0,none⟩) (by show w.heap.size<=w.heap.size+1;omega) _) rfl
 case stop =>
 rw[kz]
 rintro c pre W hpre ⟨h1,rfl,x,h3,h4⟩ hmark
 have e:vP xs s.size=x.at_:=by
  unfold vP
  obtain⟨z,rfl⟩:=hpre
  rw[List.find?_append,h3];rfl
 gi_wp2
 exact jc8 w W (s.extract 0 (vP xs s.size)) _ (by rw[e];exact h4) hmark h1 rfl
theorem jeH(t:List UInt8)(ht:t.length<=100000)(w:World):
  Calls Tryz.prog 14 #[.string (B t)] w fun e w'=>e=.returned (.string (B (vk t)))/\Below w.heap.size w w':=by
 have h:=jeG (B t) (by rw[je];exact ht) w
 rw[ji,je,Fr.ext_take]at h
 exact h
end Go.Proofs.YtmdhainabeljpaaGreatDoor.Bk
namespace Go.Proofs.YtmdhainabeljpaaGreatDoor.Hd
open Go.RowKit Go.Shelf
attribute [local go_sem] jil
def MaxL(w:World):Prop:=∃m:Int,w.cell? ⟨0,0,none⟩=some (.int .i64 m)
theorem MaxL.below{w w':World}{N:Nat}(h:MaxL w)(hb:Below N w w')(hN:w.heap.size<=N):MaxL w':=by
 obtain⟨m,hm⟩:=h
 have hlt:0<w.heap.size:=by
  rcases jir 0 w.heap.size with h|h
  ·exact h
  have:w.heap[0]?=none:=jiI h
  simp[World.cell?,this]at hm
 exact⟨m,(hb.cell (p:=⟨0,0,none⟩) (by show 0<N;omega)).trans hm⟩
structure Tab(w:World):Prop where
 nums:Fr.TabsN w
 max:MaxL w
theorem Tab.below{w w':World}{N:Nat}(h:Tab w)(hb:Below N w w')(hN:w.heap.size<=N):Tab w':=⟨h.nums.below hb hN,h.max.below hb hN⟩
theorem yr{w:World}(n:Nat)(os:Array Obj):Below w.heap.size w (Go.Sort.grow (w.drewN n) os) :=
 ⟨rfl,rfl,rfl,by rw[Go.Sort.size_grow];exact Nat.le_add_right _ _,fun k hk=>jkn _ _ hk⟩
theorem Qn(n:Nat)(hn:n<=9223372036854775807)(w:World)(ht:Tab w):Calls Tryz.prog 101 #[.int .i64 (n:Int)] w fun e w'=>e=.returned (.string (B (Lib.decDigits n)))/\Below w.heap.size w w' :=
 (Tryz.strconv_Itoa n (by omega) (by omega) w ht.nums.pow).mono fun e w' ⟨he,k,os,hw⟩=>⟨by rw[he,jjc];rfl,by rw[hw];exact yr k os⟩
theorem Gy(g:Nat)(h1:1<=g)(h2:g<=2147483648)(w:World)(ht:Tab w):
  Calls Tryz.prog 65 #[.int .i64 (g:Int)] w fun e w'=>e=.returned (.tuple #[.string (B (qS g)),.nilIface])/\Below w.heap.size w w':=by
 have IT:=jh5 (Qn g (by omega) w ht)
 have E:Hid ((⟨#[35,37,103,101,110,32]⟩:ByteArray)++B (Lib.decDigits g) ++ ⟨#[10,10]⟩=B (qS g)):=by
  show _=_
  rw[show(⟨#[35,37,103,101,110,32]⟩:ByteArray)=B Qc from rfl,show(⟨#[10,10]⟩:ByteArray)=B [10,10] from rfl,jj,jj]
  unfold qS;simp
 have hs:(B (Lib.decDigits g)).size<=20:=by rw[je];exact(jcV g h2).2
 have q1:¬(g:Int)<1:=by omega
 have q2:¬(2147483648:Int)<g:=by omega
 generalize B (Lib.decDigits g)=d at *
 have s1:((⟨#[35,37,103,101,110,32]⟩:ByteArray)++d).size<=26:=by rw[jiN];show 6+_<=_;omega
 clear ht
 go_enter Tryz.func65,Tryz.ntmps65
 go_wp2_with fail
 refine IT.out.mono ?_
 rintro e w1 ⟨rfl,hb⟩
 go_wp2_with fail
 go_ret2
 exact⟨by rw[<- E.out];rfl,hb⟩
theorem Gx(g:Int)(h:g<1\/2147483648<g)(w:World):
  Calls Tryz.prog 65 #[.int .i64 g] w fun e w'=>e=.returned (.tuple #[.string (B []),Zy 1])/\w'=w:=by
 by_cases q1:g<1
 ·go_enter Tryz.func65,Tryz.ntmps65
  go_wp2_with fail
  go_ret2
  exact⟨rfl,rfl⟩
 have q2:(2147483648:Int)<g:=by omega
 go_enter Tryz.func65,Tryz.ntmps65
 go_wp2_with fail
 go_ret2
 exact⟨rfl,rfl⟩
theorem jfS(g:Nat)(h1:1<=g)(h2:g<=2147483648)(w:World)(ht:Tab w):
  Calls Tryz.prog 26 #[.int .i64 (g:Int)] w fun e w'=>e=.returned (.int .i64 (qS g).length)/\Below w.heap.size w w':=by
 have L:=jh5 (Gy g h1 h2 w ht)
 have hs:=je (qS g)
 generalize B (qS g)=d at *
 rw[<- hs]
 clear ht hs
 go_enter Tryz.func26,Tryz.ntmps26
 go_wp2_with fail
 refine L.out.mono ?_
 rintro e w1 ⟨rfl,hb⟩
 go_wp2_with fail
 go_ret
 exact⟨rfl,hb⟩
theorem jfR(g:Int)(h:g<1\/2147483648<g)(w:World):
  Calls Tryz.prog 26 #[.int .i64 g] w fun e w'=>e=.returned (.int .i64 0)/\w'=w:=by
 have L:=jh5 (Gx g h w)
 have hs:(B []).size=0:=rfl
 go_enter Tryz.func26,Tryz.ntmps26
 go_wp2_with fail
 refine L.out.mono ?_
 rintro e w1 ⟨rfl,rfl⟩
 go_wp2_with fail
 go_ret
 exact⟨rfl,rfl⟩
def genP(t:List UInt8):Nat:=if 1<=zX (figs t)/\zX (figs t)<=2147483648/\Lib.hasPrefix t (qS (zX (figs t)).toNat)=true then (zX (figs t)).toNat else 0
theorem genP_is(t:List UInt8):xC t (genP t):=jec t
theorem jbw(t:List UInt8)(w:World):Calls Tryz.prog 66 #[.string (B t),.string ⟨#[35,37,103,101,110,32]⟩] w fun e w'=>e=.returned (.string (B (Lib.trimPrefix t Qc)))/\w'=w :=
 (Tryz.strings_TrimPrefix (B t) ⟨#[35,37,103,101,110,32]⟩ w).mono fun e w' ⟨he,hw⟩=>⟨by rw[he,ji];rfl,hw⟩
theorem jex(t:List UInt8)(ht:t.length<=1000000)(w:World)(hm:MaxL w):Calls Tryz.prog 33 #[.string (B t),.string ⟨#[10,10]⟩] w fun e w'=>(∃b c,e=.returned (.tuple #[.string (B (Lib.cut t [10,10]).1),.string b,.bool c]))/\Below w.heap.size w w':=by
 obtain⟨m,hm⟩:=hm
 refine(Tryz.strings_Cut (B t) ⟨#[10,10]⟩ m w (by rw[je];omega) hm).mono ?_
 rintro e w' ⟨rfl,n,rfl⟩
 rw[ji]
 exact⟨⟨_,_,rfl⟩,qT (jh8 _ _) n⟩
theorem jdF(a b:List UInt8)(w:World):Calls Tryz.prog 39 #[.string (B a),.string (B b)] w fun e w'=>e=.returned (.bool (Lib.hasPrefix a b))/\w'=w :=
 (Tryz.strings_HasPrefix (B a) (B b) w).mono fun e w' ⟨he,hw⟩=>⟨by rw[he,ji,ji],hw⟩
theorem jdp(t p:List UInt8):(Lib.trimPrefix t p).length<=t.length:=by
 unfold Lib.trimPrefix;split
 ·rw[jik];omega
 omega
theorem jgb(t:List UInt8)(hl:t.length<=100000)(w:World)(ht:Tab w):
  Calls Tryz.prog 27 #[.string (B t)] w fun e w'=>e=.returned (.int .i64 (genP t:Nat))/\Below w.heap.size w w':=by
 have TR:=jh5 (jbw t)
 have hfl:=jej t
 have htl:=jdp t Qc
 have CU:=jh5 (fun W (hb:Below w.heap.size w W)=>jex (Lib.trimPrefix t Qc) (by omega) W (ht.max.below hb (jh6 _)))
 have AT:=jh5 (fun W (hb:Below w.heap.size w W)=>Fr.atoi_any (figs t) (by omega) W (ht.nums.below hb (jh6 _)))
 have PR:=jh5 (fun g W=>jdF t (qS g) W)
 unfold genP
 rw[show(Lib.cut (Lib.trimPrefix t Qc) [10,10]).1=figs t from rfl]at CU
 generalize figs t=fg at *
 generalize Lib.trimPrefix t Qc=tr at *
 generalize zX fg=v at *
 by_cases hv:1<=v/\v<=2147483648
 ·obtain⟨g,rfl⟩:∃g:Nat,v=g:=⟨v.toNat,by omega⟩
  have LI:=jh5 (fun W (hb:Below w.heap.size w W)=>Gy g (by omega) (by omega) W (ht.below hb (jh6 _)))
  have PR:=jh5 (fun W=>PR.out g W)
  rw[jju]
  cases hp:Lib.hasPrefix t (qS g) with
  | true =>
   rw[if_pos ⟨hv.1,hv.2,rfl⟩]
   rw[hp]at PR
   clear ht hp
   generalize B t=bt at *
   generalize B (qS g)=bh at *
   generalize B fg=bf at *
   generalize B tr=br at *
   go_enter Tryz.func27,Tryz.ntmps27
   go_wp2_with fail
   refine(TR.out _).mono ?_
   rintro e w1 ⟨rfl,rfl⟩
   go_wp2_with fail
   refine(CU.out _ (jh8 _ _)).mono ?_
   rintro e w2 ⟨⟨b,c,rfl⟩,hb2⟩
   go_wp2_with fail
   refine(AT.out _ hb2).mono ?_
   rintro e w3 ⟨⟨T,q,rfl|rfl⟩,hb3⟩
   all_goals
    have hb4:=hb2.trans (hb3.mono hb2.size)
    go_wp2_with fail
    refine(LI.out _ hb4).mono ?_
    rintro e w4 ⟨rfl,hb5⟩
    have hb6:=hb4.trans (hb5.mono hb4.size)
    go_wp2_with fail
    refine(PR.out _).mono ?_
    rintro e w5 ⟨rfl,rfl⟩
    go_wp2_with fail
    go_ret
    exact⟨rfl,hb6⟩
  | false =>
  rw[if_neg (fun h=>Bool.noConfusion h.2.2)]
  rw[hp]at PR
  clear ht hp
  generalize B t=bt at *
  generalize B (qS g)=bh at *
  generalize B fg=bf at *
  generalize B tr=br at *
  go_enter Tryz.func27,Tryz.ntmps27
  go_wp2_with fail
  refine(TR.out _).mono ?_
  rintro e w1 ⟨rfl,rfl⟩
  go_wp2_with fail
  refine(CU.out _ (jh8 _ _)).mono ?_
  rintro e w2 ⟨⟨b,c,rfl⟩,hb2⟩
  go_wp2_with fail
  refine(AT.out _ hb2).mono ?_
  rintro e w3 ⟨⟨T,q,rfl|rfl⟩,hb3⟩
  all_goals
   have hb4:=hb2.trans (hb3.mono hb2.size)
   go_wp2_with fail
   refine(LI.out _ hb4).mono ?_
   rintro e w4 ⟨rfl,hb5⟩
   have hb6:=hb4.trans (hb5.mono hb4.size)
   go_wp2_with fail
   refine(PR.out _).mono ?_
   rintro e w5 ⟨rfl,rfl⟩
   go_wp2_with fail
   go_ret
   exact⟨rfl,hb6⟩
 rw[if_neg (fun h=>hv ⟨h.1,h.2.1⟩)]
 have LI:=jh5 (fun W=>Gx v (by omega) W)
 clear ht PR
 generalize B t=bt at *
 generalize B fg=bf at *
 generalize B tr=br at *
 go_enter Tryz.func27,Tryz.ntmps27
 go_wp2_with fail
 refine(TR.out _).mono ?_
 rintro e w1 ⟨rfl,rfl⟩
 go_wp2_with fail
 refine(CU.out _ (jh8 _ _)).mono ?_
 rintro e w2 ⟨⟨b,c,rfl⟩,hb2⟩
 go_wp2_with fail
 refine(AT.out _ hb2).mono ?_
 rintro e w3 ⟨⟨T,q,rfl|rfl⟩,hb3⟩
 all_goals
  have hb4:=hb2.trans (hb3.mono hb2.size)
  go_wp2_with fail
  refine(LI.out _).mono ?_
  rintro e w4 ⟨rfl,rfl⟩
  rw[zk 1 (by omega)]
  go_wp2_with fail
  go_ret
  exact⟨rfl,hb4⟩
def lenP(n:Nat):Nat:=if 1<=n/\n<=2147483648 then (qS n).length else 0
theorem lenP_call(n:Nat)(w:World)(ht:Tab w):Calls Tryz.prog 26 #[.int .i64 (n:Int)] w fun e w'=>e=.returned (.int .i64 (lenP n:Nat))/\Below w.heap.size w w':=by
 unfold lenP
 by_cases h:1<=n/\n<=2147483648
 ·rw[if_pos h];exact jfS n h.1 h.2 w ht
 rw[if_neg h]
 refine(jfR n (by omega) w).mono ?_
 rintro e w' ⟨rfl,rfl⟩
 exact⟨rfl,jh8 _ _⟩
theorem jfT{t:List UInt8}{n:Nat}(h:xC t n):lenP n<=t.length:=by
 unfold lenP
 split
 ·rename_i hn
  obtain⟨r,rfl⟩:=jga h hn.1
  simp
 omega
theorem WZ{w W W':World}(h:Below w.heap.size w W)(hb:Below W.heap.size W W'):Below w.heap.size w W':=h.trans (hb.mono h.size)
theorem take_any(t:List UInt8)(hl:t.length<=100000)(w:World)(ht:Tab w):
  Calls Tryz.prog 13 #[.string (B t)] w fun e w'=>e=.returned (.tuple #[.int .i64 (genP t:Nat),.string (B (t.drop (lenP (genP t))))])/\Below w.heap.size w w':=by
 have G:=jh5 (jgb t hl w ht)
 have hle:=jfT (genP_is t)
 have L:=jh5 (fun W (hb:Below w.heap.size w W)=>lenP_call (genP t) W (ht.below hb (jh6 _)))
 have hE:Hid ((B t).extract (lenP (genP t)) (B t).size=B (t.drop (lenP (genP t)))):=by
  show _=_
  have e:=jjG (B t) (lenP (genP t))
  rw[ji]at e
  rw[<- jbh ((B t).extract _ _),e]
 have hz:=je t
 rw[<- hz]at hle hl
 generalize lenP (genP t)=k at *
 generalize genP t=g at *
 generalize B t=bt at *
 clear hz ht
 have hki:(k:Int)<=(bt.size:Int):=by omega
 have h0:(0:Int)<=(k:Int):=by omega
 go_enter Tryz.func13,Tryz.ntmps13
 go_wp2_with fail
 refine G.out.mono ?_
 rintro e w1 ⟨rfl,hb1⟩
 have HS:=jh5 (show ∀W,Below w1.heap.size w1 W->Below w1.heap.size w1 W from fun W h=>h)
 have HL:=jh5 (fun W (hb:Below w1.heap.size w1 W)=>L.out W (hb1.trans (hb.mono hb1.size)))
 go_wp2_with fail
 go_region_held3 (fun W=>Below w1.heap.size w1 W) ((refine HS.out _ ?_;repeat (first | exact jh8 _ _ | assumption | (refine Below.drew ?_) | (refine WZ ?_ (by assumption))))) ((go_at_call 26;refine(HL.out _ ?_).mono ?_;(focus (repeat (first | exact jh8 _ _ | assumption | (refine Below.drew ?_) | (refine WZ ?_ (by assumption)))));rintro e w5 ⟨rfl,hb5⟩))
 all_goals go_wp2_with fail
 all_goals
  go_ret2
  have hb7:Below w1.heap.size w1 w5:=WZ (Below.drew (jh8 _ _)) hb5
  exact⟨by rw[<- hE.out];rfl,hb1.trans (hb7.mono hb1.size)⟩
theorem VO{c:UInt8}(d:UInt8)(n:Int)(hn:(d.toNat:Int)=n):((c.toNat:Int)==n)=(c==d):=by
 by_cases h:c=d
 ·subst h;simp[hn]
 have:(c.toNat:Int)≠n:=by intro e;apply h;apply UInt8.toNat_inj.1;omega
 rw[beq_eq_false_iff_ne.2 this];simp[h]
structure Stop(t:List UInt8)(i:Nat):Prop where
 sign:t.take 6=Qc
 ge:6<=i
 le:i<=t.length
 no:(10:UInt8)∉(t.take i).drop 6
def jbj(t:List UInt8)(i:Nat):List UInt8:=(t.take i).drop 6
theorem Stop.form{t:List UInt8}{i:Nat}(h:Stop t i):t=Qc++(jbj t i++t.drop i):=by
 have e:t.take i=Qc++jbj t i:=by
  have e1:(t.take i).take 6=Qc:=by rw[List.take_take,Nat.min_eq_left h.ge];exact h.sign
  conv=>lhs;rw[<- jiy 6 (t.take i),e1]
  rfl
 conv=>lhs;rw[<- jiy i t,e,jip]
theorem Stop.end_{t:List UInt8}{i:Nat}(h:i=t.length\/t[i]?=some 10):t.drop i=[]\/∃q,t.drop i=10::q:=by
 rcases h with h|h
 ·left;rw[h];simp
 obtain⟨hlt,hc⟩:=List.getElem?_eq_some_iff.1 h
 right
 exact⟨t.drop (i+1),by rw[jiB hlt,hc]⟩
theorem jgl{g:Nat}(h2:g<=2147483648):Fr.numL (Lib.decDigits g)=some (g:Int):=Fr.numL_some.2 ⟨by constructor<;>omega,by rw[jjc]⟩
theorem Stop.no_num{t:List UInt8}{i:Nat}(h:Stop t i)(he:i=t.length\/t[i]?=some 10)(hn:∀n,Fr.numL (jbj t i)=some n->n<1\/2147483648<n):xC t 0:=by
 rw[h.form]
 refine jcA h.no (fun g h1 h2=>.inl fun e => ?_) (Stop.end_ he)
 have:=hn g (by rw[e];exact jgl h2)
 omega
theorem Stop.one{t:List UInt8}{i:Nat}(h:Stop t i)(he:i=t.length\/t[i]?=some 10)(hn:t[i+1]?≠some 10):xC t 0:=by
 rw[h.form]
 refine jcA h.no (fun g h1 h2=>.inr fun q e=>hn ?_) (Stop.end_ he)
 have:(t.drop i)[1]?=some 10:=by rw[e];rfl
 rwa [jiZ]at this
theorem Stop.yes{t:List UInt8}{i g:Nat}(h:Stop t i)(h1:1<=g)(h2:g<=2147483648)(he:t[i]?=some 10)(he2:t[i+1]?=some 10)(hn:Fr.numL (jbj t i)=some (g:Int)):xC t g/\lenP g=i+2:=by
 have hd:jbj t i=Lib.decDigits g:=by
  have:=(Fr.numL_some.1 hn).2
  rw[jjc]at this
  exact this.symm
 obtain⟨hlt,hc⟩:=List.getElem?_eq_some_iff.1 he
 obtain⟨hlt2,hc2⟩:=List.getElem?_eq_some_iff.1 he2
 have e:t.drop i=10::10::t.drop (i+2):=by rw[jiB hlt,hc,jiB hlt2,hc2]
 have hf:=h.form
 rw[e]at hf
 refine⟨by rw[hf];exact jf9 h.no h1 h2 hd,?_⟩
 unfold lenP
 rw[if_pos ⟨h1,h2⟩]
 unfold qS
 have hl:(jbj t i).length=i-6:=by unfold jbj;rw[jik,jiE];have:=h.le;omega
 rw[<- hd]
 simp only[jh7,hl,jic,jiW]
 have:=h.ge
 show 6+_=_
 omega
theorem QK(n:Int)(w:World):Calls Tryz.prog 45 #[.int .i64 n] w fun e w'=>e=.returned (.bool (decide (1<=n/\n<=2147483648)))/\w'=w:=by
 have D1:=jh5 (fun(h:1<=n/\n<=2147483648)=>congrArg (fun b=>Ending.returned (.bool b)) (decide_eq_true h).symm)
 have D2:=jh5 (fun(h:¬(1<=n/\n<=2147483648))=>congrArg (fun b=>Ending.returned (.bool b)) (decide_eq_false h).symm)
 generalize decide (1<=n/\n<=2147483648)=q at *
 by_cases h1:1<=n
 ·by_cases h2:n<=2147483648
  ·go_enter Tryz.func45,Tryz.ntmps45
   go_wp2_with fail
   go_ret
   exact⟨D1.out ⟨h1,h2⟩,rfl⟩
  go_enter Tryz.func45,Tryz.ntmps45
  go_wp2_with fail
  go_ret
  exact⟨D2.out (fun h=>absurd h.2 (by omega)),rfl⟩
 go_enter Tryz.func45,Tryz.ntmps45
 go_wp2_with fail
 go_ret
 exact⟨D2.out (fun h=>absurd h.1 (by omega)),rfl⟩
theorem yQ{s:ByteArray}{k:Nat}(h:k<s.size):s.data.toList[k]?=some s[k]:=by
 rw[jia (by rw[<- jij];exact h)];rfl
theorem jfG{s:ByteArray}{k:Nat}(h6:6<=k)(h:k<s.size)(h1:(10:UInt8)∉(s.data.toList.take k).drop 6)(h2:(s[k]==10)=false):(10:UInt8)∉(s.data.toList.take (k+1)).drop 6:=by
 have hl:k<s.data.toList.length:=by rw[<- jij];exact h
 rw[jjq hl,jjz (by rw[jiE];omega)]
 intro hm
 rcases List.mem_append.1 hm with hm|hm
 ·exact h1 hm
 have e:(10:UInt8)=s.data.toList[k]:=by simpa using hm
 have e2:s.data.toList[k]=s[k]:=rfl
 rw[<- e2,<- e]at h2
 simp at h2
theorem GQ(s:ByteArray)(a b:Nat):s.extract a b=B ((s.data.toList.take b).drop a):=by
 rw[<- jbh (s.extract a b),ji7]
 congr 1
 rw[List.drop_take]
theorem drop_zero(s:ByteArray):B (s.data.toList.drop (lenP 0))=s:=by
 rw[show lenP 0=0 from rfl,jjl,jbh]
theorem reftake_any(s:ByteArray)(hs:s.size<=100000)(n:Nat)(hn:xC s.data.toList n)(w:World):
  Calls Tryz.prog 18 #[.string s] w fun e w'=>e=.returned (.tuple #[.int .i64 (n:Int),.string (B (s.data.toList.drop (lenP n)))])/\Below w.heap.size w w':=by
 have HZ:=jh5 (jij s)
 have DZ:=jh5 (drop_zero s)
 by_cases h9:s.size<9
 ·obtain rfl:=gen_one hn (gen_short (by rw[<- HZ.out];exact h9))
  rw[DZ.out]
  have q:decide ((s.size:Int)<9)=true:=by simp;omega
  go_enter Tryz.func18,Tryz.ntmps18
  go_wp2_with fail
  go_ret2
  exact⟨rfl,jh8 _ _⟩
 have q:decide ((s.size:Int)<9)=false:=by simp;omega
 have x6:s.extract 0 6=B (s.data.toList.take 6):=by rw[GQ,jjl]
 have c6:(6:Int)<=(s.size:Int):=by omega
 have sg:((B (s.data.toList.take 6)).toList==[35,37,103,101,110,32])=decide (s.data.toList.take 6=Qc):=by
  rw[jiu,ji,jiX]
  unfold Qc
  simp
 by_cases hsg:s.data.toList.take 6=Qc
 rotate_left
 ·obtain rfl:=gen_one hn (jaU hsg)
  rw[DZ.out]
  rw[decide_eq_false hsg]at sg
  generalize B (s.data.toList.take 6)=V at *
  go_enter Tryz.func18,Tryz.ntmps18
  go_wp2_with fail
  go_ret2
  exact⟨rfl,jh8 _ _⟩
 rw[decide_eq_true hsg]at sg
 have NU:=jh5 (fun(l:List UInt8) (hl:l.length<=1000000) W=>Fr.number_any l hl W)
 have HN:=jh5 hn
 have HSG:=jh5 hsg
 clear hn hsg
 generalize B (s.data.toList.take 6)=V at *
 go_enter Tryz.func18,Tryz.ntmps18
 go_wp2_with fail
 go_loop [4] (fun i=>∃k:Nat,k<=s.size/\6<=k/\i=.int .i64 k/\(10:UInt8)∉(s.data.toList.take k).drop 6) (fun i=>s.size-(intOf i).toNat)
 case atStart=>exact⟨6,by omega,jh6 _,rfl,by rw[ji0 (by rw[jiE];omega)];simp⟩
 case round =>
 obtain⟨k,hk,h6,rfl,hno⟩:=hrel
 have ST:=jh5 (show Stop s.data.toList k from⟨HSG.out,h6,by rw[<- HZ.out];exact hk,hno⟩)
 have hxk:s.extract 6 k=B (jbj s.data.toList k):=GQ s 6 k
 have hdl:(jbj s.data.toList k).length<=1000000:=by unfold jbj;rw[jik,jiE];omega
 have h6k:(6:Int)<=(k:Int):=by omega
 have hks:(k:Int)<=(s.size:Int):=by omega
 by_cases hlt:k<s.size
 ·have c1:=VO (c:=s[k]) 10 10 rfl
  cases hc:(s[k]==10) with
  | false =>
   rw[hc]at c1
   have HNO:=jh5 (jfG h6 hlt hno hc)
   clear hno hc hxk hdl
   go_wp2_with fail
   go_round
   case rel=>exact⟨k+1,by omega,by omega,by go_num,HNO.out⟩
   case measure=>simp[intOf];omega
  | true =>
  rw[hc]at c1
  have AT:Hid (s.data.toList[k]?=some 10):=by show _=_;rw[yQ hlt];congr 1;simpa using hc
  have NUk:=jh5 (NU.out _ hdl)
  have NO:=jh5 (ST.out.no_num (.inr AT.out))
  have ONE:=jh5 (ST.out.one (.inr AT.out))
  have YES:=jh5 (fun g h1 h2 he2 hn=>ST.out.yes (g:=g) h1 h2 AT.out he2 hn)
  have AT1:=jh5 (fun(h:k+1<s.size)=>yQ h)
  unfold Fr.numEnd at NUk
  generalize jbj s.data.toList k=ds at *
  clear hno hc hdl
  cases hnum:Fr.numL ds with
  | none =>
   obtain rfl:=gen_one HN.out (NO.out (fun n h=>by rw[hnum]at h;cases h))
   rw[hnum]at NUk
   clear hnum
   go_wp2_with fail
   refine(NUk.out _).mono ?_
   rintro e w1 ⟨rfl,rfl⟩
   go_wp2_with fail
   go_ret2
   exact⟨by rw[DZ.out];rfl,jh8 _ _⟩
  | some v =>
  have RG:=jh5 (fun W=>QK v W)
  by_cases hv:1<=v/\v<=2147483648
  rotate_left
  ·obtain rfl:=gen_one HN.out (NO.out (fun n h=>by rw[hnum]at h;cases h;omega))
   rw[hnum]at NUk
   rw[decide_eq_false hv]at RG
   clear hnum
   go_wp2_with fail
   refine(NUk.out _).mono ?_
   rintro e w1 ⟨rfl,rfl⟩
   go_wp2_with fail
   refine(RG.out _).mono ?_
   rintro e w1 ⟨rfl,rfl⟩
   go_wp2_with fail
   go_ret2
   exact⟨by rw[DZ.out];rfl,jh8 _ _⟩
  rw[decide_eq_true hv]at RG
  obtain⟨g,rfl⟩:∃g:Nat,v=g:=⟨v.toNat,by omega⟩
  by_cases hl2:k+1<s.size
  rotate_left
  ·obtain rfl:=gen_one HN.out (ONE.out (by rw[jis (by rw[<- HZ.out];omega)];simp))
   rw[hnum]at NUk
   have q2:decide (((k:Int)+1) >= (s.size:Int))=true:=by simp;omega
   have q3:(s.size:Int)<=(k:Int)+1:=by omega
   clear hnum
   go_wp2_with fail
   refine(NUk.out _).mono ?_
   rintro e w1 ⟨rfl,rfl⟩
   go_wp2_with fail
   refine(RG.out _).mono ?_
   rintro e w1 ⟨rfl,rfl⟩
   go_wp2_with fail
   go_ret2
   exact⟨by rw[DZ.out];rfl,jh8 _ _⟩
  have q2:decide ((s.size:Int)<=(k:Int)+1)=false:=decide_eq_false (by omega)
  have c2:=VO (c:=s[k+1]) 10 10 rfl
  cases hc2:(s[k+1]==10) with
  | false =>
   obtain rfl:=gen_one HN.out (ONE.out (by rw[AT1.out hl2];intro h;have h:=jh9 h;rw[h]at hc2;simp at hc2))
   rw[hnum]at NUk
   rw[hc2]at c2
   clear hnum hc2
   go_wp2_with fail
   refine(NUk.out _).mono ?_
   rintro e w1 ⟨rfl,rfl⟩
   go_wp2_with fail
   refine(RG.out _).mono ?_
   rintro e w1 ⟨rfl,rfl⟩
   go_wp2_with fail
   go_ret2
   exact⟨by rw[DZ.out];rfl,jh8 _ _⟩
  | true =>
  obtain⟨y1,y2⟩:=YES.out g (by omega) (by omega) (by rw[AT1.out hl2];congr 1;simpa using hc2) hnum
  obtain rfl:=gen_one HN.out y1
  have Y2:=jh5 y2
  have E2:Hid (s.extract (k+2) s.size=B (s.data.toList.drop (k+2))):=by
   show _=_
   rw[<- jbh (s.extract _ _),jjG]
  rw[hnum]at NUk
  rw[hc2]at c2
  have k2:(k:Int)+2<=(s.size:Int):=by omega
  have k3:(0:Int)<=(k:Int)+2:=by omega
  clear hnum hc2 y1 y2
  go_wp2_with fail
  refine(NUk.out _).mono ?_
  rintro e w1 ⟨rfl,rfl⟩
  go_wp2_with fail
  refine(RG.out _).mono ?_
  rintro e w1 ⟨rfl,rfl⟩
  go_wp2_with fail
  go_quiet (fail)
  go_wp2_with fail
  go_ret2
  exact⟨by rw[Y2.out,<- E2.out];rfl,qT (jh8 _ _) _⟩
 obtain rfl:k=s.size:=by omega
 have NUk:=jh5 (NU.out _ hdl)
 have NO:=jh5 (ST.out.no_num (.inl HZ.out))
 have ONE:=jh5 (ST.out.one (.inl HZ.out))
 unfold Fr.numEnd at NUk
 generalize jbj s.data.toList s.size=ds at *
 clear hno hdl
 obtain rfl:=gen_one HN.out (ONE.out (by rw[jis (by rw[<- HZ.out];omega)];simp))
 cases hnum:Fr.numL ds with
 | none =>
  rw[hnum]at NUk
  clear hnum
  go_wp2_with fail
  refine(NUk.out _).mono ?_
  rintro e w1 ⟨rfl,rfl⟩
  go_wp2_with fail
  go_ret2
  exact⟨by rw[DZ.out];rfl,jh8 _ _⟩
 | some v =>
 have RG:=jh5 (fun W=>QK v W)
 rw[hnum]at NUk
 clear hnum
 have q3:(s.size:Int)<=(s.size:Int)+1:=by omega
 cases hv:decide (1<=v/\v<=2147483648) with
 | false =>
  rw[hv]at RG
  clear hv
  go_wp2_with fail
  refine(NUk.out _).mono ?_
  rintro e w1 ⟨rfl,rfl⟩
  go_wp2_with fail
  refine(RG.out _).mono ?_
  rintro e w1 ⟨rfl,rfl⟩
  go_wp2_with fail
  go_ret2
  exact⟨by rw[DZ.out];rfl,jh8 _ _⟩
 | true =>
 rw[hv]at RG
 clear hv
 go_wp2_with fail
 refine(NUk.out _).mono ?_
 rintro e w1 ⟨rfl,rfl⟩
 go_wp2_with fail
 refine(RG.out _).mono ?_
 rintro e w1 ⟨rfl,rfl⟩
 go_wp2_with fail
 go_ret2
 exact⟨by rw[DZ.out];rfl,jh8 _ _⟩
end Go.Proofs.YtmdhainabeljpaaGreatDoor.Hd
namespace Go.Proofs.YtmdhainabeljpaaGreatDoor
def num:Nat->Nat->List (List UInt8)->List Ln
 | _,_,[]=>[]
 | no,c,l::r=>⟨no,c,l,true⟩::num (no+1) (c+l.length+1) r
theorem yE:∀(ts:List (List UInt8)) (no c:Nat),(∀l∈ts,(10:UInt8)∉l)->jS no c (jr ts)=num no c ts
 | [],no,c,_=>rfl
 | l::r,no,c,h=>by
  have e:jr (l::r)=l++10::jr r:=by unfold jr;simp
  obtain⟨h1,h2⟩:=Ua l (jr r) (h l jig)
  have hu:qy (l++10::jr r)=l.length+1:=by unfold qy;rw[h1,h2];rfl
  rw[e,js _ _ _ (by simp),h1,h2,hu]
  have hd:(l++10::jr r).drop (l.length+1)=jr r:=by
   rw[show l++10::jr r=(l++[10])++jr r by simp]
   exact jjs (by simp)
  rw[hd,yE r _ _ (fun y hy=>h y (jif _ hy))]
  rfl
theorem xI:∀(a b:List (List UInt8)) (no c:Nat),num no c (a++b)=num no c a++num (no+a.length) (c+(jr a).length) b
 | [],b,no,c=>rfl
 | l::a,b,no,c=>by
  have:=xI a b (no+1) (c+l.length+1)
  show _::num _ _ (a++b)=_::_++_
  rw[this]
  have e:(jr (l::a)).length=l.length+1+(jr a).length:=by unfold jr;simp;omega
  rw[e,jic,show c+(l.length+1+(jr a).length)=c+l.length+1+(jr a).length by omega,show no+(a.length+1)=no+1+a.length by omega]
  rfl
theorem Qi{t:List UInt8}{p q:PS}{x:Ln}{xs:List Ln}(h:jL t p x=.ok q):qF t p (x::xs)=qF t q xs:=by
 show(match jL t p x with | .error e=>Except.error e | .ok q=>qF t q xs)=_
 rw[h]
theorem Gi(t:List UInt8):∀(r:List (List UInt8)) (p:PS) (no c:Nat),p.said≠[]->(∀l∈r,jk l=3)->qF t p (num no c r)=.ok {p with said:=p.said++r}
 | [],p,no,c,_,_=>by show Except.ok p=_;rw[jix]
 | l::r,p,no,c,hs,hk=>by
  have h3:=hk l jig
  have hg:zU p ⟨no,c,l,true⟩=true:=by
   unfold zU;rw[h3]
   cases hq:p.said with
   | nil=>exact absurd hq hs
   | cons a b=>rfl
  have hw:jD p ⟨no,c,l,true⟩=false:=by unfold jD;rw[hg,h3];rfl
  have he:zS p ⟨no,c,l,true⟩=false:=by unfold zS;rw[hw,hg];rfl
  have ht:jL t p ⟨no,c,l,true⟩=.ok {p with said:=p.said++[l]}:=by
   rw[vZ (by rw[he];intro h;cases h) hw]
   have e1:zK p ⟨no,c,l,true⟩={p with said:=p.said++[l]}:=by
    unfold zK;rw[he,if_neg (by decide)];unfold zb;rw[hg,if_pos rfl]
   rw[e1]
   unfold yT
   rw[h3];rfl
  show qF t p (⟨no,c,l,true⟩::num (no+1) (c+l.length+1) r)=_
  rw[Qi ht,Gi t r _ _ _ (by simp) (fun y hy=>hk y (jif _ hy))]
  simp
theorem XU{t:List UInt8}{p:PS}{no c:Nat}{l:List UInt8}(hk:jk l≠3)(h5:jk l≠5)(h0:jh p=0):jL t p ⟨no,c,l,true⟩=.ok (yT t (ja p) ⟨no,c,l,true⟩):=by
 have hg:zU p ⟨no,c,l,true⟩=false:=xt hk
 have hw:jD p ⟨no,c,l,true⟩=false:=by unfold jD;rw[hg];simp[hk,h5]
 have he:zS p ⟨no,c,l,true⟩=true:=by unfold zS;rw[hg];simp
 have hwent:zb p ⟨no,c,l,true⟩=p:=by unfold zb;rw[hg];rfl
 rw[vZ (by rw[hwent];exact fun _=>h0) hw]
 unfold zK
 rw[he,if_pos rfl,hwent]
def jy(fs:List Fld):List (List UInt8):=fs.flatMap fun f=>jO f.1 f.2
theorem Jb{k v:List UInt8}(hk:ju k=true):∃x r,jO k v=x::r/\jk x=4/\∀l∈r,jk l=3:=by
 have h:=Kz (v:=v) hk
 have e:jO k v=zE k ((jp v).headD [])::(jp v).tail.map jl:=rfl
 rw[e]at h ⊢
 refine⟨_,_,rfl,?_⟩
 unfold VB at h
 simp only[jiL,beq_iff_eq,jj6]at h
 exact h
theorem Yc(t:List UInt8):∀(fs:List Fld) (p:PS) (no c:Nat),jh p=0->(∀f∈fs,ju f.1=true/\f.2.length<=1000)->(ja p).fields.length+fs.length<=40->(ja p).stanzas<=399 ->
  ∃q,qF t p (num no c (jy fs))=.ok q/\jh q=0/\(ja q).fields=(ja p).fields++fs/\(ja q).items=(ja p).items/\(ja q).stanzas=(ja p).stanzas/\(ja q).at_=(ja p).at_
 | [],p,no,c,h0,_,_,_=>⟨p,rfl,h0,by simp,rfl,rfl,rfl⟩
 | f::fs,p,no,c,h0,hg,hn,hs=>by
  obtain⟨g1,g2⟩:=hg f jig
  obtain⟨x,r,e,kx,kr⟩:=Jb (v:=f.2) g1
  obtain⟨u1,u2,u3⟩:=ZO g1 g2
  have hl:jy (f::fs)=(x::r)++jy fs:=by unfold jy;rw[jio,e]
  have ht:jL t p ⟨no,c,x,true⟩=.ok {ja p with begin_:=no,said:=[x]}:=by
   rw[XU (by omega) (by omega) h0]
   unfold yT
   rw[if_pos kx]
  have hrun:qF t p (num no c (x::r))=.ok {ja p with begin_:=no,said:=x::r}:=by
   show qF t p (⟨no,c,x,true⟩::num _ _ r)=_
   rw[Qi ht,Gi t r _ _ _ (by simp) kr];rfl
  rw[hl,xI,qR,hrun]
  dsimp only
  rw[jic]at hn
  have hN:jh {ja p with begin_:=no,said:=x::r}=0:=by
   unfold jh
   rw[if_neg (by simp)]
   show(if jo (x::r)≠0 then _ else _)=0
   rw[<- e,u1,if_neg (by simp)]
   have:vr {ja p with begin_:=no,said:=jO f.1 f.2}=false:=by
    unfold vr
    show(if (ja p).fields.length=0 then (ja p).stanzas==400 else (ja p).fields.length==40)=false
    split
    ·simp;omega
    simp;omega
   rw[this];rfl
  have hP:ja {ja p with begin_:=no,said:=x::r}={ja p with begin_:=no,said:=[],fields:=(ja p).fields++[f]}:=by
   unfold ja
   rw[if_neg (by simp)]
   show {ja p with begin_:=no,said:=[],fields:=(ja p).fields++[(jF (x::r),jE (x::r))]}=_
   rw[<- e,u2,u3];rfl
  obtain⟨q,q1,q2,q3,q4,q5,q6⟩:=Yc t fs {ja p with begin_:=no,said:=x::r} (no+(x::r).length) (c+(jr (x::r)).length) hN (fun y hy=>hg y (jif _ hy)) (by rw[hP];simp;omega) (by rw[hP];exact hs)
  refine⟨q,q1,q2,?_,?_,?_,?_⟩
  ·rw[q3,hP];simp
  ·rw[q4,hP]
  ·rw[q5,hP]
  rw[q6,hP]
def mv(b st a:Nat)(its:List It)(p:PS):PS:=⟨b,p.said,its,st,a,p.fields⟩
def ml(no c:Nat)(x:Ln):Ln:=⟨no,c,x.text,x.ended⟩
theorem jb6(b st a:Nat)(its:List It)(p:PS)(no c:Nat)(x:Ln):zb (mv b st a its p) (ml no c x)=mv b st a its (zb p x):=by
 unfold zb
 rw[show zU (mv b st a its p) (ml no c x)=zU p x from rfl]
 split<;>rfl
theorem Ja(b st a:Nat)(its:List It)(p:PS):ja (mv b st a its p)=mv b st a its (ja p):=by
 unfold ja
 rw[show(mv b st a its p).said=p.said from rfl]
 split<;>rfl
theorem xk(b st a:Nat)(its:List It)(p:PS)(hst:st<=399)(h:jh p=0):jh (mv b st a its p)=0:=by
 unfold jh at h ⊢
 rw[show(mv b st a its p).said=p.said from rfl]
 split
 ·rfl
 rename_i hs
 rw[if_neg hs]at h
 split
 ·rename_i hu;rw[if_pos hu]at h;exact absurd h hu
 rename_i hu
 rw[if_neg hu]at h
 have hf:vr p=false:=by
  cases hf:vr p with
  | false=>rfl
  | true=>rw[hf]at h;simp at h
 have:vr (mv b st a its p)=false:=by
  unfold vr at hf ⊢
  rw[show(mv b st a its p).fields=p.fields from rfl,show(mv b st a its p).stanzas=st from rfl]
  split
  ·have:st≠400:=by omega
   simpa using this
  rename_i hz
  rw[if_neg hz]at hf
  exact hf
 rw[this];rfl
theorem jfI(b st a:Nat)(its:List It)(p:PS)(no c:Nat)(x:Ln):zK (mv b st a its p) (ml no c x)=mv b st a its (zK p x):=by
 unfold zK
 rw[show zS (mv b st a its p) (ml no c x)=zS p x from rfl,jb6,Ja]
 split<;>rfl
theorem jgQ(t t':List UInt8)(b st a:Nat)(its:List It)(p:PS)(no c:Nat)(x:Ln)(hk:jk x.text≠1):∃b',yT t' (mv b st a its p) (ml no c x)=mv b' st a its (yT t p x):=by
 unfold yT
 rw[show(ml no c x).text=x.text from rfl,if_neg hk,if_neg hk]
 split
 ·exact⟨no,rfl⟩
 exact⟨b,rfl⟩
theorem jfJ{t t':List UInt8}{b st a:Nat}{its:List It}{p q:PS}{no c:Nat}{x:Ln}(hst:st<=399)(hk:jk x.text≠1)(h:jL t p x=.ok q):∃b',jL t' (mv b st a its p) (ml no c x)=.ok (mv b' st a its q):=by
 obtain⟨h1,h2,rfl⟩:=xE h
 obtain⟨b',hb⟩:=jgQ t t' b st a its (zK p x) no c x hk
 refine⟨b',?_⟩
 have hT:=vZ (t:=t') (p:=mv b st a its p) (x:=ml no c x) (by rw[show zS (mv b st a its p) (ml no c x)=zS p x from rfl,jb6];exact fun he=>xk _ _ _ _ _ hst (h1 he)) h2
 rw[hT,jfI,hb]
def jh4(ts said:List (List UInt8))(fields:List Fld):Prop :=
 ∀(t:List UInt8) (b st a no c:Nat) (its:List It),st<=399->∃b',qF t ⟨b,[],its,st,a,[]⟩ (num no c ts)=.ok ⟨b',said,its,st,a,fields⟩
structure Blk(it:It):Prop where
 kind:it.kind=if it.fields=[] then 2 else 3
 pos:it.raw≠[]
 does:∃ts said fields,it.raw=jr ts/\(∀l∈ts,(10:UInt8)∉l)/\jh4 ts said fields/\jh ⟨0,said,[],0,0,fields⟩=0/\(ja ⟨0,said,[],0,0,fields⟩).fields=it.fields
theorem Blk.kind1{it:It}(h:Blk it):it.kind≠1:=by
 rw[h.kind];split<;>decide
def ZC:Bool->List It->List It
 | _,[]=>[]
 | b,x::r=>(if b=true/\x.kind≠1 then [⟨1,[10],[]⟩] else [])++x::ZC (x.kind != 1) r
def yw(its:List It):List It:=ZC false its
theorem vV:∀(ts:List (List UInt8)) (no c:Nat) (l:List UInt8),(∀x∈ts,(10:UInt8)∉x)->jS no c (jr ts++l)=num no c ts++jS (no+ts.length) (c+(jr ts).length) l
 | [],no,c,l,_=>rfl
 | x::r,no,c,l,h=>by
  have e:jr (x::r)++l=x++10::(jr r++l):=by unfold jr;simp
  have e3:(jr (x::r)).length=x.length+1+(jr r).length:=by unfold jr;simp;omega
  obtain⟨h1,h2⟩:=Ua x (jr r++l) (h x jig)
  have hu:qy (x++10::(jr r++l))=x.length+1:=by unfold qy;rw[h1,h2];rfl
  rw[e,js _ _ _ (by simp),h1,h2,hu]
  have hd:(x++10::(jr r++l)).drop (x.length+1)=jr r++l:=by
   rw[show x++10::(jr r++l)=(x++[10])++(jr r++l) by simp]
   exact jjs (by simp)
  rw[hd,vV r _ _ l (fun y hy=>h y (jif _ hy)),e3,jic]
  rw[show no+1+r.length=no+(r.length+1) by omega,show c+(x.length+1)+(jr r).length=c+(x.length+1+(jr r).length) by omega]
  rfl
def jg7(t:List UInt8)(r:Res PS):Res (List It):=match r with | .error e=>.error e | .ok q=>JK t q
theorem jbY(t:List UInt8):za t=jg7 t (qF t PS.new (jf t)):=rfl
theorem Zx(t:List UInt8)(p q:PS)(a b:List Ln)(h:qF t p a=.ok q):jg7 t (qF t p (a++b))=jg7 t (qF t q b):=by
 rw[qR,h]
theorem Blk.ends{it:It}{said:List (List UInt8)}{fields:List Fld}(hk:it.kind=if it.fields=[] then 2 else 3)(h0:jh ⟨0,said,[],0,0,fields⟩=0)(hf:(ja ⟨0,said,[],0,0,fields⟩).fields=it.fields)
  (t:List UInt8) (b st a e:Nat) (its:List It) (hst:st<=399) (hr:(t.take e).drop a=it.raw) (hae:a<e) :
  jh ⟨b,said,its,st,a,fields⟩=0/\(jm t (ja ⟨b,said,its,st,a,fields⟩) e).items=its++[it]/\(jm t (ja ⟨b,said,its,st,a,fields⟩) e).stanzas<=st+1/\(jm t (ja ⟨b,said,its,st,a,fields⟩) e).said=[]/\(jm t (ja ⟨b,said,its,st,a,fields⟩) e).fields=[]/\(jm t (ja ⟨b,said,its,st,a,fields⟩) e).at_=e:=by
 have e0:=xk b st a its ⟨0,said,[],0,0,fields⟩ hst h0
 have e1:=Ja b st a its ⟨0,said,[],0,0,fields⟩
 refine⟨e0,?_⟩
 rw[show(⟨b,said,its,st,a,fields⟩:PS)=mv b st a its ⟨0,said,[],0,0,fields⟩ from rfl,e1]
 have es:=zP ⟨0,said,[],0,0,fields⟩
 generalize ja ⟨0,said,[],0,0,fields⟩=p at *
 unfold jm
 rw[show(mv b st a its p).at_=a from rfl,show(mv b st a its p).fields=p.fields from rfl,hf,if_neg (by omega)]
 split
 ·rename_i hz
  rw[if_pos (List.length_eq_zero_iff.1 hz)]at hk
  refine⟨?_,by show st<=st+1;omega,es,rfl,rfl⟩
  show its++[⟨(2:Nat),(t.take e).drop a,p.fields⟩]=_
  rw[hr,hf]
  obtain⟨k,r,f⟩:=it
  simp only at hk ⊢
  rw[hk];rfl
 rename_i hz
 rw[if_neg (fun h=>hz (by rw[h];rfl))]at hk
 refine⟨?_,by show st+1<=st+1;omega,es,rfl,rfl⟩
 show its++[⟨(3:Nat),(t.take e).drop a,p.fields⟩]=_
 rw[hr,hf]
 obtain⟨k,r,f⟩:=it
 simp only at hk ⊢
 rw[hk];rfl
theorem GN(t:List UInt8):∀(bs:List It) (x:It) (b st no c:Nat) (its:List It),st+(x::bs).length<=400->(∀it∈x::bs,Blk it)->t.drop c=(yw (x::bs)).flatMap It.raw->c<=t.length ->
  jg7 t (qF t ⟨b,[],its,st,c,[]⟩ (jS no c (t.drop c)))=.ok (its++yw (x::bs))
 | [],x,b,st,no,c,its,hst,hb,ht,hct=>by
  have bx:=hb x jig
  have hp:=bx.pos
  have hk:=bx.kind
  obtain⟨ts,said,fields,d1,d2,d3,d4,d5⟩:=bx.does
  have ht':t.drop c=x.raw:=by rw[ht];simp[yw,ZC]
  have hlen:c+x.raw.length=t.length:=by have:=congrArg List.length ht';simp at this;omega
  have hpos:0<x.raw.length:=List.length_pos_iff.2 hp
  obtain⟨b',hr⟩:=d3 t b st c no c its (by simp at hst;omega)
  rw[ht',d1,<- jix (jr ts),vV ts no c [] d2,Zx _ _ _ _ _ hr,jq]
  obtain⟨k1,k2,_⟩:=Blk.ends hk d4 d5 t b' st c t.length its (by simp at hst;omega) (by rw[jiF,ht']) (by omega)
  show JK t _=_
  unfold JK
  rw[k1,if_neg (by simp),k2]
  simp[yw,ZC]
 | y::bs,x,b,st,no,c,its,hst,hb,ht,hct=>by
  have bx:=hb x jig
  have by_:=hb y (jif _ jig)
  have hp:=bx.pos
  have hk:=bx.kind
  obtain⟨ts,said,fields,d1,d2,d3,d4,d5⟩:=bx.does
  have hpos:0<x.raw.length:=List.length_pos_iff.2 hp
  have hap:yw (x::y::bs)=x::⟨1,[10],[]⟩::yw (y::bs):=by
   have hx1:(x.kind != 1)=true:=by have:=bx.kind1;simpa using this
   show([]:List It)++x::((if (x.kind != 1)=true/\y.kind≠1 then [(⟨1,[10],[]⟩:It)] else [])++y::ZC (y.kind != 1) bs)=_
   rw[if_pos ⟨hx1,by_.kind1⟩]
   simp[yw,ZC]
  rw[hap]at ht ⊢
  have ht':t.drop c=x.raw++(10::(yw (y::bs)).flatMap It.raw):=by rw[ht];simp
  generalize hR:(yw (y::bs)).flatMap It.raw=R at *
  have hlen:c+x.raw.length+1+R.length=t.length:=by have:=congrArg List.length ht';simp at this;omega
  simp only[jic]at hst
  obtain⟨b',hr⟩:=d3 t b st c no c its (by omega)
  have hde:t.drop (c+x.raw.length+1)=R:=by
   rw[jjL,<- jji,ht',show x.raw++10::R=(x.raw++[10])++R by simp]
   exact jjs (by simp)
  have htk:(t.take (c+x.raw.length)).drop c=x.raw:=by
   rw[List.take_add,ht',jjz (by rw[jiE];omega),ji0 (by rw[jiE];omega)];simp
  have htb:(t.take (c+x.raw.length+1)).drop (c+x.raw.length)=[10]:=by
   rw[List.take_add,jjz (by rw[jiE];omega),ji0 (by rw[jiE];omega),<- jji,ht']
   simp
  have e10:(10::R)=jr [[]]++R:=rfl
  rw[ht',e10]
  conv=>lhs;rw[d1]
  rw[vV ts no c _ d2,Zx _ _ _ _ _ hr,vV [[]] _ _ _ (by intro z hz;rw[List.mem_singleton.1 hz];simp),<- d1]
  have k1:jk []=1:=by decide
  obtain⟨z1,z2,z3,z4,z5,z6⟩:=Blk.ends hk d4 d5 t b' st c (c+x.raw.length) its (by omega) htk (by omega)
  have tk:=XU (t:=t) (p:=⟨b',said,its,st,c,fields⟩) (no:=no+ts.length) (c:=c+x.raw.length) (l:=[]) (by rw[k1];decide) (by rw[k1];decide) z1
  have hput:yT t (ja ⟨b',said,its,st,c,fields⟩) ⟨no+ts.length,c+x.raw.length,[],true⟩=jX t (jm t (ja ⟨b',said,its,st,c,fields⟩) (c+x.raw.length)) 1 (c+x.raw.length+1):=by
   unfold yT
   rw[if_neg (by show ¬jk []=4;rw[k1];decide),if_pos k1];rfl
  rw[hput]at tk
  generalize jm t (ja ⟨b',said,its,st,c,fields⟩) (c+x.raw.length)=p at *
  have hp2:jX t p 1 (c+x.raw.length+1)=⟨p.begin_,[],its++[x]++[⟨1,[10],[]⟩],p.stanzas,c+x.raw.length+1,[]⟩:=by
   unfold jX
   rw[z2,z4,z5,z6,htb];rfl
  rw[hp2]at tk
  have hrun:qF t ⟨b',said,its,st,c,fields⟩ (num (no+ts.length) (c+x.raw.length) [[]])=.ok ⟨p.begin_,[],its++[x]++[⟨1,[10],[]⟩],p.stanzas,c+x.raw.length+1,[]⟩:=by
   show qF t _ (⟨no+ts.length,c+x.raw.length,[],true⟩::[])=_
   rw[Qi tk];rfl
  rw[Zx _ _ _ _ _ hrun]
  have ih:=GN t bs y p.begin_ p.stanzas (no+ts.length+1) (c+x.raw.length+1) (its++[x]++[⟨1,[10],[]⟩]) (by simp only[jic];omega) (fun it hi=>hb it (jif _ hi)) (by rw[hde,hR]) (by omega)
  rw[hde]at ih
  show jg7 t (qF t _ (jS (no+ts.length+1) (c+x.raw.length+1) R))=_
  rw[ih];simp
theorem Xg(bs:List It)(hn:bs.length<=400)(hb:∀it∈bs,Blk it):za ((yw bs).flatMap It.raw)=.ok (yw bs):=by
 cases bs with
 | nil=>rfl
 | cons x bs =>
 rw[jbY]
 have:=GN ((yw (x::bs)).flatMap It.raw) bs x 0 0 0 0 [] (by rw[jiH];exact hn) hb rfl (jii _)
 exact this
theorem ja8(fs:List Fld)(hg:∀f∈fs,ju f.1=true/\f.2.length<=1000)(h0:fs≠[])(hl:fs.length<=40):Blk ⟨3,jr (jy fs),fs⟩:=by
 have hclean:∀l∈jy fs,(10:UInt8)∉l:=by
  intro l hl
  unfold jy at hl
  obtain⟨f,hf1,hf2⟩:=List.mem_flatMap.1 hl
  exact ZQ _ (hg f hf1).1 l hf2
 have hne:jr (jy fs)≠[]:=by
  cases fs with
  | nil=>exact absurd rfl h0
  | cons f r =>
  obtain⟨x,r',e,_⟩:=Jb (v:=f.2) (hg f jig).1
  unfold jy
  rw[jio,e]
  unfold jr;simp
 obtain⟨q,q1,q2,q3,q4,q5,q6⟩:=Yc [] fs PS.new 0 0 rfl hg (by show 0+fs.length<=40;omega) (by decide)
 have hany:∀(t:List UInt8) (b st a no c:Nat) (its:List It),st<=399->∃b',qF t ⟨b,[],its,st,a,[]⟩ (num no c (jy fs))=.ok ⟨b',q.said,its,st,a,q.fields⟩:=by
  have key:∀(ts:List (List UInt8)) (p q:PS) (n0 c0:Nat),(∀l∈ts,jk l≠1)->qF [] p (num n0 c0 ts)=.ok q->∀(t:List UInt8) (b st a no c:Nat) (its:List It),st<=399->∃b',qF t (mv b st a its p) (num no c ts)=.ok (mv b' st a its q):=by
   intro ts
   induction ts with
   | nil=>intro p q n0 c0 _ h t b st a no c its _;cases h;exact⟨b,rfl⟩
   | cons l r ih =>
   intro p q n0 c0 hk h t b st a no c its hst
   have h':(match jL [] p ⟨n0,c0,l,true⟩ with | .error e=>Except.error e | .ok q'=>qF [] q' (num (n0+1) (c0+l.length+1) r))=.ok q:=h
   cases ht:jL [] p ⟨n0,c0,l,true⟩ with
   | error e=>rw[ht]at h';cases h'
   | ok p1 =>
   rw[ht]at h'
   obtain⟨b1,hb1⟩:=jfJ (t':=t) (b:=b) (st:=st) (a:=a) (its:=its) (no:=no) (c:=c) hst (by exact hk l jig) ht
   obtain⟨b2,hb2⟩:=ih p1 q _ _ (fun y hy=>hk y (jif _ hy)) h' t b1 st a (no+1) (c+l.length+1) its hst
   refine⟨b2,?_⟩
   show qF t _ (⟨no,c,l,true⟩::num (no+1) (c+l.length+1) r)=_
   rw[Qi (by exact hb1)]
   exact hb2
  have hkinds:∀l∈jy fs,jk l≠1:=by
   intro l hl
   unfold jy at hl
   obtain⟨f,hf1,hf2⟩:=List.mem_flatMap.1 hl
   obtain⟨x,r,e,kx,kr⟩:=Jb (v:=f.2) (hg f hf1).1
   rw[e]at hf2
   rcases List.mem_cons.1 hf2 with rfl|h
   ·rw[kx];decide
   rw[kr l h];decide
  intro t b st a no c its hst
  exact key (jy fs) PS.new q 0 0 hkinds q1 t b st a no c its hst
 refine⟨by rw[if_neg h0],hne,jy fs,q.said,q.fields,rfl,hclean,hany,xk 0 0 0 [] q (by decide) q2,?_⟩
 have:=Ja 0 0 0 [] q
 rw[show(⟨0,q.said,[],0,0,q.fields⟩:PS)=mv 0 0 0 [] q from rfl,this]
 show(ja q).fields=fs
 rw[q3];rfl
end Go.Proofs.YtmdhainabeljpaaGreatDoor
