/- Texts put together:PH,PI. -/
import Derived.Test.YtmdhainabeljpaaGreatDoorBxr10
set_option linter.unusedVariables false
set_option maxRecDepth 100000
set_option maxHeartbeats 16000000
namespace Go.Proofs.YtmdhainabeljpaaGreatDoor
open Go.RowKit Go.Shelf
attribute [local go_sem] qL GR
theorem jbE{w:World}{T:Nat->Nat}{R b:Nat}{text:ByteArray}{p:PS}(h:jn w T R b text p)(hR:R<=w.heap.size)(x:Ln)(hi:Inv p x.at_)(hx:x.at_+x.bytes.length<=text.size)(ht:text.size<=70000)(hno:x.no<=x.at_)(hg:zU p x=false)(hk:jk x.text=1):
  Calls Tryz.prog 30 #[.pointer (some ⟨b,0,none⟩),.agg #[.int .i64 x.no,.int .i64 x.at_,.string (B x.text),.bool x.ended]] w fun e w'=>qt w T R b text p x e w':=by
 have hbl:x.text.length<=x.bytes.length:=by unfold Ln.bytes;simp
 have K:∀w,Calls Tryz.prog 70 #[.string (B x.text)] w fun e w'=>e=.returned (.int .i64 1)/\Below w.heap.size w w':=fun w=>by
  have:=vp (B x.text) (by rw[je];unfold maxLen;omega) w
  rw[ji,hk]at this
  exact this
 have hu:jk x.text=3->(!p.said.isEmpty)=false:=by
  intro h3;unfold zU at hg;rw[h3]at hg;simpa using hg
 have hl:=h.lt
 have l0:=Ys h
 have H:=jh5 h
 have C0:=jh5 (jd.new w 76 #[.int .i64 x.no,.int .i64 x.at_,.string (B x.text),.bool x.ended])
 have HB0:=jh5 (jM.below (T:=T) ((jh8 w.heap.size w).alloc (jh6 _) (.cells #[.int .i64 x.no,.int .i64 x.at_,.string (B x.text),.bool x.ended] 76)))
 have hw:zb p x=p:=by unfold zb;rw[hg];rfl
 have hen:zS p x=true:=by unfold zS;rw[hg];simp
 have hth:zK p x=ja p:=by unfold zK;rw[hen,if_pos rfl,hw]
 have hb:=hi.said
 have hff:p.fields.length<=1000000:=by have:=hi.fields;omega
 have EF:=jh5 (fun w1 T1 (g:jn w1 T1 R b text p) (s:jM w T w1 T1)=>qm (p:=p) g s hR (by omega) hff)
 clear h
 by_cases h0:jh p=0
 ·have NO:=jh5 (fun(hwr:jD p x=true) v w' h1 h2=>qt.no (w:=w) (T:=T) (R:=R) (b:=b) (text:=text) (p:=p) (x:=x) (v:=v) (w':=w') (a:=x.no) (n:=2) (by unfold jL;rw[hen,hwr,hw,h0];simp) h1 h2)
  have YES:=jh5 (fun(hwr:jD p x=false) T' w' h1 h2=>qt.yes (w:=w) (T:=T) (T':=T') (R:=R) (b:=b) (text:=text) (p:=p) (q:=yT text.data.toList (ja p) x) (x:=x) (w':=w') (by unfold jL;rw[hen,hwr,hw,h0,hth];simp) h1 h2)
  cases hend:x.ended
  case false =>
   rw[hend]at C0 HB0
   have hwr:jD p x=true:=by unfold jD;rw[hk,hg,hend];rfl
   have FIN:=jh5 (NO.out hwr)
   clear YES NO
   clear hi hb hff hx
   go_enter Tryz.func30,Tryz.ntmps30
   go_wp2_with fail
   refine(K _).mono ?_
   rintro e w1 ⟨rfl,b1⟩
   have s1:=HB0.out.trans (jM.below b1)
   have P1:jn w1 T R b text p:=(H.out.below ((jh8 _ _).alloc (jh6 _) _)).below b1
   have l1:=P1.lt
   have C1:=jb C0.out b1 (by simp)
   have hz1:=s1.only.size
   have d0:w1.cell? ⟨w.heap.size,0,none⟩=some (.int .i64 x.no):=C1.cell 0
   have d1:w1.cell? ⟨w.heap.size,1,none⟩=some (.int .i64 x.at_):=C1.cell 1
   have d2:w1.cell? ⟨w.heap.size,2,none⟩=some (.string (B x.text)):=C1.cell 2
   have d3:w1.cell? ⟨w.heap.size,3,none⟩=some (.bool false):=C1.cell 3
   have lz:=C1.lt
   clear b1 H C0 HB0
   go_wp2_with fail
   refine(EF.out _ T P1 s1).mono ?_
   rintro e w3 hE
   rw[if_pos h0]at hE
   obtain⟨rfl,T3,g3,s3,s13⟩:=hE
   have C3:=C1.only s13.only (fun e=>e (l0))
   have d0':w3.cell? ⟨w.heap.size,0,none⟩=some (.int .i64 x.no):=C3.cell 0
   have d1':w3.cell? ⟨w.heap.size,1,none⟩=some (.int .i64 x.at_):=C3.cell 1
   have d2':w3.cell? ⟨w.heap.size,2,none⟩=some (.string (B x.text)):=C3.cell 2
   have lz3:=C3.lt
   have l3:=g3.lt
   go_wp2
   go_ret
   exact FIN.out _ _ (jz.new _ _ 2 _ w3.heap.size rfl (by omega)) (s3.only.alloc _)
  case true =>
  rw[hend]at C0 HB0
  have hwr:jD p x=false:=by unfold jD;rw[hk,hg,hend];rfl
  have FIN:=jh5 (YES.out hwr)
  clear YES NO
  have hbe:x.bytes.length=x.text.length+1:=by unfold Ln.bytes;rw[hend];simp
  have eP:yT text.data.toList (ja p) x=jX text.data.toList (jm text.data.toList (ja p) x.at_) 1 (x.at_+x.text.length+1):=by unfold yT;rw[hk];rfl
  rw[eP]at FIN
  have hi2:=hi.endField
  have hi3:=hi2.endBlock text.data.toList x.at_ hi2.at_ (jh6 _)
  have a3:=vL text.data.toList (ja p) x.at_ hi2.at_
  have n1:IntKind.i64.wrap ((x.at_:Int)+(x.text.length:Int))=(x.at_:Int)+(x.text.length:Int):=jiz _ (by omega)
  have n2:IntKind.i64.wrap ((x.at_:Int)+(x.text.length:Int)+1)=(x.at_:Int)+(x.text.length:Int)+1:=jiz _ (by omega)
  have zB:=je x.text
  have HB:=jh5 (fun w3 T3 (g:jn w3 T3 R b text (ja p)) hR3=>Qa g hR3 x.at_ hi2.at_ (by omega) (by omega) (by have:=hi2.items;have:=hi2.at_;omega) (by have:=hi2.stanzas;have:=hi2.at_;omega))
  have HI:=jh5 (fun w3 T3 V3 (g:jA w3 T3 R b text (jm text.data.toList (ja p) x.at_) V3) hR3=>Ji g hR3 1 (x.at_+x.text.length+1) (by omega) (by omega) (by omega) (by have:=hi3.items;omega))
  clear hi hb hff hi3 hi2 a3
  go_enter Tryz.func30,Tryz.ntmps30
  go_wp2_with fail
  refine(K _).mono ?_
  rintro e w1 ⟨rfl,b1⟩
  have s1:=HB0.out.trans (jM.below b1)
  have P1:jn w1 T R b text p:=(H.out.below ((jh8 _ _).alloc (jh6 _) _)).below b1
  have l1:=P1.lt
  have C1:=jb C0.out b1 (by simp)
  have hz1:=s1.only.size
  have d0:w1.cell? ⟨w.heap.size,0,none⟩=some (.int .i64 x.no):=C1.cell 0
  have d1:w1.cell? ⟨w.heap.size,1,none⟩=some (.int .i64 x.at_):=C1.cell 1
  have d2:w1.cell? ⟨w.heap.size,2,none⟩=some (.string (B x.text)):=C1.cell 2
  have d3:w1.cell? ⟨w.heap.size,3,none⟩=some (.bool true):=C1.cell 3
  have lz:=C1.lt
  clear b1 H C0 HB0
  go_wp2_with fail
  refine(EF.out _ T P1 s1).mono ?_
  rintro e w3 hE
  rw[if_pos h0]at hE
  obtain⟨rfl,T3,g3,s3,s13⟩:=hE
  have C3:=C1.only s13.only (fun e=>e (l0))
  have d0':w3.cell? ⟨w.heap.size,0,none⟩=some (.int .i64 x.no):=C3.cell 0
  have d1':w3.cell? ⟨w.heap.size,1,none⟩=some (.int .i64 x.at_):=C3.cell 1
  have d2':w3.cell? ⟨w.heap.size,2,none⟩=some (.string (B x.text)):=C3.cell 2
  have lz3:=C3.lt
  have l3:=g3.lt
  have hz3:R<=w3.heap.size:=jiv hR s3.only.size
  go_wp2_with fail
  refine(HB.out _ T3 g3 hz3).mono ?_
  rintro e w4 ⟨rfl,T4,g4,s4⟩
  have C4:=C3.only s4.only (fun e=>e ((s13.old _ lz).2 l0))
  have e1':w4.cell? ⟨w.heap.size,1,none⟩=some (.int .i64 x.at_):=C4.cell 1
  have e2':w4.cell? ⟨w.heap.size,2,none⟩=some (.string (B x.text)):=C4.cell 2
  have lz4:=C4.lt
  have hz4:R<=w4.heap.size:=jiv hz3 s4.only.size
  have l4:=g4.lt
  obtain⟨V4,g4⟩:=g4
  go_wp2_with fail
  rw[show Value.int .i64 ((x.at_:Int)+(x.text.length:Int)+1)=Value.int .i64 ((x.at_+x.text.length+1:Nat):Int) from rfl]
  refine(HI.out _ T4 V4 g4 hz4).mono ?_
  rintro e w5 ⟨rfl,T5,g5,s5⟩
  go_wp2
  go_ret
  exact FIN.out T5 _ g5 ((s3.trans s4).trans s5)
 have FIN:=jh5 (fun v w' h1 h2=>qt.no (w:=w) (T:=T) (R:=R) (b:=b) (text:=text) (p:=p) (x:=x) (v:=v) (w':=w') (a:=p.begin_) (n:=jh p) (by unfold jL;rw[hen,hw,if_pos ⟨rfl,h0⟩]) h1 h2)
 clear hi hb hff hx
 cases hend:x.ended
 case false =>
  rw[hend]at C0 HB0
  go_enter Tryz.func30,Tryz.ntmps30
  go_wp2_with fail
  refine(K _).mono ?_
  rintro e w1 ⟨rfl,b1⟩
  have s1:=HB0.out.trans (jM.below b1)
  have P1:jn w1 T R b text p:=(H.out.below ((jh8 _ _).alloc (jh6 _) _)).below b1
  have l1:=P1.lt
  have C1:=jb C0.out b1 (by simp)
  have hz1:=s1.only.size
  have d0:w1.cell? ⟨w.heap.size,0,none⟩=some (.int .i64 x.no):=C1.cell 0
  have d1:w1.cell? ⟨w.heap.size,1,none⟩=some (.int .i64 x.at_):=C1.cell 1
  have d2:w1.cell? ⟨w.heap.size,2,none⟩=some (.string (B x.text)):=C1.cell 2
  have d3:w1.cell? ⟨w.heap.size,3,none⟩=some (.bool false):=C1.cell 3
  have lz:=C1.lt
  clear b1 H C0 HB0
  go_wp2_with fail
  refine(EF.out _ T P1 s1).mono ?_
  rintro e w3 hE
  rw[if_neg h0]at hE
  obtain⟨v,rfl,f3,o3,_,a3,rfl⟩:=hE
  go_wp2
  go_ret
  exact FIN.out _ _ f3 o3
 case true =>
 rw[hend]at C0 HB0
 go_enter Tryz.func30,Tryz.ntmps30
 go_wp2_with fail
 refine(K _).mono ?_
 rintro e w1 ⟨rfl,b1⟩
 have s1:=HB0.out.trans (jM.below b1)
 have P1:jn w1 T R b text p:=(H.out.below ((jh8 _ _).alloc (jh6 _) _)).below b1
 have l1:=P1.lt
 have C1:=jb C0.out b1 (by simp)
 have hz1:=s1.only.size
 have d0:w1.cell? ⟨w.heap.size,0,none⟩=some (.int .i64 x.no):=C1.cell 0
 have d1:w1.cell? ⟨w.heap.size,1,none⟩=some (.int .i64 x.at_):=C1.cell 1
 have d2:w1.cell? ⟨w.heap.size,2,none⟩=some (.string (B x.text)):=C1.cell 2
 have d3:w1.cell? ⟨w.heap.size,3,none⟩=some (.bool true):=C1.cell 3
 have lz:=C1.lt
 clear b1 H C0 HB0
 go_wp2_with fail
 refine(EF.out _ T P1 s1).mono ?_
 rintro e w3 hE
 rw[if_neg h0]at hE
 obtain⟨v,rfl,f3,o3,_,a3,rfl⟩:=hE
 go_wp2
 go_ret
 exact FIN.out _ _ f3 o3
theorem jbD{w:World}{T:Nat->Nat}{R b:Nat}{text:ByteArray}{p:PS}(h:jn w T R b text p)(hR:R<=w.heap.size)(x:Ln)(hi:Inv p x.at_)(hx:x.at_+x.bytes.length<=text.size)(ht:text.size<=70000)(hno:x.no<=x.at_)(hg:zU p x=false)(hk:jk x.text=2):
  Calls Tryz.prog 30 #[.pointer (some ⟨b,0,none⟩),.agg #[.int .i64 x.no,.int .i64 x.at_,.string (B x.text),.bool x.ended]] w fun e w'=>qt w T R b text p x e w':=by
 have hbl:x.text.length<=x.bytes.length:=by unfold Ln.bytes;simp
 have K:∀w,Calls Tryz.prog 70 #[.string (B x.text)] w fun e w'=>e=.returned (.int .i64 2)/\Below w.heap.size w w':=fun w=>by
  have:=vp (B x.text) (by rw[je];unfold maxLen;omega) w
  rw[ji,hk]at this
  exact this
 have hu:jk x.text=3->(!p.said.isEmpty)=false:=by
  intro h3;unfold zU at hg;rw[h3]at hg;simpa using hg
 have hl:=h.lt
 have l0:=Ys h
 have H:=jh5 h
 have C0:=jh5 (jd.new w 76 #[.int .i64 x.no,.int .i64 x.at_,.string (B x.text),.bool x.ended])
 have HB0:=jh5 (jM.below (T:=T) ((jh8 w.heap.size w).alloc (jh6 _) (.cells #[.int .i64 x.no,.int .i64 x.at_,.string (B x.text),.bool x.ended] 76)))
 have hw:zb p x=p:=by unfold zb;rw[hg];rfl
 have hen:zS p x=true:=by unfold zS;rw[hg];simp
 have hth:zK p x=ja p:=by unfold zK;rw[hen,if_pos rfl,hw]
 have hb:=hi.said
 have hff:p.fields.length<=1000000:=by have:=hi.fields;omega
 have EF:=jh5 (fun w1 T1 (g:jn w1 T1 R b text p) (s:jM w T w1 T1)=>qm (p:=p) g s hR (by omega) hff)
 clear h
 by_cases h0:jh p=0
 ·have NO:=jh5 (fun(hwr:jD p x=true) v w' h1 h2=>qt.no (w:=w) (T:=T) (R:=R) (b:=b) (text:=text) (p:=p) (x:=x) (v:=v) (w':=w') (a:=x.no) (n:=2) (by unfold jL;rw[hen,hwr,hw,h0];simp) h1 h2)
  have YES:=jh5 (fun(hwr:jD p x=false) T' w' h1 h2=>qt.yes (w:=w) (T:=T) (T':=T') (R:=R) (b:=b) (text:=text) (p:=p) (q:=yT text.data.toList (ja p) x) (x:=x) (w':=w') (by unfold jL;rw[hen,hwr,hw,h0,hth];simp) h1 h2)
  cases hend:x.ended
  case false =>
   rw[hend]at C0 HB0
   have hwr:jD p x=true:=by unfold jD;rw[hk,hg,hend];rfl
   have FIN:=jh5 (NO.out hwr)
   clear YES NO
   clear hi hb hff hx
   go_enter Tryz.func30,Tryz.ntmps30
   go_wp2_with fail
   refine(K _).mono ?_
   rintro e w1 ⟨rfl,b1⟩
   have s1:=HB0.out.trans (jM.below b1)
   have P1:jn w1 T R b text p:=(H.out.below ((jh8 _ _).alloc (jh6 _) _)).below b1
   have l1:=P1.lt
   have C1:=jb C0.out b1 (by simp)
   have hz1:=s1.only.size
   have d0:w1.cell? ⟨w.heap.size,0,none⟩=some (.int .i64 x.no):=C1.cell 0
   have d1:w1.cell? ⟨w.heap.size,1,none⟩=some (.int .i64 x.at_):=C1.cell 1
   have d2:w1.cell? ⟨w.heap.size,2,none⟩=some (.string (B x.text)):=C1.cell 2
   have d3:w1.cell? ⟨w.heap.size,3,none⟩=some (.bool false):=C1.cell 3
   have lz:=C1.lt
   clear b1 H C0 HB0
   go_wp2_with fail
   refine(EF.out _ T P1 s1).mono ?_
   rintro e w3 hE
   rw[if_pos h0]at hE
   obtain⟨rfl,T3,g3,s3,s13⟩:=hE
   have C3:=C1.only s13.only (fun e=>e (l0))
   have d0':w3.cell? ⟨w.heap.size,0,none⟩=some (.int .i64 x.no):=C3.cell 0
   have d1':w3.cell? ⟨w.heap.size,1,none⟩=some (.int .i64 x.at_):=C3.cell 1
   have d2':w3.cell? ⟨w.heap.size,2,none⟩=some (.string (B x.text)):=C3.cell 2
   have lz3:=C3.lt
   have l3:=g3.lt
   go_wp2
   go_ret
   exact FIN.out _ _ (jz.new _ _ 2 _ w3.heap.size rfl (by omega)) (s3.only.alloc _)
  case true =>
  rw[hend]at C0 HB0
  have hwr:jD p x=false:=by unfold jD;rw[hk,hg,hend];rfl
  have FIN:=jh5 (YES.out hwr)
  clear YES NO
  have hbe:x.bytes.length=x.text.length+1:=by unfold Ln.bytes;rw[hend];simp
  have eP:yT text.data.toList (ja p) x=ja p:=by unfold yT;rw[hk];rfl
  rw[eP]at FIN
  clear hi hb hff hx
  go_enter Tryz.func30,Tryz.ntmps30
  go_wp2_with fail
  refine(K _).mono ?_
  rintro e w1 ⟨rfl,b1⟩
  have s1:=HB0.out.trans (jM.below b1)
  have P1:jn w1 T R b text p:=(H.out.below ((jh8 _ _).alloc (jh6 _) _)).below b1
  have l1:=P1.lt
  have C1:=jb C0.out b1 (by simp)
  have hz1:=s1.only.size
  have d0:w1.cell? ⟨w.heap.size,0,none⟩=some (.int .i64 x.no):=C1.cell 0
  have d1:w1.cell? ⟨w.heap.size,1,none⟩=some (.int .i64 x.at_):=C1.cell 1
  have d2:w1.cell? ⟨w.heap.size,2,none⟩=some (.string (B x.text)):=C1.cell 2
  have d3:w1.cell? ⟨w.heap.size,3,none⟩=some (.bool true):=C1.cell 3
  have lz:=C1.lt
  clear b1 H C0 HB0
  go_wp2_with fail
  refine(EF.out _ T P1 s1).mono ?_
  rintro e w3 hE
  rw[if_pos h0]at hE
  obtain⟨rfl,T3,g3,s3,s13⟩:=hE
  have C3:=C1.only s13.only (fun e=>e (l0))
  have d0':w3.cell? ⟨w.heap.size,0,none⟩=some (.int .i64 x.no):=C3.cell 0
  have d1':w3.cell? ⟨w.heap.size,1,none⟩=some (.int .i64 x.at_):=C3.cell 1
  have d2':w3.cell? ⟨w.heap.size,2,none⟩=some (.string (B x.text)):=C3.cell 2
  have lz3:=C3.lt
  have l3:=g3.lt
  go_wp2
  go_ret
  exact FIN.out _ _ g3 s3
 have FIN:=jh5 (fun v w' h1 h2=>qt.no (w:=w) (T:=T) (R:=R) (b:=b) (text:=text) (p:=p) (x:=x) (v:=v) (w':=w') (a:=p.begin_) (n:=jh p) (by unfold jL;rw[hen,hw,if_pos ⟨rfl,h0⟩]) h1 h2)
 clear hi hb hff hx
 cases hend:x.ended
 case false =>
  rw[hend]at C0 HB0
  go_enter Tryz.func30,Tryz.ntmps30
  go_wp2_with fail
  refine(K _).mono ?_
  rintro e w1 ⟨rfl,b1⟩
  have s1:=HB0.out.trans (jM.below b1)
  have P1:jn w1 T R b text p:=(H.out.below ((jh8 _ _).alloc (jh6 _) _)).below b1
  have l1:=P1.lt
  have C1:=jb C0.out b1 (by simp)
  have hz1:=s1.only.size
  have d0:w1.cell? ⟨w.heap.size,0,none⟩=some (.int .i64 x.no):=C1.cell 0
  have d1:w1.cell? ⟨w.heap.size,1,none⟩=some (.int .i64 x.at_):=C1.cell 1
  have d2:w1.cell? ⟨w.heap.size,2,none⟩=some (.string (B x.text)):=C1.cell 2
  have d3:w1.cell? ⟨w.heap.size,3,none⟩=some (.bool false):=C1.cell 3
  have lz:=C1.lt
  clear b1 H C0 HB0
  go_wp2_with fail
  refine(EF.out _ T P1 s1).mono ?_
  rintro e w3 hE
  rw[if_neg h0]at hE
  obtain⟨v,rfl,f3,o3,_,a3,rfl⟩:=hE
  go_wp2
  go_ret
  exact FIN.out _ _ f3 o3
 case true =>
 rw[hend]at C0 HB0
 go_enter Tryz.func30,Tryz.ntmps30
 go_wp2_with fail
 refine(K _).mono ?_
 rintro e w1 ⟨rfl,b1⟩
 have s1:=HB0.out.trans (jM.below b1)
 have P1:jn w1 T R b text p:=(H.out.below ((jh8 _ _).alloc (jh6 _) _)).below b1
 have l1:=P1.lt
 have C1:=jb C0.out b1 (by simp)
 have hz1:=s1.only.size
 have d0:w1.cell? ⟨w.heap.size,0,none⟩=some (.int .i64 x.no):=C1.cell 0
 have d1:w1.cell? ⟨w.heap.size,1,none⟩=some (.int .i64 x.at_):=C1.cell 1
 have d2:w1.cell? ⟨w.heap.size,2,none⟩=some (.string (B x.text)):=C1.cell 2
 have d3:w1.cell? ⟨w.heap.size,3,none⟩=some (.bool true):=C1.cell 3
 have lz:=C1.lt
 clear b1 H C0 HB0
 go_wp2_with fail
 refine(EF.out _ T P1 s1).mono ?_
 rintro e w3 hE
 rw[if_neg h0]at hE
 obtain⟨v,rfl,f3,o3,_,a3,rfl⟩:=hE
 go_wp2
 go_ret
 exact FIN.out _ _ f3 o3
theorem jbC{w:World}{T:Nat->Nat}{R b:Nat}{text:ByteArray}{p:PS}(h:jn w T R b text p)(hR:R<=w.heap.size)(x:Ln)(hi:Inv p x.at_)(hx:x.at_+x.bytes.length<=text.size)(ht:text.size<=70000)(hno:x.no<=x.at_)(hg:zU p x=false)(hk:jk x.text=3):
  Calls Tryz.prog 30 #[.pointer (some ⟨b,0,none⟩),.agg #[.int .i64 x.no,.int .i64 x.at_,.string (B x.text),.bool x.ended]] w fun e w'=>qt w T R b text p x e w':=by
 have hbl:x.text.length<=x.bytes.length:=by unfold Ln.bytes;simp
 have K:∀w,Calls Tryz.prog 70 #[.string (B x.text)] w fun e w'=>e=.returned (.int .i64 3)/\Below w.heap.size w w':=fun w=>by
  have:=vp (B x.text) (by rw[je];unfold maxLen;omega) w
  rw[ji,hk]at this
  exact this
 have hu:jk x.text=3->(!p.said.isEmpty)=false:=by
  intro h3;unfold zU at hg;rw[h3]at hg;simpa using hg
 have hl:=h.lt
 have l0:=Ys h
 have H:=jh5 h
 have C0:=jh5 (jd.new w 76 #[.int .i64 x.no,.int .i64 x.at_,.string (B x.text),.bool x.ended])
 have HB0:=jh5 (jM.below (T:=T) ((jh8 w.heap.size w).alloc (jh6 _) (.cells #[.int .i64 x.no,.int .i64 x.at_,.string (B x.text),.bool x.ended] 76)))
 have hw:zb p x=p:=by unfold zb;rw[hg];rfl
 have hen:zS p x=true:=by unfold zS;rw[hg];simp
 have hth:zK p x=ja p:=by unfold zK;rw[hen,if_pos rfl,hw]
 have hb:=hi.said
 have hff:p.fields.length<=1000000:=by have:=hi.fields;omega
 have EF:=jh5 (fun w1 T1 (g:jn w1 T1 R b text p) (s:jM w T w1 T1)=>qm (p:=p) g s hR (by omega) hff)
 clear h
 by_cases h0:jh p=0
 ·have NO:=jh5 (fun(hwr:jD p x=true) v w' h1 h2=>qt.no (w:=w) (T:=T) (R:=R) (b:=b) (text:=text) (p:=p) (x:=x) (v:=v) (w':=w') (a:=x.no) (n:=2) (by unfold jL;rw[hen,hwr,hw,h0];simp) h1 h2)
  have YES:=jh5 (fun(hwr:jD p x=false) T' w' h1 h2=>qt.yes (w:=w) (T:=T) (T':=T') (R:=R) (b:=b) (text:=text) (p:=p) (q:=yT text.data.toList (ja p) x) (x:=x) (w':=w') (by unfold jL;rw[hen,hwr,hw,h0,hth];simp) h1 h2)
  cases hend:x.ended
  case false =>
   rw[hend]at C0 HB0
   have hwr:jD p x=true:=by unfold jD;rw[hk,hg,hend];rfl
   have FIN:=jh5 (NO.out hwr)
   clear YES NO
   clear hi hb hff hx
   go_enter Tryz.func30,Tryz.ntmps30
   go_wp2_with fail
   refine(K _).mono ?_
   rintro e w1 ⟨rfl,b1⟩
   have s1:=HB0.out.trans (jM.below b1)
   have P1:jn w1 T R b text p:=(H.out.below ((jh8 _ _).alloc (jh6 _) _)).below b1
   have l1:=P1.lt
   have C1:=jb C0.out b1 (by simp)
   have hz1:=s1.only.size
   have d0:w1.cell? ⟨w.heap.size,0,none⟩=some (.int .i64 x.no):=C1.cell 0
   have d1:w1.cell? ⟨w.heap.size,1,none⟩=some (.int .i64 x.at_):=C1.cell 1
   have d2:w1.cell? ⟨w.heap.size,2,none⟩=some (.string (B x.text)):=C1.cell 2
   have d3:w1.cell? ⟨w.heap.size,3,none⟩=some (.bool false):=C1.cell 3
   have lz:=C1.lt
   clear b1 H C0 HB0
   go_wp2_with fail
   obtain⟨V1,PV1⟩:=P1
   refine(qG PV1).mono ?_
   rw[hu hk]
   rintro e w2 ⟨rfl,rfl⟩
   replace P1:jn w1 T R b text p:=⟨V1,PV1⟩
   clear PV1
   go_wp2_with fail
   refine(EF.out _ T P1 s1).mono ?_
   rintro e w3 hE
   rw[if_pos h0]at hE
   obtain⟨rfl,T3,g3,s3,s13⟩:=hE
   have C3:=C1.only s13.only (fun e=>e (l0))
   have d0':w3.cell? ⟨w.heap.size,0,none⟩=some (.int .i64 x.no):=C3.cell 0
   have d1':w3.cell? ⟨w.heap.size,1,none⟩=some (.int .i64 x.at_):=C3.cell 1
   have d2':w3.cell? ⟨w.heap.size,2,none⟩=some (.string (B x.text)):=C3.cell 2
   have lz3:=C3.lt
   have l3:=g3.lt
   go_wp2
   go_ret
   exact FIN.out _ _ (jz.new _ _ 2 _ w3.heap.size rfl (by omega)) (s3.only.alloc _)
  case true =>
  rw[hend]at C0 HB0
  have hwr:jD p x=true:=by unfold jD;rw[hk,hg,hend];rfl
  have FIN:=jh5 (NO.out hwr)
  clear YES NO
  clear hi hb hff hx
  go_enter Tryz.func30,Tryz.ntmps30
  go_wp2_with fail
  refine(K _).mono ?_
  rintro e w1 ⟨rfl,b1⟩
  have s1:=HB0.out.trans (jM.below b1)
  have P1:jn w1 T R b text p:=(H.out.below ((jh8 _ _).alloc (jh6 _) _)).below b1
  have l1:=P1.lt
  have C1:=jb C0.out b1 (by simp)
  have hz1:=s1.only.size
  have d0:w1.cell? ⟨w.heap.size,0,none⟩=some (.int .i64 x.no):=C1.cell 0
  have d1:w1.cell? ⟨w.heap.size,1,none⟩=some (.int .i64 x.at_):=C1.cell 1
  have d2:w1.cell? ⟨w.heap.size,2,none⟩=some (.string (B x.text)):=C1.cell 2
  have d3:w1.cell? ⟨w.heap.size,3,none⟩=some (.bool true):=C1.cell 3
  have lz:=C1.lt
  clear b1 H C0 HB0
  go_wp2_with fail
  obtain⟨V1,PV1⟩:=P1
  refine(qG PV1).mono ?_
  rw[hu hk]
  rintro e w2 ⟨rfl,rfl⟩
  replace P1:jn w1 T R b text p:=⟨V1,PV1⟩
  clear PV1
  go_wp2_with fail
  refine(EF.out _ T P1 s1).mono ?_
  rintro e w3 hE
  rw[if_pos h0]at hE
  obtain⟨rfl,T3,g3,s3,s13⟩:=hE
  have C3:=C1.only s13.only (fun e=>e (l0))
  have d0':w3.cell? ⟨w.heap.size,0,none⟩=some (.int .i64 x.no):=C3.cell 0
  have d1':w3.cell? ⟨w.heap.size,1,none⟩=some (.int .i64 x.at_):=C3.cell 1
  have d2':w3.cell? ⟨w.heap.size,2,none⟩=some (.string (B x.text)):=C3.cell 2
  have lz3:=C3.lt
  have l3:=g3.lt
  go_wp2
  go_ret
  exact FIN.out _ _ (jz.new _ _ 2 _ w3.heap.size rfl (by omega)) (s3.only.alloc _)
 have FIN:=jh5 (fun v w' h1 h2=>qt.no (w:=w) (T:=T) (R:=R) (b:=b) (text:=text) (p:=p) (x:=x) (v:=v) (w':=w') (a:=p.begin_) (n:=jh p) (by unfold jL;rw[hen,hw,if_pos ⟨rfl,h0⟩]) h1 h2)
 clear hi hb hff hx
 cases hend:x.ended
 case false =>
  rw[hend]at C0 HB0
  go_enter Tryz.func30,Tryz.ntmps30
  go_wp2_with fail
  refine(K _).mono ?_
  rintro e w1 ⟨rfl,b1⟩
  have s1:=HB0.out.trans (jM.below b1)
  have P1:jn w1 T R b text p:=(H.out.below ((jh8 _ _).alloc (jh6 _) _)).below b1
  have l1:=P1.lt
  have C1:=jb C0.out b1 (by simp)
  have hz1:=s1.only.size
  have d0:w1.cell? ⟨w.heap.size,0,none⟩=some (.int .i64 x.no):=C1.cell 0
  have d1:w1.cell? ⟨w.heap.size,1,none⟩=some (.int .i64 x.at_):=C1.cell 1
  have d2:w1.cell? ⟨w.heap.size,2,none⟩=some (.string (B x.text)):=C1.cell 2
  have d3:w1.cell? ⟨w.heap.size,3,none⟩=some (.bool false):=C1.cell 3
  have lz:=C1.lt
  clear b1 H C0 HB0
  go_wp2_with fail
  obtain⟨V1,PV1⟩:=P1
  refine(qG PV1).mono ?_
  rw[hu hk]
  rintro e w2 ⟨rfl,rfl⟩
  replace P1:jn w1 T R b text p:=⟨V1,PV1⟩
  clear PV1
  go_wp2_with fail
  refine(EF.out _ T P1 s1).mono ?_
  rintro e w3 hE
  rw[if_neg h0]at hE
  obtain⟨v,rfl,f3,o3,_,a3,rfl⟩:=hE
  go_wp2
  go_ret
  exact FIN.out _ _ f3 o3
 case true =>
 rw[hend]at C0 HB0
 go_enter Tryz.func30,Tryz.ntmps30
 go_wp2_with fail
 refine(K _).mono ?_
 rintro e w1 ⟨rfl,b1⟩
 have s1:=HB0.out.trans (jM.below b1)
 have P1:jn w1 T R b text p:=(H.out.below ((jh8 _ _).alloc (jh6 _) _)).below b1
 have l1:=P1.lt
 have C1:=jb C0.out b1 (by simp)
 have hz1:=s1.only.size
 have d0:w1.cell? ⟨w.heap.size,0,none⟩=some (.int .i64 x.no):=C1.cell 0
 have d1:w1.cell? ⟨w.heap.size,1,none⟩=some (.int .i64 x.at_):=C1.cell 1
 have d2:w1.cell? ⟨w.heap.size,2,none⟩=some (.string (B x.text)):=C1.cell 2
 have d3:w1.cell? ⟨w.heap.size,3,none⟩=some (.bool true):=C1.cell 3
 have lz:=C1.lt
 clear b1 H C0 HB0
 go_wp2_with fail
 obtain⟨V1,PV1⟩:=P1
 refine(qG PV1).mono ?_
 rw[hu hk]
 rintro e w2 ⟨rfl,rfl⟩
 replace P1:jn w1 T R b text p:=⟨V1,PV1⟩
 clear PV1
 go_wp2_with fail
 refine(EF.out _ T P1 s1).mono ?_
 rintro e w3 hE
 rw[if_neg h0]at hE
 obtain⟨v,rfl,f3,o3,_,a3,rfl⟩:=hE
 go_wp2
 go_ret
 exact FIN.out _ _ f3 o3
theorem jbB{w:World}{T:Nat->Nat}{R b:Nat}{text:ByteArray}{p:PS}(h:jn w T R b text p)(hR:R<=w.heap.size)(x:Ln)(hi:Inv p x.at_)(hx:x.at_+x.bytes.length<=text.size)(ht:text.size<=70000)(hno:x.no<=x.at_)(hg:zU p x=false)(hk:jk x.text=4):
  Calls Tryz.prog 30 #[.pointer (some ⟨b,0,none⟩),.agg #[.int .i64 x.no,.int .i64 x.at_,.string (B x.text),.bool x.ended]] w fun e w'=>qt w T R b text p x e w':=by
 have hbl:x.text.length<=x.bytes.length:=by unfold Ln.bytes;simp
 have K:∀w,Calls Tryz.prog 70 #[.string (B x.text)] w fun e w'=>e=.returned (.int .i64 4)/\Below w.heap.size w w':=fun w=>by
  have:=vp (B x.text) (by rw[je];unfold maxLen;omega) w
  rw[ji,hk]at this
  exact this
 have hu:jk x.text=3->(!p.said.isEmpty)=false:=by
  intro h3;unfold zU at hg;rw[h3]at hg;simpa using hg
 have hl:=h.lt
 have l0:=Ys h
 have H:=jh5 h
 have C0:=jh5 (jd.new w 76 #[.int .i64 x.no,.int .i64 x.at_,.string (B x.text),.bool x.ended])
 have HB0:=jh5 (jM.below (T:=T) ((jh8 w.heap.size w).alloc (jh6 _) (.cells #[.int .i64 x.no,.int .i64 x.at_,.string (B x.text),.bool x.ended] 76)))
 have hw:zb p x=p:=by unfold zb;rw[hg];rfl
 have hen:zS p x=true:=by unfold zS;rw[hg];simp
 have hth:zK p x=ja p:=by unfold zK;rw[hen,if_pos rfl,hw]
 have hb:=hi.said
 have hff:p.fields.length<=1000000:=by have:=hi.fields;omega
 have EF:=jh5 (fun w1 T1 (g:jn w1 T1 R b text p) (s:jM w T w1 T1)=>qm (p:=p) g s hR (by omega) hff)
 clear h
 by_cases h0:jh p=0
 ·have NO:=jh5 (fun(hwr:jD p x=true) v w' h1 h2=>qt.no (w:=w) (T:=T) (R:=R) (b:=b) (text:=text) (p:=p) (x:=x) (v:=v) (w':=w') (a:=x.no) (n:=2) (by unfold jL;rw[hen,hwr,hw,h0];simp) h1 h2)
  have YES:=jh5 (fun(hwr:jD p x=false) T' w' h1 h2=>qt.yes (w:=w) (T:=T) (T':=T') (R:=R) (b:=b) (text:=text) (p:=p) (q:=yT text.data.toList (ja p) x) (x:=x) (w':=w') (by unfold jL;rw[hen,hwr,hw,h0,hth];simp) h1 h2)
  cases hend:x.ended
  case false =>
   rw[hend]at C0 HB0
   have hwr:jD p x=true:=by unfold jD;rw[hk,hg,hend];rfl
   have FIN:=jh5 (NO.out hwr)
   clear YES NO
   clear hi hb hff hx
   go_enter Tryz.func30,Tryz.ntmps30
   go_wp2_with fail
   refine(K _).mono ?_
   rintro e w1 ⟨rfl,b1⟩
   have s1:=HB0.out.trans (jM.below b1)
   have P1:jn w1 T R b text p:=(H.out.below ((jh8 _ _).alloc (jh6 _) _)).below b1
   have l1:=P1.lt
   have C1:=jb C0.out b1 (by simp)
   have hz1:=s1.only.size
   have d0:w1.cell? ⟨w.heap.size,0,none⟩=some (.int .i64 x.no):=C1.cell 0
   have d1:w1.cell? ⟨w.heap.size,1,none⟩=some (.int .i64 x.at_):=C1.cell 1
   have d2:w1.cell? ⟨w.heap.size,2,none⟩=some (.string (B x.text)):=C1.cell 2
   have d3:w1.cell? ⟨w.heap.size,3,none⟩=some (.bool false):=C1.cell 3
   have lz:=C1.lt
   clear b1 H C0 HB0
   go_wp2_with fail
   refine(EF.out _ T P1 s1).mono ?_
   rintro e w3 hE
   rw[if_pos h0]at hE
   obtain⟨rfl,T3,g3,s3,s13⟩:=hE
   have C3:=C1.only s13.only (fun e=>e (l0))
   have d0':w3.cell? ⟨w.heap.size,0,none⟩=some (.int .i64 x.no):=C3.cell 0
   have d1':w3.cell? ⟨w.heap.size,1,none⟩=some (.int .i64 x.at_):=C3.cell 1
   have d2':w3.cell? ⟨w.heap.size,2,none⟩=some (.string (B x.text)):=C3.cell 2
   have lz3:=C3.lt
   have l3:=g3.lt
   go_wp2
   go_ret
   exact FIN.out _ _ (jz.new _ _ 2 _ w3.heap.size rfl (by omega)) (s3.only.alloc _)
  case true =>
  rw[hend]at C0 HB0
  have hwr:jD p x=false:=by unfold jD;rw[hk,hg,hend];rfl
  have FIN:=jh5 (YES.out hwr)
  clear YES NO
  have hbe:x.bytes.length=x.text.length+1:=by unfold Ln.bytes;rw[hend];simp
  have eP:yT text.data.toList (ja p) x=XY (ja p) x:=by unfold yT XY;rw[hk,if_pos rfl]
  rw[eP]at FIN
  have HS:=jh5 (fun w3 T3 V3 (g:jA w3 T3 R b text (ja p) V3) hR3=>jbL g hR3 x)
  rw[hend]at HS
  clear hi hb hff hx
  go_enter Tryz.func30,Tryz.ntmps30
  go_wp2_with fail
  refine(K _).mono ?_
  rintro e w1 ⟨rfl,b1⟩
  have s1:=HB0.out.trans (jM.below b1)
  have P1:jn w1 T R b text p:=(H.out.below ((jh8 _ _).alloc (jh6 _) _)).below b1
  have l1:=P1.lt
  have C1:=jb C0.out b1 (by simp)
  have hz1:=s1.only.size
  have d0:w1.cell? ⟨w.heap.size,0,none⟩=some (.int .i64 x.no):=C1.cell 0
  have d1:w1.cell? ⟨w.heap.size,1,none⟩=some (.int .i64 x.at_):=C1.cell 1
  have d2:w1.cell? ⟨w.heap.size,2,none⟩=some (.string (B x.text)):=C1.cell 2
  have d3:w1.cell? ⟨w.heap.size,3,none⟩=some (.bool true):=C1.cell 3
  have lz:=C1.lt
  clear b1 H C0 HB0
  go_wp2_with fail
  refine(EF.out _ T P1 s1).mono ?_
  rintro e w3 hE
  rw[if_pos h0]at hE
  obtain⟨rfl,T3,g3,s3,s13⟩:=hE
  have C3:=C1.only s13.only (fun e=>e (l0))
  have d0':w3.cell? ⟨w.heap.size,0,none⟩=some (.int .i64 x.no):=C3.cell 0
  have d1':w3.cell? ⟨w.heap.size,1,none⟩=some (.int .i64 x.at_):=C3.cell 1
  have d2':w3.cell? ⟨w.heap.size,2,none⟩=some (.string (B x.text)):=C3.cell 2
  have lz3:=C3.lt
  have l3:=g3.lt
  have d3':w3.cell? ⟨w.heap.size,3,none⟩=some (.bool true):=C3.cell 3
  obtain⟨V3,g3⟩:=g3
  have P3d:Hid (jA w3.drew T3 R b text (ja p) V3):=g3.same (fun _ _=>rfl) (jh6 _)
  have S3:Hid (jM w T w3.drew T3):=s3.drewN 1
  have hz3:R<=w3.drew.heap.size:=jiv hR s3.only.size
  clear g3 s3 s13
  go_wp2
  go_region_with (go_at_call 73;refine(HS.out _ T3 V3 P3d.out hz3).mono ?_;rintro e w4 ⟨rfl,T4,g4,s4⟩)
  all_goals
   go_wp2
   go_ret
   exact FIN.out T4 _ g4 (S3.out.trans s4)
 have FIN:=jh5 (fun v w' h1 h2=>qt.no (w:=w) (T:=T) (R:=R) (b:=b) (text:=text) (p:=p) (x:=x) (v:=v) (w':=w') (a:=p.begin_) (n:=jh p) (by unfold jL;rw[hen,hw,if_pos ⟨rfl,h0⟩]) h1 h2)
 clear hi hb hff hx
 cases hend:x.ended
 case false =>
  rw[hend]at C0 HB0
  go_enter Tryz.func30,Tryz.ntmps30
  go_wp2_with fail
  refine(K _).mono ?_
  rintro e w1 ⟨rfl,b1⟩
  have s1:=HB0.out.trans (jM.below b1)
  have P1:jn w1 T R b text p:=(H.out.below ((jh8 _ _).alloc (jh6 _) _)).below b1
  have l1:=P1.lt
  have C1:=jb C0.out b1 (by simp)
  have hz1:=s1.only.size
  have d0:w1.cell? ⟨w.heap.size,0,none⟩=some (.int .i64 x.no):=C1.cell 0
  have d1:w1.cell? ⟨w.heap.size,1,none⟩=some (.int .i64 x.at_):=C1.cell 1
  have d2:w1.cell? ⟨w.heap.size,2,none⟩=some (.string (B x.text)):=C1.cell 2
  have d3:w1.cell? ⟨w.heap.size,3,none⟩=some (.bool false):=C1.cell 3
  have lz:=C1.lt
  clear b1 H C0 HB0
  go_wp2_with fail
  refine(EF.out _ T P1 s1).mono ?_
  rintro e w3 hE
  rw[if_neg h0]at hE
  obtain⟨v,rfl,f3,o3,_,a3,rfl⟩:=hE
  go_wp2
  go_ret
  exact FIN.out _ _ f3 o3
 case true =>
 rw[hend]at C0 HB0
 go_enter Tryz.func30,Tryz.ntmps30
 go_wp2_with fail
 refine(K _).mono ?_
 rintro e w1 ⟨rfl,b1⟩
 have s1:=HB0.out.trans (jM.below b1)
 have P1:jn w1 T R b text p:=(H.out.below ((jh8 _ _).alloc (jh6 _) _)).below b1
 have l1:=P1.lt
 have C1:=jb C0.out b1 (by simp)
 have hz1:=s1.only.size
 have d0:w1.cell? ⟨w.heap.size,0,none⟩=some (.int .i64 x.no):=C1.cell 0
 have d1:w1.cell? ⟨w.heap.size,1,none⟩=some (.int .i64 x.at_):=C1.cell 1
 have d2:w1.cell? ⟨w.heap.size,2,none⟩=some (.string (B x.text)):=C1.cell 2
 have d3:w1.cell? ⟨w.heap.size,3,none⟩=some (.bool true):=C1.cell 3
 have lz:=C1.lt
 clear b1 H C0 HB0
 go_wp2_with fail
 refine(EF.out _ T P1 s1).mono ?_
 rintro e w3 hE
 rw[if_neg h0]at hE
 obtain⟨v,rfl,f3,o3,_,a3,rfl⟩:=hE
 go_wp2
 go_ret
 exact FIN.out _ _ f3 o3
theorem jbA{w:World}{T:Nat->Nat}{R b:Nat}{text:ByteArray}{p:PS}(h:jn w T R b text p)(hR:R<=w.heap.size)(x:Ln)(hi:Inv p x.at_)(hx:x.at_+x.bytes.length<=text.size)(ht:text.size<=70000)(hno:x.no<=x.at_)(hg:zU p x=false)(hk:jk x.text=5):
  Calls Tryz.prog 30 #[.pointer (some ⟨b,0,none⟩),.agg #[.int .i64 x.no,.int .i64 x.at_,.string (B x.text),.bool x.ended]] w fun e w'=>qt w T R b text p x e w':=by
 have hbl:x.text.length<=x.bytes.length:=by unfold Ln.bytes;simp
 have K:∀w,Calls Tryz.prog 70 #[.string (B x.text)] w fun e w'=>e=.returned (.int .i64 5)/\Below w.heap.size w w':=fun w=>by
  have:=vp (B x.text) (by rw[je];unfold maxLen;omega) w
  rw[ji,hk]at this
  exact this
 have hu:jk x.text=3->(!p.said.isEmpty)=false:=by
  intro h3;unfold zU at hg;rw[h3]at hg;simpa using hg
 have hl:=h.lt
 have l0:=Ys h
 have H:=jh5 h
 have C0:=jh5 (jd.new w 76 #[.int .i64 x.no,.int .i64 x.at_,.string (B x.text),.bool x.ended])
 have HB0:=jh5 (jM.below (T:=T) ((jh8 w.heap.size w).alloc (jh6 _) (.cells #[.int .i64 x.no,.int .i64 x.at_,.string (B x.text),.bool x.ended] 76)))
 have hw:zb p x=p:=by unfold zb;rw[hg];rfl
 have hen:zS p x=true:=by unfold zS;rw[hg];simp
 have hth:zK p x=ja p:=by unfold zK;rw[hen,if_pos rfl,hw]
 have hb:=hi.said
 have hff:p.fields.length<=1000000:=by have:=hi.fields;omega
 have EF:=jh5 (fun w1 T1 (g:jn w1 T1 R b text p) (s:jM w T w1 T1)=>qm (p:=p) g s hR (by omega) hff)
 clear h
 by_cases h0:jh p=0
 ·have NO:=jh5 (fun(hwr:jD p x=true) v w' h1 h2=>qt.no (w:=w) (T:=T) (R:=R) (b:=b) (text:=text) (p:=p) (x:=x) (v:=v) (w':=w') (a:=x.no) (n:=2) (by unfold jL;rw[hen,hwr,hw,h0];simp) h1 h2)
  have YES:=jh5 (fun(hwr:jD p x=false) T' w' h1 h2=>qt.yes (w:=w) (T:=T) (T':=T') (R:=R) (b:=b) (text:=text) (p:=p) (q:=yT text.data.toList (ja p) x) (x:=x) (w':=w') (by unfold jL;rw[hen,hwr,hw,h0,hth];simp) h1 h2)
  cases hend:x.ended
  case false =>
   rw[hend]at C0 HB0
   have hwr:jD p x=true:=by unfold jD;rw[hk,hg,hend];rfl
   have FIN:=jh5 (NO.out hwr)
   clear YES NO
   clear hi hb hff hx
   go_enter Tryz.func30,Tryz.ntmps30
   go_wp2_with fail
   refine(K _).mono ?_
   rintro e w1 ⟨rfl,b1⟩
   have s1:=HB0.out.trans (jM.below b1)
   have P1:jn w1 T R b text p:=(H.out.below ((jh8 _ _).alloc (jh6 _) _)).below b1
   have l1:=P1.lt
   have C1:=jb C0.out b1 (by simp)
   have hz1:=s1.only.size
   have d0:w1.cell? ⟨w.heap.size,0,none⟩=some (.int .i64 x.no):=C1.cell 0
   have d1:w1.cell? ⟨w.heap.size,1,none⟩=some (.int .i64 x.at_):=C1.cell 1
   have d2:w1.cell? ⟨w.heap.size,2,none⟩=some (.string (B x.text)):=C1.cell 2
   have d3:w1.cell? ⟨w.heap.size,3,none⟩=some (.bool false):=C1.cell 3
   have lz:=C1.lt
   clear b1 H C0 HB0
   go_wp2_with fail
   refine(EF.out _ T P1 s1).mono ?_
   rintro e w3 hE
   rw[if_pos h0]at hE
   obtain⟨rfl,T3,g3,s3,s13⟩:=hE
   have C3:=C1.only s13.only (fun e=>e (l0))
   have d0':w3.cell? ⟨w.heap.size,0,none⟩=some (.int .i64 x.no):=C3.cell 0
   have d1':w3.cell? ⟨w.heap.size,1,none⟩=some (.int .i64 x.at_):=C3.cell 1
   have d2':w3.cell? ⟨w.heap.size,2,none⟩=some (.string (B x.text)):=C3.cell 2
   have lz3:=C3.lt
   have l3:=g3.lt
   go_wp2
   go_ret
   exact FIN.out _ _ (jz.new _ _ 2 _ w3.heap.size rfl (by omega)) (s3.only.alloc _)
  case true =>
  rw[hend]at C0 HB0
  have hwr:jD p x=true:=by unfold jD;rw[hk,hg,hend];rfl
  have FIN:=jh5 (NO.out hwr)
  clear YES NO
  clear hi hb hff hx
  go_enter Tryz.func30,Tryz.ntmps30
  go_wp2_with fail
  refine(K _).mono ?_
  rintro e w1 ⟨rfl,b1⟩
  have s1:=HB0.out.trans (jM.below b1)
  have P1:jn w1 T R b text p:=(H.out.below ((jh8 _ _).alloc (jh6 _) _)).below b1
  have l1:=P1.lt
  have C1:=jb C0.out b1 (by simp)
  have hz1:=s1.only.size
  have d0:w1.cell? ⟨w.heap.size,0,none⟩=some (.int .i64 x.no):=C1.cell 0
  have d1:w1.cell? ⟨w.heap.size,1,none⟩=some (.int .i64 x.at_):=C1.cell 1
  have d2:w1.cell? ⟨w.heap.size,2,none⟩=some (.string (B x.text)):=C1.cell 2
  have d3:w1.cell? ⟨w.heap.size,3,none⟩=some (.bool true):=C1.cell 3
  have lz:=C1.lt
  clear b1 H C0 HB0
  go_wp2_with fail
  refine(EF.out _ T P1 s1).mono ?_
  rintro e w3 hE
  rw[if_pos h0]at hE
  obtain⟨rfl,T3,g3,s3,s13⟩:=hE
  have C3:=C1.only s13.only (fun e=>e (l0))
  have d0':w3.cell? ⟨w.heap.size,0,none⟩=some (.int .i64 x.no):=C3.cell 0
  have d1':w3.cell? ⟨w.heap.size,1,none⟩=some (.int .i64 x.at_):=C3.cell 1
  have d2':w3.cell? ⟨w.heap.size,2,none⟩=some (.string (B x.text)):=C3.cell 2
  have lz3:=C3.lt
  have l3:=g3.lt
  go_wp2
  go_ret
  exact FIN.out _ _ (jz.new _ _ 2 _ w3.heap.size rfl (by omega)) (s3.only.alloc _)
 have FIN:=jh5 (fun v w' h1 h2=>qt.no (w:=w) (T:=T) (R:=R) (b:=b) (text:=text) (p:=p) (x:=x) (v:=v) (w':=w') (a:=p.begin_) (n:=jh p) (by unfold jL;rw[hen,hw,if_pos ⟨rfl,h0⟩]) h1 h2)
 clear hi hb hff hx
 cases hend:x.ended
 case false =>
  rw[hend]at C0 HB0
  go_enter Tryz.func30,Tryz.ntmps30
  go_wp2_with fail
  refine(K _).mono ?_
  rintro e w1 ⟨rfl,b1⟩
  have s1:=HB0.out.trans (jM.below b1)
  have P1:jn w1 T R b text p:=(H.out.below ((jh8 _ _).alloc (jh6 _) _)).below b1
  have l1:=P1.lt
  have C1:=jb C0.out b1 (by simp)
  have hz1:=s1.only.size
  have d0:w1.cell? ⟨w.heap.size,0,none⟩=some (.int .i64 x.no):=C1.cell 0
  have d1:w1.cell? ⟨w.heap.size,1,none⟩=some (.int .i64 x.at_):=C1.cell 1
  have d2:w1.cell? ⟨w.heap.size,2,none⟩=some (.string (B x.text)):=C1.cell 2
  have d3:w1.cell? ⟨w.heap.size,3,none⟩=some (.bool false):=C1.cell 3
  have lz:=C1.lt
  clear b1 H C0 HB0
  go_wp2_with fail
  refine(EF.out _ T P1 s1).mono ?_
  rintro e w3 hE
  rw[if_neg h0]at hE
  obtain⟨v,rfl,f3,o3,_,a3,rfl⟩:=hE
  go_wp2
  go_ret
  exact FIN.out _ _ f3 o3
 case true =>
 rw[hend]at C0 HB0
 go_enter Tryz.func30,Tryz.ntmps30
 go_wp2_with fail
 refine(K _).mono ?_
 rintro e w1 ⟨rfl,b1⟩
 have s1:=HB0.out.trans (jM.below b1)
 have P1:jn w1 T R b text p:=(H.out.below ((jh8 _ _).alloc (jh6 _) _)).below b1
 have l1:=P1.lt
 have C1:=jb C0.out b1 (by simp)
 have hz1:=s1.only.size
 have d0:w1.cell? ⟨w.heap.size,0,none⟩=some (.int .i64 x.no):=C1.cell 0
 have d1:w1.cell? ⟨w.heap.size,1,none⟩=some (.int .i64 x.at_):=C1.cell 1
 have d2:w1.cell? ⟨w.heap.size,2,none⟩=some (.string (B x.text)):=C1.cell 2
 have d3:w1.cell? ⟨w.heap.size,3,none⟩=some (.bool true):=C1.cell 3
 have lz:=C1.lt
 clear b1 H C0 HB0
 go_wp2_with fail
 refine(EF.out _ T P1 s1).mono ?_
 rintro e w3 hE
 rw[if_neg h0]at hE
 obtain⟨v,rfl,f3,o3,_,a3,rfl⟩:=hE
 go_wp2
 go_ret
 exact FIN.out _ _ f3 o3
theorem JL(l:List UInt8):jk l=1\/jk l=2\/jk l=3\/jk l=4\/jk l=5:=by
 unfold jk
 split;· simp
 split;· simp
 split;· simp
 split;· simp
 split<;>simp
theorem take_any{w:World}{T:Nat->Nat}{R b:Nat}{text:ByteArray}{p:PS}(h:jn w T R b text p)(hR:R<=w.heap.size)(x:Ln)(hi:Inv p x.at_)(hx:x.at_+x.bytes.length<=text.size)(ht:text.size<=60000)(hno:x.no<=x.at_):
  Calls Tryz.prog 30 #[.pointer (some ⟨b,0,none⟩),.agg #[.int .i64 x.no,.int .i64 x.at_,.string (B x.text),.bool x.ended]] w fun e w'=>qt w T R b text p x e w':=by
 cases hg:zU p x with
 | true =>
  have hbl:x.text.length<=x.bytes.length:=by unfold Ln.bytes;simp
  exact jfk h hR x hi (by omega) hno hg
 | false =>
 rcases JL x.text with hk|hk|hk|hk|hk
 ·exact jbE h hR x hi hx (by omega) hno hg hk
 ·exact jbD h hR x hi hx (by omega) hno hg hk
 ·exact jbC h hR x hi hx (by omega) hno hg hk
 ·exact jbB h hR x hi hx (by omega) hno hg hk
 exact jbA h hR x hi hx (by omega) hno hg hk
def Out(w W:World)(v e:Value):Prop :=
 jd W w.heap.size 47 #[v]/\jd W (w.heap.size+1) 28 #[e]/\Below w.heap.size w W
def jeO(w:World)(text:ByteArray)(pre:List Ln)(W:World):Prop :=
 Out w W (.slice none 0 0) .nilIface/\∃T p,qF text.data.toList PS.new pre=.ok p/\Inv p (pre.flatMap Ln.bytes).length/\jn W T (w.heap.size+2) (w.heap.size+2) text p/\∀k,w.heap.size+3<=k->k<w.heap.size+9->T k=0
def jht(w:World)(text:ByteArray)(c:Code)(pre:List Ln)(W:World):Prop :=
 c=.ret/\∃a n v,qF text.data.toList PS.new pre=.error (a,n)/\Out w W (.slice none 0 0) v/\jz (w.heap.size+9) W v a n
theorem Out.turned{w W W':World}{v e:Value}{B k:Nat}(h:Out w W v e)(ht:zc B k W W')(hB:w.heap.size+2<=B):Out w W' v e :=
 ⟨(ht.same _ h.1.lt (.inl (by omega))).trans h.1,(ht.same _ h.2.1.lt (.inl (by omega))).trans h.2.1,h.2.2.trans (ht.below (by omega) h.2.2.size)⟩
theorem Out.alloc{w W:World}{v e:Value}(h:Out w W v e)(o:Obj):Out w (W.alloc o) v e:=⟨h.1.alloc o,h.2.1.alloc o,h.2.2.alloc h.2.2.size o⟩
theorem Out.only{w W W':World}{v e:Value}{S:Nat->Prop}(h:Out w W v e)(g:zH S W W')(hS:∀r,S r->w.heap.size+2<=r):Out w W' v e :=
 ⟨h.1.only g (fun s=>by have:=hS _ s;omega),h.2.1.only g (fun s=>by have:=hS _ s;omega),h.2.2.trans (g.to_below h.2.2.size (fun r hr s=>by have:=hS _ s;omega))⟩
theorem Out.set{w W:World}{v e:Value}(h:Out w W v e)(v' e':Value):Out w ((W.setCell ⟨w.heap.size,0,none⟩ v').setCell ⟨w.heap.size+1,0,none⟩ e') v' e':=by
 obtain⟨h1,h2,h3⟩:=h
 exact⟨jd.other (h1.set 0 v') (by simp) _,jd.set (jd.other h2 (by simp) v') 0 e',(h3.setCell (p:=⟨w.heap.size,0,none⟩) (jh6 _) _).setCell (p:=⟨w.heap.size+1,0,none⟩) (by show _<=w.heap.size+1;omega) _⟩
theorem jn.turned{w w':World}{T:Nat->Nat}{R b B k:Nat}{text:ByteArray}{p:PS}(h:jn w T R b text p)(ht:zc B k w w')(hz:∀r,B<=r->r<B+k->T r=0):jn w' T R b text p:=by
 obtain⟨V,h⟩:=h
 refine⟨V,h.same (fun r hr=>ht.same r (h.low r hr).2 ?_) ht.size⟩
 rcases jir r B with q|q
 ·exact .inl q
 rcases jir r (B+k) with q'|q'
 ·exact absurd (hz r q q') hr
 exact .inr q'
theorem jeO.turned{w W W':World}{text:ByteArray}{pre:List Ln}{B k:Nat}(h:jeO w text pre W)(ht:zc B k W W')(hB:w.heap.size+3<=B)(hk:B+k<=w.heap.size+9):jeO w text pre W':=by
 obtain⟨h1,T,p,h2,h3,h4,h5⟩:=h
 exact⟨h1.turned ht (by omega),T,p,h2,h3,h4.turned ht (fun r a b=>h5 r (by omega) (by omega)),h5⟩
theorem jeO.alloc{w W:World}{text:ByteArray}{pre:List Ln}(h:jeO w text pre W)(o:Obj):jeO w text pre (W.alloc o):=by
 obtain⟨h1,T,p,h2,h3,h4,h5⟩:=h
 exact⟨h1.alloc o,T,p,h2,h3,h4.below ((jh8 _ _).alloc (jh6 _) o),h5⟩
theorem jht.turned{w W W':World}{text:ByteArray}{c:Code}{pre:List Ln}{B k:Nat}(h:jht w text c pre W)(ht:zc B k W W')(hB:w.heap.size+3<=B)(hk:B+k<=w.heap.size+9):jht w text c pre W':=by
 obtain⟨h0,a,n,v,h1,h2,q,h3,h4,h5⟩:=h
 exact⟨h0,a,n,v,h1,h2.turned ht (by omega),q,h3,h4,(ht.same q h5.lt (.inr (by omega))).trans h5⟩
theorem jbR{text:List UInt8}{pre:List Ln}{p q:PS}{x:Ln}(h:qF text PS.new pre=.ok p)(ht:jL text p x=.ok q):qF text PS.new (pre++[x])=.ok q:=by
 rw[qR,h];show(match jL text p x with | .error e=>_ | .ok q=>qF text q [])=_;rw[ht];rfl
theorem Kd{text:List UInt8}{pre:List Ln}{p:PS}{e:Nat×Nat}{x:Ln}(h:qF text PS.new pre=.ok p)(ht:jL text p x=.error e):qF text PS.new (pre++[x])=.error e:=by
 rw[qR,h];show(match jL text p x with | .error e=>_ | .ok q=>qF text q [])=_;rw[ht]
theorem jbQ{text:List UInt8}{pre xs:List Ln}{e:Nat×Nat}(h:qF text PS.new pre=.error e)(hp:pre <+: xs):qF text PS.new xs=.error e:=by
 obtain⟨post,rfl⟩:=hp
 rw[qR,h]
end Go.Proofs.YtmdhainabeljpaaGreatDoor
