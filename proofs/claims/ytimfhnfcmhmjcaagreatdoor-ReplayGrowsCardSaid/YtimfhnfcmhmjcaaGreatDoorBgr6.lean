/- Texts put together:PG,PH,RH. -/
import Derived.Test.YtimfhnfcmhmjcaaGreatDoorBgr5
set_option linter.unusedVariables false
set_option maxRecDepth 100000
set_option maxHeartbeats 16000000
namespace Go.Proofs.YtimfhnfcmhmjcaaGreatDoor
open Go.RowKit Go.Shelf
attribute [local go_sem] zV Xs
def zQ(w:World)(T:Nat->Nat)(R b:Nat)(text:ByteArray)(p:PS)(x:Ln)(e:Ending)(w':World):Prop :=
 match jW text.data.toList p x with
 | .error (a,n)=>∃v,e=.returned v/\jl w.heap.size w' v a n/\jB (fun r=>T r≠0) w w'
 | .ok q=>e=.returned .nilIface/\∃T',jf w' T' R b text q/\jH w T w' T'
theorem zQ.no{w:World}{T:Nat->Nat}{R b:Nat}{text:ByteArray}{p:PS}{x:Ln}{v:Value}{w':World}{a n:Nat}(h:jW text.data.toList p x=.error (a,n))(h1:jl w.heap.size w' v a n)(h2:jB (fun r=>T r≠0) w w'):zQ w T R b text p x (.returned v) w':=by
 unfold zQ;rw[h];exact⟨v,rfl,h1,h2⟩
theorem zQ.yes{w:World}{T T':Nat->Nat}{R b:Nat}{text:ByteArray}{p q:PS}{x:Ln}{w':World}(h:jW text.data.toList p x=.ok q)(h1:jf w' T' R b text q)(h2:jH w T w' T'):zQ w T R b text p x (.returned .nilIface) w':=by
 unfold zQ;rw[h];exact⟨rfl,T',h1,h2⟩
theorem QU{w:World}{T:Nat->Nat}{R b:Nat}{text:ByteArray}{p:PS}(h:jf w T R b text p):T w.heap.size=0:=by
 obtain⟨V,h⟩:=h
 rcases Nat.decEq (T w.heap.size) 0 with e|e
 ·have:=(h.low _ e).2;omega
 exact e
theorem jf.lt{w:World}{T:Nat->Nat}{R b:Nat}{text:ByteArray}{p:PS}(h:jf w T R b text p):b<w.heap.size:=by obtain⟨V,h⟩:=h;exact h.lt
theorem zL{w w1:World}{T T1:Nat->Nat}{R b:Nat}{text:ByteArray}{p q:PS}(h:jf w1 T1 R b text q)(hs:jH w T w1 T1)(hR:R<=w.heap.size)(hsum:(q.said.map List.length).sum+q.said.length<=90000)(hf:q.fields.length<=1000000):
  Calls Tryz.prog 103 #[.pointer (some ⟨b,0,none⟩)] w1 fun e w' =>
   if jh q=0 then e=.returned .nilIface/\∃T',jf w' T' R b text (jd q)/\jH w T w' T'/\jH w1 T1 w' T'
   else ∃v,e=.returned v/\jl w.heap.size w' v q.begin_ (jh q)/\jB (fun r=>T r≠0) w w'/\v ≠ .nilIface/\∃a,v=.iface 91 (.pointer a):=by
 have hz:=hs.only.size
 refine(JG h (jiI hR hz) hsum hf).mono fun e w' g => ?_
 unfold zM at g
 split
 ·rename_i h0
  rw[if_pos h0]at g
  obtain⟨g1,T',g2,g3⟩:=g
  exact⟨g1,T',g2,hs.trans g3,g3⟩
 rename_i h0
 rw[if_neg h0]at g
 obtain⟨v,g1,g2,g3⟩:=g
 refine⟨v,g1,g2.mono hz,hs.only.below g3 hz,?_,?_⟩
 ·obtain⟨q,_,e,_⟩:=g2;rw[e];intro h;cases h
 obtain⟨q,_,e,_⟩:=g2;exact⟨_,e⟩
theorem je8{w:World}{T:Nat->Nat}{R b:Nat}{text:ByteArray}{p:PS}(h:jf w T R b text p)(hR:R<=w.heap.size)(x:Ln)(hi:Inv p x.at_)(hx:x.at_+x.text.length+1<=70000)(hno:x.no<=x.at_)(hg:qE p x=true):
  Calls Tryz.prog 102 #[.pointer (some ⟨b,0,none⟩),.agg #[.int .i64 x.no,.int .i64 x.at_,.string (B x.text),.bool x.ended]] w fun e w'=>zQ w T R b text p x e w':=by
 have hk:jz x.text=3:=by unfold qE at hg;simp at hg;exact hg.1
 have hu:(!p.said.isEmpty)=true:=by unfold qE at hg;simp at hg;simp[hg.2]
 have K:∀w,Calls Tryz.prog 161 #[.string (B x.text)] w fun e w'=>e=.returned (.int .i64 3)/\Below w.heap.size w w':=fun w=>by
  have:=qM (B x.text) (by rw[jm];unfold maxLen;omega) w
  rw[jo,hk]at this
  exact this
 have hl:=h.lt
 have hb0:=jH.below (T:=T) ((jil w.heap.size w).alloc (jij _) (.cells #[.int .i64 x.no,.int .i64 x.at_,.string (B x.text),.bool x.ended] 182))
 have c0:=ja.new w 182 #[.int .i64 x.no,.int .i64 x.at_,.string (B x.text),.bool x.ended]
 have l0:=QU h
 have hw:zv p x=yF p x:=by unfold zv;rw[if_pos hg];rfl
 have hwr:jL p x = !x.ended:=by unfold jL;rw[hk,hg];simp
 have hen:qv p x = !x.ended:=by unfold qv;rw[hwr,hg];simp
 have hb:=hi.said
 have hsum:((yF p x).said.map List.length).sum+(yF p x).said.length<=90000:=by simp[yF];omega
 have hff:(yF p x).fields.length<=1000000:=by have:=hi.fields;show p.fields.length<=_;omega
 have hn:p.said.length<=1000000:=by omega
 have GO:=jii (fun w1 (T1:Nat->Nat) V1 (g:jx w1 T1 R b text p V1) hR1=>jd2 g hR1 x hn)
 have EF:=jii (fun w1 T1 (g:jf w1 T1 R b text (yF p x)) (s:jH w T w1 T1)=>zL (p:=p) g s hR hsum hff)
 have H:=jii h
 have C0:=jii c0
 have HB0:=jii hb0
 cases hend:x.ended with
 | true =>
  rw[hend]at hwr hen
  simp only[Bool.not_true]at hwr hen
  have FIN:=jii (fun T' w' h1 h2=>zQ.yes (w:=w) (T:=T) (T':=T') (R:=R) (b:=b) (text:=text) (p:=p) (q:=yF p x) (x:=x) (w':=w') (by unfold jW;rw[hen,hwr];simp[zC,hen,xv,hk,hw]) h1 h2)
  rw[hend]at GO C0 HB0
  clear h c0 hb0 hi EF hsum hff hb
  go_enter Tryz.func102,Tryz.ntmps102
  go_wp2_with fail
  refine(K _).mono ?_
  rintro e w1 ⟨rfl,b1⟩
  have s1:=HB0.out.trans (jH.below b1)
  have P1:jf w1 T R b text p:=(H.out.below ((jil _ _).alloc (jij _) _)).below b1
  have l1:=P1.lt
  obtain⟨V1,P1⟩:=P1
  have C1:=jb C0.out b1 (by simp)
  have hz1:=s1.only.size
  have hz1':R<=w1.drew.heap.size:=jiI hR hz1
  clear b1 H C0 HB0
  go_wp2_with fail
  refine(qe P1).mono ?_
  rw[hu]
  rintro e w2 ⟨rfl,rfl⟩
  have d0:w1.cell? ⟨w.heap.size,0,none⟩=some (.int .i64 x.no):=C1.cell 0
  have d1:w1.cell? ⟨w.heap.size,1,none⟩=some (.int .i64 x.at_):=C1.cell 1
  have d2:w1.cell? ⟨w.heap.size,2,none⟩=some (.string (B x.text)):=C1.cell 2
  have d3:w1.cell? ⟨w.heap.size,3,none⟩=some (.bool true):=C1.cell 3
  have lz:=C1.lt
  have P1d:Hid (jx w1.drew T R b text p V1):=P1.same (fun _ _=>rfl) (jij _)
  have C1d:Hid (ja w1.drew w.heap.size 182 _):=C1
  have S1:Hid (jH w T w1.drew T):=s1.drewN 1
  clear P1 C1 s1
  go_wp2
  go_region_with (go_at_call 163;refine(GO.out _ T V1 P1d.out hz1').mono ?_;rintro e w2 ⟨rfl,T2,g2,s2⟩;have C2:=C1d.out.only s2.only (fun e=>e l0);have d3:w2.cell? ⟨w.heap.size,3,none⟩=some (.bool true):=C2.cell 3)
  all_goals
   go_wp2
   go_ret
   exact FIN.out T2 _ g2 (S1.out.trans s2)
 | false =>
 rw[hend]at hwr hen
 simp only[Bool.not_false]at hwr hen
 rw[hend]at GO C0 HB0
 by_cases h0:jh (yF p x)=0
 ·have FIN:=jii (fun v w' h1 h2=>zQ.no (w:=w) (T:=T) (R:=R) (b:=b) (text:=text) (p:=p) (x:=x) (v:=v) (w':=w') (a:=x.no) (n:=2) (by unfold jW;rw[hen,hwr,hw,h0];simp) h1 h2)
  clear h c0 hb0 hi hsum hff hb
  go_enter Tryz.func102,Tryz.ntmps102
  go_wp2_with fail
  refine(K _).mono ?_
  rintro e w1 ⟨rfl,b1⟩
  have s1:=HB0.out.trans (jH.below b1)
  have P1:jf w1 T R b text p:=(H.out.below ((jil _ _).alloc (jij _) _)).below b1
  have l1:=P1.lt
  obtain⟨V1,P1⟩:=P1
  have C1:=jb C0.out b1 (by simp)
  have hz1:=s1.only.size
  have hz1':R<=w1.drew.heap.size:=jiI hR hz1
  clear b1 H C0 HB0
  go_wp2_with fail
  refine(qe P1).mono ?_
  rw[hu]
  rintro e w2 ⟨rfl,rfl⟩
  have d0:w1.cell? ⟨w.heap.size,0,none⟩=some (.int .i64 x.no):=C1.cell 0
  have d1:w1.cell? ⟨w.heap.size,1,none⟩=some (.int .i64 x.at_):=C1.cell 1
  have d2:w1.cell? ⟨w.heap.size,2,none⟩=some (.string (B x.text)):=C1.cell 2
  have d3:w1.cell? ⟨w.heap.size,3,none⟩=some (.bool false):=C1.cell 3
  have lz:=C1.lt
  have P1d:Hid (jx w1.drew T R b text p V1):=P1.same (fun _ _=>rfl) (jij _)
  have C1d:Hid (ja w1.drew w.heap.size 182 _):=C1
  have S1:Hid (jH w T w1.drew T):=s1.drewN 1
  clear P1 C1 s1
  go_wp2
  go_region_with (go_at_call 163;refine(GO.out _ T V1 P1d.out hz1').mono ?_;rintro e w2 ⟨rfl,T2,g2,s2⟩;have C2:=C1d.out.only s2.only (fun e=>e l0);have d3:w2.cell? ⟨w.heap.size,3,none⟩=some (.bool false):=C2.cell 3)
  all_goals
   go_wp2_with fail
   refine(EF.out _ T2 g2 (S1.out.trans s2)).mono ?_
   rintro e w3 hE
   rw[if_pos h0]at hE
   obtain⟨rfl,T3,g3,s3,s23⟩:=hE
   have C3:=C2.only s23.only (fun e=>e ((s2.old _ lz).2 l0))
   have d0':w3.cell? ⟨w.heap.size,0,none⟩=some (.int .i64 x.no):=C3.cell 0
   have lz3:=C3.lt
   go_wp2
   go_ret
   exact FIN.out _ _ (jl.new _ _ 2 _ w3.heap.size rfl (by omega)) (s3.only.alloc _)
 have FIN:=jii (fun v w' h1 h2=>zQ.no (w:=w) (T:=T) (R:=R) (b:=b) (text:=text) (p:=p) (x:=x) (v:=v) (w':=w') (a:=(yF p x).begin_) (n:=jh (yF p x)) (by unfold jW;rw[hen,hw,if_pos ⟨rfl,h0⟩]) h1 h2)
 clear h c0 hb0 hi hsum hff hb
 go_enter Tryz.func102,Tryz.ntmps102
 go_wp2_with fail
 refine(K _).mono ?_
 rintro e w1 ⟨rfl,b1⟩
 have s1:=HB0.out.trans (jH.below b1)
 have P1:jf w1 T R b text p:=(H.out.below ((jil _ _).alloc (jij _) _)).below b1
 have l1:=P1.lt
 obtain⟨V1,P1⟩:=P1
 have C1:=jb C0.out b1 (by simp)
 have hz1:=s1.only.size
 have hz1':R<=w1.drew.heap.size:=jiI hR hz1
 clear b1 H C0 HB0
 go_wp2_with fail
 refine(qe P1).mono ?_
 rw[hu]
 rintro e w2 ⟨rfl,rfl⟩
 have d0:w1.cell? ⟨w.heap.size,0,none⟩=some (.int .i64 x.no):=C1.cell 0
 have d1:w1.cell? ⟨w.heap.size,1,none⟩=some (.int .i64 x.at_):=C1.cell 1
 have d2:w1.cell? ⟨w.heap.size,2,none⟩=some (.string (B x.text)):=C1.cell 2
 have d3:w1.cell? ⟨w.heap.size,3,none⟩=some (.bool false):=C1.cell 3
 have lz:=C1.lt
 have P1d:Hid (jx w1.drew T R b text p V1):=P1.same (fun _ _=>rfl) (jij _)
 have C1d:Hid (ja w1.drew w.heap.size 182 _):=C1
 have S1:Hid (jH w T w1.drew T):=s1.drewN 1
 clear P1 C1 s1
 go_wp2
 go_region_with (go_at_call 163;refine(GO.out _ T V1 P1d.out hz1').mono ?_;rintro e w2 ⟨rfl,T2,g2,s2⟩;have C2:=C1d.out.only s2.only (fun e=>e l0);have d3:w2.cell? ⟨w.heap.size,3,none⟩=some (.bool false):=C2.cell 3)
 all_goals
  go_wp2_with fail
  refine(EF.out _ T2 g2 (S1.out.trans s2)).mono ?_
  rintro e w3 hE
  rw[if_neg h0]at hE
  obtain⟨v,rfl,f3,o3,_,a3,rfl⟩:=hE
  go_wp2
  go_ret
  exact FIN.out _ _ f3 o3
theorem jaY{w:World}{T:Nat->Nat}{R b:Nat}{text:ByteArray}{p:PS}(h:jf w T R b text p)(hR:R<=w.heap.size)(x:Ln)(hi:Inv p x.at_)(hx:x.at_+x.bytes.length<=text.size)(ht:text.size<=70000)(hno:x.no<=x.at_)(hg:qE p x=false)(hk:jz x.text=1):
  Calls Tryz.prog 102 #[.pointer (some ⟨b,0,none⟩),.agg #[.int .i64 x.no,.int .i64 x.at_,.string (B x.text),.bool x.ended]] w fun e w'=>zQ w T R b text p x e w':=by
 have hbl:x.text.length<=x.bytes.length:=by unfold Ln.bytes;simp
 have K:∀w,Calls Tryz.prog 161 #[.string (B x.text)] w fun e w'=>e=.returned (.int .i64 1)/\Below w.heap.size w w':=fun w=>by
  have:=qM (B x.text) (by rw[jm];unfold maxLen;omega) w
  rw[jo,hk]at this
  exact this
 have hu:jz x.text=3->(!p.said.isEmpty)=false:=by
  intro h3;unfold qE at hg;rw[h3]at hg;simpa using hg
 have hl:=h.lt
 have l0:=QU h
 have H:=jii h
 have C0:=jii (ja.new w 182 #[.int .i64 x.no,.int .i64 x.at_,.string (B x.text),.bool x.ended])
 have HB0:=jii (jH.below (T:=T) ((jil w.heap.size w).alloc (jij _) (.cells #[.int .i64 x.no,.int .i64 x.at_,.string (B x.text),.bool x.ended] 182)))
 have hw:zv p x=p:=by unfold zv;rw[hg];rfl
 have hen:qv p x=true:=by unfold qv;rw[hg];simp
 have hth:zC p x=jd p:=by unfold zC;rw[hen,if_pos rfl,hw]
 have hb:=hi.said
 have hff:p.fields.length<=1000000:=by have:=hi.fields;omega
 have EF:=jii (fun w1 T1 (g:jf w1 T1 R b text p) (s:jH w T w1 T1)=>zL (p:=p) g s hR (by omega) hff)
 clear h
 by_cases h0:jh p=0
 ·have NO:=jii (fun(hwr:jL p x=true) v w' h1 h2=>zQ.no (w:=w) (T:=T) (R:=R) (b:=b) (text:=text) (p:=p) (x:=x) (v:=v) (w':=w') (a:=x.no) (n:=2) (by unfold jW;rw[hen,hwr,hw,h0];simp) h1 h2)
  have YES:=jii (fun(hwr:jL p x=false) T' w' h1 h2=>zQ.yes (w:=w) (T:=T) (T':=T') (R:=R) (b:=b) (text:=text) (p:=p) (q:=xv text.data.toList (jd p) x) (x:=x) (w':=w') (by unfold jW;rw[hen,hwr,hw,h0,hth];simp) h1 h2)
  cases hend:x.ended
  case false =>
   rw[hend]at C0 HB0
   have hwr:jL p x=true:=by unfold jL;rw[hk,hg,hend];rfl
   have FIN:=jii (NO.out hwr)
   clear YES NO
   clear hi hb hff hx
   go_enter Tryz.func102,Tryz.ntmps102
   go_wp2_with fail
   refine(K _).mono ?_
   rintro e w1 ⟨rfl,b1⟩
   have s1:=HB0.out.trans (jH.below b1)
   have P1:jf w1 T R b text p:=(H.out.below ((jil _ _).alloc (jij _) _)).below b1
   have l1:=P1.lt
   have C1:=jb C0.out b1 (by simp)
   have hz1:=s1.only.size
   have d0:w1.cell? ⟨w.heap.size,0,none⟩=some (.int .i64 x.no):=C1.cell 0
   have d1:w1.cell? ⟨w.heap.size,1,none⟩=some (.int .i64 x.at_):=C1.cell 1
   have d2:w1.cell? ⟨w.heap.size,2,none⟩=some (.string (B x.text)):=C1.cell 2
   have d3:w1.cell? ⟨w.heap.size,3,none⟩=some (.bool false):=C1.cell 3
   have lz:=C1.lt
   clear b1 H C0 HB0
   go_wp2_with fail
   refine(EF.out _ T P1 s1).mono ?_
   rintro e w3 hE
   rw[if_pos h0]at hE
   obtain⟨rfl,T3,g3,s3,s13⟩:=hE
   have C3:=C1.only s13.only (fun e=>e (l0))
   have d0':w3.cell? ⟨w.heap.size,0,none⟩=some (.int .i64 x.no):=C3.cell 0
   have d1':w3.cell? ⟨w.heap.size,1,none⟩=some (.int .i64 x.at_):=C3.cell 1
   have d2':w3.cell? ⟨w.heap.size,2,none⟩=some (.string (B x.text)):=C3.cell 2
   have lz3:=C3.lt
   have l3:=g3.lt
   go_wp2
   go_ret
   exact FIN.out _ _ (jl.new _ _ 2 _ w3.heap.size rfl (by omega)) (s3.only.alloc _)
  case true =>
  rw[hend]at C0 HB0
  have hwr:jL p x=false:=by unfold jL;rw[hk,hg,hend];rfl
  have FIN:=jii (YES.out hwr)
  clear YES NO
  have hbe:x.bytes.length=x.text.length+1:=by unfold Ln.bytes;rw[hend];simp
  have eP:xv text.data.toList (jd p) x=jY text.data.toList (jr text.data.toList (jd p) x.at_) 1 (x.at_+x.text.length+1):=by unfold xv;rw[hk];rfl
  rw[eP]at FIN
  have hi2:=hi.endField
  have hi3:=hi2.endBlock text.data.toList x.at_ hi2.at_ (jij _)
  have a3:=vT text.data.toList (jd p) x.at_ hi2.at_
  have n1:IntKind.i64.wrap ((x.at_:Int)+(x.text.length:Int))=(x.at_:Int)+(x.text.length:Int):=jiM _ (by omega)
  have n2:IntKind.i64.wrap ((x.at_:Int)+(x.text.length:Int)+1)=(x.at_:Int)+(x.text.length:Int)+1:=jiM _ (by omega)
  have zB:=jm x.text
  have HB:=jii (fun w3 T3 (g:jf w3 T3 R b text (jd p)) hR3=>JH g hR3 x.at_ hi2.at_ (by omega) (by omega) (by have:=hi2.items;have:=hi2.at_;omega) (by have:=hi2.stanzas;have:=hi2.at_;omega))
  have HI:=jii (fun w3 T3 V3 (g:jx w3 T3 R b text (jr text.data.toList (jd p) x.at_) V3) hR3=>xb g hR3 1 (x.at_+x.text.length+1) (by omega) (by omega) (by omega) (by have:=hi3.items;omega))
  clear hi hb hff hi3 hi2 a3
  go_enter Tryz.func102,Tryz.ntmps102
  go_wp2_with fail
  refine(K _).mono ?_
  rintro e w1 ⟨rfl,b1⟩
  have s1:=HB0.out.trans (jH.below b1)
  have P1:jf w1 T R b text p:=(H.out.below ((jil _ _).alloc (jij _) _)).below b1
  have l1:=P1.lt
  have C1:=jb C0.out b1 (by simp)
  have hz1:=s1.only.size
  have d0:w1.cell? ⟨w.heap.size,0,none⟩=some (.int .i64 x.no):=C1.cell 0
  have d1:w1.cell? ⟨w.heap.size,1,none⟩=some (.int .i64 x.at_):=C1.cell 1
  have d2:w1.cell? ⟨w.heap.size,2,none⟩=some (.string (B x.text)):=C1.cell 2
  have d3:w1.cell? ⟨w.heap.size,3,none⟩=some (.bool true):=C1.cell 3
  have lz:=C1.lt
  clear b1 H C0 HB0
  go_wp2_with fail
  refine(EF.out _ T P1 s1).mono ?_
  rintro e w3 hE
  rw[if_pos h0]at hE
  obtain⟨rfl,T3,g3,s3,s13⟩:=hE
  have C3:=C1.only s13.only (fun e=>e (l0))
  have d0':w3.cell? ⟨w.heap.size,0,none⟩=some (.int .i64 x.no):=C3.cell 0
  have d1':w3.cell? ⟨w.heap.size,1,none⟩=some (.int .i64 x.at_):=C3.cell 1
  have d2':w3.cell? ⟨w.heap.size,2,none⟩=some (.string (B x.text)):=C3.cell 2
  have lz3:=C3.lt
  have l3:=g3.lt
  have hz3:R<=w3.heap.size:=jiI hR s3.only.size
  go_wp2_with fail
  refine(HB.out _ T3 g3 hz3).mono ?_
  rintro e w4 ⟨rfl,T4,g4,s4⟩
  have C4:=C3.only s4.only (fun e=>e ((s13.old _ lz).2 l0))
  have e1':w4.cell? ⟨w.heap.size,1,none⟩=some (.int .i64 x.at_):=C4.cell 1
  have e2':w4.cell? ⟨w.heap.size,2,none⟩=some (.string (B x.text)):=C4.cell 2
  have lz4:=C4.lt
  have hz4:R<=w4.heap.size:=jiI hz3 s4.only.size
  have l4:=g4.lt
  obtain⟨V4,g4⟩:=g4
  go_wp2_with fail
  rw[show Value.int .i64 ((x.at_:Int)+(x.text.length:Int)+1)=Value.int .i64 ((x.at_+x.text.length+1:Nat):Int) from rfl]
  refine(HI.out _ T4 V4 g4 hz4).mono ?_
  rintro e w5 ⟨rfl,T5,g5,s5⟩
  go_wp2
  go_ret
  exact FIN.out T5 _ g5 ((s3.trans s4).trans s5)
 have FIN:=jii (fun v w' h1 h2=>zQ.no (w:=w) (T:=T) (R:=R) (b:=b) (text:=text) (p:=p) (x:=x) (v:=v) (w':=w') (a:=p.begin_) (n:=jh p) (by unfold jW;rw[hen,hw,if_pos ⟨rfl,h0⟩]) h1 h2)
 clear hi hb hff hx
 cases hend:x.ended
 case false =>
  rw[hend]at C0 HB0
  go_enter Tryz.func102,Tryz.ntmps102
  go_wp2_with fail
  refine(K _).mono ?_
  rintro e w1 ⟨rfl,b1⟩
  have s1:=HB0.out.trans (jH.below b1)
  have P1:jf w1 T R b text p:=(H.out.below ((jil _ _).alloc (jij _) _)).below b1
  have l1:=P1.lt
  have C1:=jb C0.out b1 (by simp)
  have hz1:=s1.only.size
  have d0:w1.cell? ⟨w.heap.size,0,none⟩=some (.int .i64 x.no):=C1.cell 0
  have d1:w1.cell? ⟨w.heap.size,1,none⟩=some (.int .i64 x.at_):=C1.cell 1
  have d2:w1.cell? ⟨w.heap.size,2,none⟩=some (.string (B x.text)):=C1.cell 2
  have d3:w1.cell? ⟨w.heap.size,3,none⟩=some (.bool false):=C1.cell 3
  have lz:=C1.lt
  clear b1 H C0 HB0
  go_wp2_with fail
  refine(EF.out _ T P1 s1).mono ?_
  rintro e w3 hE
  rw[if_neg h0]at hE
  obtain⟨v,rfl,f3,o3,_,a3,rfl⟩:=hE
  go_wp2
  go_ret
  exact FIN.out _ _ f3 o3
 case true =>
 rw[hend]at C0 HB0
 go_enter Tryz.func102,Tryz.ntmps102
 go_wp2_with fail
 refine(K _).mono ?_
 rintro e w1 ⟨rfl,b1⟩
 have s1:=HB0.out.trans (jH.below b1)
 have P1:jf w1 T R b text p:=(H.out.below ((jil _ _).alloc (jij _) _)).below b1
 have l1:=P1.lt
 have C1:=jb C0.out b1 (by simp)
 have hz1:=s1.only.size
 have d0:w1.cell? ⟨w.heap.size,0,none⟩=some (.int .i64 x.no):=C1.cell 0
 have d1:w1.cell? ⟨w.heap.size,1,none⟩=some (.int .i64 x.at_):=C1.cell 1
 have d2:w1.cell? ⟨w.heap.size,2,none⟩=some (.string (B x.text)):=C1.cell 2
 have d3:w1.cell? ⟨w.heap.size,3,none⟩=some (.bool true):=C1.cell 3
 have lz:=C1.lt
 clear b1 H C0 HB0
 go_wp2_with fail
 refine(EF.out _ T P1 s1).mono ?_
 rintro e w3 hE
 rw[if_neg h0]at hE
 obtain⟨v,rfl,f3,o3,_,a3,rfl⟩:=hE
 go_wp2
 go_ret
 exact FIN.out _ _ f3 o3
theorem jaX{w:World}{T:Nat->Nat}{R b:Nat}{text:ByteArray}{p:PS}(h:jf w T R b text p)(hR:R<=w.heap.size)(x:Ln)(hi:Inv p x.at_)(hx:x.at_+x.bytes.length<=text.size)(ht:text.size<=70000)(hno:x.no<=x.at_)(hg:qE p x=false)(hk:jz x.text=2):
  Calls Tryz.prog 102 #[.pointer (some ⟨b,0,none⟩),.agg #[.int .i64 x.no,.int .i64 x.at_,.string (B x.text),.bool x.ended]] w fun e w'=>zQ w T R b text p x e w':=by
 have hbl:x.text.length<=x.bytes.length:=by unfold Ln.bytes;simp
 have K:∀w,Calls Tryz.prog 161 #[.string (B x.text)] w fun e w'=>e=.returned (.int .i64 2)/\Below w.heap.size w w':=fun w=>by
  have:=qM (B x.text) (by rw[jm];unfold maxLen;omega) w
  rw[jo,hk]at this
  exact this
 have hu:jz x.text=3->(!p.said.isEmpty)=false:=by
  intro h3;unfold qE at hg;rw[h3]at hg;simpa using hg
 have hl:=h.lt
 have l0:=QU h
 have H:=jii h
 have C0:=jii (ja.new w 182 #[.int .i64 x.no,.int .i64 x.at_,.string (B x.text),.bool x.ended])
 have HB0:=jii (jH.below (T:=T) ((jil w.heap.size w).alloc (jij _) (.cells #[.int .i64 x.no,.int .i64 x.at_,.string (B x.text),.bool x.ended] 182)))
 have hw:zv p x=p:=by unfold zv;rw[hg];rfl
 have hen:qv p x=true:=by unfold qv;rw[hg];simp
 have hth:zC p x=jd p:=by unfold zC;rw[hen,if_pos rfl,hw]
 have hb:=hi.said
 have hff:p.fields.length<=1000000:=by have:=hi.fields;omega
 have EF:=jii (fun w1 T1 (g:jf w1 T1 R b text p) (s:jH w T w1 T1)=>zL (p:=p) g s hR (by omega) hff)
 clear h
 by_cases h0:jh p=0
 ·have NO:=jii (fun(hwr:jL p x=true) v w' h1 h2=>zQ.no (w:=w) (T:=T) (R:=R) (b:=b) (text:=text) (p:=p) (x:=x) (v:=v) (w':=w') (a:=x.no) (n:=2) (by unfold jW;rw[hen,hwr,hw,h0];simp) h1 h2)
  have YES:=jii (fun(hwr:jL p x=false) T' w' h1 h2=>zQ.yes (w:=w) (T:=T) (T':=T') (R:=R) (b:=b) (text:=text) (p:=p) (q:=xv text.data.toList (jd p) x) (x:=x) (w':=w') (by unfold jW;rw[hen,hwr,hw,h0,hth];simp) h1 h2)
  cases hend:x.ended
  case false =>
   rw[hend]at C0 HB0
   have hwr:jL p x=true:=by unfold jL;rw[hk,hg,hend];rfl
   have FIN:=jii (NO.out hwr)
   clear YES NO
   clear hi hb hff hx
   go_enter Tryz.func102,Tryz.ntmps102
   go_wp2_with fail
   refine(K _).mono ?_
   rintro e w1 ⟨rfl,b1⟩
   have s1:=HB0.out.trans (jH.below b1)
   have P1:jf w1 T R b text p:=(H.out.below ((jil _ _).alloc (jij _) _)).below b1
   have l1:=P1.lt
   have C1:=jb C0.out b1 (by simp)
   have hz1:=s1.only.size
   have d0:w1.cell? ⟨w.heap.size,0,none⟩=some (.int .i64 x.no):=C1.cell 0
   have d1:w1.cell? ⟨w.heap.size,1,none⟩=some (.int .i64 x.at_):=C1.cell 1
   have d2:w1.cell? ⟨w.heap.size,2,none⟩=some (.string (B x.text)):=C1.cell 2
   have d3:w1.cell? ⟨w.heap.size,3,none⟩=some (.bool false):=C1.cell 3
   have lz:=C1.lt
   clear b1 H C0 HB0
   go_wp2_with fail
   refine(EF.out _ T P1 s1).mono ?_
   rintro e w3 hE
   rw[if_pos h0]at hE
   obtain⟨rfl,T3,g3,s3,s13⟩:=hE
   have C3:=C1.only s13.only (fun e=>e (l0))
   have d0':w3.cell? ⟨w.heap.size,0,none⟩=some (.int .i64 x.no):=C3.cell 0
   have d1':w3.cell? ⟨w.heap.size,1,none⟩=some (.int .i64 x.at_):=C3.cell 1
   have d2':w3.cell? ⟨w.heap.size,2,none⟩=some (.string (B x.text)):=C3.cell 2
   have lz3:=C3.lt
   have l3:=g3.lt
   go_wp2
   go_ret
   exact FIN.out _ _ (jl.new _ _ 2 _ w3.heap.size rfl (by omega)) (s3.only.alloc _)
  case true =>
  rw[hend]at C0 HB0
  have hwr:jL p x=false:=by unfold jL;rw[hk,hg,hend];rfl
  have FIN:=jii (YES.out hwr)
  clear YES NO
  have hbe:x.bytes.length=x.text.length+1:=by unfold Ln.bytes;rw[hend];simp
  have eP:xv text.data.toList (jd p) x=jd p:=by unfold xv;rw[hk];rfl
  rw[eP]at FIN
  clear hi hb hff hx
  go_enter Tryz.func102,Tryz.ntmps102
  go_wp2_with fail
  refine(K _).mono ?_
  rintro e w1 ⟨rfl,b1⟩
  have s1:=HB0.out.trans (jH.below b1)
  have P1:jf w1 T R b text p:=(H.out.below ((jil _ _).alloc (jij _) _)).below b1
  have l1:=P1.lt
  have C1:=jb C0.out b1 (by simp)
  have hz1:=s1.only.size
  have d0:w1.cell? ⟨w.heap.size,0,none⟩=some (.int .i64 x.no):=C1.cell 0
  have d1:w1.cell? ⟨w.heap.size,1,none⟩=some (.int .i64 x.at_):=C1.cell 1
  have d2:w1.cell? ⟨w.heap.size,2,none⟩=some (.string (B x.text)):=C1.cell 2
  have d3:w1.cell? ⟨w.heap.size,3,none⟩=some (.bool true):=C1.cell 3
  have lz:=C1.lt
  clear b1 H C0 HB0
  go_wp2_with fail
  refine(EF.out _ T P1 s1).mono ?_
  rintro e w3 hE
  rw[if_pos h0]at hE
  obtain⟨rfl,T3,g3,s3,s13⟩:=hE
  have C3:=C1.only s13.only (fun e=>e (l0))
  have d0':w3.cell? ⟨w.heap.size,0,none⟩=some (.int .i64 x.no):=C3.cell 0
  have d1':w3.cell? ⟨w.heap.size,1,none⟩=some (.int .i64 x.at_):=C3.cell 1
  have d2':w3.cell? ⟨w.heap.size,2,none⟩=some (.string (B x.text)):=C3.cell 2
  have lz3:=C3.lt
  have l3:=g3.lt
  go_wp2
  go_ret
  exact FIN.out _ _ g3 s3
 have FIN:=jii (fun v w' h1 h2=>zQ.no (w:=w) (T:=T) (R:=R) (b:=b) (text:=text) (p:=p) (x:=x) (v:=v) (w':=w') (a:=p.begin_) (n:=jh p) (by unfold jW;rw[hen,hw,if_pos ⟨rfl,h0⟩]) h1 h2)
 clear hi hb hff hx
 cases hend:x.ended
 case false =>
  rw[hend]at C0 HB0
  go_enter Tryz.func102,Tryz.ntmps102
  go_wp2_with fail
  refine(K _).mono ?_
  rintro e w1 ⟨rfl,b1⟩
  have s1:=HB0.out.trans (jH.below b1)
  have P1:jf w1 T R b text p:=(H.out.below ((jil _ _).alloc (jij _) _)).below b1
  have l1:=P1.lt
  have C1:=jb C0.out b1 (by simp)
  have hz1:=s1.only.size
  have d0:w1.cell? ⟨w.heap.size,0,none⟩=some (.int .i64 x.no):=C1.cell 0
  have d1:w1.cell? ⟨w.heap.size,1,none⟩=some (.int .i64 x.at_):=C1.cell 1
  have d2:w1.cell? ⟨w.heap.size,2,none⟩=some (.string (B x.text)):=C1.cell 2
  have d3:w1.cell? ⟨w.heap.size,3,none⟩=some (.bool false):=C1.cell 3
  have lz:=C1.lt
  clear b1 H C0 HB0
  go_wp2_with fail
  refine(EF.out _ T P1 s1).mono ?_
  rintro e w3 hE
  rw[if_neg h0]at hE
  obtain⟨v,rfl,f3,o3,_,a3,rfl⟩:=hE
  go_wp2
  go_ret
  exact FIN.out _ _ f3 o3
 case true =>
 rw[hend]at C0 HB0
 go_enter Tryz.func102,Tryz.ntmps102
 go_wp2_with fail
 refine(K _).mono ?_
 rintro e w1 ⟨rfl,b1⟩
 have s1:=HB0.out.trans (jH.below b1)
 have P1:jf w1 T R b text p:=(H.out.below ((jil _ _).alloc (jij _) _)).below b1
 have l1:=P1.lt
 have C1:=jb C0.out b1 (by simp)
 have hz1:=s1.only.size
 have d0:w1.cell? ⟨w.heap.size,0,none⟩=some (.int .i64 x.no):=C1.cell 0
 have d1:w1.cell? ⟨w.heap.size,1,none⟩=some (.int .i64 x.at_):=C1.cell 1
 have d2:w1.cell? ⟨w.heap.size,2,none⟩=some (.string (B x.text)):=C1.cell 2
 have d3:w1.cell? ⟨w.heap.size,3,none⟩=some (.bool true):=C1.cell 3
 have lz:=C1.lt
 clear b1 H C0 HB0
 go_wp2_with fail
 refine(EF.out _ T P1 s1).mono ?_
 rintro e w3 hE
 rw[if_neg h0]at hE
 obtain⟨v,rfl,f3,o3,_,a3,rfl⟩:=hE
 go_wp2
 go_ret
 exact FIN.out _ _ f3 o3
theorem jaW{w:World}{T:Nat->Nat}{R b:Nat}{text:ByteArray}{p:PS}(h:jf w T R b text p)(hR:R<=w.heap.size)(x:Ln)(hi:Inv p x.at_)(hx:x.at_+x.bytes.length<=text.size)(ht:text.size<=70000)(hno:x.no<=x.at_)(hg:qE p x=false)(hk:jz x.text=3):
  Calls Tryz.prog 102 #[.pointer (some ⟨b,0,none⟩),.agg #[.int .i64 x.no,.int .i64 x.at_,.string (B x.text),.bool x.ended]] w fun e w'=>zQ w T R b text p x e w':=by
 have hbl:x.text.length<=x.bytes.length:=by unfold Ln.bytes;simp
 have K:∀w,Calls Tryz.prog 161 #[.string (B x.text)] w fun e w'=>e=.returned (.int .i64 3)/\Below w.heap.size w w':=fun w=>by
  have:=qM (B x.text) (by rw[jm];unfold maxLen;omega) w
  rw[jo,hk]at this
  exact this
 have hu:jz x.text=3->(!p.said.isEmpty)=false:=by
  intro h3;unfold qE at hg;rw[h3]at hg;simpa using hg
 have hl:=h.lt
 have l0:=QU h
 have H:=jii h
 have C0:=jii (ja.new w 182 #[.int .i64 x.no,.int .i64 x.at_,.string (B x.text),.bool x.ended])
 have HB0:=jii (jH.below (T:=T) ((jil w.heap.size w).alloc (jij _) (.cells #[.int .i64 x.no,.int .i64 x.at_,.string (B x.text),.bool x.ended] 182)))
 have hw:zv p x=p:=by unfold zv;rw[hg];rfl
 have hen:qv p x=true:=by unfold qv;rw[hg];simp
 have hth:zC p x=jd p:=by unfold zC;rw[hen,if_pos rfl,hw]
 have hb:=hi.said
 have hff:p.fields.length<=1000000:=by have:=hi.fields;omega
 have EF:=jii (fun w1 T1 (g:jf w1 T1 R b text p) (s:jH w T w1 T1)=>zL (p:=p) g s hR (by omega) hff)
 clear h
 by_cases h0:jh p=0
 ·have NO:=jii (fun(hwr:jL p x=true) v w' h1 h2=>zQ.no (w:=w) (T:=T) (R:=R) (b:=b) (text:=text) (p:=p) (x:=x) (v:=v) (w':=w') (a:=x.no) (n:=2) (by unfold jW;rw[hen,hwr,hw,h0];simp) h1 h2)
  have YES:=jii (fun(hwr:jL p x=false) T' w' h1 h2=>zQ.yes (w:=w) (T:=T) (T':=T') (R:=R) (b:=b) (text:=text) (p:=p) (q:=xv text.data.toList (jd p) x) (x:=x) (w':=w') (by unfold jW;rw[hen,hwr,hw,h0,hth];simp) h1 h2)
  cases hend:x.ended
  case false =>
   rw[hend]at C0 HB0
   have hwr:jL p x=true:=by unfold jL;rw[hk,hg,hend];rfl
   have FIN:=jii (NO.out hwr)
   clear YES NO
   clear hi hb hff hx
   go_enter Tryz.func102,Tryz.ntmps102
   go_wp2_with fail
   refine(K _).mono ?_
   rintro e w1 ⟨rfl,b1⟩
   have s1:=HB0.out.trans (jH.below b1)
   have P1:jf w1 T R b text p:=(H.out.below ((jil _ _).alloc (jij _) _)).below b1
   have l1:=P1.lt
   have C1:=jb C0.out b1 (by simp)
   have hz1:=s1.only.size
   have d0:w1.cell? ⟨w.heap.size,0,none⟩=some (.int .i64 x.no):=C1.cell 0
   have d1:w1.cell? ⟨w.heap.size,1,none⟩=some (.int .i64 x.at_):=C1.cell 1
   have d2:w1.cell? ⟨w.heap.size,2,none⟩=some (.string (B x.text)):=C1.cell 2
   have d3:w1.cell? ⟨w.heap.size,3,none⟩=some (.bool false):=C1.cell 3
   have lz:=C1.lt
   clear b1 H C0 HB0
   go_wp2_with fail
   obtain⟨V1,PV1⟩:=P1
   refine(qe PV1).mono ?_
   rw[hu hk]
   rintro e w2 ⟨rfl,rfl⟩
   replace P1:jf w1 T R b text p:=⟨V1,PV1⟩
   clear PV1
   go_wp2_with fail
   refine(EF.out _ T P1 s1).mono ?_
   rintro e w3 hE
   rw[if_pos h0]at hE
   obtain⟨rfl,T3,g3,s3,s13⟩:=hE
   have C3:=C1.only s13.only (fun e=>e (l0))
   have d0':w3.cell? ⟨w.heap.size,0,none⟩=some (.int .i64 x.no):=C3.cell 0
   have d1':w3.cell? ⟨w.heap.size,1,none⟩=some (.int .i64 x.at_):=C3.cell 1
   have d2':w3.cell? ⟨w.heap.size,2,none⟩=some (.string (B x.text)):=C3.cell 2
   have lz3:=C3.lt
   have l3:=g3.lt
   go_wp2
   go_ret
   exact FIN.out _ _ (jl.new _ _ 2 _ w3.heap.size rfl (by omega)) (s3.only.alloc _)
  case true =>
  rw[hend]at C0 HB0
  have hwr:jL p x=true:=by unfold jL;rw[hk,hg,hend];rfl
  have FIN:=jii (NO.out hwr)
  clear YES NO
  clear hi hb hff hx
  go_enter Tryz.func102,Tryz.ntmps102
  go_wp2_with fail
  refine(K _).mono ?_
  rintro e w1 ⟨rfl,b1⟩
  have s1:=HB0.out.trans (jH.below b1)
  have P1:jf w1 T R b text p:=(H.out.below ((jil _ _).alloc (jij _) _)).below b1
  have l1:=P1.lt
  have C1:=jb C0.out b1 (by simp)
  have hz1:=s1.only.size
  have d0:w1.cell? ⟨w.heap.size,0,none⟩=some (.int .i64 x.no):=C1.cell 0
  have d1:w1.cell? ⟨w.heap.size,1,none⟩=some (.int .i64 x.at_):=C1.cell 1
  have d2:w1.cell? ⟨w.heap.size,2,none⟩=some (.string (B x.text)):=C1.cell 2
  have d3:w1.cell? ⟨w.heap.size,3,none⟩=some (.bool true):=C1.cell 3
  have lz:=C1.lt
  clear b1 H C0 HB0
  go_wp2_with fail
  obtain⟨V1,PV1⟩:=P1
  refine(qe PV1).mono ?_
  rw[hu hk]
  rintro e w2 ⟨rfl,rfl⟩
  replace P1:jf w1 T R b text p:=⟨V1,PV1⟩
  clear PV1
  go_wp2_with fail
  refine(EF.out _ T P1 s1).mono ?_
  rintro e w3 hE
  rw[if_pos h0]at hE
  obtain⟨rfl,T3,g3,s3,s13⟩:=hE
  have C3:=C1.only s13.only (fun e=>e (l0))
  have d0':w3.cell? ⟨w.heap.size,0,none⟩=some (.int .i64 x.no):=C3.cell 0
  have d1':w3.cell? ⟨w.heap.size,1,none⟩=some (.int .i64 x.at_):=C3.cell 1
  have d2':w3.cell? ⟨w.heap.size,2,none⟩=some (.string (B x.text)):=C3.cell 2
  have lz3:=C3.lt
  have l3:=g3.lt
  go_wp2
  go_ret
  exact FIN.out _ _ (jl.new _ _ 2 _ w3.heap.size rfl (by omega)) (s3.only.alloc _)
 have FIN:=jii (fun v w' h1 h2=>zQ.no (w:=w) (T:=T) (R:=R) (b:=b) (text:=text) (p:=p) (x:=x) (v:=v) (w':=w') (a:=p.begin_) (n:=jh p) (by unfold jW;rw[hen,hw,if_pos ⟨rfl,h0⟩]) h1 h2)
 clear hi hb hff hx
 cases hend:x.ended
 case false =>
  rw[hend]at C0 HB0
  go_enter Tryz.func102,Tryz.ntmps102
  go_wp2_with fail
  refine(K _).mono ?_
  rintro e w1 ⟨rfl,b1⟩
  have s1:=HB0.out.trans (jH.below b1)
  have P1:jf w1 T R b text p:=(H.out.below ((jil _ _).alloc (jij _) _)).below b1
  have l1:=P1.lt
  have C1:=jb C0.out b1 (by simp)
  have hz1:=s1.only.size
  have d0:w1.cell? ⟨w.heap.size,0,none⟩=some (.int .i64 x.no):=C1.cell 0
  have d1:w1.cell? ⟨w.heap.size,1,none⟩=some (.int .i64 x.at_):=C1.cell 1
  have d2:w1.cell? ⟨w.heap.size,2,none⟩=some (.string (B x.text)):=C1.cell 2
  have d3:w1.cell? ⟨w.heap.size,3,none⟩=some (.bool false):=C1.cell 3
  have lz:=C1.lt
  clear b1 H C0 HB0
  go_wp2_with fail
  obtain⟨V1,PV1⟩:=P1
  refine(qe PV1).mono ?_
  rw[hu hk]
  rintro e w2 ⟨rfl,rfl⟩
  replace P1:jf w1 T R b text p:=⟨V1,PV1⟩
  clear PV1
  go_wp2_with fail
  refine(EF.out _ T P1 s1).mono ?_
  rintro e w3 hE
  rw[if_neg h0]at hE
  obtain⟨v,rfl,f3,o3,_,a3,rfl⟩:=hE
  go_wp2
  go_ret
  exact FIN.out _ _ f3 o3
 case true =>
 rw[hend]at C0 HB0
 go_enter Tryz.func102,Tryz.ntmps102
 go_wp2_with fail
 refine(K _).mono ?_
 rintro e w1 ⟨rfl,b1⟩
 have s1:=HB0.out.trans (jH.below b1)
 have P1:jf w1 T R b text p:=(H.out.below ((jil _ _).alloc (jij _) _)).below b1
 have l1:=P1.lt
 have C1:=jb C0.out b1 (by simp)
 have hz1:=s1.only.size
 have d0:w1.cell? ⟨w.heap.size,0,none⟩=some (.int .i64 x.no):=C1.cell 0
 have d1:w1.cell? ⟨w.heap.size,1,none⟩=some (.int .i64 x.at_):=C1.cell 1
 have d2:w1.cell? ⟨w.heap.size,2,none⟩=some (.string (B x.text)):=C1.cell 2
 have d3:w1.cell? ⟨w.heap.size,3,none⟩=some (.bool true):=C1.cell 3
 have lz:=C1.lt
 clear b1 H C0 HB0
 go_wp2_with fail
 obtain⟨V1,PV1⟩:=P1
 refine(qe PV1).mono ?_
 rw[hu hk]
 rintro e w2 ⟨rfl,rfl⟩
 replace P1:jf w1 T R b text p:=⟨V1,PV1⟩
 clear PV1
 go_wp2_with fail
 refine(EF.out _ T P1 s1).mono ?_
 rintro e w3 hE
 rw[if_neg h0]at hE
 obtain⟨v,rfl,f3,o3,_,a3,rfl⟩:=hE
 go_wp2
 go_ret
 exact FIN.out _ _ f3 o3
theorem jaV{w:World}{T:Nat->Nat}{R b:Nat}{text:ByteArray}{p:PS}(h:jf w T R b text p)(hR:R<=w.heap.size)(x:Ln)(hi:Inv p x.at_)(hx:x.at_+x.bytes.length<=text.size)(ht:text.size<=70000)(hno:x.no<=x.at_)(hg:qE p x=false)(hk:jz x.text=4):
  Calls Tryz.prog 102 #[.pointer (some ⟨b,0,none⟩),.agg #[.int .i64 x.no,.int .i64 x.at_,.string (B x.text),.bool x.ended]] w fun e w'=>zQ w T R b text p x e w':=by
 have hbl:x.text.length<=x.bytes.length:=by unfold Ln.bytes;simp
 have K:∀w,Calls Tryz.prog 161 #[.string (B x.text)] w fun e w'=>e=.returned (.int .i64 4)/\Below w.heap.size w w':=fun w=>by
  have:=qM (B x.text) (by rw[jm];unfold maxLen;omega) w
  rw[jo,hk]at this
  exact this
 have hu:jz x.text=3->(!p.said.isEmpty)=false:=by
  intro h3;unfold qE at hg;rw[h3]at hg;simpa using hg
 have hl:=h.lt
 have l0:=QU h
 have H:=jii h
 have C0:=jii (ja.new w 182 #[.int .i64 x.no,.int .i64 x.at_,.string (B x.text),.bool x.ended])
 have HB0:=jii (jH.below (T:=T) ((jil w.heap.size w).alloc (jij _) (.cells #[.int .i64 x.no,.int .i64 x.at_,.string (B x.text),.bool x.ended] 182)))
 have hw:zv p x=p:=by unfold zv;rw[hg];rfl
 have hen:qv p x=true:=by unfold qv;rw[hg];simp
 have hth:zC p x=jd p:=by unfold zC;rw[hen,if_pos rfl,hw]
 have hb:=hi.said
 have hff:p.fields.length<=1000000:=by have:=hi.fields;omega
 have EF:=jii (fun w1 T1 (g:jf w1 T1 R b text p) (s:jH w T w1 T1)=>zL (p:=p) g s hR (by omega) hff)
 clear h
 by_cases h0:jh p=0
 ·have NO:=jii (fun(hwr:jL p x=true) v w' h1 h2=>zQ.no (w:=w) (T:=T) (R:=R) (b:=b) (text:=text) (p:=p) (x:=x) (v:=v) (w':=w') (a:=x.no) (n:=2) (by unfold jW;rw[hen,hwr,hw,h0];simp) h1 h2)
  have YES:=jii (fun(hwr:jL p x=false) T' w' h1 h2=>zQ.yes (w:=w) (T:=T) (T':=T') (R:=R) (b:=b) (text:=text) (p:=p) (q:=xv text.data.toList (jd p) x) (x:=x) (w':=w') (by unfold jW;rw[hen,hwr,hw,h0,hth];simp) h1 h2)
  cases hend:x.ended
  case false =>
   rw[hend]at C0 HB0
   have hwr:jL p x=true:=by unfold jL;rw[hk,hg,hend];rfl
   have FIN:=jii (NO.out hwr)
   clear YES NO
   clear hi hb hff hx
   go_enter Tryz.func102,Tryz.ntmps102
   go_wp2_with fail
   refine(K _).mono ?_
   rintro e w1 ⟨rfl,b1⟩
   have s1:=HB0.out.trans (jH.below b1)
   have P1:jf w1 T R b text p:=(H.out.below ((jil _ _).alloc (jij _) _)).below b1
   have l1:=P1.lt
   have C1:=jb C0.out b1 (by simp)
   have hz1:=s1.only.size
   have d0:w1.cell? ⟨w.heap.size,0,none⟩=some (.int .i64 x.no):=C1.cell 0
   have d1:w1.cell? ⟨w.heap.size,1,none⟩=some (.int .i64 x.at_):=C1.cell 1
   have d2:w1.cell? ⟨w.heap.size,2,none⟩=some (.string (B x.text)):=C1.cell 2
   have d3:w1.cell? ⟨w.heap.size,3,none⟩=some (.bool false):=C1.cell 3
   have lz:=C1.lt
   clear b1 H C0 HB0
   go_wp2_with fail
   refine(EF.out _ T P1 s1).mono ?_
   rintro e w3 hE
   rw[if_pos h0]at hE
   obtain⟨rfl,T3,g3,s3,s13⟩:=hE
   have C3:=C1.only s13.only (fun e=>e (l0))
   have d0':w3.cell? ⟨w.heap.size,0,none⟩=some (.int .i64 x.no):=C3.cell 0
   have d1':w3.cell? ⟨w.heap.size,1,none⟩=some (.int .i64 x.at_):=C3.cell 1
   have d2':w3.cell? ⟨w.heap.size,2,none⟩=some (.string (B x.text)):=C3.cell 2
   have lz3:=C3.lt
   have l3:=g3.lt
   go_wp2
   go_ret
   exact FIN.out _ _ (jl.new _ _ 2 _ w3.heap.size rfl (by omega)) (s3.only.alloc _)
  case true =>
  rw[hend]at C0 HB0
  have hwr:jL p x=false:=by unfold jL;rw[hk,hg,hend];rfl
  have FIN:=jii (YES.out hwr)
  clear YES NO
  have hbe:x.bytes.length=x.text.length+1:=by unfold Ln.bytes;rw[hend];simp
  have eP:xv text.data.toList (jd p) x=YI (jd p) x:=by unfold xv YI;rw[hk,if_pos rfl]
  rw[eP]at FIN
  have HS:=jii (fun w3 T3 V3 (g:jx w3 T3 R b text (jd p) V3) hR3=>ja3 g hR3 x)
  rw[hend]at HS
  clear hi hb hff hx
  go_enter Tryz.func102,Tryz.ntmps102
  go_wp2_with fail
  refine(K _).mono ?_
  rintro e w1 ⟨rfl,b1⟩
  have s1:=HB0.out.trans (jH.below b1)
  have P1:jf w1 T R b text p:=(H.out.below ((jil _ _).alloc (jij _) _)).below b1
  have l1:=P1.lt
  have C1:=jb C0.out b1 (by simp)
  have hz1:=s1.only.size
  have d0:w1.cell? ⟨w.heap.size,0,none⟩=some (.int .i64 x.no):=C1.cell 0
  have d1:w1.cell? ⟨w.heap.size,1,none⟩=some (.int .i64 x.at_):=C1.cell 1
  have d2:w1.cell? ⟨w.heap.size,2,none⟩=some (.string (B x.text)):=C1.cell 2
  have d3:w1.cell? ⟨w.heap.size,3,none⟩=some (.bool true):=C1.cell 3
  have lz:=C1.lt
  clear b1 H C0 HB0
  go_wp2_with fail
  refine(EF.out _ T P1 s1).mono ?_
  rintro e w3 hE
  rw[if_pos h0]at hE
  obtain⟨rfl,T3,g3,s3,s13⟩:=hE
  have C3:=C1.only s13.only (fun e=>e (l0))
  have d0':w3.cell? ⟨w.heap.size,0,none⟩=some (.int .i64 x.no):=C3.cell 0
  have d1':w3.cell? ⟨w.heap.size,1,none⟩=some (.int .i64 x.at_):=C3.cell 1
  have d2':w3.cell? ⟨w.heap.size,2,none⟩=some (.string (B x.text)):=C3.cell 2
  have lz3:=C3.lt
  have l3:=g3.lt
  have d3':w3.cell? ⟨w.heap.size,3,none⟩=some (.bool true):=C3.cell 3
  obtain⟨V3,g3⟩:=g3
  have P3d:Hid (jx w3.drew T3 R b text (jd p) V3):=g3.same (fun _ _=>rfl) (jij _)
  have S3:Hid (jH w T w3.drew T3):=s3.drewN 1
  have hz3:R<=w3.drew.heap.size:=jiI hR s3.only.size
  clear g3 s3 s13
  go_wp2
  go_region_with (go_at_call 164;refine(HS.out _ T3 V3 P3d.out hz3).mono ?_;rintro e w4 ⟨rfl,T4,g4,s4⟩)
  all_goals
   go_wp2
   go_ret
   exact FIN.out T4 _ g4 (S3.out.trans s4)
 have FIN:=jii (fun v w' h1 h2=>zQ.no (w:=w) (T:=T) (R:=R) (b:=b) (text:=text) (p:=p) (x:=x) (v:=v) (w':=w') (a:=p.begin_) (n:=jh p) (by unfold jW;rw[hen,hw,if_pos ⟨rfl,h0⟩]) h1 h2)
 clear hi hb hff hx
 cases hend:x.ended
 case false =>
  rw[hend]at C0 HB0
  go_enter Tryz.func102,Tryz.ntmps102
  go_wp2_with fail
  refine(K _).mono ?_
  rintro e w1 ⟨rfl,b1⟩
  have s1:=HB0.out.trans (jH.below b1)
  have P1:jf w1 T R b text p:=(H.out.below ((jil _ _).alloc (jij _) _)).below b1
  have l1:=P1.lt
  have C1:=jb C0.out b1 (by simp)
  have hz1:=s1.only.size
  have d0:w1.cell? ⟨w.heap.size,0,none⟩=some (.int .i64 x.no):=C1.cell 0
  have d1:w1.cell? ⟨w.heap.size,1,none⟩=some (.int .i64 x.at_):=C1.cell 1
  have d2:w1.cell? ⟨w.heap.size,2,none⟩=some (.string (B x.text)):=C1.cell 2
  have d3:w1.cell? ⟨w.heap.size,3,none⟩=some (.bool false):=C1.cell 3
  have lz:=C1.lt
  clear b1 H C0 HB0
  go_wp2_with fail
  refine(EF.out _ T P1 s1).mono ?_
  rintro e w3 hE
  rw[if_neg h0]at hE
  obtain⟨v,rfl,f3,o3,_,a3,rfl⟩:=hE
  go_wp2
  go_ret
  exact FIN.out _ _ f3 o3
 case true =>
 rw[hend]at C0 HB0
 go_enter Tryz.func102,Tryz.ntmps102
 go_wp2_with fail
 refine(K _).mono ?_
 rintro e w1 ⟨rfl,b1⟩
 have s1:=HB0.out.trans (jH.below b1)
 have P1:jf w1 T R b text p:=(H.out.below ((jil _ _).alloc (jij _) _)).below b1
 have l1:=P1.lt
 have C1:=jb C0.out b1 (by simp)
 have hz1:=s1.only.size
 have d0:w1.cell? ⟨w.heap.size,0,none⟩=some (.int .i64 x.no):=C1.cell 0
 have d1:w1.cell? ⟨w.heap.size,1,none⟩=some (.int .i64 x.at_):=C1.cell 1
 have d2:w1.cell? ⟨w.heap.size,2,none⟩=some (.string (B x.text)):=C1.cell 2
 have d3:w1.cell? ⟨w.heap.size,3,none⟩=some (.bool true):=C1.cell 3
 have lz:=C1.lt
 clear b1 H C0 HB0
 go_wp2_with fail
 refine(EF.out _ T P1 s1).mono ?_
 rintro e w3 hE
 rw[if_neg h0]at hE
 obtain⟨v,rfl,f3,o3,_,a3,rfl⟩:=hE
 go_wp2
 go_ret
 exact FIN.out _ _ f3 o3
theorem jaU{w:World}{T:Nat->Nat}{R b:Nat}{text:ByteArray}{p:PS}(h:jf w T R b text p)(hR:R<=w.heap.size)(x:Ln)(hi:Inv p x.at_)(hx:x.at_+x.bytes.length<=text.size)(ht:text.size<=70000)(hno:x.no<=x.at_)(hg:qE p x=false)(hk:jz x.text=5):
  Calls Tryz.prog 102 #[.pointer (some ⟨b,0,none⟩),.agg #[.int .i64 x.no,.int .i64 x.at_,.string (B x.text),.bool x.ended]] w fun e w'=>zQ w T R b text p x e w':=by
 have hbl:x.text.length<=x.bytes.length:=by unfold Ln.bytes;simp
 have K:∀w,Calls Tryz.prog 161 #[.string (B x.text)] w fun e w'=>e=.returned (.int .i64 5)/\Below w.heap.size w w':=fun w=>by
  have:=qM (B x.text) (by rw[jm];unfold maxLen;omega) w
  rw[jo,hk]at this
  exact this
 have hu:jz x.text=3->(!p.said.isEmpty)=false:=by
  intro h3;unfold qE at hg;rw[h3]at hg;simpa using hg
 have hl:=h.lt
 have l0:=QU h
 have H:=jii h
 have C0:=jii (ja.new w 182 #[.int .i64 x.no,.int .i64 x.at_,.string (B x.text),.bool x.ended])
 have HB0:=jii (jH.below (T:=T) ((jil w.heap.size w).alloc (jij _) (.cells #[.int .i64 x.no,.int .i64 x.at_,.string (B x.text),.bool x.ended] 182)))
 have hw:zv p x=p:=by unfold zv;rw[hg];rfl
 have hen:qv p x=true:=by unfold qv;rw[hg];simp
 have hth:zC p x=jd p:=by unfold zC;rw[hen,if_pos rfl,hw]
 have hb:=hi.said
 have hff:p.fields.length<=1000000:=by have:=hi.fields;omega
 have EF:=jii (fun w1 T1 (g:jf w1 T1 R b text p) (s:jH w T w1 T1)=>zL (p:=p) g s hR (by omega) hff)
 clear h
 by_cases h0:jh p=0
 ·have NO:=jii (fun(hwr:jL p x=true) v w' h1 h2=>zQ.no (w:=w) (T:=T) (R:=R) (b:=b) (text:=text) (p:=p) (x:=x) (v:=v) (w':=w') (a:=x.no) (n:=2) (by unfold jW;rw[hen,hwr,hw,h0];simp) h1 h2)
  have YES:=jii (fun(hwr:jL p x=false) T' w' h1 h2=>zQ.yes (w:=w) (T:=T) (T':=T') (R:=R) (b:=b) (text:=text) (p:=p) (q:=xv text.data.toList (jd p) x) (x:=x) (w':=w') (by unfold jW;rw[hen,hwr,hw,h0,hth];simp) h1 h2)
  cases hend:x.ended
  case false =>
   rw[hend]at C0 HB0
   have hwr:jL p x=true:=by unfold jL;rw[hk,hg,hend];rfl
   have FIN:=jii (NO.out hwr)
   clear YES NO
   clear hi hb hff hx
   go_enter Tryz.func102,Tryz.ntmps102
   go_wp2_with fail
   refine(K _).mono ?_
   rintro e w1 ⟨rfl,b1⟩
   have s1:=HB0.out.trans (jH.below b1)
   have P1:jf w1 T R b text p:=(H.out.below ((jil _ _).alloc (jij _) _)).below b1
   have l1:=P1.lt
   have C1:=jb C0.out b1 (by simp)
   have hz1:=s1.only.size
   have d0:w1.cell? ⟨w.heap.size,0,none⟩=some (.int .i64 x.no):=C1.cell 0
   have d1:w1.cell? ⟨w.heap.size,1,none⟩=some (.int .i64 x.at_):=C1.cell 1
   have d2:w1.cell? ⟨w.heap.size,2,none⟩=some (.string (B x.text)):=C1.cell 2
   have d3:w1.cell? ⟨w.heap.size,3,none⟩=some (.bool false):=C1.cell 3
   have lz:=C1.lt
   clear b1 H C0 HB0
   go_wp2_with fail
   refine(EF.out _ T P1 s1).mono ?_
   rintro e w3 hE
   rw[if_pos h0]at hE
   obtain⟨rfl,T3,g3,s3,s13⟩:=hE
   have C3:=C1.only s13.only (fun e=>e (l0))
   have d0':w3.cell? ⟨w.heap.size,0,none⟩=some (.int .i64 x.no):=C3.cell 0
   have d1':w3.cell? ⟨w.heap.size,1,none⟩=some (.int .i64 x.at_):=C3.cell 1
   have d2':w3.cell? ⟨w.heap.size,2,none⟩=some (.string (B x.text)):=C3.cell 2
   have lz3:=C3.lt
   have l3:=g3.lt
   go_wp2
   go_ret
   exact FIN.out _ _ (jl.new _ _ 2 _ w3.heap.size rfl (by omega)) (s3.only.alloc _)
  case true =>
  rw[hend]at C0 HB0
  have hwr:jL p x=true:=by unfold jL;rw[hk,hg,hend];rfl
  have FIN:=jii (NO.out hwr)
  clear YES NO
  clear hi hb hff hx
  go_enter Tryz.func102,Tryz.ntmps102
  go_wp2_with fail
  refine(K _).mono ?_
  rintro e w1 ⟨rfl,b1⟩
  have s1:=HB0.out.trans (jH.below b1)
  have P1:jf w1 T R b text p:=(H.out.below ((jil _ _).alloc (jij _) _)).below b1
  have l1:=P1.lt
  have C1:=jb C0.out b1 (by simp)
  have hz1:=s1.only.size
  have d0:w1.cell? ⟨w.heap.size,0,none⟩=some (.int .i64 x.no):=C1.cell 0
  have d1:w1.cell? ⟨w.heap.size,1,none⟩=some (.int .i64 x.at_):=C1.cell 1
  have d2:w1.cell? ⟨w.heap.size,2,none⟩=some (.string (B x.text)):=C1.cell 2
  have d3:w1.cell? ⟨w.heap.size,3,none⟩=some (.bool true):=C1.cell 3
  have lz:=C1.lt
  clear b1 H C0 HB0
  go_wp2_with fail
  refine(EF.out _ T P1 s1).mono ?_
  rintro e w3 hE
  rw[if_pos h0]at hE
  obtain⟨rfl,T3,g3,s3,s13⟩:=hE
  have C3:=C1.only s13.only (fun e=>e (l0))
  have d0':w3.cell? ⟨w.heap.size,0,none⟩=some (.int .i64 x.no):=C3.cell 0
  have d1':w3.cell? ⟨w.heap.size,1,none⟩=some (.int .i64 x.at_):=C3.cell 1
  have d2':w3.cell? ⟨w.heap.size,2,none⟩=some (.string (B x.text)):=C3.cell 2
  have lz3:=C3.lt
  have l3:=g3.lt
  go_wp2
  go_ret
  exact FIN.out _ _ (jl.new _ _ 2 _ w3.heap.size rfl (by omega)) (s3.only.alloc _)
 have FIN:=jii (fun v w' h1 h2=>zQ.no (w:=w) (T:=T) (R:=R) (b:=b) (text:=text) (p:=p) (x:=x) (v:=v) (w':=w') (a:=p.begin_) (n:=jh p) (by unfold jW;rw[hen,hw,if_pos ⟨rfl,h0⟩]) h1 h2)
 clear hi hb hff hx
 cases hend:x.ended
 case false =>
  rw[hend]at C0 HB0
  go_enter Tryz.func102,Tryz.ntmps102
  go_wp2_with fail
  refine(K _).mono ?_
  rintro e w1 ⟨rfl,b1⟩
  have s1:=HB0.out.trans (jH.below b1)
  have P1:jf w1 T R b text p:=(H.out.below ((jil _ _).alloc (jij _) _)).below b1
  have l1:=P1.lt
  have C1:=jb C0.out b1 (by simp)
  have hz1:=s1.only.size
  have d0:w1.cell? ⟨w.heap.size,0,none⟩=some (.int .i64 x.no):=C1.cell 0
  have d1:w1.cell? ⟨w.heap.size,1,none⟩=some (.int .i64 x.at_):=C1.cell 1
  have d2:w1.cell? ⟨w.heap.size,2,none⟩=some (.string (B x.text)):=C1.cell 2
  have d3:w1.cell? ⟨w.heap.size,3,none⟩=some (.bool false):=C1.cell 3
  have lz:=C1.lt
  clear b1 H C0 HB0
  go_wp2_with fail
  refine(EF.out _ T P1 s1).mono ?_
  rintro e w3 hE
  rw[if_neg h0]at hE
  obtain⟨v,rfl,f3,o3,_,a3,rfl⟩:=hE
  go_wp2
  go_ret
  exact FIN.out _ _ f3 o3
 case true =>
 rw[hend]at C0 HB0
 go_enter Tryz.func102,Tryz.ntmps102
 go_wp2_with fail
 refine(K _).mono ?_
 rintro e w1 ⟨rfl,b1⟩
 have s1:=HB0.out.trans (jH.below b1)
 have P1:jf w1 T R b text p:=(H.out.below ((jil _ _).alloc (jij _) _)).below b1
 have l1:=P1.lt
 have C1:=jb C0.out b1 (by simp)
 have hz1:=s1.only.size
 have d0:w1.cell? ⟨w.heap.size,0,none⟩=some (.int .i64 x.no):=C1.cell 0
 have d1:w1.cell? ⟨w.heap.size,1,none⟩=some (.int .i64 x.at_):=C1.cell 1
 have d2:w1.cell? ⟨w.heap.size,2,none⟩=some (.string (B x.text)):=C1.cell 2
 have d3:w1.cell? ⟨w.heap.size,3,none⟩=some (.bool true):=C1.cell 3
 have lz:=C1.lt
 clear b1 H C0 HB0
 go_wp2_with fail
 refine(EF.out _ T P1 s1).mono ?_
 rintro e w3 hE
 rw[if_neg h0]at hE
 obtain⟨v,rfl,f3,o3,_,a3,rfl⟩:=hE
 go_wp2
 go_ret
 exact FIN.out _ _ f3 o3
end Go.Proofs.YtimfhnfcmhmjcaaGreatDoor
namespace Go.Proofs.YtimfhnfcmhmjcaaGreatDoor
open Go.RowKit Go.Shelf
attribute [local go_sem] jit
theorem jgB{W W':World}{b n:Nat}{t:TypeId}{v:Value}(h:Boxed W b t v)(hb:Below n W W')(hn:b<n):Boxed W' b t v:=(hb.block b hn).trans h
theorem jC{W:World}{base base':Nat}{e:TypeId}{size:Nat}{v:Value}{n:Nat}{xs:List Value}(h:W.ownsRow base e size v n xs)(hb:base'<=base):W.ownsRow base' e size v n xs:=by
 refine⟨h.1,?_⟩
 rcases h.2 with hn|⟨g,cap,cur,hv,hg,rest⟩
 ·exact .inl hn
 exact .inr ⟨g,cap,cur,hv,jiI hb hg,rest⟩
theorem Jj(w:World)(o1 o2:Obj)(t:TypeId)(v:Value):Boxed (((w.alloc o1).alloc o2).alloc (.cells #[v] t)) (w.heap.size+2) t v:=by
 have:=vX (w.alloc o1) o2 t v
 rwa [jiB]at this
theorem jcE(w:World)(o1 o2 o3:Obj)(t:TypeId)(v:Value):Boxed ((((w.alloc o1).alloc o2).alloc o3).alloc (.cells #[v] t)) (w.heap.size+3) t v:=by
 have:=Jj (w.alloc o1) o2 o3 t v
 rwa [jiB]at this
theorem qS{P:Program}{α:Type}{g:Operand}{ps:Array Tmp}{assign body:Code}{Q:Exit->Act->World->Prop}{a:Act}{w:World}
  {gf:Nat} {lb:Array Value} (hg:a.eval g=.func (.func gf) #[] lb) (eg:∀args w,(callFunc gf args).run P w=.ok (.enter gf args) w)
  {encs:α->Array Value} {k:Nat} {xs:List α} (hseq:jgr P gf lb encs k xs w) (hps:∀x,(encs x).size=ps.size)
  (I:List α->World->Prop) (Ix:Code->List α->World->Prop) (hI:zo w.heap.size (k+2) I) (hIx:∀c,zo w.heap.size 2 (Ix c)) (h0:I [] w)
  (M:Act->List α->α->Act->World->Prop) (hM:∀a pre x a',zo w.heap.size 2 (fun(_:Unit) W=>M a pre x a' W))
  (hassign:∀(l:Nat) (pre:List α) (x:α) (post:List α) (W:World),xs=pre++x::post->w.heap.size+(k+2)<=W.heap.size->I pre W ->
   assign.wpIn (Fence.wide.inRound l) 7 P (Ze w.heap.size (k+2) (M a pre x) W) {tmps:=(ps.zip (encs x)).foldl (fun t (p,v)=>t.setIfInBounds p v) a.tmps,defers:=[]} W)
  (hbody:∀(l:Nat) (pre:List α) (x:α) (post:List α) (a':Act) (W:World),xs=pre++x::post->w.heap.size+(k+2)<=W.heap.size->M a pre x a' W ->
   body.wpIn (Fence.wide.inRound l) 7 P (left w.heap.size (k+2) I Ix (pre++[x]) W) a' W)
  (hdone:∀(W:World),I xs W->W.heap[w.heap.size]?=some (.deferred (some []))->Q .normal {a with defers:={target:=.collected w.heap.size,args:=#[]}::a.defers} W)
  (hstop:∀(c:Code) (pre:List α) (W:World),pre <+: xs->Ix c pre W->W.heap[w.heap.size]?=some (.deferred (some []))->c.wpIn Fence.wide 9 P Q {a with defers:={target:=.collected w.heap.size,args:=#[]}::a.defers} W) :
  (Code.rangeFunc g ps assign body).wpIn Fence.wide 9 P Q a w :=
 jaM hg eg hseq hps I Ix hI hIx h0 (M a) (hM a) hassign hbody hdone hstop
theorem yA{W:World}{b c:Nat}{t:TypeId}{v:Value}(h:Boxed W b t v)(hne:b≠c)(u:Value):Boxed (W.setCell ⟨c,0,none⟩ u) b t v:=h.other hne u
end Go.Proofs.YtimfhnfcmhmjcaaGreatDoor
