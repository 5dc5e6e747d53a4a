/- Texts put together:DG,DH,DI,DJ. -/
import Derived.Test.YtmdhainabeljpaaGreatDoorBxr4
import Derived.Test.YtmdhainabeljpaaGreatDoorBxr5
set_option linter.unusedVariables false
set_option maxRecDepth 100000
set_option maxHeartbeats 16000000
namespace Go.Proofs.YtmdhainabeljpaaGreatDoor
abbrev jiw:=@List.setIfInBounds_toArray
abbrev jiU:=@List.set_cons_zero
abbrev jiV:=@List.set_cons_succ
end Go.Proofs.YtmdhainabeljpaaGreatDoor
namespace Go.Proofs.YtmdhainabeljpaaGreatDoor.Fr
open Go.Lib
def JP(x:Ln):Bool:=x.ended&&hasPrefix x.text [32]
theorem Ge:∀(h:List UInt8),(10:UInt8)∉h->sp false h=true/\fresh false h=false
 | [],_=>⟨rfl,rfl⟩
 | c::h,hc=>by
  have hc1:c≠10:=fun e=>hc (e▸jig)
  have ih:=Ge h (fun q=>hc (jif _ q))
  have e:(c==10)=false:=by simpa using hc1
  refine⟨by simp[sp,e,ih.1],?_⟩
  have:=ih.2
  unfold fresh at *
  rw[List.getLast?_cons]
  cases hl:h.getLast? with
  | none=>simpa using hc1
  | some d=>rw[hl]at this;simpa using this
theorem jft(h:List UInt8)(hc:(10:UInt8)∉h):sp true (h++[10])=hasPrefix h [32]:=by
 cases h with
 | nil=>rfl
 | cons c h =>
 have hc1:c≠10:=fun e=>hc (e▸jig)
 have h1:=Ge h (fun q=>hc (jif _ q))
 have e:(c==10)=false:=by simpa using hc1
 rw[jiq]
 unfold sp
 rw[e,qg,h1.1,h1.2]
 by_cases h32:c=32
 ·subst h32;rfl
 have e1:(c==32)=false:=by simpa using h32
 have e2:hasPrefix (c::h) [32]=((32==c)&&true):=by simp[hasPrefix,List.isPrefixOf]
 have e3:((32:UInt8)==c)=false:=by simpa using fun e=>h32 e.symm
 rw[e1,e2,e3];rfl
theorem yY:∀{l:List UInt8},(10:UInt8)∈zY l->False
 | [],h=>by simp[zY]at h
 | c::l,h=>by
  unfold zY at h
  rw[jiR]at h
  by_cases hc:c=10
  ·subst hc;simp at h
  have e:(c != 10)=true:=by simpa using hc
  rw[if_pos e]at h
  rcases List.mem_cons.1 h with h|h
  ·exact hc h.symm
  exact yY h
theorem YC:∀(n no at_:Nat) (l:List UInt8),l.length<=n->((jS no at_ l).all JP=true↔(sp true l=true/\(l=[]\/vI l=true)))
 | n,no,at_,l,hn=>by
  by_cases h0:l=[]
  ·subst h0;simp[jq,sp]
  rw[js no at_ l h0,jjS]
  have hs:=zg l
  have hu:=qu l h0
  have hlen:=YQ l
  have hc:(10:UInt8)∉zY l:=by
   intro hm
   exact yY hm
  cases hnl:nl l with
  | false =>
   have h10:(10:UInt8)∉l:=by unfold nl at hnl;simpa using hnl
   have:vI l=false:=by
    unfold vI
    cases hg:l.getLast? with
    | none=>rfl
    | some c =>
    have:=List.mem_of_getLast? hg
    have:c≠10:=fun e=>h10 (e▸this)
    simpa using this
   simp[JP,this,h0]
  | true =>
  match n,hn with
  | 0,hn=>exact absurd (ji2 (by omega)) h0
  | n+1,hn =>
  have ih:=YC n (no+1) (at_+qy l) (l.drop (qy l)) (by rw[jik];omega)
  rw[hnl,if_pos rfl]at hs
  rw[jiL,ih]
  generalize l.drop (qy l)=r at *
  generalize hh:zY l=h at *
  subst hs
  rw[qg,jft h hc,KP h [10] true (by simp)]
  have e2:fresh true ([10]:List UInt8)=true:=rfl
  rw[e2]
  have e3:vI (h++[10]++r)=true↔(r=[]\/vI r=true):=by
   unfold vI
   rw[List.getLast?_append]
   cases hr:r.getLast? with
   | none=>rw[List.getLast?_eq_none_iff.1 hr];simp
   | some c =>
   have:r≠[]:=fun e=>by rw[e]at hr;cases hr
   simp[this]
  rw[e3]
  simp[JP,and_assoc]
theorem jf8(l:List UInt8):qD l=(decide (2<=(l.length:Int)/\(l.length:Int)<=50000)&&(jf l).all JP):=by
 rw[jiX,good_iff,jiL]
 unfold jf
 rw[YC l.length 0 0 l (jh6 _)]
 constructor
 ·rintro⟨a,b,c,d⟩
  exact⟨by simp;omega,d,.inr c⟩
 rintro⟨a,d,c⟩
 simp at a
 have:l≠[]:=by rintro rfl;simp at a
 exact⟨by omega,by omega,c.resolve_left this,d⟩
open Go.RowKit Go.Shelf
attribute [local go_sem] jil
def jhO(w:World)(pre:List Ln)(W:World):Prop:=Boxed W w.heap.size 4 (.bool false)/\Below w.heap.size w W/\pre.all JP=true
def jh2(w:World)(c:Code)(pre:List Ln)(W:World):Prop:=Boxed W w.heap.size 4 (.bool false)/\Below w.heap.size w W/\c=.ret/\pre.all JP=false
theorem jcz(w W:World)(b:Bool)(tmps:Array Value)(h:Boxed W w.heap.size 4 (.bool b))(hK:W.heap[w.heap.size+2]?=some (.deferred (some [])))(hB:Below w.heap.size w W)(t2:tmps[2]?=some (.pointer (some ⟨w.heap.size,0,none⟩))):
  bodyPostM Fence.wide 9 Tryz.prog Tryz.f40 (fun e w'=>e=.returned (.bool b)/\Below w.heap.size w w') .ret {tmps:=tmps,defers:=[{target:=.collected (w.heap.size+2),args:=#[]}]} W:=by
 have p1:=grownBy_putObj' W (w.heap.size+2) (.deferred none)
 have zW:w.heap.size+2<W.heap.size:=(Array.getElem?_eq_some_iff.1 hK).1
 have r:Boxed (W.putObj (w.heap.size+2) (.deferred none)) w.heap.size 4 (.bool b):=(p1.block _ (by omega) (fun e=>by have:=jh9 e;omega)).trans h
 have c:=r.cell
 refine⟨by simp,.inl ⟨_,_,rfl,run_takeDeferred hK,?_⟩⟩
 exact⟨.bool b,by simp[results,Tryz.f40,go_sem,t2,c],rfl,hB.trans (belowK_b (w:=w) (jh6 _) W _ _ _ (by omega) hK rfl rfl)⟩
theorem jd8(s:ByteArray)(hsz:s.size<=1000000)(w:World):
  Calls Tryz.prog 40 #[.string s] w fun e w'=>e=.returned (.bool (qD s.data.toList))/\Below w.heap.size w w':=by
 have hg:=jf8 s.data.toList
 rw[<- jij]at hg
 have FT:=jh5 (GM (s.size:Int))
 generalize qD s.data.toList=g at *
 obtain⟨xs,hxs⟩:∃xs,jf s.data.toList=xs:=⟨_,rfl⟩
 rw[hxs]at hg
 have HXS:=jh5 hxs
 have HH:=fun w b=>qQ s b w
 rw[hxs]at HH
 clear hxs
 refine callsIn_wide (n:=9).1 ?_
 refine callsIn_of_wp_marks Tryz.func40 rfl trivial ?_ rfl
 simp only[Tryz.ntmps40,jjw,jic,jiW,Nat.reduceAdd,Nat.reduceSub,jjm,jjn,jjx,jjp,ji4,jiq]
 have k1:=jjV w 4 (.bool false)
 have kb:Below w.heap.size w (w.alloc (.cells #[.bool false] 4)):=(jh8 _ w).alloc (jh6 _) _
 cases hf:decide (2<=(s.size:Int)/\(s.size:Int)<=50000) with
 | false =>
  rw[hf]at hg FT
  simp only[Bool.false_and]at hg
  subst hg
  clear hf HH
  gi_wp2_with fail
  refine⟨trivial,(callsIn_wide.2 (FT.out _)).mono ?_⟩
  rintro e w3 ⟨rfl,rfl⟩
  gi_wp2
  have c:=k1.cell
  exact⟨.bool false,by simp[results,Tryz.f40,go_sem,c],rfl,kb⟩
 | true =>
 rw[hf]at hg FT
 simp only[jjK]at hg
 clear hf
 gi_wp2_with fail
 refine⟨trivial,(callsIn_wide.2 (FT.out _)).mono ?_⟩
 rintro e w3 ⟨rfl,rfl⟩
 gi_wp2_with fail
 refine⟨trivial,(callsIn_wide.2 (yj s _)).mono ?_⟩
 rintro e w3 ⟨rfl,rfl⟩
 gi_wp2_with fail
 have k2:=ZB w (.cells #[.bool false] 4) 9 (.string s)
 have kb2:=kb.alloc (o:=.cells #[.string s] 9) kb.size
 have k1b:=k1.alloc (.cells #[.string s] 9)
 have kz:((w.alloc (.cells #[.bool false] 4)).alloc (.cells #[.string s] 9)).heap.size=w.heap.size+2:=by simp
 generalize (w.alloc (.cells #[.bool false] 4)).alloc (.cells #[.string s] 9)=w1 at *
 clear k1 kb FT
 have ab:∀k,k<=5->Js (w.heap.size+2) k (jhO w):=fun k hk pre W W' h ht =>
  ⟨ht.box h.1 (.inl (by omega)),h.2.1.trans (ht.below (by omega) h.2.1.size),h.2.2⟩
 refine vy (gf:=68) (lb:=#[.pointer (some ⟨w.heap.size+1,0,none⟩)]) rfl (enters_of Tryz.func68 (by kernel_rfl) rfl) (HH w1 _ k2 (by omega)) (fun _=>rfl)
  (jhO w) (jh2 w) (by rw[kz];exact ab _ (by omega)) (fun c pre W W' h ht=>⟨ht.box h.1 (.inl (by rw[kz];omega)),h.2.1.trans (ht.below (by rw[kz];omega) h.2.1.size),h.2.2⟩) ⟨k1b,kb2,rfl⟩
  (fun a pre x a' W=>∃Bx,w.heap.size+2+5<=Bx/\a'={tmps:=(a.tmps.setIfInBounds 10 (.agg (zO x))).setIfInBounds 3 (.pointer (some ⟨Bx,0,none⟩)),defers:=[]}/\jd W Bx 76 (zO x)/\jhO w pre W)
  ?hM ?assign ?body ?done ?stop
 case hM =>
  rw[kz]
  rintro a pre x a' _ W W' ⟨Bx,h1,h2,h3,h4⟩ ht
  exact⟨Bx,h1,h2,(ht.same Bx h3.lt (.inr (by omega))).trans h3,ab 2 (by omega) pre W W' h4 ht⟩
 case assign =>
  rw[kz]
  intro l pre x post W hx hsz hi
  clear hx
  dsimp only[zO]
  gi_wp2
  exact⟨(yh.refl _ _ W).alloc hsz _,W.heap.size,by omega,rfl,jd.new _ _ _,hi.1.alloc _,hi.2.1.alloc hi.2.1.size _,hi.2.2⟩
 case body =>
  rw[kz]
  rintro l pre x post a' W hx hsz ⟨Bx,hB,rfl,hc,h1,h2,h3⟩
  clear hx
  simp only[jiw,jiU,jiV,zO]at hc ⊢
  have hne:Bx≠w.heap.size:=by omega
  have gx:JP x=(x.ended&&Lib.hasPrefix x.text [32]):=rfl
  have gs:(pre++[x]).all JP=JP x:=by rw[jjo,h3];simp
  have c3:=h1.cell
  have f3:=h1.frozen
  have p2:W.cell? ⟨Bx,2,none⟩=some (.string ⟨x.text.toArray⟩):=hc.cell 2
  have p3:W.cell? ⟨Bx,3,none⟩=some (.bool x.ended):=hc.cell 3
  generalize x.ended=en at *
  cases en with
  | false =>
   gi_wp2_with fail
   refine⟨trivial,?_⟩
   gi_wp2
   exact⟨(yh.refl _ _ _).setCell (.inl (by show w.heap.size<_;omega)) _,jjy _ h1,h2.setCell (p:=⟨w.heap.size,0,none⟩) (jh6 _) _,rfl,by rw[gs,gx];rfl⟩
  | true =>
  gi_wp2_with fail
  refine⟨trivial,((callsIn_wide.2 (Tryz.strings_HasPrefix ⟨x.text.toArray⟩ ⟨#[32]⟩ W)).inRound l).mono ?_⟩
  rintro e V ⟨rfl,rfl⟩
  have eh:Lib.hasPrefix (⟨x.text.toArray⟩:ByteArray).data.toList (⟨#[32]⟩:ByteArray).data.toList=Lib.hasPrefix x.text [32]:=rfl
  rw[eh]
  rw[jjK]at gx
  generalize Lib.hasPrefix x.text [32]=hp at *
  cases hp with
  | false =>
   gi_wp2
   exact⟨(yh.refl _ _ _).setCell (.inl (by show w.heap.size<_;omega)) _,jjy _ h1,h2.setCell (p:=⟨w.heap.size,0,none⟩) (jh6 _) _,rfl,by rw[gs,gx]⟩
  | true =>
  gi_wp2
  exact⟨yh.refl _ _ _,h1,h2,by rw[gs,gx]⟩
 case done =>
  rw[kz]
  rintro W ⟨h1,h2,h3⟩ hmark
  have zW:w.heap.size+2<W.heap.size:=(Array.getElem?_eq_some_iff.1 hmark).1
  have c3:=h1.cell
  have f3:=h1.frozen
  rw[h3]at hg
  subst hg
  gi_wp2
  exact jcz w _ true _ (jjy _ h1) ((jiJ _ _ _ _ (by show w.heap.size+2≠w.heap.size;omega)).trans hmark) (h2.setCell (p:=⟨w.heap.size,0,none⟩) (jh6 _) _) rfl
 case stop =>
 rw[kz]
 rintro c pre W hpre ⟨h1,h2,rfl,h3⟩ hmark
 have hg0:g=false:=by
  rw[hg]
  obtain⟨z,rfl⟩:=hpre
  rw[jjo,h3];rfl
 subst hg0
 gi_wp2
 exact jcz w W false _ h1 hmark h2 rfl
theorem Qo(l:List UInt8)(hl:l.length<=1000000)(w:World):
  Calls Tryz.prog 40 #[.string (B l)] w fun e w'=>e=.returned (.bool (qD l))/\Below w.heap.size w w':=by
 have:=jd8 (B l) (by rw[je];exact hl) w
 rwa [ji]at this
end Go.Proofs.YtmdhainabeljpaaGreatDoor.Fr
namespace Go.Proofs.YtmdhainabeljpaaGreatDoor.Fr
open Go.RowKit Go.Shelf
attribute [local go_sem] jil
theorem je7(X:List UInt8)(i j:Nat):(B X).extract i j=B ((X.drop i).take (j-i)):=by
 apply jjf
 apply Array.toList_inj.1
 rw[ji7,ji,ji]
theorem ext_drop(X:List UInt8)(i:Nat):(B X).extract i (B X).size=B (X.drop i):=by
 rw[je7,je,jiC (by simp)]
theorem ext_take(X:List UInt8)(j:Nat):(B X).extract 0 j=B (X.take j):=by rw[je7];simp
theorem jb4{l:List UInt8}{c:UInt8}(h:c∉l):∀x∈l,(x != c)=true:=fun x hx=>by
 have:x≠c:=fun e=>h (by rw[<- e];exact hx)
 simpa using this
theorem GV(l:List UInt8)(c:UInt8)(hl:l.length<=1000000)(w:World):
  Calls Tryz.prog 33 #[.string (B l),.string ⟨#[c]⟩] w fun e w' =>
   e=.returned (.tuple #[.string (B (l.takeWhile (· != c))),.string (B (l.drop ((l.takeWhile (· != c)).length+1))),.bool (l.contains c)])/\Below w.heap.size w w':=by
 by_cases h:c∈l
 ·refine(XF (B l) c w (by rw[je];unfold maxLen;omega) (by rw[ji];exact h)).mono ?_
  rintro e w' ⟨rfl,n,rfl⟩
  refine⟨?_,⟨rfl,rfl,rfl,jh6 _,fun _ _=>rfl⟩⟩
  have hp:l.take (l.takeWhile (· != c)).length=l.takeWhile (· != c):=(List.prefix_iff_eq_take.1 (jjg _)).symm
  rw[ji,ext_drop,ext_take,hp]
  simp[h]
 refine(GS (B l) c w (by rw[ji];exact h)).mono ?_
 rintro e w' ⟨rfl,n,rfl⟩
 refine⟨?_,⟨rfl,rfl,rfl,jh6 _,fun _ _=>rfl⟩⟩
 have hp:l.takeWhile (· != c)=l:=vm (jb4 h)
 rw[hp,ji0 (by omega)]
 simp[h];rfl
def jdP(l:List UInt8):List UInt8:=(Lib.trimPrefix l AMD).takeWhile (· != 32)
def ja0(l:List UInt8):List UInt8:=(Lib.trimPrefix l AMD).drop ((jdP l).length+1)
def jad(l:List UInt8):Int:=zX (jdP l)
def jbk(l:List UInt8):Bool:=(Sm.takes (ja0 l)).isSome&&decide (2<=jad l/\jad l<=50000)&&decide (jH (jad l).toNat (ja0 l)=l)
theorem jde{l:List UInt8}{n:Nat}{f:List UInt8}(h:Wn l n f):jbk l=true/\jad l=n:=by
 have e1:Lib.trimPrefix l AMD=Lib.decDigits n++32::f:=by
  rw[h.eq];unfold jH Lib.trimPrefix
  have:Lib.hasPrefix (AMD++(Lib.decDigits n++32::f)) AMD=true:=by unfold Lib.hasPrefix;rw[jja];exact List.prefix_append _ _
  rw[if_pos this,jjj]
 have e2:jdP l=Lib.decDigits n:=by
  unfold jdP
  rw[e1,jjC (jb4 (XE n))]
  simp
 have e3:ja0 l=f:=by unfold ja0;rw[e2,e1,<- jji,jjj];rfl
 have hn:I64 (n:Int):=by have:=h.hi;unfold I64;omega
 have e4:jad l=n:=by unfold jad;rw[e2,<- jjc,qW hn]
 have h2:=h.lo
 have h5:=h.hi
 obtain⟨x,hx⟩:=h.fig
 refine⟨?_,e4⟩
 unfold jbk
 rw[e4,e3,hx,h.eq]
 simp;omega
theorem Vv{l:List UInt8}(h:jbk l=true):∃n f,Wn l n f:=by
 unfold jbk at h
 simp only[jiL,decide_eq_true_eq]at h
 obtain⟨⟨h1,h2,h3⟩,h4⟩:=h
 obtain⟨x,hx⟩:=Option.isSome_iff_exists.1 h1
 exact⟨(jad l).toNat,ja0 l,by omega,by omega,⟨x,hx⟩,h4.symm⟩
theorem jae{l:List UInt8}:jbk l=true↔∃n f,Wn l n f:=⟨Vv,fun⟨_,_,h⟩=>(jde h).1⟩
theorem jdt(s:List UInt8):Sm.takeV s=.tuple #[.int .u32 ((Sm.takes s).getD 0:Nat),.bool (Sm.takes s).isSome]:=by
 cases h:Sm.takes s with
 | none=>rw[Sm.takeV_not h];rfl
 | some n=>rw[Sm.takeV_of h];rfl
theorem Za(l:List UInt8)(hl:l.length<=900000)(w:World)(ht:TabsN w):
  Calls Tryz.prog 36 #[.string (B l)] w fun e w'=>e=.returned (.tuple #[.int .i64 (jad l),.bool (jbk l)])/\Below w.heap.size w w':=by
 have T1:=jh5 (Tryz.strings_TrimPrefix (B l) (B AMD) w)
 have hp:(Lib.trimPrefix l AMD).length<=900000:=jiv (Lib.trimPrefix_le l AMD) hl
 have C1:=jh5 (fun w=>GV (Lib.trimPrefix l AMD) 32 (by omega) w)
 have e1:(Lib.trimPrefix l AMD).takeWhile (· != 32)=jdP l:=rfl
 have e2:(Lib.trimPrefix l AMD).drop ((jdP l).length+1)=ja0 l:=rfl
 have hn:(jdP l).length<=900000:=jiv (ji9 _).length_le hp
 have hf:(ja0 l).length<=900000:=by rw[<- e2,jik];omega
 have K1:=jh5 (fun w=>Sm.take_any (B (ja0 l)) w (by rw[je];unfold maxLen;omega))
 have A1:=jh5 (fun w ht=>atoi_any (jdP l) (by omega) w ht)
 have F1:=jh5 (GM (jad l))
 have hm:zX (jdP l)=jad l:=rfl
 rw[hm]at A1
 rw[e1,e2]at C1
 simp only[jdt,ji]at K1
 simp only[ji]at T1
 have e3:(⟨(Lib.trimPrefix l AMD).toArray⟩:ByteArray)=B (Lib.trimPrefix l AMD):=rfl
 rw[e3]at T1
 have NS:=jh5 hn
 have hb:jbk l=((Sm.takes (ja0 l)).isSome&&decide (2<=jad l/\jad l<=50000)&&decide (jH (jad l).toNat (ja0 l)=l)):=rfl
 have H1:=jh5 (fun(n:Nat) (h:n<=50000) w ht=>Xr n (by omega) (ja0 l) (by omega) w ht)
 have ba:(⟨#[37,97,109,101,110,100,32]⟩:ByteArray)=B AMD:=rfl
 have same:∀x:List UInt8,((B x).toList==(B l).toList)=decide (x=l):=fun x=>by rw[jiu,jiu,ji,ji,jiX];simp
 generalize (Sm.takes (ja0 l)).getD 0=tv at *
 generalize (Sm.takes (ja0 l)).isSome=tb at *
 generalize jad l=m at *
 generalize jbk l=q at *
 clear e1 e2 hm hn hp e3
 go_enter Tryz.func36,Tryz.ntmps36
 rw[ba]
 go_wp2_with fail
 refine T1.out.mono ?_
 rintro e w1 ⟨rfl,rfl⟩
 go_wp2_with fail
 refine(C1.out _).mono ?_
 rintro e w1 ⟨rfl,hb1⟩
 go_wp2_with fail
 refine(K1.out _).mono ?_
 rintro e w2 ⟨rfl,rfl⟩
 go_wp2_with fail
 refine(A1.out _ (ht.below hb1 (jh6 _))).mono ?_
 rintro e w3 ⟨⟨T,v,he⟩,hb3⟩
 have ht3:=(ht.below hb1 (jh6 _)).below hb3 (jh6 _)
 have hb13:=hb1.trans (hb3.mono hb1.size)
 rcases he with rfl|rfl
 all_goals
  cases tb with
  | false =>
   simp only[Bool.false_and]at hb
   subst hb
   go_wp2_with fail
   go_ret2
   exact⟨rfl,hb13⟩
  | true =>
  cases hf:decide (2<=m/\m<=50000) with
  | false =>
   rw[hf]at hb F1
   simp only[jjK,Bool.false_and]at hb
   subst hb
   go_wp2_with fail
   refine(F1.out _).mono ?_
   rintro e w4 ⟨rfl,rfl⟩
   go_wp2_with fail
   go_ret2
   exact⟨rfl,hb13⟩
  | true =>
  rw[hf]at hb F1
  have hf':=of_decide_eq_true hf
  obtain⟨n,rfl⟩:∃n:Nat,m=n:=⟨m.toNat,by omega⟩
  simp only[jjK,jju]at hb
  go_wp2_with fail
  refine(F1.out _).mono ?_
  rintro e w4 ⟨rfl,rfl⟩
  go_wp2_with fail
  refine(H1.out n (by omega) _ ht3).mono ?_
  rintro e w4 ⟨rfl,hb4⟩
  go_wp2_with fail
  go_ret2
  exact⟨by rw[hb];rfl,hb13.trans (hb4.mono hb13.size)⟩
theorem jhE:B zT=B (jH 50000 qq):=by rw[Yt]
theorem VQ(l:List UInt8)(hl:l.length<=800000)(w:World)(ht:TabsN w):
  Calls Tryz.prog 35 #[.string (B l)] w fun e w'=>∃q:Bool,(q=true↔vv l)/\e=.returned (.bool q)/\Below w.heap.size w w':=by
 have H1:=jh5 (Xr 50000 (by omega) qq (by decide) w ht)
 rw[<- jhE]at H1
 have zs:(⟨#[48,48,48,48,48,48,48,48]⟩:ByteArray)=B qq:=rfl
 have ls:(B zT).size=21:=rfl
 have bl:=je l
 by_cases h21:21<l.length
 ·have hno:¬vv l:=fun h=>by have:=jdH h;omega
  have q1:(21:Int)<((B l).size:Int):=by rw[bl];omega
  go_enter Tryz.func35,Tryz.ntmps35
  rw[zs]
  go_wp2_with fail
  refine H1.out.mono ?_
  rintro e w1 ⟨rfl,hb1⟩
  go_wp2_with fail
  go_ret
  exact⟨false,by simp[hno],rfl,hb1⟩
 have q1:¬(21:Int)<((B l).size:Int):=by rw[bl];omega
 have bs:(B l).size<=21:=by rw[bl];omega
 have hp:=jaR (l:=l)
 have A1:=jh5 (fun k w ht=>Za (l++zT.drop k) (by rw[jh7,jik];have:zT.length=21:=rfl;omega) w ht)
 have E1:Hid (∀k,B l++(B zT).extract k 21=B (l++zT.drop k)):=fun k=>by
  have:=ext_drop zT k
  rw[ls]at this
  rw[this,jj]
 generalize hL:B zT=L at *
 go_enter Tryz.func35,Tryz.ntmps35
 rw[zs]
 go_wp2_with fail
 refine H1.out.mono ?_
 rintro e w1 ⟨rfl,hb1⟩
 go_wp2_with fail
 go_loopw [16] (fun i wr=>∃k:Nat,k<=22/\i=.int .i64 k/\Below w.heap.size w wr/\∀j,j<k->jbk (l++zT.drop j)=false) (fun i _=>22-(intOf i).toNat)
 case atStart=>exact⟨0,by omega,rfl,hb1,fun j hj=>by omega⟩
 case round =>
 obtain⟨k,hk,rfl,hb,hj⟩:=hrel
 have HJ:=jh5 hj
 clear hj
 by_cases hlt:k<22
 ·have hk2:(k:Int)<=21:=by omega
  go_wp2_with fail
  rw[E1.out k]
  refine(A1.out k _ (ht.below hb (jh6 _))).mono ?_
  rintro e w2 ⟨rfl,hb2⟩
  have hb':=hb.trans (hb2.mono hb.size)
  cases hq:jbk (l++zT.drop k) with
  | true =>
   have hyes:vv l:=hp.2 ⟨k,by omega,Vv hq⟩
   clear hq
   go_wp2_with fail
   go_ret
   exact⟨true,by simp[hyes],rfl,hb'⟩
  | false =>
  have HN:Hid (∀j,j<k+1->jbk (l++zT.drop j)=false):=by
   intro j hj
   by_cases e:j=k
   ·rw[e];exact hq
   exact HJ.out j (by omega)
  clear hq
  go_wp2_with fail
  go_roundw
  case rel=>exact⟨k+1,by omega,by go_num,hb',HN.out⟩
  case measure=>simp[intOf];omega
 obtain rfl:k=22:=by omega
 go_wp2_with fail
 go_ret
 refine⟨false,?_,rfl,hb⟩
 rw[hp]
 constructor
 ·intro h;cases h
 rintro⟨j,hj,n,f,h⟩
 have:=jae.2 ⟨n,f,h⟩
 rw[HJ.out j (by omega)]at this
 cases this
theorem Xa(k:Nat):Lib.repeatL [32] k=List.replicate k 32:=by
 induction k with
 | zero=>rfl
 | succ k ih=>rw[List.replicate_succ,<- ih];rfl
theorem VS(t:List UInt8)(n:Nat)(h2:2<=n)(h5:n<=50000)(hl:t.length<n)(w:World):
  Calls Tryz.prog 37 #[.string (B t),.int .i64 (n:Int)] w fun e w'=>e=.returned (.bool (vu t n))/\Below w.heap.size w w':=by
 have bt:=je t
 have e10:(B [32]).size=1:=rfl
 have hc0:(B [32]).size*(n-t.length-1)<=140737488355328:=by simp only[e10];omega
 have R1:=jh5 (Tryz.strings_Repeat (B [32]) (n-t.length-1) w (by omega) hc0)
 have G1:=jh5 (fun w=>Qo (t++(List.replicate (n-t.length-1) 32++[10])) (by simp;omega) w)
 have hk:((n-t.length-1:Nat):Int)=(n:Int)-(t.length:Int)-1:=by omega
 rw[hk,ji,Xa,show(⟨(List.replicate (n-t.length-1) (32:UInt8)).toArray⟩:ByteArray)=B (List.replicate (n-t.length-1) 32) from rfl]at R1
 have E1:Hid (B t++B (List.replicate (n-t.length-1) 32) ++ ⟨#[10]⟩=B (t++(List.replicate (n-t.length-1) 32++[10]))):=by
  show _=_
  rw[show(⟨#[10]⟩:ByteArray)=B [10] from rfl,jj,jj,jip]
 have s1:(B (List.replicate (n-t.length-1) 32)).size<=50000:=by rw[je];simp;omega
 have s2:(B t++B (List.replicate (n-t.length-1) 32)).size<=100000:=by rw[jiN];omega
 have s0:(B t).size<=50000:=by omega
 simp only[jc4 h2 h5 hl]at G1
 have z1:(⟨#[32]⟩:ByteArray)=B [32]:=rfl
 have w1:IntKind.i64.wrap ((n:Int)-(t.length:Int))=(n:Int)-(t.length:Int):=jiz _ (by omega)
 have w2:IntKind.i64.wrap ((n:Int)-(t.length:Int)-1)=(n:Int)-(t.length:Int)-1:=jiz _ (by omega)
 generalize B (List.replicate (n-t.length-1) 32)=R at *
 generalize vu t n=q at *
 clear hk
 rw[<- bt]at w1 w2 R1
 generalize hX:B t=X at *
 clear bt hX
 go_enter Tryz.func37,Tryz.ntmps37
 rw[z1]
 go_wp2_with fail
 refine R1.out.mono ?_
 rintro e w3 ⟨rfl,hb1⟩
 go_wp2_with fail
 rw[E1.out]
 refine(G1.out _).mono ?_
 rintro e w4 ⟨rfl,hb2⟩
 go_wp2_with fail
 go_ret
 exact⟨rfl,hb1.trans (hb2.mono hb1.size)⟩
def Xx(t:List UInt8)(n:Nat):Bool := !(decide (t=jW n))&&Lib.hasPrefix (jW n) t
theorem jcD{t:List UInt8}{n:Nat}:Xx t n=true↔∃z,t++z=jW n/\z≠[]:=by
 unfold Xx Lib.hasPrefix
 simp only[jiL,jkh,decide_eq_false_iff_not,jja]
 constructor
 ·rintro⟨h1,z,h2⟩
  exact⟨z,h2,fun e=>h1 (by rw[<- h2,e];simp)⟩
 rintro⟨z,h2,h3⟩
 refine⟨fun e => ?_,z,h2⟩
 rw[e]at h2
 exact h3 (by simpa using h2)
theorem VR(t:List UInt8)(n:Nat)(h5:n<=50000)(w:World)(ht:TabsN w):
  Calls Tryz.prog 41 #[.string (B t),.int .i64 (n:Int)] w fun e w'=>e=.returned (.bool (Xx t n))/\Below w.heap.size w w':=by
 have F1:=jh5 (GJ n (by omega) w ht)
 have P1:=jh5 (fun w=>Tryz.strings_HasPrefix (B (jW n)) (B t) w)
 simp only[ji]at P1
 have same:((B t).toList==(B (jW n)).toList)=decide (t=jW n):=by rw[jiu,jiu,ji,ji,jiX];simp
 have hq:Xx t n=(!(decide (t=jW n))&&Lib.hasPrefix (jW n) t):=rfl
 generalize Xx t n=q at *
 generalize Lib.hasPrefix (jW n) t=p at *
 generalize decide (t=jW n)=d at *
 generalize B (jW n)=f at *
 generalize B t=X at *
 cases d with
 | true =>
  go_enter Tryz.func41,Tryz.ntmps41
  go_wp2_with fail
  refine F1.out.mono ?_
  rintro e w1 ⟨rfl,hb1⟩
  go_wp2_with fail
  go_ret
  exact⟨by rw[hq];rfl,hb1⟩
 | false =>
 go_enter Tryz.func41,Tryz.ntmps41
 go_wp2_with fail
 refine F1.out.mono ?_
 rintro e w1 ⟨rfl,hb1⟩
 go_wp2_with fail
 refine(P1.out _).mono ?_
 rintro e w2 ⟨rfl,rfl⟩
 go_wp2_with fail
 go_ret
 exact⟨by rw[hq];rfl,hb1⟩
theorem jhB(a:ByteArray)(w:World):Sm.Strs (w.alloc (.cells #[.string a] 9)) (.slice (some ⟨w.heap.size,0,none⟩) 1 1) [a]:=by
 refine⟨_,1,rfl,?_⟩
 intro i s h
 refine⟨w.heap.size,0,rfl,by simp,?_⟩
 rw[jjk _ _ _ _ rfl]
 match i,h with
 | 0,h=>simp at h;subst h;rfl
 | n+1,h=>simp at h
theorem jdu(a:ByteArray)(ha:a.size<=maxLen)(w:World):
  Calls Tryz.prog 83 #[.slice (some ⟨w.heap.size,0,none⟩) 1 1] (w.alloc (.cells #[.string a] 9)) fun e w'=>e=.returned (.int .u32 (Sm.M.crc a.data.toList:Nat))/\Below w.heap.size w w' :=
 (Sm.sum_any _ [a] _ (jhB a w) (by simp[maxLen]) (fun i s h=>by
  match i,h with
  | 0,h=>simp at h;subst h;exact ha
  | n+1,h=>simp at h)).mono fun e w' ⟨he,hb⟩=>⟨by rw[he];simp[Sm.cat,Sm.M.crc],((jh8 _ _).alloc (jh6 _) _).trans (hb.mono (by simp))⟩
theorem jcB{b:List UInt8}(hg:qD b=true):(fullR b).length=b.length+27+2*(Lib.decDigits b.length).length-4:=by
 have:=yJ (qK b)
 unfold fullR jgJ jH jW AMD END
 simp;omega
theorem jgc{b:List UInt8}(hg:qD b=true):(fullR b).length<=50100:=by
 obtain⟨h2,h5,_,_⟩:=good_iff.1 hg
 have:=yN (show b.length<=99999 by omega)
 have:=jcB hg
 omega
theorem jaw(l:List UInt8)(hg:qD l=true)(w:World)(ht:TabsN w):
  Calls Tryz.prog 38 #[.string (B l)] w fun e w'=>e=.returned (.tuple #[.string (B (fullR l)),.nilIface])/\Below w.heap.size w w':=by
 obtain⟨h2,h5,_,_⟩:=good_iff.1 hg
 have bl:=je l
 have G1:=jh5 (Qo l (by omega) w)
 rw[hg]at G1
 have S1:=jh5 (fun w=>jdu (B l) (by rw[bl];unfold maxLen;omega) w)
 simp only[ji]at S1
 have F1:=jh5 (fun w=>Sm.figures_any (Sm.M.crc l) (Sm.M.crc_lt l) w)
 have eF:Sm.figs (Sm.M.crc l)=B (vf l):=(jbh _).symm
 simp only[eF]at F1
 have H1:=jh5 (fun w ht=>Xr l.length (by omega) (vf l) (by rw[yJ (qK l)];omega) w ht)
 have T1:=jh5 (fun w ht=>GJ l.length (by omega) w ht)
 have hh:(jH l.length (vf l)).length<=30:=by
  have:=yJ (qK l)
  have:=yN (show l.length<=99999 by omega)
  unfold jH AMD;simp;omega
 have E1:Hid (B (jH l.length (vf l)) ++ ⟨#[10]⟩++B l++B (jW l.length)=B (fullR l)):=by
  show _=_
  rw[show(⟨#[10]⟩:ByteArray)=B [10] from rfl,jj,jj,jj]
  congr 1
  unfold fullR;rw[qx];simp
 have s1:(B (jH l.length (vf l))).size<=30:=by rw[je];exact hh
 have s2:(B (jH l.length (vf l)) ++ ⟨#[10]⟩).size<=31:=by rw[jiN];show _+1<=_;omega
 have s3:(B (jH l.length (vf l)) ++ ⟨#[10]⟩++B l).size<=60000:=by rw[jiN];omega
 have s4:(B (jW l.length)).size<=30:=by
  have:=yN (show l.length<=99999 by omega)
  rw[je];unfold jW END;simp;omega
 have s0:(B l).size<=50000:=by omega
 generalize B (jH l.length (vf l))=X at *
 generalize B (jW l.length)=Y at *
 generalize B (vf l)=Z at *
 rw[<- bl]at H1 T1
 generalize hL:B l=L at *
 clear hL bl hg hh
 go_enter Tryz.func38,Tryz.ntmps38
 go_wp2_with fail
 refine G1.out.mono ?_
 rintro e w1 ⟨rfl,hb1⟩
 go_wp2_with fail
 refine(S1.out _).mono ?_
 rintro e w2 ⟨rfl,hb2⟩
 have hb12:=hb1.trans (hb2.mono hb1.size)
 go_wp2_with fail
 refine(F1.out _).mono ?_
 rintro e w3 ⟨rfl,hb3⟩
 have hb13:=hb12.trans (hb3.mono hb12.size)
 go_wp2_with fail
 refine(H1.out _ (ht.below hb13 (jh6 _))).mono ?_
 rintro e w4 ⟨rfl,hb4⟩
 have hb14:=hb13.trans (hb4.mono hb13.size)
 go_wp2_with fail
 refine(T1.out _ (ht.below hb14 (jh6 _))).mono ?_
 rintro e w5 ⟨rfl,hb5⟩
 have hb15:=hb14.trans (hb5.mono hb14.size)
 go_wp2_with fail
 go_ret2
 exact⟨by rw[<- E1.out];rfl,hb15⟩
theorem jbV(l:List UInt8)(hl:l.length<=1000000)(hg:qD l=false)(w:World):
  Calls Tryz.prog 38 #[.string (B l)] w fun e w'=>e=.returned (.tuple #[.string (B []),Zy 2])/\Below w.heap.size w w':=by
 have G1:=jh5 (Qo l hl w)
 rw[hg]at G1
 go_enter Tryz.func38,Tryz.ntmps38
 go_wp2_with fail
 refine G1.out.mono ?_
 rintro e w1 ⟨rfl,hb1⟩
 go_wp2_with fail
 go_ret2
 exact⟨rfl,hb1⟩
def jdm(n:Int):Int:=if 2<=n/\n<=50000 then ((jH n.toNat qq).length:Int)+1+n+((jW n.toNat).length:Int) else 0
theorem ym{t:List UInt8}(h:xB t):jG t 2 [] 0:=.inr (.inl ⟨h,rfl,rfl,rfl⟩)
theorem qX{t:List UInt8}(h:¬xB t)(h2:¬∃b,vh t b):jG t 3 [] 0:=.inr (.inr ⟨h,h2,rfl,rfl,rfl⟩)
theorem jaG{l:List UInt8}(h:(10:UInt8)∈l):l=zY l++10::l.drop ((zY l).length+1):=by
 have:=zg l
 have hn:nl l=true:=by unfold nl;simpa using h
 unfold qy at this
 rw[hn,if_pos rfl,if_pos rfl]at this
 simpa using this
def readV(k:Nat)(b:List UInt8)(n:Nat):Ending:=.returned (.tuple #[.int .i64 (k:Int),.string (B b),.int .i64 (n:Int)])
theorem read_any(l:List UInt8)(hl:l.length<=700000)(w:World)(ht:TabsN w):
  Calls Tryz.prog 16 #[.string (B l)] w fun e w'=>∃k b n,jG l k b n/\e=readV k b n/\Below w.heap.size w w':=by
 have C1:=jh5 (GV l 10 (by omega) w)
 by_cases h10:(10:UInt8)∈l
 ·have hc:l.contains 10=true:=by simpa using h10
  have hln:(10:UInt8)∉zY l:=yY
  have hs:=jaG h10
  have eh:l.takeWhile (· != 10)=zY l:=rfl
  rw[hc,eh]at C1
  have hh:(zY l).length<=700000:=by have:=jf7 l;omega
  have A1:=jh5 (fun w ht=>Za (zY l) (by omega) w ht)
  generalize zY l=line at *
  generalize l.drop (line.length+1)=r at *
  clear hc eh
  have hr:r.length<=700000:=by have:=congrArg List.length hs;simp at this;omega
  cases hq:jbk line with
  | false =>
   have HO:Hid (jG l 3 [] 0):=by
    have h:=jdN (r:=r) hln (fun h=>by have:=jae.2 h;rw[hq]at this;cases this)
    rw[<- hs]at h
    exact qX h.1 h.2
   rw[hq]at A1
   clear hq hs hln hr
   go_enter Tryz.func16,Tryz.ntmps16
   go_wp2_with fail
   refine C1.out.mono ?_
   rintro e w1 ⟨rfl,hb1⟩
   go_wp2_with fail
   refine(A1.out _ (ht.below hb1 (jh6 _))).mono ?_
   rintro e w2 ⟨rfl,hb2⟩
   go_wp2_with fail
   go_ret3
   exact⟨3,[],0,HO.out,rfl,hb1.trans (hb2.mono hb1.size)⟩
  | true =>
  obtain⟨n,f,hH⟩:=Vv hq
  obtain⟨_,hM⟩:=jde hH
  rw[hq,hM]at A1
  have h2:=hH.lo
  have h5:=hH.hi
  have hfig:=hH.fig
  have hle:=hH.eq
  clear hq hM
  by_cases hlt:r.length<n
  ·have hlt':((B r).size:Int)<n:=by rw[je];omega
   have HS:=jh5 (Ya (f:=f) h2 h5 hfig hlt)
   rw[<- hle,<- hs]at HS
   have BB:=jh5 (fun w=>VS r n h2 h5 hlt w)
   generalize vu r n=q at *
   clear hs hle hH hln hfig hlt hr
   generalize B r=R at *
   cases q with
   | true =>
    have HO:Hid (jG l 2 [] 0):=ym (HS.out.1.2 rfl)
    go_enter Tryz.func16,Tryz.ntmps16
    go_wp2_with fail
    refine C1.out.mono ?_
    rintro e w1 ⟨rfl,hb1⟩
    go_wp2_with fail
    refine(A1.out _ (ht.below hb1 (jh6 _))).mono ?_
    rintro e w2 ⟨rfl,hb2⟩
    have hb12:=hb1.trans (hb2.mono hb1.size)
    go_wp2_with fail
    refine(BB.out _).mono ?_
    rintro e w3 ⟨rfl,hb3⟩
    have hb13:=hb12.trans (hb3.mono hb12.size)
    go_wp2_with fail
    refine(Zo _).mono ?_
    rintro e w4 ⟨rfl,rfl⟩
    go_wp2_with fail
    go_ret3
    exact⟨2,[],0,HO.out,rfl,hb13⟩
   | false =>
   have HO:Hid (jG l 3 [] 0):=qX (fun h=>by cases HS.out.1.1 h) HS.out.2
   go_enter Tryz.func16,Tryz.ntmps16
   go_wp2_with fail
   refine C1.out.mono ?_
   rintro e w1 ⟨rfl,hb1⟩
   go_wp2_with fail
   refine(A1.out _ (ht.below hb1 (jh6 _))).mono ?_
   rintro e w2 ⟨rfl,hb2⟩
   have hb12:=hb1.trans (hb2.mono hb1.size)
   go_wp2_with fail
   refine(BB.out _).mono ?_
   rintro e w3 ⟨rfl,hb3⟩
   have hb13:=hb12.trans (hb3.mono hb12.size)
   go_wp2_with fail
   refine(JG _).mono ?_
   rintro e w4 ⟨rfl,rfl⟩
   go_wp2_with fail
   go_ret3
   exact⟨3,[],0,HO.out,rfl,hb13⟩
  have br:=je r
  have hlt':¬((B r).size:Int)<n:=by rw[br];omega
  have hnr:(n:Int)<=(B r).size:=by rw[br];omega
  have x1:(B r).extract 0 n=B (r.take n):=ext_take r n
  have x2:(B r).extract n (B r).size=B (r.drop n):=ext_drop r n
  have hb0:(r.take n).length=n:=by simp;omega
  have hrd:r.take n++r.drop n=r:=jiy n r
  have HL:=jh5 (yp (f:=f) (b:=r.take n) (r:=r.drop n) h2 h5 hfig hb0)
  rw[hrd,<- hle,<- hs]at HL
  generalize hbd:r.take n=bd at *
  generalize hrs:r.drop n=rs at *
  have HF:=jh5 (fun w ht=>VR rs n h5 w ht)
  have HFB:=jh5 (jcD (t:=rs) (n:=n))
  have P1:=jh5 (fun w=>Tryz.strings_HasPrefix (B l) (B (fullR bd)) w)
  have RN:=jh5 (jbV bd (by omega))
  have RY:=jh5 (jaw bd)
  have GD:=jh5 (fun w=>Qo bd (by omega) w)
  have hel:l=jH n f++10::(bd++rs):=by rw[hrd,<- hle];exact hs
  clear hbd hrs hrd hs hlt hr hle
  have bsz:(B bd).size<=50000:=by rw[je];omega
  have HX:=jh5 x1
  have HY:=jh5 x2
  clear x1 x2 br
  generalize B r=R at *
  generalize hBD:B bd=BD at *
  generalize B rs=RS at *
  have hl1:l.length<=700000:=hl
  cases hg:qD bd with
  | false =>
   have RN2:=jh5 (RN.out hg)
   have GD2:=GD.out
   rw[hg]at GD2
   have GD3:=jh5 GD2
   have HO:Hid (jG l 3 [] 0):=qX (fun h=>by have:=(HL.out.1.1 h).1;rw[hg]at this;cases this) (fun⟨b',h⟩=>by have:=((HL.out.2 b').1 h).2.1;rw[hg]at this;cases this)
   clear GD2 GD RY RN hg hH hln hfig hel hl hl1 P1 HL HF HFB
   go_enter Tryz.func16,Tryz.ntmps16
   go_wp2_with fail
   refine C1.out.mono ?_
   rintro e w1 ⟨rfl,hb1⟩
   go_wp2_with fail
   refine(A1.out _ (ht.below hb1 (jh6 _))).mono ?_
   rintro e w2 ⟨rfl,hb2⟩
   have hb12:=hb1.trans (hb2.mono hb1.size)
   go_wp2_with fail
   go_quiet (fail)
   go_wp2_with fail
   rw[HX.out,HY.out]
   have ht2:=ht.below hb12 (jh6 _)
   have hbq:Below w.heap.size w (w2.drewN nq):=⟨hb12.os,hb12.tape,hb12.output,hb12.size,hb12.block⟩
   have htq:=ht.below hbq (jh6 _)
   generalize w2.drewN nq=w3 at *
   refine(RN2.out _).mono ?_
   rintro e w4 ⟨rfl,hb4⟩
   have hb14:=hbq.trans (hb4.mono hbq.size)
   rw[GR]
   go_wp2_with fail
   refine(GD3.out _).mono ?_
   rintro e w5 ⟨rfl,hb5⟩
   have hb15:=hb14.trans (hb5.mono hb14.size)
   go_wp2_with fail
   refine(JG _).mono ?_
   rintro e w7 ⟨rfl,rfl⟩
   go_wp2_with fail
   go_ret3
   exact⟨3,[],0,HO.out,rfl,hb15⟩
  | true =>
  have RY2:=jh5 (RY.out hg)
  have GD2:=GD.out
  rw[hg]at GD2
  have GD3:=jh5 GD2
  clear GD2 GD RY RN
  have fl:=jgc hg
  have e1:Lib.hasPrefix (B l).data.toList (B (fullR bd)).data.toList=Lib.hasPrefix l (fullR bd):=by rw[ji,ji]
  have fs:=je (fullR bd)
  generalize hFB:B (fullR bd)=FB at *
  cases hp:Lib.hasPrefix l (fullR bd) with
  | true =>
   have HO:Hid (jG l 1 bd (fullR bd).length):=by
    refine .inl ⟨⟨hg,?_⟩,rfl,rfl⟩
    unfold Lib.hasPrefix at hp
    obtain⟨z,hz⟩:=List.isPrefixOf_iff_prefix.1 hp
    exact⟨z,hz.symm⟩
   have P2:=P1.out
   rw[e1,hp]at P2
   have P3:=jh5 P2
   clear hp hg e1 hH hln hfig hel hl hl1 P1 P2 HL HF HFB GD3
   rw[<- fs]at HO
   clear fs hFB
   go_enter Tryz.func16,Tryz.ntmps16
   go_wp2_with fail
   refine C1.out.mono ?_
   rintro e w1 ⟨rfl,hb1⟩
   go_wp2_with fail
   refine(A1.out _ (ht.below hb1 (jh6 _))).mono ?_
   rintro e w2 ⟨rfl,hb2⟩
   have hb12:=hb1.trans (hb2.mono hb1.size)
   go_wp2_with fail
   go_quiet (fail)
   go_wp2_with fail
   rw[HX.out,HY.out]
   have ht2:=ht.below hb12 (jh6 _)
   have hbq:Below w.heap.size w (w2.drewN nq):=⟨hb12.os,hb12.tape,hb12.output,hb12.size,hb12.block⟩
   have htq:=ht.below hbq (jh6 _)
   generalize w2.drewN nq=w3 at *
   refine(RY2.out _ htq).mono ?_
   rintro e w4 ⟨rfl,hb4⟩
   have hb14:=hbq.trans (hb4.mono hbq.size)
   go_wp2_with fail
   refine(P3.out _).mono ?_
   rintro e w5 ⟨rfl,rfl⟩
   go_wp2_with fail
   go_ret3
   exact⟨1,bd,FB.size,HO.out,by rw[<- hBD];rfl,hb14⟩
  | false =>
  have P2:=P1.out
  rw[e1,hp]at P2
  have P3:=jh5 P2
  have hw:¬∃b,vh l b:=by
   rintro⟨b',h'⟩
   obtain⟨rfl,_,_,_⟩:=(HL.out.2 b').1 h'
   obtain⟨_,zv,e⟩:=h'
   have:Lib.hasPrefix l (fullR b')=true:=by unfold Lib.hasPrefix;rw[jja];exact⟨zv,e.symm⟩
   rw[hp]at this;cases this
  have hpt:xB l↔Xx rs n=true:=by
   rw[HL.out.1,HFB.out]
   exact⟨fun h=>h.2,fun h=>⟨hg,h⟩⟩
  have HO:=jh5 (show(Xx rs n=true->jG l 2 [] 0)/\(Xx rs n=false->jG l 3 [] 0) from
   ⟨fun h=>ym (hpt.2 h),fun h=>qX (fun h'=>by rw[hpt.1 h']at h;cases h) hw⟩)
  generalize Xx rs n=q at *
  clear hp hg e1 hH hln hfig hel hl hl1 P1 P2 HL HFB hw hpt fs hFB
  cases q with
  | true =>
   have HO2:=jh5 (HO.out.1 rfl)
   go_enter Tryz.func16,Tryz.ntmps16
   go_wp2_with fail
   refine C1.out.mono ?_
   rintro e w1 ⟨rfl,hb1⟩
   go_wp2_with fail
   refine(A1.out _ (ht.below hb1 (jh6 _))).mono ?_
   rintro e w2 ⟨rfl,hb2⟩
   have hb12:=hb1.trans (hb2.mono hb1.size)
   go_wp2_with fail
   go_quiet (fail)
   go_wp2_with fail
   rw[HX.out,HY.out]
   have ht2:=ht.below hb12 (jh6 _)
   have hbq:Below w.heap.size w (w2.drewN nq):=⟨hb12.os,hb12.tape,hb12.output,hb12.size,hb12.block⟩
   have htq:=ht.below hbq (jh6 _)
   generalize w2.drewN nq=w3 at *
   refine(RY2.out _ htq).mono ?_
   rintro e w4 ⟨rfl,hb4⟩
   have hb14:=hbq.trans (hb4.mono hbq.size)
   go_wp2_with fail
   refine(P3.out _).mono ?_
   rintro e w5 ⟨rfl,rfl⟩
   go_wp2_with fail
   refine(GD3.out _).mono ?_
   rintro e w5 ⟨rfl,hb5⟩
   have hb15:=hb14.trans (hb5.mono hb14.size)
   go_wp2_with fail
   refine(HF.out _ (ht.below hb15 (jh6 _))).mono ?_
   rintro e w6 ⟨rfl,hb6⟩
   have hb16:=hb15.trans (hb6.mono hb15.size)
   go_wp2_with fail
   refine(Zo _).mono ?_
   rintro e w7 ⟨rfl,rfl⟩
   go_wp2_with fail
   go_ret3
   exact⟨2,[],0,HO2.out,rfl,hb16⟩
  | false =>
  have HO2:=jh5 (HO.out.2 rfl)
  go_enter Tryz.func16,Tryz.ntmps16
  go_wp2_with fail
  refine C1.out.mono ?_
  rintro e w1 ⟨rfl,hb1⟩
  go_wp2_with fail
  refine(A1.out _ (ht.below hb1 (jh6 _))).mono ?_
  rintro e w2 ⟨rfl,hb2⟩
  have hb12:=hb1.trans (hb2.mono hb1.size)
  go_wp2_with fail
  go_quiet (fail)
  go_wp2_with fail
  rw[HX.out,HY.out]
  have ht2:=ht.below hb12 (jh6 _)
  have hbq:Below w.heap.size w (w2.drewN nq):=⟨hb12.os,hb12.tape,hb12.output,hb12.size,hb12.block⟩
  have htq:=ht.below hbq (jh6 _)
  generalize w2.drewN nq=w3 at *
  refine(RY2.out _ htq).mono ?_
  rintro e w4 ⟨rfl,hb4⟩
  have hb14:=hbq.trans (hb4.mono hbq.size)
  go_wp2_with fail
  refine(P3.out _).mono ?_
  rintro e w5 ⟨rfl,rfl⟩
  go_wp2_with fail
  refine(GD3.out _).mono ?_
  rintro e w5 ⟨rfl,hb5⟩
  have hb15:=hb14.trans (hb5.mono hb14.size)
  go_wp2_with fail
  refine(HF.out _ (ht.below hb15 (jh6 _))).mono ?_
  rintro e w6 ⟨rfl,hb6⟩
  have hb16:=hb15.trans (hb6.mono hb15.size)
  go_wp2_with fail
  refine(JG _).mono ?_
  rintro e w7 ⟨rfl,rfl⟩
  go_wp2_with fail
  go_ret3
  exact⟨3,[],0,HO2.out,rfl,hb16⟩
 have hc:l.contains 10=false:=by simpa using h10
 have eh:l.takeWhile (· != 10)=l:=vm (jb4 h10)
 rw[hc,eh]at C1
 have BH:=jh5 (fun w ht=>VQ l (by omega) w ht)
 have HO:=jh5 (show(vv l->jG l 2 [] 0)/\(¬vv l->jG l 3 [] 0) from
  ⟨Xf,fun h=>qX (fun h'=>h ((Kq h10).1 h')) (fun⟨b,h'⟩=>Xi h10 h')⟩)
 clear hc eh h10
 generalize B (l.drop (l.length+1))=R at *
 go_enter Tryz.func16,Tryz.ntmps16
 go_wp2_with fail
 refine C1.out.mono ?_
 rintro e w1 ⟨rfl,hb1⟩
 go_wp2_with fail
 refine(BH.out _ (ht.below hb1 (jh6 _))).mono ?_
 rintro e w2 ⟨q,hq,rfl,hb2⟩
 have hb12:=hb1.trans (hb2.mono hb1.size)
 have HQ:=jh5 hq
 clear hq
 go_wp2_with fail
 cases q with
 | true =>
  have HO2:=jh5 (HO.out.1 (HQ.out.1 rfl))
  refine(Zo _).mono ?_
  rintro e w7 ⟨rfl,rfl⟩
  go_wp2_with fail
  go_ret3
  exact⟨2,[],0,HO2.out,rfl,hb12⟩
 | false =>
 have HO2:=jh5 (HO.out.2 (fun h=>by cases HQ.out.2 h))
 refine(JG _).mono ?_
 rintro e w7 ⟨rfl,rfl⟩
 go_wp2_with fail
 go_ret3
 exact⟨3,[],0,HO2.out,rfl,hb12⟩
end Go.Proofs.YtmdhainabeljpaaGreatDoor.Fr
