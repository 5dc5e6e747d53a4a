/- Texts put together:DG,DH,DI,DJ,DK,DL,DQ,SB. -/
import Derived.Test.YtpibhbjmcmfnmaaGreatDoorBag21
set_option linter.unusedVariables false
set_option maxRecDepth 100000
set_option maxHeartbeats 16000000
namespace Go.Proofs.YtpibhbjmcmfnmaaGreatDoor
open Go.RowKit Go.Shelf Tryz
namespace Fr
open Go.Lib
def Zr(x:Ln):Bool:=x.ended&&hasPrefix x.text [32]
theorem jbN:∀(h:List UInt8),(10:UInt8)∉h->sp false h=true/\xf false h=false
 | [],_=>⟨rfl,rfl⟩
 | c::h,hc=>by
  have hc1:c≠10:=fun e=>hc (e▸jno)
  have ih:=jbN h (fun q=>hc (jnm _ q))
  have e:(c==10)=false:=by simpa using hc1
  refine⟨by simp[sp,e,ih.1],?_⟩
  have:=ih.2
  unfold xf at *
  rw[List.getLast?_cons]
  cases hl:h.getLast? with
  | none=>simpa using hc1
  | some d=>rw[hl]at this;simpa using this
theorem jeG(h:List UInt8)(hc:(10:UInt8)∉h):sp true (h++[10])=hasPrefix h [32]:=by
 cases h with
 | nil=>rfl
 | cons c h =>
 have hc1:c≠10:=fun e=>hc (e▸jno)
 have h1:=jbN h (fun q=>hc (jnm _ q))
 have e:(c==10)=false:=by simpa using hc1
 rw[jny]
 unfold sp
 rw[e,qy,h1.1,h1.2]
 by_cases h32:c=32
 ·subst h32;rfl
 have e1:(c==32)=false:=by simpa using h32
 have e2:hasPrefix (c::h) [32]=((32==c)&&true):=by simp[hasPrefix,List.isPrefixOf]
 have e3:((32:UInt8)==c)=false:=by simpa using fun e=>h32 e.symm
 rw[e1,e2,e3];rfl
theorem xy:∀{l:List UInt8},(10:UInt8)∈head l->False
 | [],h=>by simp[head]at h
 | c::l,h=>by
  unfold head at h
  rw[joe]at h
  by_cases hc:c=10
  ·subst hc;simp at h
  have e:(c != 10)=true:=by simpa using hc
  rw[if_pos e]at h
  rcases List.mem_cons.1 h with h|h
  ·exact hc h.symm
  exact xy h
theorem Km:∀(n no at_:Nat) (l:List UInt8),l.length<=n->((jQ no at_ l).all Zr=true↔(sp true l=true/\(l=[]\/yr l=true)))
 | n,no,at_,l,hn=>by
  by_cases h0:l=[]
  ·subst h0;simp[jp,sp]
  rw[jx no at_ l h0,joZ]
  have hs:=zI l
  have hu:=qO l h0
  have hlen:=KL l
  have hc:(10:UInt8)∉head l:=by
   intro hm
   exact xy hm
  cases hnl:nl l with
  | false =>
   have h10:(10:UInt8)∉l:=by unfold nl at hnl;simpa using hnl
   have:yr l=false:=by
    unfold yr
    cases hg:l.getLast? with
    | none=>rfl
    | some c =>
    have:=List.mem_of_getLast? hg
    have:c≠10:=fun e=>h10 (e▸this)
    simpa using this
   simp[Zr,this,h0]
  | true =>
  match n,hn with
  | 0,hn=>exact absurd (jn7 (by omega)) h0
  | n+1,hn =>
  have ih:=Km n (no+1) (at_+qI l) (l.drop (qI l)) (by rw[jnr];omega)
  rw[hnl,if_pos rfl]at hs
  rw[jnv,ih]
  generalize l.drop (qI l)=r at *
  generalize hh:head l=h at *
  subst hs
  rw[qy,jeG h hc,QQ h [10] true (by simp)]
  have e2:xf true ([10]:List UInt8)=true:=rfl
  rw[e2]
  have e3:yr (h++[10]++r)=true↔(r=[]\/yr r=true):=by
   unfold yr
   rw[List.getLast?_append]
   cases hr:r.getLast? with
   | none=>rw[List.getLast?_eq_none_iff.1 hr];simp
   | some c =>
   have:r≠[]:=fun e=>by rw[e]at hr;cases hr
   simp[this]
  rw[e3]
  simp[Zr,and_assoc]
theorem jku(l:List UInt8):goodR l=(decide (2<=(l.length:Int)/\(l.length:Int)<=50000)&&(jf l).all Zr):=by
 rw[jod,good_iff,jnv]
 unfold jf
 rw[Km l.length 0 0 l (jnd _)]
 constructor
 ·rintro⟨a,b,c,d⟩
  exact⟨by simp;omega,d,.inr c⟩
 rintro⟨a,d,c⟩
 simp at a
 have:l≠[]:=by rintro rfl;simp at a
 exact⟨by omega,by omega,c.resolve_left this,d⟩
attribute [local go_sem] jnn
def jmO(w:World)(pre:List Ln)(W:World):Prop:=Boxed W w.heap.size 4 (.bool false)/\Below w.heap.size w W/\pre.all Zr=true
def jm9(w:World)(c:Code)(pre:List Ln)(W:World):Prop:=Boxed W w.heap.size 4 (.bool false)/\Below w.heap.size w W/\c=.ret/\pre.all Zr=false
theorem jfJ(w W:World)(b:Bool)(tmps:Array Value)(h:Boxed W w.heap.size 4 (.bool b))(hK:W.heap[w.heap.size+2]?=some (.deferred (some [])))(hB:Below w.heap.size w W)(t2:tmps[2]?=some (.pointer (some ⟨w.heap.size,0,none⟩))):
  bodyPostM Fence.wide 9 prog Tryz.f110 (fun e w'=>e=.returned (.bool b)/\Below w.heap.size w w') .ret {tmps:=tmps,defers:=[{target:=.collected (w.heap.size+2),args:=#[]}]} W:=by
 have p1:=grownBy_putObj' W (w.heap.size+2) (.deferred none)
 have zW:w.heap.size+2<W.heap.size:=(Array.getElem?_eq_some_iff.1 hK).1
 have r:Boxed (W.putObj (w.heap.size+2) (.deferred none)) w.heap.size 4 (.bool b):=(p1.block _ (by omega) (fun e=>by have:=jng e;omega)).trans h
 have c:=r.cell
 refine⟨by simp,.inl ⟨_,_,rfl,run_takeDeferred hK,?_⟩⟩
 exact⟨.bool b,by simp[results,Tryz.f110,go_sem,t2,c],rfl,hB.trans (belowK_b (w:=w) (jnd _) W _ _ _ (by omega) hK rfl rfl)⟩
theorem jh8(s:ByteArray)(hsz:s.size<=1000000)(w:World):
  Calls prog 110 #[.string s] w fun e w'=>e=.returned (.bool (goodR s.data.toList))/\Below w.heap.size w w':=by
 have hg:=jku s.data.toList
 rw[<- jnu]at hg
 have FT:=jnc (fits_any (s.size:Int))
 generalize goodR s.data.toList=g at *
 obtain⟨xs,hxs⟩:∃xs,jf s.data.toList=xs:=⟨_,rfl⟩
 rw[hxs]at hg
 have HXS:=jnc hxs
 have HH:=fun w b=>vf s b w
 rw[hxs]at HH
 clear hxs
 refine callsIn_wide (n:=9).1 ?_
 refine callsIn_of_wp_marks func110 rfl trivial ?_ rfl
 simp only[ntmps110,jnV,jni,jnG,Nat.reduceAdd,Nat.reduceSub,jn3,jn4,joa,jn5,jnU,jny]
 have k1:=joy w 4 (.bool false)
 have kb:Below w.heap.size w (w.alloc (.cells #[.bool false] 4)):=(jne _ w).alloc (jnd _) _
 cases hf:decide (2<=(s.size:Int)/\(s.size:Int)<=50000) with
 | false =>
  rw[hf]at hg FT
  simp only[Bool.false_and]at hg
  subst hg
  clear hf HH
  gi_wp2_with fail
  refine⟨trivial,(callsIn_wide.2 (FT.out _)).mono ?_⟩
  rintro e w3 ⟨rfl,rfl⟩
  gi_wp2
  have c:=k1.cell
  exact⟨.bool false,by simp[results,Tryz.f110,go_sem,c],rfl,kb⟩
 | true =>
 rw[hf]at hg FT
 simp only[joR]at hg
 clear hf
 gi_wp2_with fail
 refine⟨trivial,(callsIn_wide.2 (FT.out _)).mono ?_⟩
 rintro e w3 ⟨rfl,rfl⟩
 gi_wp2_with fail
 refine⟨trivial,(callsIn_wide.2 (yG s _)).mono ?_⟩
 rintro e w3 ⟨rfl,rfl⟩
 gi_wp2_with fail
 have k2:=xZ w (.cells #[.bool false] 4) 9 (.string s)
 have kb2:=kb.alloc (o:=.cells #[.string s] 9) kb.size
 have k1b:=k1.alloc (.cells #[.string s] 9)
 have kz:((w.alloc (.cells #[.bool false] 4)).alloc (.cells #[.string s] 9)).heap.size=w.heap.size+2:=by simp
 generalize (w.alloc (.cells #[.bool false] 4)).alloc (.cells #[.string s] 9)=w1 at *
 clear k1 kb FT
 have ab:∀k,k<=5->zN (w.heap.size+2) k (jmO w):=fun k hk pre W W' h ht =>
  ⟨ht.box h.1 (.inl (by omega)),h.2.1.trans (ht.below (by omega) h.2.1.size),h.2.2⟩
 refine vW (gf:=139) (lb:=#[.pointer (some ⟨w.heap.size+1,0,none⟩)]) rfl (enters_of func139 (by kernel_rfl) rfl) (HH w1 _ k2 (by omega)) (fun _=>rfl)
  (jmO w) (jm9 w) (by rw[kz];exact ab _ (by omega)) (fun c pre W W' h ht=>⟨ht.box h.1 (.inl (by rw[kz];omega)),h.2.1.trans (ht.below (by rw[kz];omega) h.2.1.size),h.2.2⟩) ⟨k1b,kb2,rfl⟩
  (fun a pre x a' W=>∃Bx,w.heap.size+2+5<=Bx/\a'={tmps:=(a.tmps.setIfInBounds 10 (.agg (vl x))).setIfInBounds 3 (.pointer (some ⟨Bx,0,none⟩)),defers:=[]}/\ja W Bx 164 (vl x)/\jmO w pre W)
  ?hM ?assign ?body ?done ?stop
 case hM =>
  rw[kz]
  rintro a pre x a' _ W W' ⟨Bx,h1,h2,h3,h4⟩ ht
  exact⟨Bx,h1,h2,(ht.same Bx h3.lt (.inr (by omega))).trans h3,ab 2 (by omega) pre W W' h4 ht⟩
 case assign =>
  rw[kz]
  intro l pre x post W hx hsz hi
  clear hx
  dsimp only[vl]
  gi_wp2
  exact⟨(vT.refl _ _ W).alloc hsz _,W.heap.size,by omega,rfl,ja.new _ _ _,hi.1.alloc _,hi.2.1.alloc hi.2.1.size _,hi.2.2⟩
 case body =>
  rw[kz]
  rintro l pre x post a' W hx hsz ⟨Bx,hB,rfl,hc,h1,h2,h3⟩
  clear hx
  simp only[jnq,jnM,jnN,vl]at hc ⊢
  have gx:Zr x=(x.ended&&Lib.hasPrefix x.text [32]):=rfl
  have gs:(pre++[x]).all Zr=Zr x:=by rw[jo0,h3];simp
  have c3:=h1.cell
  have f3:=h1.frozen
  have p2:W.cell? ⟨Bx,2,none⟩=some (.string ⟨x.text.toArray⟩):=hc.cell 2
  have p3:W.cell? ⟨Bx,3,none⟩=some (.bool x.ended):=hc.cell 3
  generalize x.ended=en at *
  cases en with
  | false =>
   gi_wp2_with fail
   refine⟨trivial,?_⟩
   gi_wp2
   exact⟨(vT.refl _ _ _).setCell (.inl (by show w.heap.size<_;omega)) _,joi _ h1,h2.setCell (p:=⟨w.heap.size,0,none⟩) (jnd _) _,rfl,by rw[gs,gx];rfl⟩
  | true =>
  gi_wp2_with fail
  refine⟨trivial,((callsIn_wide.2 (Tryz.strings_HasPrefix ⟨x.text.toArray⟩ ⟨#[32]⟩ W)).inRound l).mono ?_⟩
  rintro e V ⟨rfl,rfl⟩
  have eh:Lib.hasPrefix (⟨x.text.toArray⟩:ByteArray).data.toList (⟨#[32]⟩:ByteArray).data.toList=Lib.hasPrefix x.text [32]:=rfl
  rw[eh]
  rw[joR]at gx
  generalize Lib.hasPrefix x.text [32]=hp at *
  cases hp with
  | false =>
   gi_wp2
   exact⟨(vT.refl _ _ _).setCell (.inl (by show w.heap.size<_;omega)) _,joi _ h1,h2.setCell (p:=⟨w.heap.size,0,none⟩) (jnd _) _,rfl,by rw[gs,gx]⟩
  | true =>
  gi_wp2
  exact⟨vT.refl _ _ _,h1,h2,by rw[gs,gx]⟩
 case done =>
  rw[kz]
  rintro W ⟨h1,h2,h3⟩ hmark
  have zW:w.heap.size+2<W.heap.size:=(Array.getElem?_eq_some_iff.1 hmark).1
  have c3:=h1.cell
  have f3:=h1.frozen
  rw[h3]at hg
  subst hg
  gi_wp2
  exact jfJ w _ true _ (joi _ h1) ((jnE _ _ _ _ (by show w.heap.size+2≠w.heap.size;omega)).trans hmark) (h2.setCell (p:=⟨w.heap.size,0,none⟩) (jnd _) _) rfl
 case stop =>
 rw[kz]
 rintro c pre W hpre ⟨h1,h2,rfl,h3⟩ hmark
 have hg0:g=false:=by
  rw[hg]
  obtain⟨z,rfl⟩:=hpre
  rw[jo0,h3];rfl
 subst hg0
 gi_wp2
 exact jfJ w W false _ h1 hmark h2 rfl
theorem Ji(l:List UInt8)(hl:l.length<=1000000)(w:World):
  Calls prog 110 #[.string (B l)] w fun e w'=>e=.returned (.bool (goodR l))/\Below w.heap.size w w':=by
 have:=jh8 (B l) (by rw[jm];exact hl) w
 rwa [ju]at this
end Fr
namespace Fr
attribute [local go_sem] jnn
theorem jjd(X:List UInt8)(i j:Nat):(B X).extract i j=B ((X.drop i).take (j-i)):=by
 apply joA
 apply Array.toList_inj.1
 rw[joX,ju,ju]
theorem ext_drop(X:List UInt8)(i:Nat):(B X).extract i (B X).size=B (X.drop i):=by
 rw[jjd,jm,jnD (by simp)]
theorem ext_take(X:List UInt8)(j:Nat):(B X).extract 0 j=B (X.take j):=by rw[jjd];simp
theorem jfb{l:List UInt8}{c:UInt8}(h:c∉l):∀x∈l,(x != c)=true:=fun x hx=>by
 have:x≠c:=fun e=>h (by rw[<- e];exact hx)
 simpa using this
theorem jcu(l:List UInt8)(c:UInt8)(hl:l.length<=1000000)(w:World):
  Calls prog 104 #[.string (B l),.string ⟨#[c]⟩] w fun e w' =>
   e=.returned (.tuple #[.string (B (l.takeWhile (· != c))),.string (B (l.drop ((l.takeWhile (· != c)).length+1))),.bool (l.contains c)])/\Below w.heap.size w w':=by
 by_cases h:c∈l
 ·refine(WR (B l) c w (by rw[jm];unfold maxLen;omega) (by rw[ju];exact h)).mono ?_
  rintro e w' ⟨rfl,n,rfl⟩
  refine⟨?_,⟨rfl,rfl,rfl,jnd _,fun _ _=>rfl⟩⟩
  have hp:l.take (l.takeWhile (· != c)).length=l.takeWhile (· != c):=(List.prefix_iff_eq_take.1 (jou _)).symm
  rw[ju,ext_drop,ext_take,hp]
  simp[h]
 refine(jcr (B l) c w (by rw[ju];exact h)).mono ?_
 rintro e w' ⟨rfl,n,rfl⟩
 refine⟨?_,⟨rfl,rfl,rfl,jnd _,fun _ _=>rfl⟩⟩
 have hp:l.takeWhile (· != c)=l:=vO (jfb h)
 rw[hp,jn6 (by omega)]
 simp[h];rfl
def jhF(l:List UInt8):List UInt8:=(Lib.trimPrefix l AMD).takeWhile (· != 32)
def jdG(l:List UInt8):List UInt8:=(Lib.trimPrefix l AMD).drop ((jhF l).length+1)
def jcD(l:List UInt8):Int:=qX (jhF l)
def jen(l:List UInt8):Bool:=(Sm.takes (jdG l)).isSome&&decide (2<=jcD l/\jcD l<=50000)&&decide (zn (jcD l).toNat (jdG l)=l)
theorem jgG{l:List UInt8}{n:Nat}{f:List UInt8}(h:jaB l n f):jen l=true/\jcD l=n:=by
 have e1:Lib.trimPrefix l AMD=Lib.decDigits n++32::f:=by
  rw[h.eq];unfold zn Lib.trimPrefix
  have:Lib.hasPrefix (AMD++(Lib.decDigits n++32::f)) AMD=true:=by unfold Lib.hasPrefix;rw[joU];exact List.prefix_append _ _
  rw[if_pos this,joW]
 have e2:jhF l=Lib.decDigits n:=by
  unfold jhF
  rw[e1,jo5 (jfb (WK n))]
  simp
 have e3:jdG l=f:=by unfold jdG;rw[e2,e1,<- joJ,joW];rfl
 have hn:I64 (n:Int):=by have:=h.hi;unfold I64;omega
 have e4:jcD l=n:=by unfold jcD;rw[e2,<- Lib.itoa_nonneg,yO hn]
 have h2:=h.lo
 have h5:=h.hi
 obtain⟨x,hx⟩:=h.fig
 refine⟨?_,e4⟩
 unfold jen
 rw[e4,e3,hx,h.eq]
 simp;omega
theorem Xe{l:List UInt8}(h:jen l=true):∃n f,jaB l n f:=by
 unfold jen at h
 simp only[jnv,decide_eq_true_eq]at h
 obtain⟨⟨h1,h2,h3⟩,h4⟩:=h
 obtain⟨x,hx⟩:=Option.isSome_iff_exists.1 h1
 exact⟨(jcD l).toNat,jdG l,by omega,by omega,⟨x,hx⟩,h4.symm⟩
theorem jcE{l:List UInt8}:jen l=true↔∃n f,jaB l n f:=⟨Xe,fun⟨_,_,h⟩=>(jgG h).1⟩
theorem jha(s:List UInt8):Sm.takeV s=.tuple #[.int .u32 ((Sm.takes s).getD 0:Nat),.bool (Sm.takes s).isSome]:=by
 cases h:Sm.takes s with
 | none=>rw[Sm.takeV_not h];rfl
 | some n=>rw[Sm.takeV_of h];rfl
theorem ZH(l:List UInt8)(hl:l.length<=900000)(w:World)(ht:TabsN w):
  Calls prog 107 #[.string (B l)] w fun e w'=>e=.returned (.tuple #[.int .i64 (jcD l),.bool (jen l)])/\Below w.heap.size w w':=by
 have T1:=jnc (Tryz.strings_TrimPrefix (B l) (B AMD) w)
 have hp:(Lib.trimPrefix l AMD).length<=900000:=jns (Lib.trimPrefix_le l AMD) hl
 have C1:=jnc (fun w=>jcu (Lib.trimPrefix l AMD) 32 (by omega) w)
 have e1:(Lib.trimPrefix l AMD).takeWhile (· != 32)=jhF l:=rfl
 have e2:(Lib.trimPrefix l AMD).drop ((jhF l).length+1)=jdG l:=rfl
 have hn:(jhF l).length<=900000:=jns (List.takeWhile_sublist _).length_le hp
 have hf:(jdG l).length<=900000:=by rw[<- e2,jnr];omega
 have K1:=jnc (fun w=>Sm.take_any (B (jdG l)) w (by rw[jm];unfold maxLen;omega))
 have A1:=jnc (fun w ht=>atoi_any (jhF l) (by omega) w ht)
 have F1:=jnc (fits_any (jcD l))
 have hm:qX (jhF l)=jcD l:=rfl
 rw[hm]at A1
 rw[e1,e2]at C1
 simp only[jha,ju]at K1
 simp only[ju]at T1
 have e3:(⟨(Lib.trimPrefix l AMD).toArray⟩:ByteArray)=B (Lib.trimPrefix l AMD):=rfl
 rw[e3]at T1
 have hb:jen l=((Sm.takes (jdG l)).isSome&&decide (2<=jcD l/\jcD l<=50000)&&decide (zn (jcD l).toNat (jdG l)=l)):=rfl
 have H1:=jnc (fun(n:Nat) (h:n<=50000) w ht=>Wq n (by omega) (jdG l) (by omega) w ht)
 have ba:(⟨#[37,97,109,101,110,100,32]⟩:ByteArray)=B AMD:=rfl
 have same:∀x:List UInt8,((B x).toList==(B l).toList)=decide (x=l):=fun x=>by rw[jn0,jn0,ju,ju,jod];simp
 generalize (Sm.takes (jdG l)).getD 0=tv at *
 generalize (Sm.takes (jdG l)).isSome=tb at *
 generalize jcD l=m at *
 generalize jen l=q at *
 clear e1 e2 hm hn hp e3
 go_enter func107,ntmps107
 rw[ba]
 go_wp2_with fail
 refine T1.out.mono ?_
 rintro e w1 ⟨rfl,rfl⟩
 go_wp2_with fail
 refine(C1.out _).mono ?_
 rintro e w1 ⟨rfl,hb1⟩
 go_wp2_with fail
 refine(K1.out _).mono ?_
 rintro e w2 ⟨rfl,rfl⟩
 go_wp2_with fail
 refine(A1.out _ (ht.below hb1 (jnd _))).mono ?_
 rintro e w3 ⟨⟨T,v,he⟩,hb3⟩
 have ht3:=(ht.below hb1 (jnd _)).below hb3 (jnd _)
 have hb13:=hb1.trans (hb3.mono hb1.size)
 rcases he with rfl|rfl
 all_goals
  cases tb with
  | false =>
   simp only[Bool.false_and]at hb
   subst hb
   go_wp2_with fail
   go_ret2
   exact⟨rfl,hb13⟩
  | true =>
  cases hf:decide (2<=m/\m<=50000) with
  | false =>
   rw[hf]at hb F1
   simp only[joR,Bool.false_and]at hb
   subst hb
   go_wp2_with fail
   refine(F1.out _).mono ?_
   rintro e w4 ⟨rfl,rfl⟩
   go_wp2_with fail
   go_ret2
   exact⟨rfl,hb13⟩
  | true =>
  rw[hf]at hb F1
  have hf':=of_decide_eq_true hf
  obtain⟨n,rfl⟩:∃n:Nat,m=n:=⟨m.toNat,by omega⟩
  simp only[joR,jox]at hb
  go_wp2_with fail
  refine(F1.out _).mono ?_
  rintro e w4 ⟨rfl,rfl⟩
  go_wp2_with fail
  refine(H1.out n (by omega) _ ht3).mono ?_
  rintro e w4 ⟨rfl,hb4⟩
  go_wp2_with fail
  go_ret2
  exact⟨by rw[hb];rfl,hb13.trans (hb4.mono hb13.size)⟩
theorem jmx:B qh=B (zn 50000 Jy):=by rw[Kd]
theorem Xs(l:List UInt8)(hl:l.length<=800000)(w:World)(ht:TabsN w):
  Calls prog 106 #[.string (B l)] w fun e w'=>∃q:Bool,(q=true↔vU l)/\e=.returned (.bool q)/\Below w.heap.size w w':=by
 have H1:=jnc (Wq 50000 (by omega) Jy (by decide) w ht)
 rw[<- jmx]at H1
 have zs:(⟨#[48,48,48,48,48,48,48,48]⟩:ByteArray)=B Jy:=rfl
 have ls:(B qh).size=21:=rfl
 have bl:=jm l
 by_cases h21:21<l.length
 ·have hno:¬vU l:=fun h=>by have:=jhx h;omega
  have q1:(21:Int)<((B l).size:Int):=by rw[bl];omega
  go_enter func106,ntmps106
  rw[zs]
  go_wp2_with fail
  refine H1.out.mono ?_
  rintro e w1 ⟨rfl,hb1⟩
  go_wp2_with fail
  go_ret
  exact⟨false,by simp[hno],rfl,hb1⟩
 have q1:¬(21:Int)<((B l).size:Int):=by rw[bl];omega
 have bs:(B l).size<=21:=by rw[bl];omega
 have hp:=jdy (l:=l)
 have A1:=jnc (fun k w ht=>ZH (l++qh.drop k) (by rw[jnf,jnr];have:qh.length=21:=rfl;omega) w ht)
 have E1:Hid (∀k,B l++(B qh).extract k 21=B (l++qh.drop k)):=fun k=>by
  have:=ext_drop qh k
  rw[ls]at this
  rw[this,jZ]
 generalize hL:B qh=L at *
 go_enter func106,ntmps106
 rw[zs]
 go_wp2_with fail
 refine H1.out.mono ?_
 rintro e w1 ⟨rfl,hb1⟩
 go_wp2_with fail
 go_loopw [16] (fun i wr=>∃k:Nat,k<=22/\i=.int .i64 k/\Below w.heap.size w wr/\∀j,j<k->jen (l++qh.drop j)=false) (fun i _=>22-(intOf i).toNat)
 case atStart=>exact⟨0,by omega,rfl,hb1,fun j hj=>by omega⟩
 case round =>
 obtain⟨k,hk,rfl,hb,hj⟩:=hrel
 have HJ:=jnc hj
 clear hj
 by_cases hlt:k<22
 ·have hk2:(k:Int)<=21:=by omega
  go_wp2_with fail
  rw[E1.out k]
  refine(A1.out k _ (ht.below hb (jnd _))).mono ?_
  rintro e w2 ⟨rfl,hb2⟩
  have hb':=hb.trans (hb2.mono hb.size)
  cases hq:jen (l++qh.drop k) with
  | true =>
   have hyes:vU l:=hp.2 ⟨k,by omega,Xe hq⟩
   clear hq
   go_wp2_with fail
   go_ret
   exact⟨true,by simp[hyes],rfl,hb'⟩
  | false =>
  have HN:Hid (∀j,j<k+1->jen (l++qh.drop j)=false):=by
   intro j hj
   by_cases e:j=k
   ·rw[e];exact hq
   exact HJ.out j (by omega)
  clear hq
  go_wp2_with fail
  go_roundw
  case rel=>exact⟨k+1,by omega,by go_num,hb',HN.out⟩
  case measure=>simp[intOf];omega
 obtain rfl:k=22:=by omega
 go_wp2_with fail
 go_ret
 refine⟨false,?_,rfl,hb⟩
 rw[hp]
 constructor
 ·intro h;cases h
 rintro⟨j,hj,n,f,h⟩
 have:=jcE.2 ⟨n,f,h⟩
 rw[HJ.out j (by omega)]at this
 cases this
theorem Wd(k:Nat):Lib.repeatL [32] k=List.replicate k 32:=by
 induction k with
 | zero=>rfl
 | succ k ih=>rw[List.replicate_succ,<- ih];rfl
theorem Xu(t:List UInt8)(n:Nat)(h2:2<=n)(h5:n<=50000)(hl:t.length<n)(w:World):
  Calls prog 108 #[.string (B t),.int .i64 (n:Int)] w fun e w'=>e=.returned (.bool (yu t n))/\Below w.heap.size w w':=by
 have bt:=jm t
 have e10:(B [32]).size=1:=rfl
 have hc0:(B [32]).size*(n-t.length-1)<=140737488355328:=by simp only[e10];omega
 have R1:=jnc (Tryz.strings_Repeat (B [32]) (n-t.length-1) w (by omega) hc0)
 have G1:=jnc (fun w=>Ji (t++(List.replicate (n-t.length-1) 32++[10])) (by simp;omega) w)
 have hk:((n-t.length-1:Nat):Int)=(n:Int)-(t.length:Int)-1:=by omega
 rw[hk,ju,Wd,show(⟨(List.replicate (n-t.length-1) (32:UInt8)).toArray⟩:ByteArray)=B (List.replicate (n-t.length-1) 32) from rfl]at R1
 have E1:Hid (B t++B (List.replicate (n-t.length-1) 32) ++ ⟨#[10]⟩=B (t++(List.replicate (n-t.length-1) 32++[10]))):=by
  show _=_
  rw[show(⟨#[10]⟩:ByteArray)=B [10] from rfl,jZ,jZ,jnx]
 have s1:(B (List.replicate (n-t.length-1) 32)).size<=50000:=by rw[jm];simp;omega
 have s2:(B t++B (List.replicate (n-t.length-1) 32)).size<=100000:=by rw[joj];omega
 have s0:(B t).size<=50000:=by omega
 simp only[jgu h2 h5 hl]at G1
 have z1:(⟨#[32]⟩:ByteArray)=B [32]:=rfl
 have w1:IntKind.i64.wrap ((n:Int)-(t.length:Int))=(n:Int)-(t.length:Int):=jn1 _ (by omega)
 have w2:IntKind.i64.wrap ((n:Int)-(t.length:Int)-1)=(n:Int)-(t.length:Int)-1:=jn1 _ (by omega)
 generalize B (List.replicate (n-t.length-1) 32)=R at *
 generalize yu t n=q at *
 clear hk
 rw[<- bt]at w1 w2 R1
 generalize hX:B t=X at *
 clear bt hX
 go_enter func108,ntmps108
 rw[z1]
 go_wp2_with fail
 refine R1.out.mono ?_
 rintro e w3 ⟨rfl,hb1⟩
 go_wp2_with fail
 rw[E1.out]
 refine(G1.out _).mono ?_
 rintro e w4 ⟨rfl,hb2⟩
 go_wp2_with fail
 go_ret
 exact⟨rfl,hb1.trans (hb2.mono hb1.size)⟩
def Wu(t:List UInt8)(n:Nat):Bool := !(decide (t=qt n))&&Lib.hasPrefix (qt n) t
theorem jfO{t:List UInt8}{n:Nat}:Wu t n=true↔∃z,t++z=qt n/\z≠[]:=by
 unfold Wu Lib.hasPrefix
 simp only[jnv,jpt,decide_eq_false_iff_not,joU]
 constructor
 ·rintro⟨h1,z,h2⟩
  exact⟨z,h2,fun e=>h1 (by rw[<- h2,e];simp)⟩
 rintro⟨z,h2,h3⟩
 refine⟨fun e => ?_,z,h2⟩
 rw[e]at h2
 exact h3 (by simpa using h2)
theorem Xt(t:List UInt8)(n:Nat)(h5:n<=50000)(w:World)(ht:TabsN w):
  Calls prog 111 #[.string (B t),.int .i64 (n:Int)] w fun e w'=>e=.returned (.bool (Wu t n))/\Below w.heap.size w w':=by
 have F1:=jnc (jcf n (by omega) w ht)
 have P1:=jnc (fun w=>Tryz.strings_HasPrefix (B (qt n)) (B t) w)
 simp only[ju]at P1
 have same:((B t).toList==(B (qt n)).toList)=decide (t=qt n):=by rw[jn0,jn0,ju,ju,jod];simp
 have hq:Wu t n=(!(decide (t=qt n))&&Lib.hasPrefix (qt n) t):=rfl
 generalize Wu t n=q at *
 generalize Lib.hasPrefix (qt n) t=p at *
 generalize decide (t=qt n)=d at *
 generalize B (qt n)=f at *
 generalize B t=X at *
 cases d with
 | true =>
  go_enter func111,ntmps111
  go_wp2_with fail
  refine F1.out.mono ?_
  rintro e w1 ⟨rfl,hb1⟩
  go_wp2_with fail
  go_ret
  exact⟨by rw[hq];rfl,hb1⟩
 | false =>
 go_enter func111,ntmps111
 go_wp2_with fail
 refine F1.out.mono ?_
 rintro e w1 ⟨rfl,hb1⟩
 go_wp2_with fail
 refine(P1.out _).mono ?_
 rintro e w2 ⟨rfl,rfl⟩
 go_wp2_with fail
 go_ret
 exact⟨by rw[hq];rfl,hb1⟩
theorem jmn(a:ByteArray)(w:World):Sm.Strs (w.alloc (.cells #[.string a] 9)) (.slice (some ⟨w.heap.size,0,none⟩) 1 1) [a]:=by
 refine⟨_,1,rfl,?_⟩
 intro i s h
 refine⟨w.heap.size,0,rfl,by simp,?_⟩
 rw[joF _ _ _ _ rfl]
 match i,h with
 | 0,h=>simp at h;subst h;rfl
 | n+1,h=>simp at h
theorem jhc(a:ByteArray)(ha:a.size<=maxLen)(w:World):
  Calls prog 125 #[.slice (some ⟨w.heap.size,0,none⟩) 1 1] (w.alloc (.cells #[.string a] 9)) fun e w'=>e=.returned (.int .u32 (Sm.M.crc a.data.toList:Nat))/\Below w.heap.size w w' :=
 (Sm.sum_any _ [a] _ (jmn a w) (by simp[maxLen]) (fun i s h=>by
  match i,h with
  | 0,h=>simp at h;subst h;exact ha
  | n+1,h=>simp at h)).mono fun e w' ⟨he,hb⟩=>⟨by rw[he];simp[Sm.cat,Sm.M.crc],((jne _ _).alloc (jnd _) _).trans (hb.mono (by simp))⟩
theorem jfL{b:List UInt8}(hg:goodR b=true):(fullR b).length=b.length+27+2*(Lib.decDigits b.length).length-4:=by
 have:=YQ (vt b)
 unfold fullR recR zn qt AMD END
 simp;omega
theorem full_le{b:List UInt8}(hg:goodR b=true):(fullR b).length<=50100:=by
 obtain⟨h2,h5,_,_⟩:=good_iff.1 hg
 have:=Vr (show b.length<=99999 by omega)
 have:=jfL hg
 omega
theorem record_yes(l:List UInt8)(hg:goodR l=true)(w:World)(ht:TabsN w):
  Calls prog 86 #[.string (B l)] w fun e w'=>e=.returned (.tuple #[.string (B (fullR l)),.nilIface])/\Below w.heap.size w w':=by
 obtain⟨h2,h5,_,_⟩:=good_iff.1 hg
 have bl:=jm l
 have G1:=jnc (Ji l (by omega) w)
 rw[hg]at G1
 have S1:=jnc (fun w=>jhc (B l) (by rw[bl];unfold maxLen;omega) w)
 simp only[ju]at S1
 have F1:=jnc (fun w=>Sm.figures_any (Sm.M.crc l) (Sm.M.crc_lt l) w)
 have eF:Sm.figs (Sm.M.crc l)=B (yL l):=(jjr _).symm
 simp only[eF]at F1
 have H1:=jnc (fun w ht=>Wq l.length (by omega) (yL l) (by rw[YQ (vt l)];omega) w ht)
 have T1:=jnc (fun w ht=>jcf l.length (by omega) w ht)
 have hh:(zn l.length (yL l)).length<=30:=by
  have:=YQ (vt l)
  have:=Vr (show l.length<=99999 by omega)
  unfold zn AMD;simp;omega
 have E1:Hid (B (zn l.length (yL l)) ++ ⟨#[10]⟩++B l++B (qt l.length)=B (fullR l)):=by
  show _=_
  rw[show(⟨#[10]⟩:ByteArray)=B [10] from rfl,jZ,jZ,jZ]
  congr 1
  unfold fullR;rw[vj];simp
 have s1:(B (zn l.length (yL l))).size<=30:=by rw[jm];exact hh
 have s2:(B (zn l.length (yL l)) ++ ⟨#[10]⟩).size<=31:=by rw[joj];show _+1<=_;omega
 have s3:(B (zn l.length (yL l)) ++ ⟨#[10]⟩++B l).size<=60000:=by rw[joj];omega
 have s4:(B (qt l.length)).size<=30:=by
  have:=Vr (show l.length<=99999 by omega)
  rw[jm];unfold qt END;simp;omega
 have s0:(B l).size<=50000:=by omega
 generalize B (zn l.length (yL l))=X at *
 generalize B (qt l.length)=Y at *
 generalize B (yL l)=Z at *
 rw[<- bl]at H1 T1
 generalize hL:B l=L at *
 clear hL bl hg hh
 go_enter func86,ntmps86
 go_wp2_with fail
 refine G1.out.mono ?_
 rintro e w1 ⟨rfl,hb1⟩
 go_wp2_with fail
 refine(S1.out _).mono ?_
 rintro e w2 ⟨rfl,hb2⟩
 have hb12:=hb1.trans (hb2.mono hb1.size)
 go_wp2_with fail
 refine(F1.out _).mono ?_
 rintro e w3 ⟨rfl,hb3⟩
 have hb13:=hb12.trans (hb3.mono hb12.size)
 go_wp2_with fail
 refine(H1.out _ (ht.below hb13 (jnd _))).mono ?_
 rintro e w4 ⟨rfl,hb4⟩
 have hb14:=hb13.trans (hb4.mono hb13.size)
 go_wp2_with fail
 refine(T1.out _ (ht.below hb14 (jnd _))).mono ?_
 rintro e w5 ⟨rfl,hb5⟩
 have hb15:=hb14.trans (hb5.mono hb14.size)
 go_wp2_with fail
 go_ret2
 exact⟨by rw[<- E1.out];rfl,hb15⟩
theorem jeZ(l:List UInt8)(hl:l.length<=1000000)(hg:goodR l=false)(w:World):
  Calls prog 86 #[.string (B l)] w fun e w'=>e=.returned (.tuple #[.string (B []),qm 2])/\Below w.heap.size w w':=by
 have G1:=jnc (Ji l hl w)
 rw[hg]at G1
 go_enter func86,ntmps86
 go_wp2_with fail
 refine G1.out.mono ?_
 rintro e w1 ⟨rfl,hb1⟩
 go_wp2_with fail
 go_ret2
 exact⟨rfl,hb1⟩
def jaE(n:Int):Int:=if 2<=n/\n<=50000 then ((zn n.toNat Jy).length:Int)+1+n+((qt n.toNat).length:Int) else 0
theorem Ge{t:List UInt8}(h:xu t):yQ t 2 [] 0:=.inr (.inl ⟨h,rfl,rfl,rfl⟩)
theorem Zk{t:List UInt8}(h:¬xu t)(h2:¬∃b,vN t b):yQ t 3 [] 0:=.inr (.inr ⟨h,h2,rfl,rfl,rfl⟩)
theorem jdn{l:List UInt8}(h:(10:UInt8)∈l):l=head l++10::l.drop ((head l).length+1):=by
 have:=zI l
 have hn:nl l=true:=by unfold nl;simpa using h
 unfold qI at this
 rw[hn,if_pos rfl,if_pos rfl]at this
 simpa using this
def readV(k:Nat)(b:List UInt8)(n:Nat):Ending:=.returned (.tuple #[.int .i64 (k:Int),.string (B b),.int .i64 (n:Int)])
theorem read_any(l:List UInt8)(hl:l.length<=700000)(w:World)(ht:TabsN w):
  Calls prog 77 #[.string (B l)] w fun e w'=>∃k b n,yQ l k b n/\e=readV k b n/\Below w.heap.size w w':=by
 have C1:=jnc (jcu l 10 (by omega) w)
 by_cases h10:(10:UInt8)∈l
 ·have hc:l.contains 10=true:=by simpa using h10
  have hln:(10:UInt8)∉head l:=xy
  have hs:=jdn h10
  have eh:l.takeWhile (· != 10)=head l:=rfl
  rw[hc,eh]at C1
  have hh:(head l).length<=700000:=by have:=jkt l;omega
  have A1:=jnc (fun w ht=>ZH (head l) (by omega) w ht)
  generalize head l=line at *
  generalize l.drop (line.length+1)=r at *
  clear hc eh
  have hr:r.length<=700000:=by have:=congrArg List.length hs;simp at this;omega
  cases hq:jen line with
  | false =>
   have HO:Hid (yQ l 3 [] 0):=by
    have h:=jhE (r:=r) hln (fun h=>by have:=jcE.2 h;rw[hq]at this;cases this)
    rw[<- hs]at h
    exact Zk h.1 h.2
   rw[hq]at A1
   clear hq hs hln hr
   go_enter func77,ntmps77
   go_wp2_with fail
   refine C1.out.mono ?_
   rintro e w1 ⟨rfl,hb1⟩
   go_wp2_with fail
   refine(A1.out _ (ht.below hb1 (jnd _))).mono ?_
   rintro e w2 ⟨rfl,hb2⟩
   go_wp2_with fail
   go_ret3
   exact⟨3,[],0,HO.out,rfl,hb1.trans (hb2.mono hb1.size)⟩
  | true =>
  obtain⟨n,f,hH⟩:=Xe hq
  obtain⟨_,hM⟩:=jgG hH
  rw[hq,hM]at A1
  have h2:=hH.lo
  have h5:=hH.hi
  have hfig:=hH.fig
  have hle:=hH.eq
  clear hq hM
  by_cases hlt:r.length<n
  ·have hlt':((B r).size:Int)<n:=by rw[jm];omega
   have HS:=jnc (jc2 (f:=f) h2 h5 hfig hlt)
   rw[<- hle,<- hs]at HS
   have BB:=jnc (fun w=>Xu r n h2 h5 hlt w)
   generalize yu r n=q at *
   clear hs hle hH hln hfig hlt hr
   generalize B r=R at *
   cases q with
   | true =>
    have HO:Hid (yQ l 2 [] 0):=Ge (HS.out.1.2 rfl)
    go_enter func77,ntmps77
    go_wp2_with fail
    refine C1.out.mono ?_
    rintro e w1 ⟨rfl,hb1⟩
    go_wp2_with fail
    refine(A1.out _ (ht.below hb1 (jnd _))).mono ?_
    rintro e w2 ⟨rfl,hb2⟩
    have hb12:=hb1.trans (hb2.mono hb1.size)
    go_wp2_with fail
    refine(BB.out _).mono ?_
    rintro e w3 ⟨rfl,hb3⟩
    have hb13:=hb12.trans (hb3.mono hb12.size)
    go_wp2_with fail
    refine(ZU _).mono ?_
    rintro e w4 ⟨rfl,rfl⟩
    go_wp2_with fail
    go_ret3
    exact⟨2,[],0,HO.out,rfl,hb13⟩
   | false =>
   have HO:Hid (yQ l 3 [] 0):=Zk (fun h=>by cases HS.out.1.1 h) HS.out.2
   go_enter func77,ntmps77
   go_wp2_with fail
   refine C1.out.mono ?_
   rintro e w1 ⟨rfl,hb1⟩
   go_wp2_with fail
   refine(A1.out _ (ht.below hb1 (jnd _))).mono ?_
   rintro e w2 ⟨rfl,hb2⟩
   have hb12:=hb1.trans (hb2.mono hb1.size)
   go_wp2_with fail
   refine(BB.out _).mono ?_
   rintro e w3 ⟨rfl,hb3⟩
   have hb13:=hb12.trans (hb3.mono hb12.size)
   go_wp2_with fail
   refine(Zl _).mono ?_
   rintro e w4 ⟨rfl,rfl⟩
   go_wp2_with fail
   go_ret3
   exact⟨3,[],0,HO.out,rfl,hb13⟩
  have br:=jm r
  have hlt':¬((B r).size:Int)<n:=by rw[br];omega
  have hnr:(n:Int)<=(B r).size:=by rw[br];omega
  have x1:(B r).extract 0 n=B (r.take n):=ext_take r n
  have x2:(B r).extract n (B r).size=B (r.drop n):=ext_drop r n
  have hb0:(r.take n).length=n:=by simp;omega
  have hrd:r.take n++r.drop n=r:=jnQ n r
  have HL:=jnc (Yv (f:=f) (b:=r.take n) (r:=r.drop n) h2 h5 hfig hb0)
  rw[hrd,<- hle,<- hs]at HL
  generalize hbd:r.take n=bd at *
  generalize hrs:r.drop n=rs at *
  have HF:=jnc (fun w ht=>Xt rs n h5 w ht)
  have HFB:=jnc (jfO (t:=rs) (n:=n))
  have P1:=jnc (fun w=>Tryz.strings_HasPrefix (B l) (B (fullR bd)) w)
  have RN:=jnc (jeZ bd (by omega))
  have RY:=jnc (record_yes bd)
  have GD:=jnc (fun w=>Ji bd (by omega) w)
  have hel:l=zn n f++10::(bd++rs):=by rw[hrd,<- hle];exact hs
  clear hbd hrs hrd hs hlt hr hle
  have bsz:(B bd).size<=50000:=by rw[jm];omega
  have HX:=jnc x1
  have HY:=jnc x2
  clear x1 x2 br
  generalize B r=R at *
  generalize hBD:B bd=BD at *
  generalize B rs=RS at *
  have hl1:l.length<=700000:=hl
  cases hg:goodR bd with
  | false =>
   have RN2:=jnc (RN.out hg)
   have GD2:=GD.out
   rw[hg]at GD2
   have GD3:=jnc GD2
   have HO:Hid (yQ l 3 [] 0):=Zk (fun h=>by have:=(HL.out.1.1 h).1;rw[hg]at this;cases this) (fun⟨b',h⟩=>by have:=((HL.out.2 b').1 h).2.1;rw[hg]at this;cases this)
   clear GD2 GD RY RN hg hH hln hfig hel hl hl1 P1 HL HF HFB
   go_enter func77,ntmps77
   go_wp2_with fail
   refine C1.out.mono ?_
   rintro e w1 ⟨rfl,hb1⟩
   go_wp2_with fail
   refine(A1.out _ (ht.below hb1 (jnd _))).mono ?_
   rintro e w2 ⟨rfl,hb2⟩
   have hb12:=hb1.trans (hb2.mono hb1.size)
   go_wp2_with fail
   go_quiet (fail)
   go_wp2_with fail
   rw[HX.out,HY.out]
   have hbq:Below w.heap.size w (w2.drewN nq):=⟨hb12.os,hb12.tape,hb12.output,hb12.size,hb12.block⟩
   have htq:=ht.below hbq (jnd _)
   generalize w2.drewN nq=w3 at *
   refine(RN2.out _).mono ?_
   rintro e w4 ⟨rfl,hb4⟩
   have hb14:=hbq.trans (hb4.mono hbq.size)
   rw[GT]
   go_wp2_with fail
   refine(GD3.out _).mono ?_
   rintro e w5 ⟨rfl,hb5⟩
   have hb15:=hb14.trans (hb5.mono hb14.size)
   go_wp2_with fail
   refine(Zl _).mono ?_
   rintro e w7 ⟨rfl,rfl⟩
   go_wp2_with fail
   go_ret3
   exact⟨3,[],0,HO.out,rfl,hb15⟩
  | true =>
  have RY2:=jnc (RY.out hg)
  have GD2:=GD.out
  rw[hg]at GD2
  have GD3:=jnc GD2
  clear GD2 GD RY RN
  have fl:=full_le hg
  have e1:Lib.hasPrefix (B l).data.toList (B (fullR bd)).data.toList=Lib.hasPrefix l (fullR bd):=by rw[ju,ju]
  have fs:=jm (fullR bd)
  generalize hFB:B (fullR bd)=FB at *
  cases hp:Lib.hasPrefix l (fullR bd) with
  | true =>
   have HO:Hid (yQ l 1 bd (fullR bd).length):=by
    refine .inl ⟨⟨hg,?_⟩,rfl,rfl⟩
    unfold Lib.hasPrefix at hp
    obtain⟨z,hz⟩:=List.isPrefixOf_iff_prefix.1 hp
    exact⟨z,hz.symm⟩
   have P2:=P1.out
   rw[e1,hp]at P2
   have P3:=jnc P2
   clear hp hg e1 hH hln hfig hel hl hl1 P1 P2 HL HF HFB GD3
   rw[<- fs]at HO
   clear fs hFB
   go_enter func77,ntmps77
   go_wp2_with fail
   refine C1.out.mono ?_
   rintro e w1 ⟨rfl,hb1⟩
   go_wp2_with fail
   refine(A1.out _ (ht.below hb1 (jnd _))).mono ?_
   rintro e w2 ⟨rfl,hb2⟩
   have hb12:=hb1.trans (hb2.mono hb1.size)
   go_wp2_with fail
   go_quiet (fail)
   go_wp2_with fail
   rw[HX.out,HY.out]
   have hbq:Below w.heap.size w (w2.drewN nq):=⟨hb12.os,hb12.tape,hb12.output,hb12.size,hb12.block⟩
   have htq:=ht.below hbq (jnd _)
   generalize w2.drewN nq=w3 at *
   refine(RY2.out _ htq).mono ?_
   rintro e w4 ⟨rfl,hb4⟩
   have hb14:=hbq.trans (hb4.mono hbq.size)
   go_wp2_with fail
   refine(P3.out _).mono ?_
   rintro e w5 ⟨rfl,rfl⟩
   go_wp2_with fail
   go_ret3
   exact⟨1,bd,FB.size,HO.out,by rw[<- hBD];rfl,hb14⟩
  | false =>
  have P2:=P1.out
  rw[e1,hp]at P2
  have P3:=jnc P2
  have hw:¬∃b,vN l b:=by
   rintro⟨b',h'⟩
   obtain⟨rfl,_,_,_⟩:=(HL.out.2 b').1 h'
   obtain⟨_,more,e⟩:=h'
   have:Lib.hasPrefix l (fullR b')=true:=by unfold Lib.hasPrefix;rw[joU];exact⟨more,e.symm⟩
   rw[hp]at this;cases this
  have hpt:xu l↔Wu rs n=true:=by
   rw[HL.out.1,HFB.out]
   exact⟨fun h=>h.2,fun h=>⟨hg,h⟩⟩
  have HO:=jnc (show(Wu rs n=true->yQ l 2 [] 0)/\(Wu rs n=false->yQ l 3 [] 0) from
   ⟨fun h=>Ge (hpt.2 h),fun h=>Zk (fun h'=>by rw[hpt.1 h']at h;cases h) hw⟩)
  generalize Wu rs n=q at *
  clear hp hg e1 hH hln hfig hel hl hl1 P1 P2 HL HFB hw hpt fs hFB
  cases q with
  | true =>
   have HO2:=jnc (HO.out.1 rfl)
   go_enter func77,ntmps77
   go_wp2_with fail
   refine C1.out.mono ?_
   rintro e w1 ⟨rfl,hb1⟩
   go_wp2_with fail
   refine(A1.out _ (ht.below hb1 (jnd _))).mono ?_
   rintro e w2 ⟨rfl,hb2⟩
   have hb12:=hb1.trans (hb2.mono hb1.size)
   go_wp2_with fail
   go_quiet (fail)
   go_wp2_with fail
   rw[HX.out,HY.out]
   have hbq:Below w.heap.size w (w2.drewN nq):=⟨hb12.os,hb12.tape,hb12.output,hb12.size,hb12.block⟩
   have htq:=ht.below hbq (jnd _)
   generalize w2.drewN nq=w3 at *
   refine(RY2.out _ htq).mono ?_
   rintro e w4 ⟨rfl,hb4⟩
   have hb14:=hbq.trans (hb4.mono hbq.size)
   go_wp2_with fail
   refine(P3.out _).mono ?_
   rintro e w5 ⟨rfl,rfl⟩
   go_wp2_with fail
   refine(GD3.out _).mono ?_
   rintro e w5 ⟨rfl,hb5⟩
   have hb15:=hb14.trans (hb5.mono hb14.size)
   go_wp2_with fail
   refine(HF.out _ (ht.below hb15 (jnd _))).mono ?_
   rintro e w6 ⟨rfl,hb6⟩
   have hb16:=hb15.trans (hb6.mono hb15.size)
   go_wp2_with fail
   refine(ZU _).mono ?_
   rintro e w7 ⟨rfl,rfl⟩
   go_wp2_with fail
   go_ret3
   exact⟨2,[],0,HO2.out,rfl,hb16⟩
  | false =>
  have HO2:=jnc (HO.out.2 rfl)
  go_enter func77,ntmps77
  go_wp2_with fail
  refine C1.out.mono ?_
  rintro e w1 ⟨rfl,hb1⟩
  go_wp2_with fail
  refine(A1.out _ (ht.below hb1 (jnd _))).mono ?_
  rintro e w2 ⟨rfl,hb2⟩
  have hb12:=hb1.trans (hb2.mono hb1.size)
  go_wp2_with fail
  go_quiet (fail)
  go_wp2_with fail
  rw[HX.out,HY.out]
  have hbq:Below w.heap.size w (w2.drewN nq):=⟨hb12.os,hb12.tape,hb12.output,hb12.size,hb12.block⟩
  have htq:=ht.below hbq (jnd _)
  generalize w2.drewN nq=w3 at *
  refine(RY2.out _ htq).mono ?_
  rintro e w4 ⟨rfl,hb4⟩
  have hb14:=hbq.trans (hb4.mono hbq.size)
  go_wp2_with fail
  refine(P3.out _).mono ?_
  rintro e w5 ⟨rfl,rfl⟩
  go_wp2_with fail
  refine(GD3.out _).mono ?_
  rintro e w5 ⟨rfl,hb5⟩
  have hb15:=hb14.trans (hb5.mono hb14.size)
  go_wp2_with fail
  refine(HF.out _ (ht.below hb15 (jnd _))).mono ?_
  rintro e w6 ⟨rfl,hb6⟩
  have hb16:=hb15.trans (hb6.mono hb15.size)
  go_wp2_with fail
  refine(Zl _).mono ?_
  rintro e w7 ⟨rfl,rfl⟩
  go_wp2_with fail
  go_ret3
  exact⟨3,[],0,HO2.out,rfl,hb16⟩
 have hc:l.contains 10=false:=by simpa using h10
 have eh:l.takeWhile (· != 10)=l:=vO (jfb h10)
 rw[hc,eh]at C1
 have BH:=jnc (fun w ht=>Xs l (by omega) w ht)
 have HO:=jnc (show(vU l->yQ l 2 [] 0)/\(¬vU l->yQ l 3 [] 0) from
  ⟨jjY,fun h=>Zk (fun h'=>h ((Gg h10).1 h')) (fun⟨b,h'⟩=>Wm h10 h')⟩)
 clear hc eh h10
 generalize B (l.drop (l.length+1))=R at *
 go_enter func77,ntmps77
 go_wp2_with fail
 refine C1.out.mono ?_
 rintro e w1 ⟨rfl,hb1⟩
 go_wp2_with fail
 refine(BH.out _ (ht.below hb1 (jnd _))).mono ?_
 rintro e w2 ⟨q,hq,rfl,hb2⟩
 have hb12:=hb1.trans (hb2.mono hb1.size)
 have HQ:=jnc hq
 clear hq
 go_wp2_with fail
 cases q with
 | true =>
  have HO2:=jnc (HO.out.1 (HQ.out.1 rfl))
  refine(ZU _).mono ?_
  rintro e w7 ⟨rfl,rfl⟩
  go_wp2_with fail
  go_ret3
  exact⟨2,[],0,HO2.out,rfl,hb12⟩
 | false =>
 have HO2:=jnc (HO.out.2 (fun h=>by cases HQ.out.2 h))
 refine(Zl _).mono ?_
 rintro e w7 ⟨rfl,rfl⟩
 go_wp2_with fail
 go_ret3
 exact⟨3,[],0,HO2.out,rfl,hb12⟩
def b3:List UInt8:=[32,97,10]
theorem is_any(n k:Nat)(hn:n<=1000)(w:World):Calls prog 17 #[qm n,.int .i64 (k:Int)] w fun e w'=>e=.returned (.bool (decide (n=k)))/\w'=w:=by
 have N1:=jnc (jfa n hn w)
 go_enter func17,ntmps17
 go_wp2_with fail
 refine N1.out.mono ?_
 rintro e w1 ⟨rfl,rfl⟩
 go_wp2_with fail
 go_ret
 exact⟨by rw[show((n:Int)==(k:Int))=decide (n=k) by rw[jod];simp;omega];rfl,rfl⟩
def signB(l:List UInt8):Bool:=Lib.hasPrefix l [37]
theorem beginsF_any(s:ByteArray)(hs:s.size<=100000)(w:World):
  Calls prog 100 #[.string s] w fun e w'=>e=.returned (.bool (signB s.data.toList&&decide (jL s.data.toList=5)))/\Below w.heap.size w w':=by
 have P1:=jnc (fun w=>Tryz.strings_HasPrefix s ⟨#[37]⟩ w)
 have e0:Lib.hasPrefix s.data.toList (⟨#[37]⟩:ByteArray).data.toList=signB s.data.toList:=rfl
 simp only[e0]at P1
 have K1:=jnc (fun w=>Zo s (by unfold maxLen;omega) w)
 have ek:(((jL s.data.toList:Nat):Int)==5)=decide (jL s.data.toList=5):=by rw[jod];simp;omega
 generalize signB s.data.toList=q at *
 generalize decide (jL s.data.toList=5)=d at *
 generalize jL s.data.toList=k at *
 cases q with
 | false =>
  go_enter func100,ntmps100
  go_wp2_with fail
  refine(P1.out _).mono ?_
  rintro e w1 ⟨rfl,rfl⟩
  go_wp2_with fail
  go_ret
  exact⟨rfl,jne _ _⟩
 | true =>
 go_enter func100,ntmps100
 go_wp2_with fail
 refine(P1.out _).mono ?_
 rintro e w1 ⟨rfl,rfl⟩
 go_wp2_with fail
 refine(K1.out _).mono ?_
 rintro e w2 ⟨rfl,hb⟩
 go_wp2_with fail
 go_ret
 exact⟨by simp,hb⟩
end Fr
namespace Bk
attribute [local go_sem] jnn
def jmN(w:World)(s:ByteArray)(pre:List Ln)(W:World):Prop:=Boxed W w.heap.size 9 (.string s)/\Boxed W (w.heap.size+1) 9 (.string ⟨#[]⟩)/\Below w.heap.size w W/\∀y∈pre,Xo y.text=false
def jm8(w:World)(s:ByteArray)(c:Code)(pre:List Ln)(W:World):Prop:=Below w.heap.size w W/\c=.ret/\∃x,pre.find? (fun y=>Xo y.text)=some x/\Boxed W (w.heap.size+1) 9 (.string (s.extract 0 x.at_))
theorem jgy(w W:World)(u:ByteArray)(tmps:Array Value)(h:Boxed W (w.heap.size+1) 9 (.string u))(hK:W.heap[w.heap.size+3]?=some (.deferred (some [])))(hB:Below w.heap.size w W)(t2:tmps[2]?=some (.pointer (some ⟨w.heap.size+1,0,none⟩))):
  bodyPostM Fence.wide 9 prog Tryz.f75 (fun e w'=>e=.returned (.string u)/\Below w.heap.size w w') .ret {tmps:=tmps,defers:=[{target:=.collected (w.heap.size+3),args:=#[]}]} W:=by
 have p1:=grownBy_putObj' W (w.heap.size+3) (.deferred none)
 have zW:w.heap.size+3<W.heap.size:=(Array.getElem?_eq_some_iff.1 hK).1
 have r:Boxed (W.putObj (w.heap.size+3) (.deferred none)) (w.heap.size+1) 9 (.string u):=(p1.block _ (by omega) (fun e=>by have:=jng e;omega)).trans h
 have c:=r.cell
 refine⟨by simp,.inl ⟨_,_,rfl,run_takeDeferred hK,?_⟩⟩
 exact⟨.string u,by simp[results,Tryz.f75,go_sem,t2,c],rfl,hB.trans (belowK_b (w:=w) (jnd _) W _ _ _ (by omega) hK rfl rfl)⟩
theorem jiT(s:ByteArray)(hsz:s.size<=100000)(w:World):
  Calls prog 75 #[.string s] w fun e w'=>e=.returned (.string (s.extract 0 (JS (jf s.data.toList) s.size)))/\Below w.heap.size w w':=by
 obtain⟨xs,hxs⟩:∃xs,jf s.data.toList=xs:=⟨_,rfl⟩
 have HXS:=jnc hxs
 have HH:=fun w b=>vf s b w
 rw[hxs]at HH ⊢
 have FULL:Hid (s.extract 0 s.size=s):=by
  show s.extract 0 s.size=s
  apply joA
  simp
 have LEN:Hid (∀pre x post,xs=pre++x::post->x.text.length<=s.size/\x.at_<=s.size):=fun pre x post h=>by
  have hj:=zg s.data.toList
  have ha:=(vX s.data.toList pre x post (hxs.trans h)).2
  rw[hxs,h,jnO,jnA]at hj
  have:=congrArg List.length hj
  simp only[jnf]at this
  rw[<- jnu]at this
  have hb:x.text.length<=x.bytes.length:=by unfold Ln.bytes;rw[jnf];omega
  omega
 clear hxs
 refine callsIn_wide (n:=9).1 ?_
 refine callsIn_of_wp_marks func75 rfl trivial ?_ rfl
 simp only[ntmps75,jnV,jni,jnG,Nat.reduceAdd,Nat.reduceSub,jn3,jn4,joa,jn5,jnU,jny]
 gi_wp2_with fail
 refine⟨trivial,(callsIn_wide.2 (yG s _)).mono ?_⟩
 rintro e w3 ⟨rfl,rfl⟩
 gi_wp2_with fail
 have k1:=((joy w 9 (.string s)).alloc (.cells #[.string ⟨#[]⟩] 9)).alloc (.cells #[.string s] 9)
 have k2:=(xZ w (.cells #[.string s] 9) 9 (.string ⟨#[]⟩)).alloc (.cells #[.string s] 9)
 have k3:=Qk w (.cells #[.string s] 9) (.cells #[.string ⟨#[]⟩] 9) 9 (.string s)
 have kb:Below w.heap.size w (((w.alloc (.cells #[.string s] 9)).alloc (.cells #[.string ⟨#[]⟩] 9)).alloc (.cells #[.string s] 9)):=(((jne _ w).alloc (jnd _) _).alloc (by simp) _).alloc (by simp;omega) _
 have kz:(((w.alloc (.cells #[.string s] 9)).alloc (.cells #[.string ⟨#[]⟩] 9)).alloc (.cells #[.string s] 9)).heap.size=w.heap.size+3:=by simp
 generalize ((w.alloc (.cells #[.string s] 9)).alloc (.cells #[.string ⟨#[]⟩] 9)).alloc (.cells #[.string s] 9)=w1 at *
 have ab:∀k,k<=5->zN (w.heap.size+3) k (jmN w s):=fun k hk pre W W' h ht =>
  ⟨ht.box h.1 (.inl (by omega)),ht.box h.2.1 (.inl (by omega)),h.2.2.1.trans (ht.below (by omega) h.2.2.1.size),h.2.2.2⟩
 refine vW (gf:=139) (lb:=#[.pointer (some ⟨w.heap.size+2,0,none⟩)]) rfl (enters_of func139 (by kernel_rfl) rfl) (HH w1 _ k3 (by omega)) (fun _=>rfl)
  (jmN w s) (jm8 w s) (by rw[kz];exact ab _ (by omega)) (fun c pre W W' h ht=>by
   obtain⟨h1,h2,x,h3,h4⟩:=h
   exact⟨h1.trans (ht.below (by rw[kz];omega) h1.size),h2,x,h3,ht.box h4 (.inl (by rw[kz];omega))⟩) ⟨k1,k2,kb,fun y h=>by cases h⟩
  (fun a pre x a' W=>∃Bx,w.heap.size+3+5<=Bx/\a'={tmps:=(a.tmps.setIfInBounds 6 (.agg (vl x))).setIfInBounds 3 (.pointer (some ⟨Bx,0,none⟩)),defers:=[]}/\ja W Bx 164 (vl x)/\jmN w s pre W)
  ?hM ?assign ?body ?done ?stop
 case hM =>
  rw[kz]
  rintro a pre x a' _ W W' ⟨Bx,h1,h2,h3,h4⟩ ht
  exact⟨Bx,h1,h2,(ht.same Bx h3.lt (.inr (by omega))).trans h3,ab 2 (by omega) pre W W' h4 ht⟩
 case assign =>
  rw[kz]
  intro l pre x post W hx hsz hi
  clear hx
  dsimp only[vl]
  gi_wp2
  exact⟨(vT.refl _ _ W).alloc hsz _,W.heap.size,by omega,rfl,ja.new _ _ _,hi.1.alloc _,hi.2.1.alloc _,hi.2.2.1.alloc hi.2.2.1.size _,hi.2.2.2⟩
 case body =>
  rw[kz]
  rintro l pre x post a' W hx hsz ⟨Bx,hB,rfl,hc,h1,h2,h3,h4⟩
  obtain⟨hl1,hl2⟩:=LEN.out pre x post hx
  clear hx
  simp only[jnq,jnM,jnN,vl]at hc ⊢
  have p2:W.cell? ⟨Bx,2,none⟩=some (.string ⟨x.text.toArray⟩):=hc.cell 2
  have BG:=Fr.beginsF_any ⟨x.text.toArray⟩ (by show x.text.toArray.size<=_;simp;omega) W
  have eb:(Fr.signB (⟨x.text.toArray⟩:ByteArray).data.toList&&decide (jL (⟨x.text.toArray⟩:ByteArray).data.toList=5))=Xo x.text:=rfl
  rw[eb]at BG
  gi_wp2_with fail
  refine⟨trivial,((callsIn_wide.2 BG).inRound l).mono ?_⟩
  rintro e V ⟨rfl,hV⟩
  have st:vT (w.heap.size+3) (3+2) W V:=⟨hV.size,fun r a b=>hV.block r (by omega)⟩
  have g1:Boxed V w.heap.size 9 (.string s):=(hV.block _ h1.lt).trans h1
  have g2:Boxed V (w.heap.size+1) 9 (.string ⟨#[]⟩):=(hV.block _ h2.lt).trans h2
  have g3:Below w.heap.size w V:=h3.trans (hV.mono h3.size)
  cases hbx:Xo x.text with
  | false =>
   gi_wp2
   refine⟨st,g1,g2,g3,fun y hy => ?_⟩
   rcases List.mem_append.1 hy with hy|hy
   ·exact h4 y hy
   rw[List.mem_singleton.1 hy];exact hbx
  | true =>
  have hcV:ja V Bx 164 _:=(hV.block _ hc.lt).trans hc
  have p1':V.cell? ⟨Bx,1,none⟩=some (.int .i64 x.at_):=by rw[hcV.cell];rfl
  have c1:=g1.cell
  have c2:=g2.cell
  have f2:=g2.frozen
  have fnd:(pre++[x]).find? (fun y=>Xo y.text)=some x:=by
   rw[jpu,List.find?_eq_none.2 (fun y hy=>by rw[h4 y hy];simp),Option.none_or,jpF]
   simp[hbx]
  have hl3:(x.at_:Int)<=s.size:=by omega
  gi_wp2
  exact⟨st.setCell (p:=⟨w.heap.size+1,0,none⟩) (.inl (by show w.heap.size+1<_;omega)) _,g3.setCell (p:=⟨w.heap.size+1,0,none⟩) (by show w.heap.size<=w.heap.size+1;omega) _,rfl,x,fnd,joi _ g2⟩
 case done =>
  rw[kz]
  rintro W ⟨h1,h2,h3,h4⟩ hmark
  have c1:=h1.cell
  have c2:=h2.cell
  have f2:=h2.frozen
  have e:JS xs s.size=s.size:=by
   unfold JS
   rw[List.find?_eq_none.2 (fun y hy=>by rw[h4 y hy];simp)]
  have eu:s.extract 0 (JS xs s.size)=s:=by rw[e];exact FULL.out
  gi_wp2
  exact jgy w _ (s.extract 0 (JS xs s.size)) _ (by rw[eu];exact joi _ h2) ((jnE _ _ _ _ (by show w.heap.size+3≠w.heap.size+1;omega)).trans hmark) (h3.setCell (p:=⟨w.heap.size+1,0,none⟩) (by show w.heap.size<=w.heap.size+1;omega) _) rfl
 case stop =>
 rw[kz]
 rintro c pre W hpre ⟨h1,rfl,x,h3,h4⟩ hmark
 have e:JS xs s.size=x.at_:=by
  unfold JS
  obtain⟨z,rfl⟩:=hpre
  rw[jpu,h3];rfl
 gi_wp2
 exact jgy w W (s.extract 0 (JS xs s.size)) _ (by rw[e];exact h4) hmark h1 rfl
theorem jiU(t:List UInt8)(ht:t.length<=100000)(w:World):
  Calls prog 75 #[.string (B t)] w fun e w'=>e=.returned (.string (B (vn t)))/\Below w.heap.size w w':=by
 have h:=jiT (B t) (by rw[jm];exact ht) w
 rw[ju,jm,Fr.ext_take]at h
 exact h
end Bk
end Go.Proofs.YtpibhbjmcmfnmaaGreatDoor
