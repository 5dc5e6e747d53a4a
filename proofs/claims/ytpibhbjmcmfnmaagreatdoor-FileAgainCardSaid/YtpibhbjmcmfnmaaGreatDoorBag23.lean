/- Texts put together:MC,MD,ME,MF,EB,IM,PL,PM,PV,AC,AE,WN,WO. -/
import Derived.Test.YtpibhbjmcmfnmaaGreatDoorBag21
set_option linter.unusedVariables false
set_option maxRecDepth 100000
set_option maxHeartbeats 16000000
namespace Go.Proofs.YtpibhbjmcmfnmaaGreatDoor
open Go.RowKit Go.Shelf Tryz
namespace Hd
attribute [local go_sem] jnn
def MaxL(w:World):Prop:=∃m:Int,w.cell? ⟨1,0,none⟩=some (.int .i64 m)
theorem MaxL.below{w w':World}{N:Nat}(h:MaxL w)(hb:Below N w w')(hN:w.heap.size<=N):MaxL w':=by
 obtain⟨m,hm⟩:=h
 have hlt:1<w.heap.size:=by
  rcases jnK 1 w.heap.size with h|h
  ·exact h
  have:w.heap[1]?=none:=jn2 h
  simp[World.cell?,this]at hm
 exact⟨m,(hb.cell (p:=⟨1,0,none⟩) (by show 1<N;omega)).trans hm⟩
structure Tab(w:World):Prop where
 nums:Fr.TabsN w
 max:MaxL w
theorem Tab.below{w w':World}{N:Nat}(h:Tab w)(hb:Below N w w')(hN:w.heap.size<=N):Tab w':=⟨h.nums.below hb hN,h.max.below hb hN⟩
theorem yJ{w:World}(n:Nat)(os:Array Obj):Below w.heap.size w (Go.Sort.grow (w.drewN n) os) :=
 ⟨rfl,rfl,rfl,by rw[Go.Sort.size_grow];exact jpb _ _,fun k hk=>jpA _ _ hk⟩
theorem Vl(n:Nat)(hn:n<=9223372036854775807)(w:World)(ht:Tab w):Calls prog 163 #[.int .i64 (n:Int)] w fun e w'=>e=.returned (.string (B (Lib.decDigits n)))/\Below w.heap.size w w' :=
 (Tryz.strconv_Itoa n (by omega) (by omega) w ht.nums.pow).mono fun e w' ⟨he,k,os,hw⟩=>⟨by rw[he,Lib.itoa_nonneg];rfl,by rw[hw];exact yJ k os⟩
theorem jb3(g:Nat)(h1:1<=g)(h2:g<=2147483648)(w:World)(ht:Tab w):
  Calls prog 136 #[.int .i64 (g:Int)] w fun e w'=>e=.returned (.tuple #[.string (B (zE g)),.nilIface])/\Below w.heap.size w w':=by
 have IT:=jnc (Vl g (by omega) w ht)
 have E:Hid ((⟨#[35,37,103,101,110,32]⟩:ByteArray)++B (Lib.decDigits g) ++ ⟨#[10,10]⟩=B (zE g)):=by
  show _=_
  rw[show(⟨#[35,37,103,101,110,32]⟩:ByteArray)=B Ui from rfl,show(⟨#[10,10]⟩:ByteArray)=B [10,10] from rfl,jZ,jZ]
  unfold zE;simp
 have hs:(B (Lib.decDigits g)).size<=20:=by rw[jm];exact(jgg g h2).2
 have q1:¬(g:Int)<1:=by omega
 have q2:¬(2147483648:Int)<g:=by omega
 generalize B (Lib.decDigits g)=d at *
 have s1:((⟨#[35,37,103,101,110,32]⟩:ByteArray)++d).size<=26:=by rw[joj];show 6+_<=_;omega
 clear ht
 go_enter func136,ntmps136
 go_wp2_with fail
 refine IT.out.mono ?_
 rintro e w1 ⟨rfl,hb⟩
 go_wp2_with fail
 go_ret2
 exact⟨by rw[<- E.out];rfl,hb⟩
theorem jb2(g:Int)(h:g<1\/2147483648<g)(w:World):
  Calls prog 136 #[.int .i64 g] w fun e w'=>e=.returned (.tuple #[.string (B []),qm 1])/\w'=w:=by
 by_cases q1:g<1
 ·go_enter func136,ntmps136
  go_wp2_with fail
  go_ret2
  exact⟨rfl,rfl⟩
 have q2:(2147483648:Int)<g:=by omega
 go_enter func136,ntmps136
 go_wp2_with fail
 go_ret2
 exact⟨rfl,rfl⟩
theorem jaY(g:Nat)(h1:1<=g)(h2:g<=2147483648)(w:World)(ht:Tab w):
  Calls prog 97 #[.int .i64 (g:Int)] w fun e w'=>e=.returned (.int .i64 (zE g).length)/\Below w.heap.size w w':=by
 have L:=jnc (jb3 g h1 h2 w ht)
 have hs:=jm (zE g)
 generalize B (zE g)=d at *
 rw[<- hs]
 clear ht hs
 go_enter func97,ntmps97
 go_wp2_with fail
 refine L.out.mono ?_
 rintro e w1 ⟨rfl,hb⟩
 go_wp2_with fail
 go_ret
 exact⟨rfl,hb⟩
theorem jke(g:Int)(h:g<1\/2147483648<g)(w:World):
  Calls prog 97 #[.int .i64 g] w fun e w'=>e=.returned (.int .i64 0)/\w'=w:=by
 have L:=jnc (jb2 g h w)
 have hs:(B []).size=0:=rfl
 go_enter func97,ntmps97
 go_wp2_with fail
 refine L.out.mono ?_
 rintro e w1 ⟨rfl,rfl⟩
 go_wp2_with fail
 go_ret
 exact⟨rfl,rfl⟩
def genP(t:List UInt8):Nat:=if 1<=qX (figs t)/\qX (figs t)<=2147483648/\Lib.hasPrefix t (zE (qX (figs t)).toNat)=true then (qX (figs t)).toNat else 0
theorem genP_is(t:List UInt8):Qs t (genP t):=jid t
theorem jev(t:List UInt8)(w:World):Calls prog 137 #[.string (B t),.string ⟨#[35,37,103,101,110,32]⟩] w fun e w'=>e=.returned (.string (B (Lib.trimPrefix t Ui)))/\w'=w :=
 (Tryz.strings_TrimPrefix (B t) ⟨#[35,37,103,101,110,32]⟩ w).mono fun e w' ⟨he,hw⟩=>⟨by rw[he,ju];rfl,hw⟩
theorem jiM(t:List UInt8)(ht:t.length<=1000000)(w:World)(hm:MaxL w):Calls prog 104 #[.string (B t),.string ⟨#[10,10]⟩] w fun e w'=>(∃b c,e=.returned (.tuple #[.string (B (Lib.cut t [10,10]).1),.string b,.bool c]))/\Below w.heap.size w w':=by
 obtain⟨m,hm⟩:=hm
 refine(Tryz.strings_Cut (B t) ⟨#[10,10]⟩ m w (by rw[jm];omega) hm).mono ?_
 rintro e w' ⟨rfl,n,rfl⟩
 rw[ju]
 exact⟨⟨_,_,rfl⟩,qn (jne _ _) n⟩
theorem jhu(a b:List UInt8)(w:World):Calls prog 109 #[.string (B a),.string (B b)] w fun e w'=>e=.returned (.bool (Lib.hasPrefix a b))/\w'=w :=
 (Tryz.strings_HasPrefix (B a) (B b) w).mono fun e w' ⟨he,hw⟩=>⟨by rw[he,ju,ju],hw⟩
theorem jg5(t p:List UInt8):(Lib.trimPrefix t p).length<=t.length:=by
 unfold Lib.trimPrefix;split
 ·rw[jnr];omega
 omega
theorem jkw(t:List UInt8)(hl:t.length<=100000)(w:World)(ht:Tab w):
  Calls prog 98 #[.string (B t)] w fun e w'=>e=.returned (.int .i64 (genP t:Nat))/\Below w.heap.size w w':=by
 have TR:=jnc (jev t)
 have hfl:=jin t
 have htl:=jg5 t Ui
 have CU:=jnc (fun W (hb:Below w.heap.size w W)=>jiM (Lib.trimPrefix t Ui) (by omega) W (ht.max.below hb (jnd _)))
 have AT:=jnc (fun W (hb:Below w.heap.size w W)=>Fr.atoi_any (figs t) (by omega) W (ht.nums.below hb (jnd _)))
 have PR:=jnc (fun g W=>jhu t (zE g) W)
 unfold genP
 rw[show(Lib.cut (Lib.trimPrefix t Ui) [10,10]).1=figs t from rfl]at CU
 generalize figs t=fg at *
 generalize Lib.trimPrefix t Ui=tr at *
 generalize qX fg=v at *
 by_cases hv:1<=v/\v<=2147483648
 ·obtain⟨g,rfl⟩:∃g:Nat,v=g:=⟨v.toNat,by omega⟩
  have LI:=jnc (fun W (hb:Below w.heap.size w W)=>jb3 g (by omega) (by omega) W (ht.below hb (jnd _)))
  have PR:=jnc (fun W=>PR.out g W)
  rw[jox]
  cases hp:Lib.hasPrefix t (zE g) with
  | true =>
   rw[if_pos ⟨hv.1,hv.2,rfl⟩]
   rw[hp]at PR
   clear ht hp
   generalize B t=bt at *
   generalize B (zE g)=bh at *
   generalize B fg=bf at *
   generalize B tr=br at *
   go_enter func98,ntmps98
   go_wp2_with fail
   refine(TR.out _).mono ?_
   rintro e w1 ⟨rfl,rfl⟩
   go_wp2_with fail
   refine(CU.out _ (jne _ _)).mono ?_
   rintro e w2 ⟨⟨b,c,rfl⟩,hb2⟩
   go_wp2_with fail
   refine(AT.out _ hb2).mono ?_
   rintro e w3 ⟨⟨T,q,rfl|rfl⟩,hb3⟩
   all_goals
    have hb4:=hb2.trans (hb3.mono hb2.size)
    go_wp2_with fail
    refine(LI.out _ hb4).mono ?_
    rintro e w4 ⟨rfl,hb5⟩
    have hb6:=hb4.trans (hb5.mono hb4.size)
    go_wp2_with fail
    refine(PR.out _).mono ?_
    rintro e w5 ⟨rfl,rfl⟩
    go_wp2_with fail
    go_ret
    exact⟨rfl,hb6⟩
  | false =>
  rw[if_neg (fun h=>Bool.noConfusion h.2.2)]
  rw[hp]at PR
  clear ht hp
  generalize B t=bt at *
  generalize B (zE g)=bh at *
  generalize B fg=bf at *
  generalize B tr=br at *
  go_enter func98,ntmps98
  go_wp2_with fail
  refine(TR.out _).mono ?_
  rintro e w1 ⟨rfl,rfl⟩
  go_wp2_with fail
  refine(CU.out _ (jne _ _)).mono ?_
  rintro e w2 ⟨⟨b,c,rfl⟩,hb2⟩
  go_wp2_with fail
  refine(AT.out _ hb2).mono ?_
  rintro e w3 ⟨⟨T,q,rfl|rfl⟩,hb3⟩
  all_goals
   have hb4:=hb2.trans (hb3.mono hb2.size)
   go_wp2_with fail
   refine(LI.out _ hb4).mono ?_
   rintro e w4 ⟨rfl,hb5⟩
   have hb6:=hb4.trans (hb5.mono hb4.size)
   go_wp2_with fail
   refine(PR.out _).mono ?_
   rintro e w5 ⟨rfl,rfl⟩
   go_wp2_with fail
   go_ret
   exact⟨rfl,hb6⟩
 rw[if_neg (fun h=>hv ⟨h.1,h.2.1⟩)]
 have LI:=jnc (fun W=>jb2 v (by omega) W)
 clear ht PR
 generalize B t=bt at *
 generalize B fg=bf at *
 generalize B tr=br at *
 go_enter func98,ntmps98
 go_wp2_with fail
 refine(TR.out _).mono ?_
 rintro e w1 ⟨rfl,rfl⟩
 go_wp2_with fail
 refine(CU.out _ (jne _ _)).mono ?_
 rintro e w2 ⟨⟨b,c,rfl⟩,hb2⟩
 go_wp2_with fail
 refine(AT.out _ hb2).mono ?_
 rintro e w3 ⟨⟨T,q,rfl|rfl⟩,hb3⟩
 all_goals
  have hb4:=hb2.trans (hb3.mono hb2.size)
  go_wp2_with fail
  refine(LI.out _).mono ?_
  rintro e w4 ⟨rfl,rfl⟩
  rw[ze 1 (by omega)]
  go_wp2_with fail
  go_ret
  exact⟨rfl,hb4⟩
def lenP(n:Nat):Nat:=if 1<=n/\n<=2147483648 then (zE n).length else 0
theorem lenP_call(n:Nat)(w:World)(ht:Tab w):Calls prog 97 #[.int .i64 (n:Int)] w fun e w'=>e=.returned (.int .i64 (lenP n:Nat))/\Below w.heap.size w w':=by
 unfold lenP
 by_cases h:1<=n/\n<=2147483648
 ·rw[if_pos h];exact jaY n h.1 h.2 w ht
 rw[if_neg h]
 refine(jke n (by omega) w).mono ?_
 rintro e w' ⟨rfl,rfl⟩
 exact⟨rfl,jne _ _⟩
theorem jkg{t:List UInt8}{n:Nat}(h:Qs t n):lenP n<=t.length:=by
 unfold lenP
 split
 ·rename_i hn
  obtain⟨r,rfl⟩:=jkv h hn.1
  simp
 omega
theorem ja6{w W W':World}(h:Below w.heap.size w W)(hb:Below W.heap.size W W'):Below w.heap.size w W':=h.trans (hb.mono h.size)
theorem take_any(t:List UInt8)(hl:t.length<=100000)(w:World)(ht:Tab w):
  Calls prog 74 #[.string (B t)] w fun e w'=>e=.returned (.tuple #[.int .i64 (genP t:Nat),.string (B (t.drop (lenP (genP t))))])/\Below w.heap.size w w':=by
 have G:=jnc (jkw t hl w ht)
 have hle:=jkg (genP_is t)
 have L:=jnc (fun W (hb:Below w.heap.size w W)=>lenP_call (genP t) W (ht.below hb (jnd _)))
 have hE:Hid ((B t).extract (lenP (genP t)) (B t).size=B (t.drop (lenP (genP t)))):=by
  show _=_
  have e:=jpm (B t) (lenP (genP t))
  rw[ju]at e
  rw[<- jjr ((B t).extract _ _),e]
 have hz:=jm t
 rw[<- hz]at hle hl
 generalize lenP (genP t)=k at *
 generalize genP t=g at *
 generalize B t=bt at *
 clear hz ht
 have hki:(k:Int)<=(bt.size:Int):=by omega
 have h0:(0:Int)<=(k:Int):=by omega
 go_enter func74,ntmps74
 go_wp2_with fail
 refine G.out.mono ?_
 rintro e w1 ⟨rfl,hb1⟩
 have HS:=jnc (show ∀W,Below w1.heap.size w1 W->Below w1.heap.size w1 W from fun W h=>h)
 have HL:=jnc (fun W (hb:Below w1.heap.size w1 W)=>L.out W (hb1.trans (hb.mono hb1.size)))
 go_wp2_with fail
 go_region_held3 (fun W=>Below w1.heap.size w1 W) ((refine HS.out _ ?_;repeat (first | exact jne _ _ | assumption | (refine Below.drew ?_) | (refine ja6 ?_ (by assumption))))) ((go_at_call 97;refine(HL.out _ ?_).mono ?_;(focus (repeat (first | exact jne _ _ | assumption | (refine Below.drew ?_) | (refine ja6 ?_ (by assumption)))));rintro e w5 ⟨rfl,hb5⟩))
 all_goals go_wp2_with fail
 all_goals
  go_ret2
  have hb7:Below w1.heap.size w1 w5:=ja6 (Below.drew (jne _ _)) hb5
  exact⟨by rw[<- hE.out];rfl,hb1.trans (hb7.mono hb1.size)⟩
theorem is_any(n k:Nat)(hn:n<=1000)(w:World):Calls prog 17 #[qm n,.int .i64 (k:Int)] w fun e w'=>e=.returned (.bool (decide (n=k)))/\w'=w:=by
 have HN:=jnc (jfa n hn w)
 go_enter func17,ntmps17
 go_wp2_with fail
 refine HN.out.mono ?_
 rintro e V ⟨rfl,rfl⟩
 have:((n:Int)==(k:Int))=decide (n=k):=by
  by_cases h:n=k
  ·subst h;simp
  have:¬(n:Int)=k:=by omega
  simp[h,this]
 go_wp2_with fail
 go_ret
 exact⟨rfl,rfl⟩
end Hd
theorem Wv:∀(fs:List Fld),(∀f∈fs,zw f.1 f.2=0)->foldN fs=0
 | [],_=>rfl
 | f::r,h=>by
  unfold foldN
  rw[if_pos (h f jno)]
  exact Wv r (fun x hx=>h x (jnm _ hx))
structure GkP(p:PS):Prop where
 fl:∀f∈p.fields,zw f.1 f.2=0
 each:∀it∈p.items,(∀f∈it.fields,zw f.1 f.2=0)/\(it.kind=3->it.fields.length≠0)
theorem GkP.endField{p:PS}(h:GkP p)(h0:jk p=0):GkP (jb p):=by
 unfold jb
 split
 ·exact h
 rename_i hs
 unfold jk at h0
 rw[if_neg hs]at h0
 have hu:zi p.said=0:=by
  by_cases q:zi p.said=0
  ·exact q
  rw[if_pos q]at h0;exact h0
 refine⟨fun f hf => ?_,h.each⟩
 rcases List.mem_append.1 hf with hf|hf
 ·exact h.fl f hf
 rw[List.mem_singleton.1 hf];exact(jaK hu).1
theorem GkP.endItem{t:List UInt8}{p:PS}(h:GkP p)(kind e:Nat)(hk:kind=3->p.fields.length≠0):GkP (zt t p kind e) :=
 ⟨fun f hf=>(by cases hf),fun it hi=>by
  rcases List.mem_append.1 hi with hi|hi
  ·exact h.each it hi
  rw[List.mem_singleton.1 hi]
  exact⟨h.fl,fun q=>hk (by have q':((kind:Nat):Int)=3:=q;omega)⟩⟩
theorem GkP.endBlock{t:List UInt8}{p:PS}(h:GkP p)(e:Nat):GkP (jy t p e):=by
 unfold jy
 split
 ·exact h
 split
 ·exact h.endItem 2 e (fun q=>absurd q (by decide))
 rename_i hl
 exact⟨(h.endItem (t:=t) 3 e (fun _=>hl)).fl,(h.endItem (t:=t) 3 e (fun _=>hl)).each⟩
theorem GkP.went{p:PS}(h:GkP p)(x:Ln):GkP (qH p x):=by
 unfold qH
 split
 ·exact⟨h.fl,h.each⟩
 exact h
theorem GkP.take{t:List UInt8}{p q:PS}{x:Ln}(h:GkP p)(he:zO t p x=.ok q):GkP q:=by
 obtain⟨h1,_,rfl⟩:=yF he
 have h2:GkP (vC p x):=by
  unfold vC
  split
  ·rename_i q;exact(h.went x).endField (h1 q)
  exact h.went x
 unfold Va
 split
 ·exact⟨h2.fl,h2.each⟩
 split
 ·exact⟨((h2.endBlock x.at_).endItem 1 _ (fun q=>absurd q (by decide))).fl,((h2.endBlock x.at_).endItem 1 _ (fun q=>absurd q (by decide))).each⟩
 exact⟨h2.fl,h2.each⟩
theorem GkP.run(t:List UInt8):∀(xs:List Ln) (p q:PS),GkP p->vK t p xs=.ok q->GkP q
 | [],p,q,h,he=>by cases he;exact h
 | x::xs,p,q,h,he=>by
  unfold vK at he
  cases ht:zO t p x with
  | error e=>rw[ht]at he;cases he
  | ok p1 =>
  rw[ht]at he
  exact GkP.run t xs p1 q (h.take ht) he
theorem jhy{t:List UInt8}{its:List It}(h:jE t=.ok its):∀it∈its,it.kind=3->vG it.fields=0:=by
 obtain⟨p,hr,h0,rfl,g,_⟩:=ZV h
 have hs:GkP (jy t (jb p) t.length):=((GkP.run t _ _ _ ⟨(fun f h=>by cases h),(fun it h=>by cases h)⟩ hr).endField h0).endBlock _
 intro it hi h3
 have h40:it.fields.length<=40:=g.each it hi
 obtain⟨h1,h2⟩:=hs.each it hi
 unfold vG
 rw[if_neg (h2 h3),if_neg (by omega)]
 exact Wv _ h1
def wf:List Ln->Prop
 | []=>True
 | x::xs=>(10:UInt8)∉x.text/\(x.ended=true\/(xs=[]/\x.text≠[]))/\wf xs
def KW(x:Ln):List UInt8×Bool:=(x.text,x.ended)
theorem xd(t r:List UInt8)(h:(10:UInt8)∉t):head (t++10::r)=t:=by
 unfold head
 induction t with
 | nil=>simp
 | cons c t ih =>
 have hc:c≠10:=fun e=>h (by rw[e];exact jno)
 rw[jny,joe,if_pos (by simp[hc]),ih (fun hm=>h (jnm _ hm))]
theorem Wr(t:List UInt8)(h:(10:UInt8)∉t):head t=t:=by
 unfold head
 induction t with
 | nil=>rfl
 | cons c t ih =>
 have hc:c≠10:=fun e=>h (by rw[e];exact jno)
 rw[joe,if_pos (by simp[hc]),ih (fun hm=>h (jnm _ hm))]
theorem jbZ(t:List UInt8)(h:(10:UInt8)∉t):nl t=false:=by
 unfold nl
 rw[Bool.eq_false_iff]
 intro hc
 exact h (by simpa using hc)
theorem jbY(t r:List UInt8):nl (t++10::r)=true:=by unfold nl;simp
theorem Kf:∀(xs:List Ln) (no at_:Nat),wf xs->(jQ no at_ (xs.flatMap Ln.bytes)).map KW=xs.map KW
 | [],no,at_,_=>by simp[jp]
 | x::xs,no,at_,⟨h1,h2,h3⟩=>by
  rcases h2 with he|⟨rfl,hne⟩
  ·have eb:(x::xs).flatMap Ln.bytes=x.text++10::xs.flatMap Ln.bytes:=by simp[Ln.bytes,he]
   rw[eb,jx _ _ _ (by simp)]
   rw[xd _ _ h1,jbY]
   have hu:qI (x.text++10::xs.flatMap Ln.bytes)=x.text.length+1:=by
    unfold qI;rw[xd _ _ h1,jbY];simp
   have hd:(x.text++10::xs.flatMap Ln.bytes).drop (x.text.length+1)=xs.flatMap Ln.bytes:=by
    rw[show x.text++10::xs.flatMap Ln.bytes=(x.text++[10])++xs.flatMap Ln.bytes by simp]
    exact jos (by simp)
   rw[hu,hd,jnH,jnH,Kf xs _ _ h3]
   simp[KW,he]
  have he:x.ended=false\/x.ended=true:=by cases x.ended<;>simp
  rcases he with he|he
  ·have eb:[x].flatMap Ln.bytes=x.text:=by simp[Ln.bytes,he]
   rw[eb,jx _ _ _ hne,Wr _ h1,jbZ _ h1]
   have hu:qI x.text=x.text.length:=by unfold qI;rw[Wr _ h1,jbZ _ h1];simp
   rw[hu,joI,jp]
   simp[KW,he]
  have eb:[x].flatMap Ln.bytes=x.text++10::[]:=by simp[Ln.bytes,he]
  rw[eb,jx _ _ _ (by simp),xd _ _ h1,jbY]
  have hu:qI (x.text++10::[])=x.text.length+1:=by unfold qI;rw[xd _ _ h1,jbY];simp
  rw[hu]
  have hd:(x.text++10::[]).drop (x.text.length+1)=[]:=by rw[List.drop_eq_nil_of_le];simp
  rw[hd,jp]
  simp[KW,he]
theorem Xy:∀(n no at_:Nat) (l:List UInt8),l.length<=n->wf (jQ no at_ l)
 | 0,_,_,l,h=>by
  have:l=[]:=List.length_eq_zero_iff.1 (by omega)
  subst this;rw[jp];trivial
 | n+1,no,at_,l,h=>by
  by_cases hl:l=[]
  ·subst hl;rw[jp];trivial
  have hp:=qO l hl
  have hc:=yZ l.length no at_ l (jnd _)
  rw[jx _ _ _ hl]at hc ⊢
  refine⟨hc _ jno,?_,Xy n _ _ _ (by simp only[jnr];omega)⟩
  cases hn:nl l with
  | true=>exact .inl rfl
  | false =>
  have hh:head l=l:=Wr l (fun hm=>by unfold nl at hn;simp at hn;exact hn hm)
  have hu:qI l=l.length:=by unfold qI;rw[hh,hn];simp
  refine .inr ⟨?_,?_⟩
  ·rw[hu,joI,jp]
  show head l≠[]
  rw[hh];exact hl
theorem jcO(l:List UInt8):wf (jf l):=Xy _ _ _ _ (jnd _)
def jbu(j:List UInt8)(x:Ln):Ln:={x with text:=j++x.text}
theorem jby(j:List UInt8)(hj:(10:UInt8)∉j):∀xs,wf xs->wf (xs.map (jbu j))
 | [],_=>trivial
 | x::xs,⟨h1,h2,h3⟩=>by
  refine⟨fun hm => ?_,?_,jby j hj xs h3⟩
  ·rcases List.mem_append.1 hm with h|h
   ·exact hj h
   exact h1 h
  rcases h2 with h|⟨rfl,h⟩
  ·exact .inl h
  refine .inr ⟨rfl,fun e=>h ?_⟩
  exact(List.append_eq_nil_iff.1 e).2
def dd(p:List UInt8)(ys:List (List UInt8×Bool)):List UInt8×Bool :=
 if ys.all (fun y=>p.isPrefixOf y.1) then (ys.flatMap (fun y=>y.1.drop p.length++if y.2 then [10] else []),true) else ([],false)
theorem jiH(j:List UInt8)(hj:(10:UInt8)∉j)(l:List UInt8):
  dd j ((jf ((jf l).flatMap fun x=>j++x.bytes)).map KW)=(l,true):=by
 have e:(jf l).flatMap (fun x=>j++x.bytes)=((jf l).map (jbu j)).flatMap Ln.bytes:=by
  rw[List.flatMap_map]
  congr 1
  funext x
  simp only[Ln.bytes,jbu,jnx]
  rfl
 rw[e]
 rw[show jf (((jf l).map (jbu j)).flatMap Ln.bytes)=jQ 0 0 (((jf l).map (jbu j)).flatMap Ln.bytes) from rfl,Kf _ 0 0 (jby j hj _ (jcO l))]
 unfold dd
 rw[if_pos]
 ·congr 1
  conv=>rhs;rw[<- zg l]
  rw[joN,List.flatMap_map]
  congr 1
  funext x
  simp[KW,jbu,Ln.bytes]
  rfl
 rw[jnZ]
 intro y hy
 obtain⟨x,hx,rfl⟩:=List.mem_map.1 hy
 obtain⟨x,hx,rfl⟩:=List.mem_map.1 hx
 simp[KW,jbu]
section
set_option maxRecDepth 1000000
end
section
open Go.ChangeShapes Go.WideShapes
attribute [local go_sem] jT
theorem Qb:∀(fs:List Fld),foldN fs=0->∀f∈fs,za f.1=true/\f.2.length<=1000
 | [],_,f,hf=>by cases hf
 | g::r,h,f,hf=>by
  unfold foldN at h
  split at h
  ·rename_i h0
   rcases List.mem_cons.1 hf with rfl|hf
   ·exact YX h0
   exact Qb r h f hf
  rename_i h0;exact absurd h h0
end
def qC(k:Int):List UInt8:=if k=1 then [114,101,112,108,97,99,101] else if k=2 then [100,101,108,101,116,101] else if k=3 then [105,110,115,101,114,116] else []
def zU(k id:Int):List UInt8:=if k=1\/k=2\/k=3 then 32::(qC k++32::Lib.itoa id) else []
def JI(l:List UInt8):List UInt8:=32::32::l
def jf8(ed:Ed):List (List UInt8):=zU ed.kind ed.id::(jC ed.fields).map JI
def edT(ed:Ed):List UInt8:=jn (jf8 ed)
def zG(eds:List Ed):List (List UInt8):=eds.flatMap jf8
def js(eds:List Ed):List UInt8:=jn (zG eds)
theorem jbx{k:Int}{c:UInt8}(h:c.toNat<97):c∉qC k:=by
 unfold qC
 have key:∀l:List UInt8,(∀x∈l,97<=x.toNat)->c∉l:=fun l hl hc=>by have:=hl c hc;omega
 split
 ·exact key _ (by decide)
 split
 ·exact key _ (by decide)
 split
 ·exact key _ (by decide)
 simp
theorem YD(k id:Int):(10:UInt8)∉zU k id:=by
 unfold zU
 split
 ·intro h
  rcases List.mem_cons.1 h with h|h
  ·exact absurd h (by decide)
  rcases List.mem_append.1 h with h|h
  ·exact jbx (by decide) h
  rcases List.mem_cons.1 h with h|h
  ·exact absurd h (by decide)
  exact jkh (by decide) (.inl (by decide)) h
 simp
theorem jdw{l:List UInt8}(h:(10:UInt8)∉l):(10:UInt8)∉JI l:=by
 unfold JI
 intro hm
 rcases List.mem_cons.1 hm with hm|hm
 ·exact absurd hm (by decide)
 rcases List.mem_cons.1 hm with hm|hm
 ·exact absurd hm (by decide)
 exact h hm
structure Jp(fs:List Fld):Prop where
 each:∀f∈fs,za f.1=true/\f.2.length<=1000
 len:fs.length<=40
theorem Wt{ed:Ed}(h:qr ed=0):Jp ed.fields:=by
 unfold qr at h
 split at h
 ·obtain⟨_,h2,h3⟩:=xW h
  exact⟨Qb _ h3,h2⟩
 split at h
 ·rename_i q
  rw[List.length_eq_zero_iff.1 q.2]
  exact⟨fun f hf=>(by cases hf),jnt _⟩
 cases h
theorem Jp.clean{fs:List Fld}(h:Jp fs):∀l∈jC fs,(10:UInt8)∉l:=by
 intro l hl
 unfold jC at hl
 obtain⟨f,hf1,hf2⟩:=List.mem_flatMap.1 hl
 exact QN _ (h.each f hf1).1 l hf2
theorem jdN{ed:Ed}(h:Jp ed.fields):∀l∈jf8 ed,(10:UInt8)∉l:=by
 intro l hl
 rcases List.mem_cons.1 hl with rfl|hl
 ·exact YD _ _
 obtain⟨x,hx,rfl⟩:=List.mem_map.1 hl
 exact jdw (h.clean x hx)
theorem ZG{eds:List Ed}(h:∀ed∈eds,qr ed=0):∀l∈zG eds,(10:UInt8)∉l:=by
 intro l hl
 obtain⟨ed,h1,h2⟩:=List.mem_flatMap.1 hl
 exact jdN (Wt (h ed h1)) l h2
theorem JV(ed:Ed)(r:List Ed):js (ed::r)=edT ed++js r:=by
 unfold js zG edT;rw[jnA,xw]
theorem KG:js []=[]:=rfl
theorem Ub(a b:List Ed):js (a++b)=js a++js b:=by
 unfold js zG;rw[jnO,xw]
theorem jbp(a:List Ed)(ed:Ed):js (a++[ed])=js a++edT ed:=by
 rw[Ub,JV,KG,jnR]
theorem jb7(ls:List (List UInt8))(h:∀l∈ls,(10:UInt8)∉l):(jf (jn ls)).flatMap (fun x=>[32,32]++x.bytes)=jn (ls.map JI):=by
 show(jQ 0 0 (jn ls)).flatMap _=_
 rw[JH ls 0 0 h]
 suffices ∀(ls:List (List UInt8)) (no c:Nat),(num no c ls).flatMap (fun x=>[32,32]++x.bytes)=jn (ls.map JI) from this ls 0 0
 intro ls
 induction ls with
 | nil=>intro no c;rfl
 | cons l r ih =>
 intro no c
 show([32,32]++(⟨no,c,l,true⟩:Ln).bytes)++(num (no+1) (c+l.length+1) r).flatMap _=_
 rw[ih]
 unfold jn JI Ln.bytes
 simp
theorem jdD(fs:List Fld):zb fs=jn (jC fs):=by
 unfold zb jn jC;rw[List.flatMap_assoc]
theorem jji{ed:Ed}(h:Jp ed.fields):edT ed=zU ed.kind ed.id++10::(jf (zb ed.fields)).flatMap (fun x=>[32,32]++x.bytes):=by
 rw[jdD,jb7 _ h.clean]
 show jn (_::_)=_
 unfold jn;simp
def Jt(l:List UInt8):Int:=if l=qC 1 then 1 else if l=qC 2 then 2 else if l=qC 3 then 3 else 0
theorem jaZ{k:Int}(h:k=1\/k=2\/k=3):Jt (qC k)=k:=by
 rcases h with rfl|rfl|rfl<;>decide
def qD(t:List UInt8):List Fld:=match jE (dd [32,32] ((jf t).map KW)).1 with | .error _=>[] | .ok its=>(Vh its).flatten
def xq(t:List UInt8):List UInt8:=t.takeWhile (· != 10)
def qJ(t:List UInt8):List UInt8:=t.drop ((xq t).length+1)
def Yq(t:List UInt8):List UInt8:=(Lib.trimPrefix (xq t) [32]).takeWhile (· != 32)
def jiq(t:List UInt8):List UInt8:=(Lib.trimPrefix (xq t) [32]).drop ((Yq t).length+1)
def qY(t:List UInt8):Ed:=⟨Jt (Yq t),qX (jiq t),qD (qJ t)⟩
theorem jls(c:UInt8)(a b:List UInt8)(h:c∉a):(a++c::b).takeWhile (· != c)=a:=by
 induction a with
 | nil=>simp
 | cons x r ih =>
 have hx:(x != c)=true:=by
  have:c≠x:=fun e=>h (e▸jno)
  simp;exact fun e=>this e.symm
 rw[jny,joe,if_pos hx,ih (fun hm=>h (jnm _ hm))]
theorem jlZ(c:UInt8)(a b:List UInt8):(a++c::b).drop (a.length+1)=b:=by
 rw[show a++c::b=(a++[c])++b by simp]
 exact jos (by simp)
theorem jaL{fs:List Fld}(h:Jp fs):qD (jn ((jC fs).map JI))=fs:=by
 unfold qD
 have e:=jiH [32,32] (by decide) (jn (jC fs))
 rw[jb7 _ h.clean]at e
 rw[e]
 show(match jE (jn (jC fs)) with | .error _=>[] | .ok its=>(Vh its).flatten)=fs
 by_cases h0:fs=[]
 ·subst h0;rfl
 have p:=Wj [⟨3,jn (jC fs),fs⟩] (by show 1<=400;decide) (fun it hit=>by rw[List.mem_singleton.1 hit];exact jd6 fs h.each h0 h.len)
 have e1:(yP [(⟨3,jn (jC fs),fs⟩:It)])=[⟨3,jn (jC fs),fs⟩]:=rfl
 rw[e1]at p
 have e2:([(⟨3,jn (jC fs),fs⟩:It)].flatMap It.raw)=jn (jC fs):=by simp
 rw[e2]at p
 rw[p]
 show(Vh [(⟨3,jn (jC fs),fs⟩:It)]).flatten=fs
 simp[Vh]
theorem jeM{ed:Ed}(h:Jp ed.fields)(hk:ed.kind=1\/ed.kind=2\/ed.kind=3)(hi:I64 ed.id):qY (edT ed)=ed:=by
 have e:edT ed=zU ed.kind ed.id++10::jn ((jC ed.fields).map JI):=by
  show jn (_::_)=_
  unfold jn;simp
 have e1:xq (edT ed)=zU ed.kind ed.id:=by rw[e];exact jls 10 _ _ (YD _ _)
 have e2:qJ (edT ed)=jn ((jC ed.fields).map JI):=by unfold qJ;rw[e1,e];exact jlZ 10 _ _
 have e3:zU ed.kind ed.id=32::(qC ed.kind++32::Lib.itoa ed.id):=by unfold zU;rw[if_pos hk]
 have e4:Lib.trimPrefix (xq (edT ed)) [32]=qC ed.kind++32::Lib.itoa ed.id:=by
  rw[e1,e3];simp[Lib.trimPrefix,Lib.hasPrefix]
 have e5:Yq (edT ed)=qC ed.kind:=by unfold Yq;rw[e4];exact jls 32 _ _ (jbx (by decide))
 have e6:jiq (edT ed)=Lib.itoa ed.id:=by unfold jiq;rw[e4,e5];exact jlZ 32 _ _
 unfold qY
 rw[e5,e6,e2,jaZ hk,yO hi,jaL h]
def zT(t:List UInt8):Nat->List Ln->List (List UInt8)
 | b,[]=>[t.drop b]
 | b,x::r=>if b<x.at_/\Lib.hasPrefix x.text [32,32]=false then (t.drop b).take (x.at_-b)::zT t x.at_ r else zT t b r
def yU(t:List UInt8):List Ed:=(zT t 0 (jf t)).map qY
theorem ZT(t:List UInt8)(b:Nat):∀(ls:List (List UInt8)) (no c:Nat) (ys:List Ln),zT t b (num no c (ls.map JI)++ys)=zT t b ys
 | [],_,_,_=>rfl
 | l::r,no,c,ys=>by
  show zT t b (⟨no,c,JI l,true⟩::(num (no+1) (c+(JI l).length+1) (r.map JI)++ys))=_
  rw[zT,if_neg (by intro h;exact absurd h.2 (by simp[Lib.hasPrefix,JI]))]
  exact ZT t b r _ _ ys
theorem jfn{k id:Int}(hk:k=1\/k=2\/k=3):Lib.hasPrefix (zU k id) [32,32]=false:=by
 unfold zU
 rw[if_pos hk]
 rcases hk with rfl|rfl|rfl<;>rfl
theorem XU(t:List UInt8):∀(r:List Ed) (pre cur:List UInt8) (no:Nat),t=pre++(cur++js r)->cur≠[]->(∀ed∈r,ed.kind=1\/ed.kind=2\/ed.kind=3) ->
  zT t pre.length (num no (pre.length+cur.length) (zG r))=cur::r.map edT
 | [],pre,cur,no,h,hc,_=>by
  show [t.drop pre.length]=[cur]
  rw[h,jos rfl,KG,jnR]
 | e::r,pre,cur,no,h,hc,hk=>by
  have hpos:0<cur.length:=List.length_pos_iff.2 hc
  have e1:zG (e::r)=zU e.kind e.id::((jC e.fields).map JI++zG r):=by
   unfold zG;rw[jnA];rfl
  rw[e1]
  show zT t pre.length (⟨no,pre.length+cur.length,zU e.kind e.id,true⟩::num (no+1) (pre.length+cur.length+(zU e.kind e.id).length+1) ((jC e.fields).map JI++zG r))=_
  rw[zT,if_pos ⟨by show pre.length<pre.length+cur.length;omega,jfn (hk e jno)⟩]
  rw[Jf,ZT]
  have ih:=XU t r (pre++cur) (edT e) (no+1+((jC e.fields).map JI).length) (by rw[h,JV];simp) (by unfold edT jf8 jn;simp) (fun x hx=>hk x (jnm _ hx))
  have el:(edT e).length=(zU e.kind e.id).length+1+(jn ((jC e.fields).map JI)).length:=by unfold edT jf8 jn;simp;omega
  rw[jnf]at ih
  rw[show pre.length+cur.length+(zU e.kind e.id).length+1+(jn ((jC e.fields).map JI)).length=pre.length+cur.length+(edT e).length by omega]
  rw[show(⟨no,pre.length+cur.length,zU e.kind e.id,true⟩:Ln).at_=pre.length+cur.length from rfl,ih,jnH]
  congr 1
  rw[h,jos rfl,show pre.length+cur.length-pre.length=cur.length by omega,List.take_left' rfl]
theorem jde{eds:List Ed}(h0:eds≠[])(hg:∀ed∈eds,qr ed=0)(hi:∀ed∈eds,I64 ed.id):yU (js eds)=eds:=by
 cases eds with
 | nil=>exact absurd rfl h0
 | cons e r =>
 unfold yU
 rw[show jf (js (e::r))=num 0 0 (zG (e::r)) from JH _ 0 0 (ZG hg)]
 have e1:zG (e::r)=zU e.kind e.id::((jC e.fields).map JI++zG r):=by
  unfold zG;rw[jnA];rfl
 have e2:zT (js (e::r)) 0 (num 0 0 (zG (e::r)))=(e::r).map edT:=by
  rw[e1]
  show zT _ 0 (⟨0,0,zU e.kind e.id,true⟩::num 1 (0+(zU e.kind e.id).length+1) ((jC e.fields).map JI++zG r))=_
  rw[zT,if_neg (by intro h;exact absurd h.1 (Nat.lt_irrefl _)),Jf,ZT]
  have ih:=XU (js (e::r)) r [] (edT e) (1+((jC e.fields).map JI).length) (by rw[JV];rfl) (by unfold edT jf8 jn;simp) (fun x hx=>ZZ (hg x (jnm _ hx)))
  have el:(edT e).length=(zU e.kind e.id).length+1+(jn ((jC e.fields).map JI)).length:=by unfold edT jf8 jn;simp;omega
  rw[el]at ih
  simp only[jnG]at ih
  rw[show 0+((zU e.kind e.id).length+1+(jn ((jC e.fields).map JI)).length)=0+(zU e.kind e.id).length+1+(jn ((jC e.fields).map JI)).length by omega]at ih
  exact ih
 rw[e2,joN]
 conv=>rhs;rw[<- List.map_id (e::r)]
 exact jpg fun x hx=>jeM (Wt (hg x hx)) (ZZ (hg x hx)) (hi x hx)
def jdW(t:List UInt8):Option (List Ed):=if t.length<=50000/\(vS (yU t)).2=0/\js (yU t)=t then some (yU t) else none
theorem jgB(l:List UInt8):I64 (qX l):=by
 unfold qX
 cases h:Lib.atoiAll l with
 | ok v =>
  show I64 v
  unfold Lib.atoiAll at h
  split at h
  ·cases h
  simp only at h
  split at h
  ·cases h
  ·cases h
  split at h
  ·cases h
  split at h
  ·cases h
  injection h with h
  subst h
  split
  ·exact⟨by omega,by omega⟩
  exact⟨by omega,by omega⟩
 | range =>
  show I64 (Lib.atoiSat l)
  unfold Lib.atoiSat
  split
  ·exact⟨by decide,by decide⟩
  exact⟨by decide,by decide⟩
 | _=>exact(⟨by decide,by decide⟩:I64 0)
theorem jbU(t:List UInt8):∀ed∈yU t,I64 ed.id:=by
 intro ed hed
 obtain⟨p,_,rfl⟩:=List.mem_map.1 hed
 exact jgB _
theorem WL{t:List UInt8}{eds:List Ed}:jdW t=some eds↔t.length<=50000/\(vS eds).2=0/\(∀ed∈eds,I64 ed.id)/\js eds=t:=by
 unfold jdW
 constructor
 ·intro h
  split at h
  ·rename_i q
   injection h with h
   subst h
   exact⟨q.1,q.2.1,jbU t,q.2.2⟩
  cases h
 rintro⟨h1,h2,h3,rfl⟩
 obtain⟨⟨a,b⟩,c⟩:=yN h2
 have e:=jde (by intro e;rw[e]at a;simp at a) c h3
 rw[if_pos ⟨h1,by rw[e];exact h2,by rw[e]⟩,e]
section
attribute [local go_sem] jnn
theorem yc{P:Program}{w w':World}{N:Nat}{name:String}{cs:Array Value}(h:w.var? P name=some cs)(hb:Below N w w')(hN:w.heap.size<=N):w'.var? P name=some cs:=by
 unfold World.var? at *
 cases hg:P.globalNamed name with
 | none=>simp[hg]at h
 | some g =>
 simp only[hg,Option.bind_some]at h ⊢
 have hlt:g<w.heap.size:=by
  rcases jnK g w.heap.size with h'|h'
  ·exact h'
  rw[jn2 h']at h;simp at h
 rw[hb.block g (by omega)]
 exact h
structure Tabs(w:World):Prop where
 err:ErrT w
 pow:Lib.TabIs prog w "internal/strconv.uint64pow10" .u64 Lib.pow10Tab
 syn:∃tp p,w.var? prog "strconv.ErrSyntax" = some #[.iface tp p]
 ran:∃tp p,w.var? prog "strconv.ErrRange" = some #[.iface tp p]
theorem Tabs.below{w w':World}{N:Nat}(h:Tabs w)(hb:Below N w w')(hN:w.heap.size<=N):Tabs w':=by
 obtain⟨a,b,⟨t1,p1,c⟩,⟨t2,p2,d⟩⟩:=h
 exact⟨a.below hb hN,yc b hb hN,⟨t1,p1,yc c hb hN⟩,⟨t2,p2,yc d hb hN⟩⟩
theorem jjl(a b:List UInt8):((B a).toList==(B b).toList)=decide (a=b):=by rw[jn0,jn0,ju,ju,jod];simp
theorem Ve(k:Int)(w:World):Calls prog 162 #[.int .i64 k] w fun e w'=>e=.returned (.string (B (qC k)))/\w'=w:=by
 unfold qC
 by_cases h1:k=1
 ·subst h1
  go_enter func162,ntmps162
  go_wp2_with fail
  go_ret
  exact⟨rfl,rfl⟩
 have q1:(k==1)=false:=by simpa using h1
 rw[if_neg h1]
 by_cases h2:k=2
 ·subst h2
  go_enter func162,ntmps162
  go_wp2_with fail
  go_ret
  exact⟨rfl,rfl⟩
 have q2:(k==2)=false:=by simpa using h2
 rw[if_neg h2]
 by_cases h3:k=3
 ·subst h3
  go_enter func162,ntmps162
  go_wp2_with fail
  go_ret
  exact⟨rfl,rfl⟩
 have q3:(k==3)=false:=by simpa using h3
 rw[if_neg h3]
 go_enter func162,ntmps162
 go_wp2_with fail
 go_ret
 exact⟨rfl,rfl⟩
theorem yJ{w:World}(n:Nat)(os:Array Obj):Below w.heap.size w (Go.Sort.grow (w.drewN n) os) :=
 ⟨rfl,rfl,rfl,by rw[Go.Sort.size_grow];exact jpb _ _,fun k hk=>jpA _ _ hk⟩
theorem jfo(ed:Ed)(fv:Value)(hi:I64 ed.id)(w:World)(ht:Tabs w):
  Calls prog 119 #[.agg #[.int .i64 ed.kind,.int .i64 ed.id,fv]] w fun e w'=>e=.returned (.string (B (zU ed.kind ed.id)))/\Below w.heap.size w w':=by
 obtain⟨wa,hwa⟩:∃wa,wa=w.alloc (.cells #[.int .i64 ed.kind,.int .i64 ed.id,fv] 63):=⟨_,rfl⟩
 have hba:Below w.heap.size w wa:=by rw[hwa];exact(jne _ w).alloc (jnd _) _
 have HB:=jnc hba
 have IT:=jnc (Tryz.strconv_Itoa ed.id hi.1 hi.2 wa (ht.below hba (jnd _)).pow)
 have WD:=jnc (Ve ed.kind wa)
 have hil:=Lib.itoa_length_le ed.id hi.1 hi.2
 have k0:wa.cell? ⟨w.heap.size,0,none⟩=some (.int .i64 ed.kind):=by rw[hwa];simp
 have k1:wa.cell? ⟨w.heap.size,1,none⟩=some (.int .i64 ed.id):=by rw[hwa];simp
 by_cases hk:ed.kind=1\/ed.kind=2\/ed.kind=3
 ·have e3:Hid (∀z:ByteArray,z=(⟨(Lib.itoa ed.id).toArray⟩:ByteArray)->(⟨#[32]⟩:ByteArray)++B (qC ed.kind) ++ ⟨#[32]⟩++z=B (zU ed.kind ed.id)):=by
   rintro z rfl
   unfold zU
   rw[if_pos hk,show(⟨#[32]⟩:ByteArray)=B [32] from rfl,show(⟨(Lib.itoa ed.id).toArray⟩:ByteArray)=B (Lib.itoa ed.id) from rfl,jZ,jZ,jZ]
   congr 1;simp
  have hne:((B (qC ed.kind))==(⟨#[]⟩:ByteArray))=false:=by
   rcases hk with h|h|h<;>rw[h]<;>decide
  have hne2:(B (qC ed.kind)).toList.isEmpty=false:=by
   rcases hk with h|h|h<;>rw[h]<;>decide +kernel
  have hws:(B (qC ed.kind)).size<=7:=by rw[jm];rcases hk with h | h | h<;>rw[h]<;>decide
  have his:(⟨(Lib.itoa ed.id).toArray⟩:ByteArray).size<=21:=by show(Lib.itoa ed.id).toArray.size<=21;simpa using hil
  generalize (⟨(Lib.itoa ed.id).toArray⟩:ByteArray)=z at *
  generalize B (qC ed.kind)=wd at *
  have s1:((⟨#[32]⟩:ByteArray)++wd).size<=8:=by rw[joj];show 1+_<=_;omega
  have s2:((⟨#[32]⟩:ByteArray)++wd ++ ⟨#[32]⟩).size<=9:=by rw[joj];show _+1<=_;omega
  clear hba ht
  subst hwa
  go_enter func119,ntmps119
  go_wp2_with fail
  refine WD.out.mono ?_
  rintro e w2 ⟨rfl,rfl⟩
  go_wp2_with fail
  refine IT.out.mono ?_
  rintro e w3 ⟨rfl,n,os,rfl⟩
  have B3:=jnc (HB.out.trans ((yJ n os).mono HB.out.size))
  go_wp2_with fail
  go_ret
  exact⟨by rw[e3.out _ rfl];rfl,B3.out⟩
 have e0:qC ed.kind=[]:=by
  unfold qC
  rw[if_neg (by omega),if_neg (by omega),if_neg (by omega)]
 have e1:zU ed.kind ed.id=[]:=by unfold zU;rw[if_neg hk]
 rw[e0]at WD
 rw[e1]
 rw[show B []=(⟨#[]⟩:ByteArray) from rfl]at WD ⊢
 clear hba ht
 subst hwa
 go_enter func119,ntmps119
 go_wp2_with fail
 refine WD.out.mono ?_
 rintro e w2 ⟨rfl,rfl⟩
 go_wp2_with fail
 go_ret
 exact⟨rfl,HB.out⟩
def Xn(j:List UInt8)(xs:List Ln):List UInt8:=xs.flatMap fun x=>j++x.bytes
theorem Gt(j:List UInt8)(pre:List Ln)(x:Ln):Xn j (pre++[x])=Xn j pre++j++x.text++(Wx x.ended).data.toList:=by
 have e:(Wx x.ended).data.toList=if x.ended then [10] else []:=by unfold Wx;cases x.ended<;>rfl
 rw[e]
 simp[Xn,Ln.bytes]
theorem jb8(j:List UInt8)(n m:Nat):∀xs:List Ln,(∀x∈xs,x.bytes.length<=m)->xs.length<=n->j.length<=m->(Xn j xs).length<=n*(2*m)
 | [],_,_,_=>by simp[Xn]
 | x::xs,h,hn,hj=>by
  obtain⟨n,rfl⟩:∃k,n=k+1:=⟨n-1,by simp at hn;omega⟩
  have ih:=jb8 j n m xs (fun y hy=>h y (jnm _ hy)) (by simpa using hn) hj
  have h1:=h x jno
  have e:Xn j (x::xs)=j++x.bytes++Xn j xs:=by simp[Xn]
  rw[e,Nat.add_mul]
  simp only[jnf]
  omega
def jmj(w:World)(z R:Nat)(j:List UInt8)(pre:List Ln)(W:World):Prop :=
 Boxed W z 9 (.string ⟨j.toArray⟩)/\Bld (z+1) R (Xn j pre) W/\Below w.heap.size w W
theorem jdv(s:ByteArray)(hs:s.size<=1000000)(sl:Value)(j:List UInt8)(hj:j.length<=1000000)(w:World)
  (hjoin:Calls prog 165 #[sl,.string ⟨#[]⟩] w fun e w'=>e=.returned (.string ⟨j.toArray⟩)/\Below w.heap.size w w') :
  Calls prog 121 #[.string s,sl] w fun e w'=>e=.returned (.string ⟨(Xn j (jf s.data.toList)).toArray⟩)/\Below w.heap.size w w':=by
 have hpos:∀x∈jf s.data.toList,x.bytes.length<=1000000:=by
  intro x hx
  have e:=zg s.data.toList
  obtain⟨a,b,hab⟩:=List.append_of_mem hx
  rw[hab,jnO,jnA]at e
  have:=congrArg List.length e
  rw[<- jnu]at this
  simp only[jnf]at this
  omega
 have hll:=vr s.data.toList
 rw[<- jnu]at hll
 obtain⟨xs,hxs⟩:∃xs,jf s.data.toList=xs:=⟨_,rfl⟩
 rw[hxs]at hpos hll ⊢
 have HXS:=jnc hxs
 clear hxs
 refine callsIn_wide (n:=9).1 ?_
 refine callsIn_of_wp_marks func121 rfl trivial ?_ rfl
 simp only[ntmps121,jnV,jni,jnG,Nat.reduceAdd,Nat.reduceSub,jn3,jn4,joa,jn5,jnU,jny]
 gi_wp2_with fail
 refine⟨trivial,(callsIn_wide.2 hjoin).mono ?_⟩
 rintro e w1 ⟨rfl,hb1⟩
 have zs:=hb1.size
 gi_wp2_with fail
 refine⟨trivial,(callsIn_wide.2 (yG s _)).mono ?_⟩
 rintro e w3 ⟨rfl,rfl⟩
 gi_wp2_with fail
 have k5:=joy w1 9 (.string ⟨j.toArray⟩)
 have kb:=Bld.new (w1.alloc (.cells #[.string ⟨j.toArray⟩] 9)) (w1.heap.size+8)
 rw[jnB]at kb
 have k7:=Qk w1 (.cells #[.string ⟨j.toArray⟩] 9) (.cells #[.pointer none,.slice none 0 0] 182) 9 (.string s)
 have HH:=vf s (w1.heap.size+2) _ k7 (by omega)
 rw[HXS.out]at HH
 have hz:(((w1.alloc (.cells #[.string ⟨j.toArray⟩] 9)).alloc (.cells #[.pointer none,.slice none 0 0] 182)).alloc (.cells #[.string s] 9)).heap.size=w1.heap.size+3:=by simp
 have ab:∀k,k<=5->zN (w1.heap.size+3) k (jmj w w1.heap.size (w1.heap.size+8) j):=fun k hk pre W W' h ht =>
  ⟨ht.box h.1 (.inl (by omega)),h.2.1.turned ht (by omega) (by omega),h.2.2.trans (ht.below (by omega) h.2.2.size)⟩
 have init:jmj w w1.heap.size (w1.heap.size+8) j [] (((w1.alloc (.cells #[.string ⟨j.toArray⟩] 9)).alloc (.cells #[.pointer none,.slice none 0 0] 182)).alloc (.cells #[.string s] 9)) :=
  ⟨(k5.alloc _).alloc _,kb.alloc _,((hb1.alloc (by omega) _).alloc (by simp;omega) _).alloc (by simp;omega) _⟩
 refine vW (gf:=139) (lb:=#[.pointer (some ⟨w1.heap.size+2,0,none⟩)]) rfl (enters_of func139 (by kernel_rfl) rfl) HH (fun _=>rfl)
  (jmj w w1.heap.size (w1.heap.size+8) j) (fun _ _ _=>False) (by rw[hz];exact ab _ (by omega)) (fun _ _ _ _ hs _=>hs) init
  (fun a pre x a' W=>∃Bx,w1.heap.size+3+5<=Bx/\a'={tmps:=(a.tmps.setIfInBounds 12 (.agg (vl x))).setIfInBounds 7 (.pointer (some ⟨Bx,0,none⟩)),defers:=[]}/\ja W Bx 164 (vl x) /\
   jmj w w1.heap.size (w1.heap.size+8) j pre W)
  ?hM ?assign ?body ?done ?stop
 case hM =>
  rw[hz]
  rintro a pre x a' _ W W' ⟨Bx,h1,h2,h3,h4⟩ ht
  exact⟨Bx,h1,h2,(ht.same Bx h3.lt (.inr (by omega))).trans h3,ab 2 (by omega) pre W W' h4 ht⟩
 case assign =>
  rw[hz]
  intro l pre x post W hx hsz hi
  clear hx
  dsimp only[vl]
  gi_wp2
  exact⟨(vT.refl _ _ W).alloc hsz _,W.heap.size,by omega,rfl,ja.new _ _ _,hi.1.alloc _,hi.2.1.alloc _,hi.2.2.alloc hi.2.2.size _⟩
 case body =>
  rw[hz]
  rintro l pre x post a' W hx hsz ⟨Bx,hB,rfl,hc,h1,h2,h3⟩
  have hlen:(Xn j (pre++[x])).length<=1000000*(2*1000000):=by
   refine jb8 j 1000000 1000000 _ (fun y hy=>hpos y ?_) ?_ hj
   ·rw[hx]
    rcases List.mem_append.1 hy with h|h
    ·exact List.mem_append_left _ h
    rw[List.mem_singleton.1 h];simp
   have:=congrArg List.length hx
   simp at this ⊢
   omega
  rw[Gt]at hlen
  simp only[jnf,<- jnu]at hlen
  have HS:=jnc (Gt j pre x)
  clear hx
  simp only[jnq,jnM,jnN,vl]at hc ⊢
  have c5:=h1.cell
  have hne:Bx≠w1.heap.size+1:=by omega
  obtain⟨en,hen⟩:∃en,x.ended=en:=⟨_,rfl⟩
  rw[hen]at hlen hc ⊢
  gi_wp2_with fail
  refine⟨trivial,((callsIn_wide.2 (Qv (w1.heap.size+1) (w1.heap.size+8) _ ⟨j.toArray⟩ W h2 (by omega) (by omega) ?_)).inRound l).mono ?_⟩
  ·have:(⟨j.toArray⟩:ByteArray).size=j.length:=by simp[ByteArray.size]
   omega
  rintro e W1 ⟨rfl,b1,o1⟩
  have m1:ja W1 Bx 164 _:=o1.other hc hne (by decide)
  have p2:W1.cell? ⟨Bx,2,none⟩=some (.string ⟨x.text.toArray⟩):=m1.cell 2
  have z1:=o1.size
  gi_wp2_with fail
  refine⟨trivial,((callsIn_wide.2 (Qv (w1.heap.size+1) (w1.heap.size+8) _ ⟨x.text.toArray⟩ W1 b1 (by omega) (by omega) ?_)).inRound l).mono ?_⟩
  ·have e1:(⟨x.text.toArray⟩:ByteArray).size=x.text.length:=by simp[ByteArray.size]
   simp only[jnf,e1]
   omega
  rintro e W2 ⟨rfl,b2,o2⟩
  have m2:ja W2 Bx 164 _:=o2.other m1 hne (by decide)
  have z2:=o2.size
  have q0:W2.cell? ⟨Bx,0,none⟩=some (.int .i64 x.no):=m2.cell 0
  have q1:W2.cell? ⟨Bx,1,none⟩=some (.int .i64 x.at_):=m2.cell 1
  have q2:W2.cell? ⟨Bx,2,none⟩=some (.string ⟨x.text.toArray⟩):=m2.cell 2
  have q3:W2.cell? ⟨Bx,3,none⟩=some (.bool en):=m2.cell 3
  gi_wp2_with fail
  refine⟨trivial,((callsIn_wide.2 (jbf _ _ _ _ _)).inRound l).mono ?_⟩
  rintro e W3 ⟨rfl,rfl⟩
  gi_wp2_with fail
  refine⟨trivial,((callsIn_wide.2 (Qv (w1.heap.size+1) (w1.heap.size+8) _ (Wx en) _ (b2.alloc _) (by omega) (by simp;omega) ?_)).inRound l).mono ?_⟩
  ·have e1:(⟨x.text.toArray⟩:ByteArray).size=x.text.length:=by simp[ByteArray.size]
   simp only[jnf]
   omega
  rintro e W4 ⟨rfl,b3,o3⟩
  gi_wp2_with fail
  have oo:=((o1.trans o2).alloc (.cells #[.int .i64 x.no,.int .i64 x.at_,.string ⟨x.text.toArray⟩,.bool en] 164)).trans o3
  refine⟨oo.stay (by omega) (by omega) (by omega),oo.box h1 (by omega) (by omega),?_,h3.trans (oo.below (by omega) (by omega) (by have:=h3.size;omega))⟩
  rw[HS.out,hen]
  exact b3
 case done =>
  rw[hz]
  rintro W ⟨h1,h2,h3⟩ hmark
  have zW:w1.heap.size+3<W.heap.size:=(Array.getElem?_eq_some_iff.1 hmark).1
  gi_wp2_with fail
  refine⟨trivial,(callsIn_wide.2 (Tryz.Builder_String_any_k w.heap.size (w1.heap.size+1) _ W (h2.library (by omega) (by omega)) (by omega))).mono ?_⟩
  rintro e W1 ⟨rfl,_,g2,g3⟩
  have hK:W1.heap[w1.heap.size+3]?=some (.deferred (some [])):=g3 _ _ hmark (by simp) (fun c fz e=>by cases e)
  gi_wp2
  refine⟨by simp,.inl ⟨_,_,rfl,run_takeDeferred hK,?_⟩⟩
  refine⟨_,results_tmp rfl _ _ _,rfl,(h3.trans g2).trans (belowK_b (w:=w) (jnd _) W1 _ _ _ (by omega) hK rfl rfl)⟩
 case stop=>exact fun _ _ _ _ h=>h.elim
end
end Go.Proofs.YtpibhbjmcmfnmaaGreatDoor
