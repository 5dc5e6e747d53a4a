/- Texts put together:FLH,FLI,FLJ,FLO. -/
import Derived.Test.YtpibhbjmcmfnmaaGreatDoorBag28
set_option linter.unusedVariables false
set_option maxRecDepth 100000
set_option maxHeartbeats 16000000
namespace Go.Proofs.YtpibhbjmcmfnmaaGreatDoor.Kn
open Go.RowKit
theorem capK{Q:Exit->Act->World->Prop}{ops:Array Oper}{V:List Value}{a0:Act}{w0:World}{o:Oper}{v:Value}{x:Operand}{fn:Fn}{u:Value}(h:yj ops V o=some true)(ho:o.op=Op.makeFunc fn #[x] #[])(hx:qw ops V a0 o x=some u)(hv:v=.func fn #[u] #[]):yA Tryz.prog Q ops V a0 w0 o v:=by
 subst hv
 exact ji6 h fun ρ w _ ev=>by simp only[execOp,ho];simp[go_sem,ev _ _ hx]
end Go.Proofs.YtpibhbjmcmfnmaaGreatDoor.Kn
namespace Go.Proofs.YtpibhbjmcmfnmaaGreatDoor.Vf
open Go.RowKit Go.Maps Go.Shelf Bk Rp
attribute [local go_sem] jT vL
theorem jgk(r:Int)(z:ByteArray):(jJ (jV r) z).2=(if zy z then 0 else 1):=by
 cases hg:zy z with
 | true=>exact(ZC (D:=jV r) ⟨rfl,rfl⟩ hg rfl).1
 | false =>
 have e:zm (jV r).gone [z]=1:=by unfold zm;simp[hg]
 unfold jJ
 rw[if_pos (by rw[e];decide)]
 exact e
theorem Jh(z:ByteArray)(w:World):Calls Tryz.prog 22 #[.string z] w fun e w'=>e=.returned (.bool (xM z))/\Below w.heap.size w w':=by
 have N0:=jnc (Wn 0 w (by decide))
 by_cases hz:z.size<=16
 ·have hz':(z.size:Int)<=16:=by omega
  have G:xM z=zy z:=by unfold xM;rw[decide_eq_true hz];rfl
  rw[G]
  cases hg:zy z with
  | true =>
   have CR:Hid (∀W p L,jD L W p (jV 0)->L<=W.heap.size->Calls Tryz.prog 28 #[.pointer (some ⟨p,0,none⟩),.string z] W fun e w'=>e=.returned .nilIface/\jO L W w'):=fun W p L hd hL=>by
    have h:=WV (n:=0) hd hL (vZ 0 (by decide) (by decide)) (by omega) z (by omega)
    rw[jgk 0,hg]at h
    exact h.mono fun e w' ⟨h1,_,h3⟩=>⟨h1,h3⟩
   go_enter Tryz.func22,Tryz.ntmps22
   go_wp2_with fail
   refine N0.out.mono ?_
   rintro e w1 ⟨rfl,h1,b1,hs⟩
   have C:=jnc (CR.out w1 w.heap.size w.heap.size ⟨_,h1,fun b hb=>by split at hb<;>omega⟩ b1.size)
   have B1:=jnc b1
   clear h1 b1 N0 CR
   go_wp2_with fail
   refine C.out.mono ?_
   rintro e w2 ⟨rfl,hk⟩
   have B2:=jnc (B1.out.trans hk.bel)
   clear hk
   go_wp2_with fail
   go_ret
   exact⟨rfl,B2.out⟩
  | false =>
  have CR:Hid (∀W p L,jD L W p (jV 0)->L<=W.heap.size->Calls Tryz.prog 28 #[.pointer (some ⟨p,0,none⟩),.string z] W fun e w'=>e=.returned (qm 1)/\jO L W w'):=fun W p L hd hL=>by
   have h:=WV (n:=0) hd hL (vZ 0 (by decide) (by decide)) (by omega) z (by omega)
   rw[jgk 0,hg]at h
   exact h.mono fun e w' ⟨h1,_,h3⟩=>⟨h1,h3⟩
  go_enter Tryz.func22,Tryz.ntmps22
  go_wp2_with fail
  refine N0.out.mono ?_
  rintro e w1 ⟨rfl,h1,b1,hs⟩
  have C:=jnc (CR.out w1 w.heap.size w.heap.size ⟨_,h1,fun b hb=>by split at hb<;>omega⟩ b1.size)
  have B1:=jnc b1
  clear h1 b1 N0 CR
  go_wp2_with fail
  refine C.out.mono ?_
  rintro e w2 ⟨rfl,hk⟩
  have B2:=jnc (B1.out.trans hk.bel)
  clear hk
  go_wp2_with fail
  go_ret
  exact⟨rfl,B2.out⟩
 have hz':¬(z.size:Int)<=16:=by omega
 have G:xM z=false:=by unfold xM;rw[decide_eq_false hz];rfl
 rw[G]
 go_enter Tryz.func22,Tryz.ntmps22
 go_wp2_with fail
 refine N0.out.mono ?_
 rintro e w1 ⟨rfl,h1,b1,hs⟩
 have B1:=jnc b1
 clear h1 b1 N0
 go_wp2_with fail
 go_ret
 exact⟨rfl,B1.out⟩
def jcI(L q p:Nat)(z:ByteArray)(D D1 DE:ji)(tx:List UInt8)(w0:World)(i:Nat)(W:World):Prop :=
 if i<=1 then jD L W p D/\jO L w0 W else if i=2 then jD L W p D1/\jO L w0 W else jD L W p DE/\vB W q p z (B tx)/\Kq L q w0 W
theorem jcI.kq{L q p i:Nat}{z:ByteArray}{D D1 DE:ji}{tx:List UInt8}{w0 W:World}(h:jcI L q p z D D1 DE tx w0 i W):Kq L q w0 W:=by
 unfold jcI at h
 split at h
 ·exact h.2.kq q
 split at h
 ·exact h.2.kq q
 exact h.2.2
theorem Kq.cells{L q:Nat}{w w':World}(h:Kq L q w w'){b:Nat}{t:TypeId}{cur:Array Value}(hc:ja w b t cur)(ht:jgZ t)(hb:b≠q):ja w' b t cur:=(h.rest b cur t (0,0) hb hc ht).trans hc
theorem jaW{L n p m:Nat}{D:ji}{z:ByteArray}{t base tail:List UInt8}{bds:List (List UInt8)}{its:List It}{k:LS}{w:World}(hL:L<=w.heap.size)
  (hd:jD L w p D) (hf:zJ n D) (hn:n<=100000) (hc:Uj D) (hg:xM z=true) (hri:yw D.seen) (has:Xl D (Ud z)=false) (hsaw:Xl (vk D z) z=true) (hr:yx (vk D z) z=(B t,0))
  (hS:qL Dc t m base bds tail) (hp:jE base=.ok its) (hk:qS (qE its) (zM bds)=some k) (ht:t.length<=100000) (hbs:(vn (t.drop (hl (Hd.genP t)))).length<=60000) (hsum:base.length+Jc (zM bds)<=5000) (hT:∀W,Below L w W->QX W) :
  Calls Tryz.prog 9 #[.pointer (some ⟨p,0,none⟩),.string z] w fun e w'=>∃q,e=.returned (.tuple #[.pointer (some ⟨q,0,none⟩),.nilIface])/\w.heap.size<=q/\jD L w' p (if tail=[] then vk D z else ZW (vk D z) z (jo m base bds))/\vB w' q p z (B (t.take (jo m base bds)))/\jO L w w':=by
 have hz:zy z=true:=by unfold xM at hg;rw[jnv]at hg;exact hg.2
 have hzs:=xL hz
 have GG:=jnc (Jh z w)
 rw[hg]at GG
 obtain⟨DE,hDE⟩:∃x,x=(if tail=[] then vk D z else ZW (vk D z) z (jo m base bds)):=⟨_,rfl⟩
 rw[<- hDE]
 have HDE:=jnc hDE
 have HD:=jnc hd
 have HFI:=jnc hf
 have HC:=jnc hc
 have HTT:=jnc hT
 have HLL:=jnc hL
 have HSS:=jnc hS
 have HRI:=jnc hri
 have HAS:=jnc has
 have HSW:=jnc hsaw
 have HRR:=jnc hr
 clear hDE hd hf hc hT hL hS hri has hsaw hr
 go_enter Tryz.func9,Tryz.ntmps9
 go_wp2_with fail
 refine GG.out.mono ?_
 rintro e w1 ⟨rfl,b1⟩
 obtain⟨w2,hw2⟩:∃x,w1.alloc (.cells #[.pointer (some ⟨p,0,none⟩),.string z,.string ⟨#[]⟩] 69)=x:=⟨_,rfl⟩
 obtain⟨q,hq⟩:∃x,w1.heap.size=x:=⟨_,rfl⟩
 have b12:Below w1.heap.size w1 w2:=by rw[<- hw2];exact(jne _ _).alloc (jnd _) _
 have F2:vB w2 q p z ⟨#[]⟩:=by rw[<- hw2,<- hq];exact ja.new _ _ _
 have B2:=jnc (b1.trans (b12.mono b1.size))
 have hqw:w.heap.size<=q:=by rw[<- hq];exact b1.size
 have HF2:=jnc F2
 have HW2:=jnc hw2
 have HQ:=jnc hq
 clear b1 b12 hw2 F2 GG hq
 go_upto_region 4 with fail
 rw[HW2.out,HQ.out]
 have C0:Hid (∀W,Below w2.heap.size w2 W->W.cell? ⟨q,0,none⟩=some (.pointer (some ⟨p,0,none⟩))):=fun W hW=>(jd HF2.out hW HF2.out.lt).cell 0
 have C1:Hid (∀W,Below w2.heap.size w2 W->W.cell? ⟨q,1,none⟩=some (.string z)):=fun W hW=>(jd HF2.out hW HF2.out.lt).cell 1
 refine wp_region_any (by kernel_rfl) ?_
 refine Kn.wpAny_known_tail 12 3 [(21,.pointer (some ⟨q,0,none⟩)),(22,.pointer (some ⟨q,0,none⟩)),(23,.pointer (some ⟨q,0,none⟩)),(24,zl p z),(25,.func (.func 33) #[zl p z] #[]),(26,.pointer (some ⟨q,0,none⟩)),(27,.pointer (some ⟨q,0,none⟩)),(28,.pointer (some ⟨q,0,none⟩)),(29,zl p z),(30,.func (.func 34) #[zl p z] #[]),(31,.pointer (some ⟨q,0,none⟩)),(32,.func (.func 35) #[.pointer (some ⟨q,0,none⟩)] #[])] (by kernel_rfl) (by decide) rfl (by kernel_rfl) (by kernel_rfl) (by kernel_rfl) (by kernel_rfl) (by kernel_rfl) ?st ?hQ
 case st =>
  unfold zl
  repeat (refine And.intro (by first
   | exact Kn.fieldK (b:=q) (i:=0) (j:=0) (by kernel_rfl) rfl (by kernel_rfl) rfl (fun w=>by simp[go_sem])
   | exact Kn.nilK (by kernel_rfl) rfl (by kernel_rfl)
   | exact Kn.loadK (T:=67) (b:=q) (i:=0) (by kernel_rfl) rfl (by kernel_rfl) (fun w hw=>by simp[go_sem,C0.out w (yk hw),C1.out w (yk hw)])
   | exact Kn.capK (u:=.agg #[.pointer (some ⟨p,0,none⟩),.string z]) (fn:=.func 33) (by kernel_rfl) rfl (by kernel_rfl) rfl
   | exact Kn.capK (u:=.agg #[.pointer (some ⟨p,0,none⟩),.string z]) (fn:=.func 34) (by kernel_rfl) rfl (by kernel_rfl) rfl
   | exact Kn.capK (u:=.pointer (some ⟨q,0,none⟩)) (fn:=.func 35) (by kernel_rfl) rfl (by kernel_rfl) rfl
   | exact Kn.stepA (by kernel_rfl) (by kernel_rfl)) ?_)
  exact trivial
 case hQ =>
 intro w3 b3
 replace b3:=yk b3
 obtain⟨w4,hw4⟩:∃x,w3.alloc (.cells #[.func (.func 33) #[zl p z] #[],.func (.func 34) #[zl p z] #[],.func (.func 35) #[.pointer (some ⟨q,0,none⟩)] #[]] 78)=x:=⟨_,rfl⟩
 have b34:Below w3.heap.size w3 w4:=by rw[<- hw4];exact(jne _ _).alloc (jnd _) _
 have A4:ja w4 w3.heap.size 78 #[.func (.func 33) #[zl p z] #[],.func (.func 34) #[zl p z] #[],.func (.func 35) #[.pointer (some ⟨q,0,none⟩)] #[]]:=by rw[<- hw4];exact ja.new _ _ _
 have b24:=b3.trans (b34.mono b3.size)
 have B4:=jnc (B2.out.trans (b24.mono B2.out.size))
 have F4:=jd HF2.out b24 HF2.out.lt
 have D4:=HD.out.below B4.out
 have hL4:L<=w4.heap.size:=jns HLL.out B4.out.size
 have hne:w3.heap.size≠q:=by have:=HF2.out.lt;have:=b3.size;omega
 have CAL:=Gk (z:=z) HC.out hz
 have FMA:=Yt (z:=z) HFI.out (by omega)
 have DD:=jnc (jab [(33,#[zl p z],#[]),(34,#[zl p z],#[]),(35,#[.pointer (some ⟨q,0,none⟩)],#[])] (jcI L q p z D (vk D z) DE (t.take (jo m base bds)) w4) (fun _ _=>False) w3.heap.size (by show 3<=1000;omega)
  (fun i W hst j x hx=>by
   rw[(hst.kq.cells A4 (by decide) hne).cell]
   match j with
   | 0=>obtain rfl:=jng hx;rfl
   | 1=>obtain rfl:=jng hx;rfl
   | 2=>obtain rfl:=jng hx;rfl
   | j+3=>simp at hx)
  (fun x hx=>by
   simp only[joS,jpc,or_false]at hx
   rcases hx with rfl|rfl|rfl
   ·exact enters_of Tryz.func33 (by kernel_rfl) rfl
   ·exact enters_of Tryz.func34 (by kernel_rfl) rfl
   exact enters_of Tryz.func35 (by kernel_rfl) rfl)
  (fun i x W hx hst=>by
   have hLW:L<=W.heap.size:=jns hL4 hst.kq.bel.size
   match i with
   | 0 =>
    obtain rfl:=jng hx
    replace hst:jD L W p D/\jO L w4 W:=hst
    refine(jam hst.1 HFI.out (by omega) HRI.out (by omega) HAS.out).mono ?_
    rintro e W' ⟨rfl,hb⟩
    exact⟨_,rfl,.inl ⟨rfl,hst.1.below hb,hst.2.then_ hb (jns hL4 (jnd _))⟩⟩
   | 1 =>
    obtain rfl:=jng hx
    replace hst:jD L W p D/\jO L w4 W:=hst
    refine(Ys hst.1 hLW HFI.out (by omega) HC.out HRI.out hz).mono ?_
    rintro e W' ⟨rfl,h1,h2⟩
    exact⟨_,rfl,.inl ⟨rfl,h1,hst.2.trans h2⟩⟩
   | 2 =>
    obtain rfl:=jng hx
    replace hst:jD L W p (vk D z)/\jO L w4 W:=hst
    refine(jj9 hLW (jns HLL.out hqw) (hst.2.cells F4 (by decide)) hst.1 FMA (by omega) CAL hz HSW.out HRR.out HSS.out hp hk ht hbs hsum (fun W' hW'=>HTT.out W' ((B4.out.mono HLL.out).trans (hst.2.bel.trans hW')))).mono ?_
    rintro e W' ⟨rfl,h1,h2,h3⟩
    rw[<- HDE.out]at h1
    exact⟨_,rfl,.inl ⟨rfl,h1,h2,(hst.2.kq q).trans h3⟩⟩
   | i+3=>simp at hx) w4 ⟨D4,jO.refl _ _⟩)
 have HW4:=jnc hw4
 clear b3 b34 A4 b24 F4 D4 CAL FMA C0 C1 hw4
 simp only[List.foldl,jnq,jnM,jnN,joh,jop]
 go_wp2_with fail
 rw[HW4.out]
 refine DD.out.mono ?_
 rintro e w5 ⟨u,rfl,⟨rfl,h⟩|⟨_,h⟩⟩
 ·have R:Hid (jD L w5 p DE/\vB w5 q p z (B (t.take (jo m base bds)))/\Kq L q w4 w5):=h
  clear h DD
  go_wp2_with fail
  go_ret2
  refine⟨q,rfl,hqw,R.out.1,R.out.2.1,?_⟩
  have K4:=jO.of_below B4.out HLL.out
  exact⟨K4.bel.trans R.out.2.2.bel,fun b c t fr ho hn=>by
   have h1:=K4.rest b c t fr ho hn
   have hlt:=(Array.getElem?_eq_some_iff.1 ho).1
   exact(R.out.2.2.rest b c t fr (by omega) (h1.trans ho) hn).trans h1⟩
 exact h.elim
end Go.Proofs.YtpibhbjmcmfnmaaGreatDoor.Vf
namespace Go.Proofs.YtpibhbjmcmfnmaaGreatDoor.Kn
open Go.RowKit
section
variable {Q:Exit->Act->World->Prop} {ops:Array Oper} {V:List Value} {a0:Act} {w0:World} {o:Oper} {v:Value}
theorem fromK{x y:Operand}{s:ByteArray}{j:Nat}(h:yj ops V o=some true)(ho:o.op=Op.slice 9 x (some y) none none)(hx:qw ops V a0 o x=some (.string s))(hy:qw ops V a0 o y=some (.int .i64 (j:Nat)))(hj:j<=s.size)(hv:v=.string (s.extract j s.size)):yA Tryz.prog Q ops V a0 w0 o v:=by
 subst hv
 have h1:(j:Int)<=(s.size:Int):=by omega
 exact ji6 h fun ρ w _ ev=>by simp only[execOp,ho];simp[go_sem,ev _ _ hx,ev _ _ hy,Result.andThen,h1]
theorem lenK{x:Operand}{s:ByteArray}(h:yj ops V o=some true)(ho:o.op=Op.call {callee:=Callee.builtin Builtin.len,args:=#[x],argTypes:=#[9]})(hx:qw ops V a0 o x=some (.string s))(hv:v=.int .i64 s.size):yA Tryz.prog Q ops V a0 w0 o v:=by
 subst hv
 exact ji6 h fun ρ w _ ev=>by simp only[execOp,ho];simp[go_sem,ev _ _ hx]
end
end Go.Proofs.YtpibhbjmcmfnmaaGreatDoor.Kn
namespace Go.Proofs.YtpibhbjmcmfnmaaGreatDoor.Vf
open Go.RowKit Go.Maps Go.Shelf Bk Rp
attribute [local go_sem] jT vL
def jlf(a b c:Nat):Value:=.func (.func 79) #[] #[.pointer (some ⟨a,0,none⟩),.pointer (some ⟨b,0,none⟩),.pointer (some ⟨c,0,none⟩)]
structure jbw(w:World)(p a b c:Nat)(z r:ByteArray):Prop where
 pl:ja w a 67 #[.pointer (some ⟨p,0,none⟩),.string z]
 nm:ja w b 9 #[.string z]
 tx:ja w c 9 #[.string r]
theorem jbw.below{w w':World}{p a b c:Nat}{z r:ByteArray}(h:jbw w p a b c z r)(hb:Below w.heap.size w w'):jbw w' p a b c z r:=⟨jd h.pl hb h.pl.lt,jd h.nm hb h.nm.lt,jd h.tx hb h.tx.lt⟩
theorem jbw.keeps{L:Nat}{w w':World}{p a b c:Nat}{z r:ByteArray}(h:jbw w p a b c z r)(hk:jO L w w'):jbw w' p a b c z r:=⟨hk.cells h.pl (by decide),hk.cells h.nm (by decide),hk.cells h.tx (by decide)⟩
theorem jjU(p:Nat)(z r:ByteArray)(w:World):Calls Tryz.prog 41 #[zl p z,.string z,.string r] w fun e w'=>∃a b c,e=.returned (jlf a b c)/\jbw w' p a b c z r/\Below w.heap.size w w':=by
 obtain⟨w1,hw1⟩:∃x,w.alloc (.cells #[.pointer (some ⟨p,0,none⟩),.string z] 67)=x:=⟨_,rfl⟩
 obtain⟨w2,hw2⟩:∃x,w1.alloc (.cells #[.string z] 9)=x:=⟨_,rfl⟩
 obtain⟨w3,hw3⟩:∃x,w2.alloc (.cells #[.string r] 9)=x:=⟨_,rfl⟩
 have b1:Below w.heap.size w w1:=by rw[<- hw1];exact(jne _ _).alloc (jnd _) _
 have b2:Below w1.heap.size w1 w2:=by rw[<- hw2];exact(jne _ _).alloc (jnd _) _
 have b3:Below w2.heap.size w2 w3:=by rw[<- hw3];exact(jne _ _).alloc (jnd _) _
 have P1:ja w1 w.heap.size 67 #[.pointer (some ⟨p,0,none⟩),.string z]:=by rw[<- hw1];exact ja.new _ _ _
 have P2:ja w2 w1.heap.size 9 #[.string z]:=by rw[<- hw2];exact ja.new _ _ _
 have P3:ja w3 w2.heap.size 9 #[.string r]:=by rw[<- hw3];exact ja.new _ _ _
 have b23:=b2.trans (b3.mono b2.size)
 have R:=show jbw w3 p w.heap.size w1.heap.size w2.heap.size z r/\Below w.heap.size w w3 from⟨⟨jd P1 b23 P1.lt,jd P2 b3 P2.lt,P3⟩,b1.trans (b23.mono b1.size)⟩
 have e1:w1.heap.size=w.heap.size+1:=by rw[<- hw1];simp
 have e2:w2.heap.size=w.heap.size+1+1:=by rw[<- hw2,<- e1];simp
 rw[e2,e1]at R
 replace R:=jnc R
 have H1:=jnc hw1
 have H2:=jnc hw2
 have H3:=jnc hw3
 clear b1 b2 b3 P1 P2 P3 b23 hw1 hw2 hw3
 unfold zl jlf
 go_enter Tryz.func41,Tryz.ntmps41
 go_wp2_with fail
 rw[H1.out,H2.out,H3.out]
 go_ret
 exact⟨_,_,_,rfl,R.out⟩
theorem jmr{L n p a b c:Nat}{w:World}{D:ji}{z r:ByteArray}(h:jD L w p D)(hL:L<=w.heap.size)(hf:zJ n D)(hn:n<=300000)(hz:z.size<=1000000)(hr:r.size<=60000)(hP:jbw w p a b c z r)(h0:(zp D z r).2=0):
  Calls Tryz.prog 80 #[.pointer (some ⟨a,0,none⟩),.pointer (some ⟨b,0,none⟩),.pointer (some ⟨c,0,none⟩)] w fun e w'=>e=.returned .nilIface/\jD L w' p (zp D z r).1/\jO L w w':=by
 have K:=ji1 h hL hf hn z r hz (by omega)
 rw[h0,jT]at K
 replace K:=jnc K
 have c0:=hP.pl.cell 0
 have c1:=hP.nm.cell 0
 have c2:=hP.tx.cell 0
 clear h hf hP h0
 go_enter Tryz.func80,Tryz.ntmps80
 go_wp2_with fail
 refine K.out.mono ?_
 rintro e w1 ⟨rfl,h1,h2⟩
 go_wp2_with fail
 go_ret
 exact⟨rfl,h1,h2⟩
theorem jmq{L n p a b c:Nat}{w:World}{D:ji}{z r:ByteArray}(h:jD L w p D)(hL:L<=w.heap.size)(hf:zJ n D)(hn:n<=300000)(hz:z.size<=1000000)(hP:jbw w p a b c z r)(h0:(qx D z).2=0):
  Calls Tryz.prog 81 #[.pointer (some ⟨a,0,none⟩),.pointer (some ⟨b,0,none⟩)] w fun e w'=>e=.returned .nilIface/\jD L w' p (qx D z).1/\jO L w w':=by
 have K:=jjB h hL hf (by omega) z hz
 rw[h0,jT]at K
 replace K:=jnc K
 have c0:=hP.pl.cell 0
 have c1:=hP.nm.cell 0
 clear h hf hP h0
 go_enter Tryz.func81,Tryz.ntmps81
 go_wp2_with fail
 refine K.out.mono ?_
 rintro e w1 ⟨rfl,h1,h2⟩
 go_wp2_with fail
 go_ret
 exact⟨rfl,h1,h2⟩
theorem jm2{L n p a b c:Nat}{w:World}{D:ji}{z r:ByteArray}(h:jD L w p D)(hL:L<=w.heap.size)(hf:zJ n D)(hn:n<=150000)(hz:z.size<=1000000)(hr:r.size<=60000)(hP:jbw w p a b c z r)(h0:(zp D z r).2=0)(h1:(qx (zp D z r).1 z).2=0):
  Calls Tryz.prog 79 #[.pointer (some ⟨a,0,none⟩),.pointer (some ⟨b,0,none⟩),.pointer (some ⟨c,0,none⟩)] w fun e w'=>e=.returned .nilIface/\jD L w' p (qx (zp D z r).1 z).1/\jO L w w':=by
 obtain⟨w2,hw2⟩:∃x,w.alloc (.cells #[.func (.func 80) #[] #[.pointer (some ⟨a,0,none⟩),.pointer (some ⟨b,0,none⟩),.pointer (some ⟨c,0,none⟩)],.func (.func 81) #[] #[.pointer (some ⟨a,0,none⟩),.pointer (some ⟨b,0,none⟩)]] 78)=x:=⟨_,rfl⟩
 have b2:Below w.heap.size w w2:=by rw[<- hw2];exact(jne _ _).alloc (jnd _) _
 have C2:ja w2 w.heap.size 78 #[.func (.func 80) #[] #[.pointer (some ⟨a,0,none⟩),.pointer (some ⟨b,0,none⟩),.pointer (some ⟨c,0,none⟩)],.func (.func 81) #[] #[.pointer (some ⟨a,0,none⟩),.pointer (some ⟨b,0,none⟩)]]:=by rw[<- hw2];exact ja.new _ _ _
 have P2:=hP.below b2
 have hL2:L<=w2.heap.size:=jns hL b2.size
 have DD:=jnc (doD [(80,#[],#[.pointer (some ⟨a,0,none⟩),.pointer (some ⟨b,0,none⟩),.pointer (some ⟨c,0,none⟩)]),(81,#[],#[.pointer (some ⟨a,0,none⟩),.pointer (some ⟨b,0,none⟩)])] (fun i=>if i=0 then D else if i=1 then (zp D z r).1 else (qx (zp D z r).1 z).1) (by show 2<=1000;omega) C2 (h.below b2)
  (fun x hx=>by
   rcases List.mem_cons.1 hx with rfl|hx
   ·exact enters_of Tryz.func80 (by kernel_rfl) rfl
   obtain rfl:=List.mem_singleton.1 hx
   exact enters_of Tryz.func81 (by kernel_rfl) rfl)
  (fun i x W hx hd hk=>by
   have hLW:L<=W.heap.size:=jns hL2 hk.bel.size
   match i with
   | 0 =>
    obtain rfl:=jng hx
    exact jmr hd hLW hf (by omega) hz hr (P2.keeps hk) h0
   | 1 =>
    obtain rfl:=jng hx
    replace hd:jD L W p (zp D z r).1:=hd
    exact jmq hd hLW (ZL hf z r) (by omega) hz (P2.keeps hk) h1
   | i+2=>simp at hx))
 have K2:=jnc (jO.of_below b2 hL)
 have HW2:=jnc hw2
 clear h hf hP h0 h1 b2 C2 P2 hw2
 go_enter Tryz.func79,Tryz.ntmps79
 go_wp2_with fail
 rw[HW2.out]
 refine DD.out.mono ?_
 rintro e w3 ⟨rfl,h3,h4⟩
 have R:=jnc (show jD L w3 p (qx (zp D z r).1 z).1/\jO L w w3 from⟨h3,K2.out.trans h4⟩)
 clear h3 h4 DD
 go_wp2_with fail
 go_ret
 exact⟨rfl,R.out⟩
theorem jgF{L n q p m:Nat}{D:ji}{z:ByteArray}{t r base:List UInt8}{bds:List (List UInt8)}{its:List It}{k:LS}{eds:List Ed}{bv:Value}{w:World}(hL:L<=w.heap.size)(hq:L<=q)
  (h:vB w q p z (B t)) (hd:jD L w p D) (hf:zJ n D) (hn:n<=100000) (hz:z.size<=20) (hr:yx D z=(B t,0))
  (hS:qL Dc t m base bds []) (hp:jE base=.ok its) (hk:qS (qE its) (zM bds)=some k) (ht:t.length<=60000) (hsum:base.length+Jc (zM bds)<=5000)
  (hE:EdV w bv eds) (hlen:eds.length<=51) (hfi:Xk eds) (hsm:Xg eds) (hid:∀ed∈eds,I64 ed.id) (hdo:(doB k eds).2=0) (hch:(vS eds).2=0) (hbt:(js eds).length<=50000) (hrr:Fr.fullR (js eds)=r) (hrl:r.length<=60000)
  (h0:(zp D z (B r)).2=0) (h1:(qx (zp D z (B r)).1 z).2=0) (hT:∀W,Below L w W->QX W/\ErrT W) :
  Calls Tryz.prog 12 #[.pointer (some ⟨q,0,none⟩),bv] w fun e w'=>e=.returned .nilIface/\jD L w' p (qx (zp D z (B r)).1 z).1/\vB w' q p z (B (t++r))/\Kq L q w w':=by
 have CK:=jnc (Qi h hd hf (by omega) (by omega) hr)
 have HF:=jnc h
 have HD:=jnc hd
 have HFI:=jnc hf
 have HTT:=jnc hT
 have HLL:=jnc hL
 have HSS:=jnc hS
 have HE:=jnc hE
 have HX:=jnc (And.intro h0 h1)
 have hpt:=hS.parts
 have hbl:(vn (t.drop (hl (Hd.genP t)))).length<=60000:=by have:=yb t (hl (Hd.genP t));omega
 have HR:Hid (t.take (jo m base bds)++Fr.fullR (js eds)=t++r):=by
  show _=_
  rw[hrr,jnD (by have:=hpt.len;simp at this;omega)]
 obtain⟨va,vc,rfl,_⟩:∃A c,bv=.slice A eds.length c/\True:=by obtain⟨A,c,e,_⟩:=hE;exact⟨A,c,e,trivial⟩
 clear h hd hf hT hL hS hE h0 h1 hpt hr
 go_enter Tryz.func12,Tryz.ntmps12
 go_wp2_with fail
 refine CK.out.mono ?_
 rintro e w1 ⟨rfl,b1⟩
 have F1:=jd HF.out b1 HF.out.lt
 have c2:w1.cell? ⟨q,2,none⟩=some (.string (B t)):=F1.cell 2
 have B1:=jnc b1
 have TX:=jnc (KO t (by omega) hbl (fun n' base' bds' tail' hS'=>by obtain⟨rfl,rfl,rfl,rfl⟩:=hS'.same HSS.out;exact hsum) w1 (HTT.out w1 (b1.mono HLL.out)).1)
 clear b1 CK F1
 go_wp2_with fail
 refine TX.out.mono ?_
 rintro e w3 h3
 obtain⟨b3,v,lb,ev,ps,rfl,hBR,hC⟩:=h3.yes HSS.out hp hk
 obtain⟨bv,ev',us,rfl,hBt,hEv⟩:=hBR.is
 obtain⟨ba,bc,rfl,_⟩:=jg hBt.row
 obtain⟨ea,ec,rfl,_⟩:=jg hEv
 unfold Ql ptr at *
 obtain⟨w4,hw4⟩:∃z,w3.alloc (.cells #[.int .i64 m,.string (B base),.slice ba bds.length bc,.slice ea bds.length ec,.string (B [])] 73)=z:=⟨_,rfl⟩
 have b34:Below w3.heap.size w3 w4:=by rw[<- hw4];exact(jne _ _).alloc (jnd _) _
 have b4:=b3.trans (b34.mono b3.size)
 have B4:=jnc (B1.out.trans (b4.mono B1.out.size))
 have DO:=jnc (jjp eds _ (HE.out.below B4.out (jnd _)) hlen hfi hsm (HTT.out w4 (B4.out.mono HLL.out)).2 (hC.below b34 (jnd _)) hsum)
 have HW4:=jnc hw4
 clear h3 hBR hBt hEv b3 hC hw4 b34 TX b4
 unfold ptr at *
 go_wp2_with fail
 rw[HW4.out]
 refine DO.out.mono ?_
 rintro e w5 ⟨b5,⟨hne,_⟩|⟨_,_,_,lb5,ev5,ps5,gv,rfl,_⟩⟩
 ·exact absurd hdo hne
 have B5:=jnc (B4.out.trans (b5.mono B4.out.size))
 have F5:=jd HF.out B5.out HF.out.lt
 have c2':w5.cell? ⟨q,2,none⟩=some (.string (B t)):=F5.cell 2
 have AP:=jnc (jax t ht eds _ w5 (HE.out.below B5.out (jnd _)) (by omega) hfi.eight hid (HTT.out w5 (B5.out.mono HLL.out)).1)
 clear b5 DO F5 c2
 unfold ptr at *
 go_wp2_with fail
 refine AP.out.mono ?_
 rintro e w6 ⟨b6,h6⟩
 have B6:=jnc (B5.out.trans (b6.mono B5.out.size))
 have hX:e=.returned (.tuple #[.string (B (t++r)),.nilIface]):=by
  rcases h6 with ⟨a,k,u,hb,_⟩|⟨n',base',bds',tail',hS',⟨hc,_⟩|⟨_,hl,_⟩|⟨_,_,rfl⟩⟩
  ·exact(hb.not HSS.out).elim
  ·exact absurd hch hc
  ·omega
  obtain⟨rfl,rfl,rfl,rfl⟩:=hS'.same HSS.out
  rw[HR.out]
 subst hX
 clear AP b6 h6 c2'
 go_upto_region 13 with fail
 have F6:=jnc (jd HF.out B6.out HF.out.lt)
 have C0:Hid (∀W,Below w6.heap.size w6 W->W.cell? ⟨q,0,none⟩=some (.pointer (some ⟨p,0,none⟩))):=fun W hW=>(jd F6.out hW F6.out.lt).cell 0
 have C1:Hid (∀W,Below w6.heap.size w6 W->W.cell? ⟨q,1,none⟩=some (.string z)):=fun W hW=>(jd F6.out hW F6.out.lt).cell 1
 have C2:Hid (∀W,Below w6.heap.size w6 W->W.cell? ⟨q,2,none⟩=some (.string (B t))):=fun W hW=>(jd F6.out hW F6.out.lt).cell 2
 refine wp_region_any (by kernel_rfl) ?_
 refine Kn.wpAny_some_tail 20 2 [(52,.val (.pointer (some ⟨q,0,none⟩))),(53,.val (.string (B (t++r)))),(54,.val (.pointer (some ⟨q,0,none⟩))),(55,.val (.pointer (some ⟨q,0,none⟩))),(56,.val (.pointer (some ⟨q,0,none⟩))),(57,.val (zl p z)),(58,.val (.pointer (some ⟨q,0,none⟩))),(59,.val (.pointer (some ⟨q,0,none⟩))),(60,.val (.pointer (some ⟨q,0,none⟩))),(61,.val (.pointer (some ⟨q,1,none⟩))),(62,.val (.string z)),(63,.val (.string (B (t++r)))),(64,.val (.pointer (some ⟨q,0,none⟩))),(65,.val (.pointer (some ⟨q,0,none⟩))),(66,.val (.pointer (some ⟨q,2,none⟩))),(67,.val (.string (B t))),(68,.val (.int .i64 (t.length:Nat))),(69,.val (.string (B r))),(70,.pr fun v W=>∃a b c,v=jlf a b c/\jbw W p a b c z (B r)),(71,.pr fun v W=>∃s a b c,v=.slice (some ⟨s,0,none⟩) 1 1/\ja W s 78 #[jlf a b c]/\jbw W p a b c z (B r))] (by kernel_rfl) (by decide) rfl (by kernel_rfl) (by kernel_rfl) (by kernel_rfl) (by kernel_rfl) (by kernel_rfl)
  ⟨fun v x y hb h=>by obtain⟨a,b,c,e,h1⟩:=h;exact⟨a,b,c,e,h1.below hb⟩,fun v x y hb h=>by obtain⟨s,a,b,c,e,h1,h2⟩:=h;exact⟨s,a,b,c,e,jd h1 hb h1.lt,h2.below hb⟩,trivial⟩ ?st ?hQ
 case st =>
  have bsz:(B t).size=t.length:=jm t
  have bex:(B (t++r)).extract t.length (B (t++r)).size=B r:=by rw[jf5,jm];simp
  have bsr:t.length<=(B (t++r)).size:=by rw[jm];simp
  unfold zl
  iterate 18 (refine And.intro ⟨(by first
   | exact Kn.fieldK (b:=q) (i:=0) (j:=0) (by kernel_rfl) rfl (by kernel_rfl) rfl (fun w=>by simp[go_sem])
   | exact Kn.fieldK (b:=q) (i:=0) (j:=1) (by kernel_rfl) rfl (by kernel_rfl) rfl (fun w=>by simp[go_sem])
   | exact Kn.fieldK (b:=q) (i:=0) (j:=2) (by kernel_rfl) rfl (by kernel_rfl) rfl (fun w=>by simp[go_sem])
   | exact Kn.nilK (by kernel_rfl) rfl (by kernel_rfl)
   | exact Kn.loadK (T:=67) (b:=q) (i:=0) (by kernel_rfl) rfl (by kernel_rfl) (fun w hw=>by simp[go_sem,C0.out w (yk hw),C1.out w (yk hw)])
   | (refine Kn.loadK (T:=9) (b:=q) (i:=1) (v:=.string z) (by kernel_rfl) rfl (by kernel_rfl) (fun w hw => ?_);simp[go_sem,C1.out w (yk hw)];done)
   | (refine Kn.loadK (T:=9) (b:=q) (i:=2) (v:=.string (B t)) (by kernel_rfl) rfl (by kernel_rfl) (fun w hw => ?_);simp[go_sem,C2.out w (yk hw)];done)
   | exact Kn.lenK (s:=B t) (by kernel_rfl) rfl (by kernel_rfl) (by rw[bsz])
   | exact Kn.fromK (s:=B (t++r)) (j:=t.length) (by kernel_rfl) rfl (by kernel_rfl) (by kernel_rfl) bsr (by rw[bex])
   | exact Kn.stepA (by kernel_rfl) (by kernel_rfl)),by kernel_rfl⟩ ?_)
  refine And.intro ⟨rfl,fun a W K hW dep _ hK => ?_⟩ (And.intro ⟨rfl,fun a W K hW dep _ hK => ?_⟩ trivial)
  ·obtain⟨u1,e1,q1⟩:=dep ⟨5,.data⟩ (by simp) rfl 57 rfl
   obtain⟨u2,e2,q2⟩:=dep ⟨10,.data⟩ (by simp) rfl 62 rfl
   obtain⟨u3,e3,q3⟩:=dep ⟨17,.data⟩ (by simp) rfl 69 rfl
   have q1':u1=zl p z:=q1
   have q2':u2=.string z:=q2
   have q3':u3=.string (B r):=q3
   subst q1' q2' q3'
   exact jhN (T:=fun v W'=>(∃a b c,v=jlf a b c/\jbw W' p a b c z (B r))/\Below W.heap.size W W') 41 rfl (evT e1) (evT e2) (evT e3) (enters_of Tryz.func41 (by kernel_rfl) rfl) ((jjU p z (B r) W).mono fun e w' ⟨a,b,c,he,h1,h2⟩=>⟨_,he,⟨a,b,c,rfl,h1⟩,h2⟩) (fun v w' hv=>hK v w' hv.2 hv.1)
  obtain⟨u1,e1,q1⟩:=dep ⟨18,.data⟩ (by simp) rfl 70 rfl
  obtain⟨a1,b1,c1,q1',hP⟩:∃a b c,u1=jlf a b c/\jbw W p a b c z (B r):=q1
  subst q1'
  exact Kn.mo_acts1 rfl (evT e1) (hK _ _ ((jne _ _).alloc (jnd _) _) ⟨_,a1,b1,c1,rfl,ja.new _ _ _,hP.below ((jne _ _).alloc (jnd _) _)⟩)
 case hQ =>
 rintro f w7 ⟨_,⟨sb,pa,pb,pc,hfb,hcb,hP⟩,_⟩ b7
 replace b7:=yk b7
 simp only[Kn.fin,List.foldl,jnq,jnM,jnN,joh,jop]
 have hfb':f 19=_:=hfb
 rw[hfb']
 have B7:=jnc (B6.out.trans (b7.mono B6.out.size))
 have D7:=HD.out.below B7.out
 have F7:=jd F6.out b7 F6.out.lt
 have hL7:L<=w7.heap.size:=jns HLL.out B7.out.size
 have DD:=doD [(79,#[],#[.pointer (some ⟨pa,0,none⟩),.pointer (some ⟨pb,0,none⟩),.pointer (some ⟨pc,0,none⟩)])] (fun i=>if i=0 then D else (qx (zp D z (B r)).1 z).1) (by show 1<=1000;omega) hcb D7
  (fun x hx=>by
   obtain rfl:=List.mem_singleton.1 hx
   exact enters_of Tryz.func79 (by kernel_rfl) rfl)
  (fun i x W hx hd hk=>by
   match i with
   | 0 =>
    obtain rfl:=jng hx
    exact jm2 hd (jns hL7 hk.bel.size) HFI.out (by omega) (by omega) (by rw[jm];exact hrl) (hP.keeps hk) HX.out.1 HX.out.2
   | i+1=>simp at hx)
 have BC:=jnc (Qm (q:=q) (t:=B (t++r)) (R:=fun w'=>jD L w' p (qx (zp D z (B r)).1 z).1/\jO L w7 w') rfl (DD.mono fun e w' ⟨he,h1,h2⟩=>⟨he,h2.cells F7 (by decide),h1,h2⟩))
 clear D7 F7 DD hcb b7 hP
 go_wp2_with fail
 refine BC.out.mono ?_
 rintro e w8 ⟨rfl,w9,⟨h1,h2⟩,h3,rfl⟩
 have H:=jnc (show jD L (w9.setCell ⟨q,2,none⟩ (.string (B (t++r)))) p (qx (zp D z (B r)).1 z).1/\vB (w9.setCell ⟨q,2,none⟩ (.string (B (t++r)))) q p z (B (t++r))/\Kq L q w (w9.setCell ⟨q,2,none⟩ (.string (B (t++r)))) from
  ⟨h1.set h3 2 _,vB.set h3,(((jO.of_below B7.out HLL.out).trans h2).kq q).trans (Kq.set hq (jns hL7 h2.bel.size) 2 _)⟩)
 clear h1 h2 h3 BC
 go_wp2_with fail
 go_ret
 exact⟨rfl,H.out⟩
end Go.Proofs.YtpibhbjmcmfnmaaGreatDoor.Vf
namespace Go.Proofs.YtpibhbjmcmfnmaaGreatDoor.Vf
open Go.RowKit Go.Maps Go.Shelf Bk Rp
def zf:ByteArray:=⟨#[102]⟩
def jd9(room:Int)(t:ByteArray):ji:=(zx (qx (zp (jJ (jV room) zf).1 zf t).1 zf).1).1
structure jlb(room:Int)(t:ByteArray):Prop where
 c:(jJ (jV room) zf).2=0
 w:(zp (jJ (jV room) zf).1 zf t).2=0
 s:(qx (zp (jJ (jV room) zf).1 zf t).1 zf).2=0
 d:(zx (qx (zp (jJ (jV room) zf).1 zf t).1 zf).1).2=0
theorem WZ{room:Int}{t:ByteArray}(h0:0<=room)(h1:room<=9223372036854775807):zJ (2*t.size+6) (jd9 room t) :=
 (Qx (Zd (ZL (xl (vZ room h0 h1) zf (by decide)) zf t) zf)).mono (by omega)
attribute [local go_sem] jT vL
theorem jap(room:Int)(t:ByteArray)(w:World)(h0:0<=room)(h1:room<=9223372036854775807)(ht:t.size<=10000)(hb:jlb room t):
  Calls Tryz.prog 8 #[.int .i64 room,.string t] w fun e w'=>∃p,e=.returned (.pointer (some ⟨p,0,none⟩))/\jD w.heap.size w' p (jd9 room t)/\Below w.heap.size w w':=by
 have N0:=jnc (Wn room w h0)
 have f0:=vZ room h0 h1
 have f1:=xl f0 zf (by decide)
 have f2:=ZL f1 zf t
 have f3:=Zd f2 zf
 have K1:Hid (∀W p,jD w.heap.size W p (jV room)->w.heap.size<=W.heap.size->Calls Tryz.prog 28 #[.pointer (some ⟨p,0,none⟩),.string ⟨#[102]⟩] W fun e w'=>e=.returned .nilIface/\jD w.heap.size w' p (jJ (jV room) zf).1/\jO w.heap.size W w'):=fun W p hd hL=>by
  have h:=WV hd hL f0 (by omega) zf (by decide)
  rw[hb.c]at h;exact h
 have K2:Hid (∀W p,jD w.heap.size W p (jJ (jV room) zf).1->w.heap.size<=W.heap.size->Calls Tryz.prog 29 #[.pointer (some ⟨p,0,none⟩),.string ⟨#[102]⟩,.string t] W fun e w'=>e=.returned .nilIface/\jD w.heap.size w' p (zp (jJ (jV room) zf).1 zf t).1/\jO w.heap.size W w'):=fun W p hd hL=>by
  have h:=ji1 hd hL f1 (by omega) zf t (by decide) (by omega)
  rw[hb.w]at h;exact h
 have K3:Hid (∀W p,jD w.heap.size W p (zp (jJ (jV room) zf).1 zf t).1->w.heap.size<=W.heap.size->Calls Tryz.prog 30 #[.pointer (some ⟨p,0,none⟩),.string ⟨#[102]⟩] W fun e w'=>e=.returned .nilIface/\jD w.heap.size w' p (qx (zp (jJ (jV room) zf).1 zf t).1 zf).1/\jO w.heap.size W w'):=fun W p hd hL=>by
  have h:=jjB hd hL f2 (by omega) zf (by decide)
  rw[hb.s]at h;exact h
 have K4:Hid (∀W p,jD w.heap.size W p (qx (zp (jJ (jV room) zf).1 zf t).1 zf).1->w.heap.size<=W.heap.size->Calls Tryz.prog 31 #[.pointer (some ⟨p,0,none⟩)] W fun e w'=>e=.returned .nilIface/\jD w.heap.size w' p (jd9 room t)/\jO w.heap.size W w'):=fun W p hd hL=>by
  have h:=jbL hd hL f3 (by omega)
  rw[hb.d]at h;exact h
 clear f0 f1 f2 f3 hb
 go_enter Tryz.func8,Tryz.ntmps8
 go_wp2_with fail
 refine N0.out.mono ?_
 rintro e w1 ⟨rfl,g1,b1,hs⟩
 have D1:=jnc (show jD w.heap.size w1 w.heap.size (jV room) from⟨_,g1,fun b hb=>by split at hb<;>omega⟩)
 have B1:=jnc b1
 clear g1 b1 N0
 go_wp2_with fail
 refine(K1.out w1 _ D1.out B1.out.size).mono ?_
 rintro e w2 ⟨rfl,d2,k2⟩
 have D2:=jnc d2
 have B2:=jnc (B1.out.trans k2.bel)
 clear d2 k2
 go_wp2_with fail
 refine(K2.out w2 _ D2.out B2.out.size).mono ?_
 rintro e w3 ⟨rfl,d3,k3⟩
 have D3:=jnc d3
 have B3:=jnc (B2.out.trans k3.bel)
 clear d3 k3
 go_wp2_with fail
 refine(K3.out w3 _ D3.out B3.out.size).mono ?_
 rintro e w4 ⟨rfl,d4,k4⟩
 have D4:=jnc d4
 have B4:=jnc (B3.out.trans k4.bel)
 clear d4 k4
 go_wp2_with fail
 refine(K4.out w4 _ D4.out B4.out.size).mono ?_
 rintro e w5 ⟨rfl,d5,k5⟩
 have D5:=jnc d5
 have B5:=jnc (B4.out.trans k5.bel)
 clear d5 k5
 go_wp2_with fail
 go_ret
 exact⟨_,rfl,D5.out,B5.out⟩
theorem jmC:jlb 1000 (B Uh):=⟨by kernel_rfl,by kernel_rfl,by kernel_rfl,by kernel_rfl⟩
def exD:ji:=ZW (jd9 1000 (B Uh)) zf 5
theorem exR:yx (jd9 1000 (B Uh)) zf=(B Uh,0):=by kernel_rfl
theorem jmU:yx exD zf=(B jiv,0):=by kernel_rfl
theorem jiu:yw (jd9 1000 (B Uh)).seen:=by
 have e:(jd9 1000 (B Uh)).seen=[([102],0)]:=by kernel_rfl
 rw[e]
 exact⟨by simp,fun x hx=>by rw[List.mem_singleton.1 hx];decide⟩
def jdH:List UInt8:=Fr.fullR (js exE)
theorem GS:jdH.length=37:=by kernel_rfl
theorem exW:(zp exD zf (B jdH)).2=0:=by kernel_rfl
theorem exS:(qx (zp exD zf (B jdH)).1 zf).2=0:=by kernel_rfl
theorem jje:zJ 100 exD:=by
 have h:zJ (2*(B Uh).size+6) (jd9 1000 (B Uh)):=WZ (by decide) (by decide)
 exact(Zd (WS h zf (5:Nat)) zf).mono (by rw[jm];decide)
end Go.Proofs.YtpibhbjmcmfnmaaGreatDoor.Vf
namespace Go.Proofs.YtpibhbjmcmfnmaaGreatDoor.Vf
open Go.RowKit Go.Maps Go.Shelf Bk Rp
def ua(u room:Int)(s:Dir)(ws:List zo)(fs:List jY)(acts:List qM):ji:=⟨u,false,0,false,room,s,ws,fs,acts⟩
theorem jgj(u room:Int)(s:Dir)(ws:List zo)(fs:List jY)(acts:List qM)(z:ByteArray)(h1:zm false [z]=0)(h2:ya (zX ws s) z.data.toList=none):
  jJ (ua u room s ws fs acts) z=(ua (u+1) room s (ws++[⟨⟨#[]⟩,z,fs.length⟩]) (fs++[QB]) (acts++[⟨1,z,⟨#[]⟩,⟨#[]⟩,0⟩]),0):=by
 unfold jJ
 have e1:zm (ua u room s ws fs acts).gone [z]=0:=h1
 have e2:ya (ua u room s ws fs acts).seen z.data.toList=none:=h2
 rw[e1,e2]
 rfl
theorem Uc(u room:Int)(s:Dir)(ws:List zo)(fs:List jY)(acts:List qM)(z:ByteArray)(zr:List ByteArray)(f:Nat)(h1:zm false (z::zr)=0)(h2:ya (zX ws s) z.data.toList=some f):
  zP (ua u room s ws fs acts) z zr=(f,0):=by
 unfold zP
 have e1:zm (ua u room s ws fs acts).gone (z::zr)=0:=h1
 have e2:ya (ua u room s ws fs acts).seen z.data.toList=some f:=h2
 rw[e1,e2];rfl
theorem jg1(u room:Int)(s:Dir)(ws:List zo)(fs:List jY)(acts:List qM)(z t:ByteArray)(f:Nat)(h1:zm false [z]=0)(h2:ya (zX ws s) z.data.toList=some f)(hfree:(t.size:Int)<=qZ (ua u room s ws fs acts)):
  ∃acts',zp (ua u room s ws fs acts) z t=(ua (u+t.size) room s ws (if 0<t.size then QK fs f fun x=>x.more (qi z t t.size) else fs) acts',0):=by
 have ha:=Uc u room s ws fs acts z [] f h1 h2
 have hsp:vg (ua u room s ws fs acts).armed (ua u room s ws fs acts).left t.size=(t.size:Int):=rfl
 unfold zp
 rw[ha]
 dsimp only
 rw[if_neg (by simp),if_neg (by omega),hsp,jox,if_neg (Nat.lt_irrefl _)]
 by_cases ht:0<t.size
 ·rw[if_pos ht,if_pos ht];exact⟨_,rfl⟩
 rw[if_neg ht,if_neg ht];exact⟨acts,rfl⟩
theorem jeB(u room:Int)(s:Dir)(ws:List zo)(fs:List jY)(acts:List qM)(z:ByteArray)(f:Nat)(h1:zm false [z]=0)(h2:ya (zX ws s) z.data.toList=some f):
  qx (ua u room s ws fs acts) z=(ua (u+1) room s ws (QK fs f fun x=>x.kept jgH) (acts++[⟨4,z,⟨#[]⟩,⟨#[]⟩,0⟩]),0):=by
 unfold qx
 rw[Uc u room s ws fs acts z [] f h1 h2]
 rfl
theorem jcW(u room:Int)(s:Dir)(ws:List zo)(fs:List jY)(acts:List qM):
  zx (ua u room s ws fs acts)=(ua (u+1) room (zX ws s) [] fs (acts++[⟨7,⟨#[]⟩,⟨#[]⟩,⟨#[]⟩,0⟩]),0):=rfl
theorem JL(t:ByteArray):t.extract 0 t.size=t:=by
 rw[<- joz (t.extract 0 t.size),vA,jnD (by rw[<- jnu];exact jnd _),joz]
theorem jeJ(x:jY)(z t:ByteArray):(x.more (qi z t t.size)).seen=x.seen++t.data.toList:=by
 show ZP (x.waits++[qi z t t.size]) x.sure.data.toList=_
 rw[XL]
 unfold Jl qi
 rw[if_neg (by show ¬(2:Nat)=3;decide),JL];rfl
theorem jhU{n:Nat}{x:jY}(h:xp n x)(hn:n<=1000000):x.kept jgH=⟨⟨x.seen.toArray⟩,[]⟩:=by
 unfold jY.kept
 rw[Jk _ _ _ (by have:=h.units;unfold jgH;omega)];rfl
theorem jcL(z t:ByteArray)(ht:t.size<=10000):(QB.more (qi z t t.size)).kept jgH=⟨t,[]⟩:=by
 have ok:xp 10000 (QB.more (qi z t t.size)):=by
  refine⟨?_,?_,?_,?_,?_⟩
  ·show xg [qi z t t.size] _;unfold xg qi;rw[if_neg (by show ¬(2:Nat)=3;decide)];exact trivial
  ·show 0+Xm [qi z t t.size]<=10000;unfold Xm qi;rw[JL];simp;exact ht
  ·show Jr [qi z t t.size]<=10000;unfold Jr qi;rw[JL];simp;exact ht
  ·show 1<=10000;decide
  intro a ha;obtain rfl:a=qi z t t.size:=by simpa [jY.more,QB]using ha
  show 2<=3;decide
 rw[jhU ok (by decide),jeJ]
 show(⟨⟨([]++t.data.toList).toArray⟩,[]⟩:jY)=_
 rw[jnU,joz]
theorem jdh(t:ByteArray)(u:Int):(⟨t,[]⟩:jY).kept u=⟨t,[]⟩:=by
 show(⟨⟨t.data.toList.toArray⟩,[]⟩:jY)=_
 rw[joz]
theorem Vq(t:ByteArray)(h:¬0<t.size):t=⟨#[]⟩:=by
 have e:t.data.toList=[]:=jn7 (by rw[<- jnu];omega)
 rw[<- joz t,e]
theorem jlo(z t:ByteArray)(ht:t.size<=10000):QK (if 0<t.size then QK [QB] 0 fun x=>x.more (qi z t t.size) else [QB]) 0 (fun x=>x.kept jgH)=[⟨t,[]⟩]:=by
 by_cases h:0<t.size
 ·rw[if_pos h]
  show [(QB.more (qi z t t.size)).kept jgH]=_
  rw[jcL z t ht]
 rw[if_neg h]
 rw[Vq t h];rfl
def qJ(u room:Int)(t:ByteArray)(acts:List qM):ji:=ua u room [([102],0)] [] [⟨t,[]⟩] acts
theorem Zj:zm false [zf]=0:=by kernel_rfl
theorem XP(u room:Int)(t:ByteArray)(acts:List qM):zP (qJ u room t acts) zf []=(0,0):=Uc u room _ _ _ acts zf [] 0 Zj rfl
theorem Zh(u room:Int)(t:ByteArray)(acts:List qM):yx (qJ u room t acts) zf=(t,0):=by
 unfold yx
 rw[if_neg (by show ¬(false=true);decide),XP,if_neg (fun q=>q rfl)]
 show((⟨t.data.toList.toArray⟩:ByteArray),0)=(t,0)
 rw[joz]
theorem Ye(u room:Int)(t:ByteArray)(acts:List qM):Uj (qJ u room t acts):=⟨rfl,rfl⟩
theorem Yd(u room:Int)(t:ByteArray)(acts:List qM):yw (qJ u room t acts).seen:=⟨by simp[qJ,ua,ji.seen,zX],fun x hx=>by
 have:x∈[(([102]:List UInt8),0)]:=hx
 rw[List.mem_singleton.1 this];decide⟩
theorem jc8(u room:Int)(t:ByteArray)(acts:List qM)(m:Int)(ks:List Int):jah (qJ u room t acts) m ks=qJ u room t acts:=by
 have e:zZ [(⟨t,[]⟩:jY)] ks 1=[⟨t,[]⟩]:=by
  show [(⟨t,[]⟩:jY).kept (ks.getD 0 0)]=_
  rw[jdh]
 have e2:zX (([]:List zo).take (vF m ([]:List zo).length)) [(([102]:List UInt8),0)]=[([102],0)]:=by rw[List.take_nil];rfl
 show(⟨u,false,0,false,room,zX (([]:List zo).take (vF m ([]:List zo).length)) [(([102]:List UInt8),0)],[],zZ [(⟨t,[]⟩:jY)] ks 1,acts⟩:ji)=_
 rw[e,e2];rfl
theorem jiL(t:List UInt8)(k:Nat):((⟨B t,[]⟩:jY).more (jcw zf k)).kept jgH=⟨B (t.take k),[]⟩:=by
 show(⟨⟨(zu [jcw zf k] jgH (B t).data.toList).toArray⟩,[]⟩:jY)=_
 unfold zu
 rw[if_neg (by decide),if_pos (show(jcw zf k).kind=3 from rfl),ju]
 rfl
theorem jeW(u room:Int)(t:List UInt8)(acts:List qM)(k:Nat)(hk:k<=t.length)(ht:t.length<=10000):∃u' acts',ZW (qJ u room (B t) acts) zf k=qJ u' room (B (t.take k)) acts':=by
 have hsz:vP (qJ u room (B t) acts) 0=t.length:=by
  show((B t).data.toList).length=_
  rw[ju]
 have hc:(WU (qJ u room (B t) acts) zf k)=(ua (u+1) room [([102],0)] [] [(⟨B t,[]⟩:jY).more (jcw zf k)] (acts++[jcw zf k]),0):=by
  unfold WU
  rw[XP,if_neg (fun q=>q rfl),hsz,if_neg (by omega),if_pos (Ye u room (B t) acts).can]
  rfl
 unfold ZW
 rw[hc]
 have hs:=jeB (u+1) room [([102],0)] [] [(⟨B t,[]⟩:jY).more (jcw zf k)] (acts++[jcw zf k]) zf 0 Zj rfl
 rw[hs]
 refine⟨u+1+1,acts++[jcw zf k]++[⟨4,zf,⟨#[]⟩,⟨#[]⟩,0⟩],?_⟩
 show ua (u+1+1) room [([102],0)] [] [((⟨B t,[]⟩:jY).more (jcw zf k)).kept jgH] _=_
 rw[jiL]
 rfl
theorem jiR(t:ByteArray)(ht:t.size<=10000):jlb 1073741824 t/\∃u acts,jd9 1073741824 t=qJ u 1073741824 t acts:=by
 have h1:jJ (jV 1073741824) zf=(ua 1 1073741824 [] [⟨⟨#[]⟩,zf,0⟩] [QB] [⟨1,zf,⟨#[]⟩,⟨#[]⟩,0⟩],0):=jgj 0 1073741824 [] [] [] [] zf Zj rfl
 have hd:ya (zX [⟨⟨#[]⟩,zf,0⟩] []) zf.data.toList=some 0:=by kernel_rfl
 have hf:(t.size:Int)<=qZ (ua 1 1073741824 [] [⟨⟨#[]⟩,zf,0⟩] [QB] [⟨1,zf,⟨#[]⟩,⟨#[]⟩,0⟩]):=by
  have e:qZ (ua 1 1073741824 [] [⟨⟨#[]⟩,zf,0⟩] [QB] [⟨1,zf,⟨#[]⟩,⟨#[]⟩,0⟩])=1073741824:=by kernel_rfl
  rw[e];omega
 obtain⟨acts',h2⟩:=jg1 1 1073741824 [] [⟨⟨#[]⟩,zf,0⟩] [QB] [⟨1,zf,⟨#[]⟩,⟨#[]⟩,0⟩] zf t 0 Zj hd hf
 have h3:=jeB (1+t.size) 1073741824 [] [⟨⟨#[]⟩,zf,0⟩] (if 0<t.size then QK [QB] 0 fun x=>x.more (qi zf t t.size) else [QB]) acts' zf 0 Zj hd
 rw[jlo zf t ht]at h3
 have h4:=jcW (1+t.size+1) 1073741824 [] [⟨⟨#[]⟩,zf,0⟩] [⟨t,[]⟩] (acts'++[⟨4,zf,⟨#[]⟩,⟨#[]⟩,0⟩])
 refine⟨⟨by rw[h1],by rw[h1,h2],by rw[h1,h2,h3],by rw[h1,h2,h3,h4]⟩,?_⟩
 unfold jd9
 rw[h1,h2,h3,h4]
 exact⟨_,_,rfl⟩
end Go.Proofs.YtpibhbjmcmfnmaaGreatDoor.Vf
