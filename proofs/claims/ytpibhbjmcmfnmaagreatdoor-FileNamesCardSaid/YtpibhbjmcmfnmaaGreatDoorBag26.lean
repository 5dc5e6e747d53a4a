/- Texts put together:AK,AL,SC. -/
import Derived.Test.YtpibhbjmcmfnmaaGreatDoorBag22
import Derived.Test.YtpibhbjmcmfnmaaGreatDoorBag25
set_option linter.unusedVariables false
set_option maxRecDepth 100000
set_option maxHeartbeats 16000000
namespace Go.Proofs.YtpibhbjmcmfnmaaGreatDoor
open Go.RowKit Go.Shelf Tryz
section
attribute [local go_sem] jnn
def KT(t:List UInt8)(st:List Ed×Nat)(x:Ln):List Ed×Nat:=if st.2<x.at_/\Lib.hasPrefix x.text [32,32]=false then (st.1++[qY ((t.drop st.2).take (x.at_-st.2))],x.at_) else st
def yf(t:List UInt8)(xs:List Ln):List Ed×Nat:=xs.foldl (KT t) ([],0)
theorem XR(t:List UInt8)(xs:List Ln)(x:Ln):yf t (xs++[x])=KT t (yf t xs) x:=by unfold yf;rw[jps];rfl
theorem JK(t:List UInt8):∀(xs:List Ln) (acc:List Ed) (b:Nat),(xs.foldl (KT t) (acc,b)).1++[qY (t.drop (xs.foldl (KT t) (acc,b)).2)]=acc++(zT t b xs).map qY
 | [],acc,b=>rfl
 | x::r,acc,b=>by
  rw[List.foldl_cons,zT]
  by_cases h:b<x.at_/\Lib.hasPrefix x.text [32,32]=false
  ·rw[show KT t (acc,b) x=(acc++[qY ((t.drop b).take (x.at_-b))],x.at_) from if_pos h,JK t r,if_pos h,jnH];simp
  rw[show KT t (acc,b) x=(acc,b) from if_neg h,JK t r,if_neg h]
theorem jbV(t:List UInt8):yU t=(yf t (jf t)).1++[qY (t.drop (yf t (jf t)).2)]:=by
 unfold yU yf
 rw[JK];rfl
theorem XQ(t:List UInt8)(k:Nat):((yf t ((jf t).take k)).2<=(((jf t).take k).flatMap Ln.bytes).length)/\(yf t ((jf t).take k)).1.length<=k:=by
 induction k with
 | zero=>exact⟨jnd _,jnd _⟩
 | succ k ih =>
 rw[jnW]
 cases h:(jf t)[k]? with
 | none=>simp only[Option.toList,jnR];omega
 | some x =>
 obtain⟨hk,e⟩:=List.getElem?_eq_some_iff.1 h
 have hat:=(vX t ((jf t).take k) x ((jf t).drop (k+1)) (by conv=>lhs;rw[<- jnQ k (jf t),jot hk,e])).2
 show(yf t (_++[x])).2<=_/\(yf t (_++[x])).1.length<=_
 rw[XR]
 have hb:((((jf t).take k++[x])).flatMap Ln.bytes).length=(((jf t).take k).flatMap Ln.bytes).length+x.bytes.length:=by rw[jnO,jnf];simp
 show(KT t _ x).2<=(((jf t).take k++[x]).flatMap Ln.bytes).length/\_
 rw[hb]
 unfold KT
 split
 ·refine⟨by show x.at_<=_;omega,?_⟩
  show(_++[_]).length<=_
  rw[jnf];simp only[jni,jnG];omega
 exact⟨by omega,by omega⟩
theorem jhq{t:List UInt8}{pre post:List Ln}{x:Ln}(h:jf t=pre++x::post):(yf t pre).2<=x.at_/\x.at_<=t.length/\(yf t pre).1.length<=t.length:=by
 have e:pre=(jf t).take pre.length:=by rw[h];simp
 have h1:=XQ t pre.length
 rw[<- e]at h1
 have h2:=(vX t pre x post h).2
 have h3:=congrArg List.length (zg t)
 rw[h,jnO,jnf]at h3
 have h4:=vr t
 rw[h,jnf,jni]at h4
 exact⟨by omega,by omega,by omega⟩
theorem Gf(t:List UInt8):(yf t (jf t)).2<=t.length/\(yf t (jf t)).1.length<=t.length:=by
 have h1:=XQ t (jf t).length
 rw[jnP,zg]at h1
 have:=vr t
 exact⟨h1.1,by omega⟩
theorem jf5(t:List UInt8)(i j:Nat):(B t).extract i j=B ((t.drop i).take (j-i)):=by
 apply joA
 simp[B,ByteArray.data_extract,List.extract_eq_take_drop]
theorem Qq.turned{lo B k:Nat}{W W':World}{v:Value}{eds:List Ed}{fvs:List Value}(h:Qq lo W v eds fvs)(ht:zh B k W W')(hlo:B+k<=lo):Qq lo W' v eds fvs :=
 ⟨ht.row h.row (fun b e=>.inr (by have:=(h.row.lt b e).1;omega)),h.len,fun i ed fv h1 h2=>ht.row (h.each i ed fv h1 h2) (fun b e=>.inr (by have:=((h.each i ed fv h1 h2).lt b e).1;omega))⟩
theorem Qq.set{lo:Nat}{W:World}{v:Value}{eds:List Ed}{fvs:List Value}(h:Qq lo W v eds fvs){p:Addr}(hp:p.block<lo)(u:Value):Qq lo (W.setCell p u) v eds fvs :=
 ⟨jK h.row (fun e=>by have:=(h.row.lt _ e).1;omega) _,h.len,fun i ed fv h1 h2=>jK (h.each i ed fv h1 h2) (fun e=>by have:=((h.each i ed fv h1 h2).lt _ e).1;omega) _⟩
theorem Qq.snoc{lo:Nat}{w2 w3:World}{v v' x:Value}{eds:List Ed}{fvs:List Value}{ed:Ed}(h:Qq lo w2 v eds fvs)(hx:w2.ownsRow lo 155 2 x ed.fields.length (jM ed.fields))
  (own3:w3.ownsRow lo 63 3 v' (eds.length+1) (WG eds fvs++[.int .i64 ed.kind,.int .i64 ed.id,x])) (grow3:w2.grownBy w3 v.ownBlock):Qq lo w3 v' (eds++[ed]) (fvs++[x]):=by
 have hty:∀(fx:Value) (n:Nat) (xs:List Value),w2.ownsRow lo 155 2 fx n xs->w3.ownsRow lo 155 2 fx n xs:=fun fx n xs hx =>
  jq hx (fun r e=>grow3.block r (hx.lt r e).2 (fun q=>qq h.row hx (by decide) r q.symm e))
 refine⟨by rw[Kx _ _ _ _ h.len,jnf];exact own3,by rw[jnf,jnf,h.len];rfl,fun i y fx h1 h2 => ?_⟩
 rcases jnK i eds.length with q|q
 ·rw[jnJ q]at h1
  rw[jnJ (by rw[h.len];exact q)]at h2
  exact hty _ _ _ (h.each i y fx h1 h2)
 rw[jnz q]at h1
 rw[jnz (by rw[h.len];exact q),h.len]at h2
 rcases hq:i-eds.length with _|j
 ·rw[hq]at h1 h2
  simp at h1 h2
  subst h1 h2
  exact hty _ _ _ hx
 rw[hq]at h1;simp at h1
theorem jjR{W:World}{lo sz n b:Nat}{T U:TypeId}{v:Value}{xs:List Value}{cur:Array Value}(h:W.ownsRow lo T sz v n xs)(hc:ja W b U cur)(ht:T≠U):v.ownBlock≠some b:=by
 intro e
 rcases h.2 with ⟨rfl,_⟩|⟨g,cap,cur',rfl,_,hg,_⟩
 ·cases e
 have:g=b:=jng e
 subst this
 have h2:=hg.symm.trans hc
 injection h2 with h2
 injection h2 with _ h2 _
 exact ht h2
def jej(w:World)(t:List UInt8)(st:List Ed×Nat)(W:World):Prop :=
 ∃u fvs,Boxed W w.heap.size 9 (.string (B t))/\Boxed W (w.heap.size+1) 22 u/\Boxed W (w.heap.size+2) 3 (.int .i64 (st.2:Nat))/\Qq (w.heap.size+9) W u st.1 fvs/\Below w.heap.size w W
theorem jej.turned{w:World}{t:List UInt8}{st:List Ed×Nat}{W W':World}{k:Nat}(h:jej w t st W)(ht:zh (w.heap.size+4) k W W')(hk:k<=5):jej w t st W':=by
 obtain⟨u,fvs,h1,h2,h3,h4,h5⟩:=h
 exact⟨u,fvs,ht.box h1 (.inl (by omega)),ht.box h2 (.inl (by omega)),ht.box h3 (.inl (by omega)),h4.turned ht (by omega),h5.trans (ht.below (by omega) h5.size)⟩
theorem jej.alloc{w:World}{t:List UInt8}{st:List Ed×Nat}{W:World}(h:jej w t st W)(o:Obj):jej w t st (W.alloc o):=by
 obtain⟨u,fvs,h1,h2,h3,h4,h5⟩:=h
 exact⟨u,fvs,h1.alloc _,h2.alloc _,h3.alloc _,h4.below ((jne _ W).alloc (jnd _) _) (jnd _),h5.alloc h5.size _⟩
theorem read_any(t:List UInt8)(ht:t.length<=50000)(w:World)(hT:Tabs w):
  Calls prog 112 #[.string (B t)] w fun e w'=>∃u fvs,e=.returned u/\Qq w.heap.size w' u (yU t) fvs/\Below w.heap.size w w':=by
 obtain⟨xs,hxs⟩:∃xs,jf t=xs:=⟨_,rfl⟩
 have HXS:=jnc hxs
 have HT:=jnc hT
 have RA:Hid (∀pre x post,xs=pre++x::post->(yf t pre).2<=x.at_/\x.at_<=t.length/\(yf t pre).1.length<=t.length):=fun pre x post h=>jhq (hxs.trans h)
 clear hxs hT
 refine callsIn_wide (n:=9).1 ?_
 refine callsIn_of_wp_marks func112 rfl trivial ?_ rfl
 simp only[ntmps112,jnV,jni,jnG,Nat.reduceAdd,Nat.reduceSub,jn3,jn4,joa,jn5,jnU,jny]
 gi_wp2_with fail
 refine⟨trivial,(callsIn_wide.2 (yG (B t) _)).mono ?_⟩
 rintro e w3 ⟨rfl,rfl⟩
 gi_wp2_with fail
 obtain⟨w1,hw1⟩:∃w1,w1=((((w.alloc (.cells #[.string (B t)] 9)).alloc (.cells #[.slice none 0 0] 22)).alloc (.cells #[.int .i64 0] 3)).alloc (.cells #[.string (B t)] 9)):=⟨_,rfl⟩
 have hz:w1.heap.size=w.heap.size+4:=by rw[hw1];simp
 have k3:Boxed w1 (w.heap.size+3) 9 (.string (B t)):=by
  rw[hw1]
  have:=joy (((w.alloc (.cells #[.string (B t)] 9)).alloc (.cells #[.slice none 0 0] 22)).alloc (.cells #[.int .i64 0] 3)) 9 (.string (B t))
  simpa using this
 have init:jej w t ([],0) w1:=by
  rw[hw1]
  refine jej.alloc ⟨.slice none 0 0,[],((joy w _ _).alloc _).alloc _,(xZ w _ _ _).alloc _,Qk w _ _ _ _,⟨⟨rfl,.inl ⟨rfl,rfl⟩⟩,rfl,fun i ed fv h1 _=>by simp at h1⟩,(((jne _ w).alloc (jnd _) _).alloc (by simp) _).alloc (by simp;omega) _⟩ _
 rw[<- hw1]
 clear hw1
 have HH:=vf (B t) (w.heap.size+3) w1 k3 (by rw[jm];omega)
 rw[ju,HXS.out]at HH
 refine vW (gf:=139) (lb:=#[.pointer (some ⟨w.heap.size+3,0,none⟩)]) rfl (enters_of func139 (by kernel_rfl) rfl) HH (fun _=>rfl)
  (fun pre W=>jej w t (yf t pre) W) (fun _ _ _=>False) (by rw[hz];intro pre W W' h ht;exact h.turned ht (by omega)) (fun _ _ _ _ hs _=>hs) init
  (fun a pre x a' W=>∃Bx,w.heap.size+9<=Bx/\a'={tmps:=(a.tmps.setIfInBounds 8 (.agg (vl x))).setIfInBounds 5 (.pointer (some ⟨Bx,0,none⟩)),defers:=[]}/\ja W Bx 164 (vl x)/\jej w t (yf t pre) W)
  ?hM ?assign ?body ?done ?stop
 case hM =>
  rw[hz]
  rintro a pre x a' _ W W' ⟨Bx,h1,h2,h3,h4⟩ ht
  exact⟨Bx,h1,h2,(ht.same Bx h3.lt (.inr (by omega))).trans h3,h4.turned (ht.sub (jnd _) (by omega)) (jnd 5)⟩
 case assign =>
  rw[hz]
  intro l pre x post W hx hsz hi
  clear hx
  dsimp only[vl]
  gi_wp2
  exact⟨(vT.refl _ _ W).alloc hsz _,W.heap.size,by omega,rfl,ja.new _ _ _,hi.alloc _⟩
 case body =>
  rw[hz]
  rintro l pre x post a' W hx hsz ⟨Bx,hB,rfl,hc,u,fvs,h1,h2,h3,h4,h5⟩
  obtain⟨r1,r2,r3⟩:=RA.out pre x post hx
  have SN:=jnc (XR t pre x)
  clear hx RA
  obtain⟨⟨acc,beg⟩,hst⟩:∃st,yf t pre=st:=⟨_,rfl⟩
  rw[hst]at r1 r3 h3 h4 SN
  dsimp only at r1 r3 h3 h4
  simp only[jnq,jnM,jnN,vl]at hc ⊢
  have p1:W.cell? ⟨Bx,1,none⟩=some (.int .i64 x.at_):=hc.cell 1
  have p2:W.cell? ⟨Bx,2,none⟩=some (.string ⟨x.text.toArray⟩):=hc.cell 2
  have p3:=h3.cell
  have HI:Hid (jej w t (acc,beg) W):=⟨u,fvs,h1,h2,h3,h4,h5⟩
  refine wpIn_block (wpIn_seq ?_)
  by_cases hcd:beg<x.at_/\Lib.hasPrefix x.text [32,32]=false
  ·obtain⟨hlt,hp⟩:=hcd
   have q:¬(x.at_:Int)<=(beg:Int):=by omega
   refine wpIn_mono (Q:=fun e a' w'=>e=.normal/\w'=W/\∃y9 y10 y11 y12 y13 y14 y15 y16 y17,a'={tmps:=#[.string (B t),.pointer (some ⟨w.heap.size,0,none⟩),.slice none 0 0,.pointer (some ⟨w.heap.size+1,0,none⟩),.pointer (some ⟨w.heap.size+1+1,0,none⟩),.pointer (some ⟨Bx,0,none⟩),.string (B t),.func (.func 139) #[] #[.pointer (some ⟨w.heap.size+1+1+1,0,none⟩)],.agg #[.int .i64 x.no,.int .i64 x.at_,.string ⟨x.text.toArray⟩,.bool x.ended],y9,y10,y11,y12,y13,y14,y15,y16,y17,.bool true,undef,undef,undef,undef,undef,undef,undef,undef,undef,undef,undef,undef,undef,undef,undef,undef,undef,undef],defers:=[]}) ?first ?rest
   case first =>
    clear HI SN h1 h2 h3 h4 h5
    gi_wp2_with fail
    refine⟨trivial,((callsIn_wide.2 (Tryz.strings_HasPrefix ⟨x.text.toArray⟩ ⟨#[32,32]⟩ W)).inRound l).mono ?_⟩
    rintro e V ⟨rfl,rfl⟩
    rw[show Lib.hasPrefix (⟨x.text.toArray⟩:ByteArray).data.toList (⟨#[32,32]⟩:ByteArray).data.toList=Lib.hasPrefix x.text [32,32] from rfl,hp]
    gi_wp2_with fail
    all_goals exact⟨rfl,rfl,_,_,_,_,_,_,_,_,_,rfl⟩
   case rest =>
   rintro e a' w' ⟨rfl,hw',y9,y10,y11,y12,y13,y14,y15,y16,y17,rfl⟩
   subst hw'
   change Code.wpIn _ _ _ _ _ _ _
   refine wpIn_cond_true rfl (wpIn_seq (Vt (by decide +kernel) (by rintro⟨a,w,h⟩;exact h) (by kernel_rfl) ?_))
   have hcbx:=hc.lt
   obtain⟨ua,uc,rfl,_⟩:=jg h4.row
   have hS:∀V,Below w'.drew.heap.size w'.drew V->V.cell? ⟨w.heap.size+1,0,none⟩=some (.slice ua acc.length uc)/\V.cell? ⟨w.heap.size,0,none⟩=some (.string (B t))/\V.cell? ⟨w.heap.size+1+1,0,none⟩=some (.int .i64 (beg:Nat))/\V.cell? ⟨Bx,1,none⟩=some (.int .i64 (x.at_:Nat)):=fun V hV=>by
    have hV':Below w'.heap.size w' V:=(jne w'.heap.size w').drew.trans hV
    exact⟨(hV'.cell (p:=⟨w.heap.size+1,0,none⟩) (by show w.heap.size+1<_;omega)).trans h2.cell,(hV'.cell (p:=⟨w.heap.size,0,none⟩) (by show w.heap.size<_;omega)).trans h1.cell,(hV'.cell (p:=⟨w.heap.size+1+1,0,none⟩) (by show w.heap.size+1+1<_;omega)).trans h3.cell,(hV'.cell (p:=⟨Bx,1,none⟩) hcbx).trans p1⟩
   obtain⟨pc,hpc⟩:∃pc,pc=(t.drop beg).take (x.at_-beg):=⟨_,rfl⟩
   have hpl:pc.length<=60000:=by rw[hpc,jnk,jnr];omega
   have SN1:Hid (yf t (pre++[x])=(acc++[qY pc],x.at_)):=by
    show _=_
    rw[SN.out,hpc];exact if_pos ⟨hlt,hp⟩
   obtain⟨i0,hi,hz0,hz1,hz2⟩:=info_parts jfD
   refine jdb _ w'.drew (w.heap.size+1) w.heap.size (w.heap.size+1+1) Bx (w.heap.size+9) (.slice ua acc.length uc) (B t) beg x.at_ (jiZ (w.heap.size+9) pc) _ rfl rfl rfl rfl rfl hS hsz ⟨r1,by rw[jm];exact r2⟩ ?pm ?pf ?pC ?pQ
   case pm =>
    rintro v x y hb ⟨u,e,h⟩
    exact⟨u,e,zL h hb (jnd _)⟩
   case pf =>
    rintro v w ⟨u,rfl,h⟩
    obtain⟨A,c,rfl,_⟩:=jg h
    exact⟨_,_,_,_,_,rfl⟩
   case pC =>
    intro V hV
    have hV':Below w'.heap.size w' V:=(jne w'.heap.size w').drew.trans hV
    rw[jf5,<- hpc]
    refine(jaw pc hpl V (HT.out.below (h5.trans (hV'.mono h5.size)) (jnd _))).mono ?_
    rintro e w2 ⟨v,rfl,⟨u,e,h⟩,hb⟩
    exact⟨v,rfl,⟨u,e,zk h (jns hsz hV'.size)⟩,hb⟩
   case pQ =>
   intro y0 y1 y2 y3 y4 y5 y6 y7 w2 hb2 hy0 hy7
   subst hy0
   obtain⟨b9,u9,cs9,rfl,⟨ux,rfl,hux⟩,hlo9,hcs,hcb⟩:=hy7
   injection hcs with hcs
   subst hcs
   have hB2:Below w'.heap.size w' w2:=(jne w'.heap.size w').drew.trans hb2
   have hO2:=h4.below hB2 (jnd _)
   obtain⟨xa,xc,rfl,_⟩:=jg hux
   have HV:Hid (∀(i:Nat) (u:Value),[Value.int .i64 (qY pc).kind,.int .i64 (qY pc).id,.slice xa (qY pc).fields.length xc][i]?=some u->w2.cell? ((⟨b9,0,none⟩:Addr).add i)=some u):=fun i u h=>by
    have ea:(⟨b9,0,none⟩:Addr).add i=⟨b9,i,none⟩:=by unfold Addr.add;split<;>simp_all
    rw[ea,hcb.cell i];simpa using h
   have k1:Boxed w2 w.heap.size 9 (.string (B t)):=(hB2.block _ h1.lt).trans h1
   have k2:Boxed w2 (w.heap.size+1) 22 (.slice ua acc.length uc):=(hB2.block _ h2.lt).trans h2
   have k3':Boxed w2 (w.heap.size+1+1) 3 (.int .i64 (beg:Nat)):=(hB2.block _ h3.lt).trans h3
   have kc:=je hc hB2 hcbx
   have hz2':=hB2.size
   have HR:=jnc hO2.row
   have HO2:=jnc hO2
   have HUX:=jnc hux
   have HB2:=jnc hB2
   have K:=jnc (And.intro k1 (And.intro k2 (And.intro k3' kc)))
   have H5:=jnc h5
   have hal:acc.length<=50000:=by omega
   clear hcb hb2 hB2 hO2 hux k1 k2 k3' kc h1 h2 h3 h4 h5 hS HI p1 p2 p3 hc SN hpc hpl
   generalize hfl:(qY pc).fields.length=fl at *
   simp only[List.foldl,jnq,jnM,jnN]
   go_wp2_with (at_builtin;refine jW rfl _ _ 22 rfl (w.heap.size+9) 63 i0 _ 3 40 underlying22 hi hz0 hz1 hz2 rfl (by decide) _ _ _ rfl HR.out ⟨b9,0,none⟩ 1 1 _ rfl rfl HV.out (by intro u hu;simp at hu;rcases hu with rfl | rfl | rfl<;>rfl) (by unfold maxLen;omega) (by omega) (by omega) ?_)
   intro ov' w3 own3 grow3 at3
   have hrow:∀r,(Value.slice ua acc.length uc).ownBlock=some r->w.heap.size+9<=r:=fun r e=>(HR.out.lt r e).1
   obtain⟨k1,k2,k3',kc⟩:=K.out
   have j1:=k1.kept grow3 (fun e=>by have:=hrow _ e.symm;omega)
   have j2:=k2.kept grow3 (fun e=>by have:=hrow _ e.symm;omega)
   have j3:=k3'.kept grow3 (fun e=>by have:=hrow _ e.symm;omega)
   have jc:ja w3 Bx 164 _:=(grow3.block Bx kc.lt (fun e=>jjR HR.out kc (by decide) e.symm)).trans kc
   have f2:=j2.cell
   have f2':=j2.frozen
   have OS:=jnc (HO2.out.snoc (ed:=qY pc) (by rw[hfl];exact HUX.out) own3 grow3)
   have HG:=jnc grow3
   have HROW:=jnc hrow
   have J:=jnc (And.intro j1 (And.intro j2 (And.intro j3 jc)))
   obtain⟨ova,ovc,rfl,_⟩:=jg own3
   clear own3 grow3 at3 hrow k1 k2 k3' kc j1 j2 j3 jc HO2 HUX HV
   go_wp2_with fail
   change Code.wpIn _ _ _ _ _ _ _
   obtain⟨j1,j2,j3,jc⟩:=J.out
   obtain⟨w4,hw4⟩:∃w4,w4=w3.setCell ⟨w.heap.size+1,0,none⟩ (.slice ova (acc.length+1) ovc):=⟨_,rfl⟩
   have q1:Boxed w4 w.heap.size 9 (.string (B t)):=by rw[hw4];exact j1.other (by omega) _
   have q2:Boxed w4 (w.heap.size+1) 22 (.slice ova (acc.length+1) ovc):=by rw[hw4];exact joi _ j2
   have q3:Boxed w4 (w.heap.size+1+1) 3 (.int .i64 (beg:Nat)):=by rw[hw4];exact j3.other (by omega) _
   have qc:ja w4 Bx 164 #[.int .i64 x.no,.int .i64 x.at_,.string ⟨x.text.toArray⟩,.bool x.ended]:=by rw[hw4];exact jc.other (p:=⟨w.heap.size+1,0,none⟩) (by show Bx≠w.heap.size+1;omega) _
   have hs4:w4.heap.size=w3.heap.size:=by rw[hw4];simp
   have st4:vT (w.heap.size+4) 5 w' w4:=by
    rw[hw4]
    exact(((vT.refl _ _ _).below HB2.out (by omega)).grown HG.out (by omega) (fun r e=>.inr (by have:=HROW.out r e;omega))).setCell (.inl (by show w.heap.size+1<_;omega)) _
   have own4:=(OS.out).set (p:=⟨w.heap.size+1,0,none⟩) (by show w.heap.size+1<_;omega) (.slice ova (acc.length+1) ovc)
   rw[<- hw4]at own4
   have B4:Below w.heap.size w w4:=by
    rw[hw4]
    exact((H5.out.trans (HB2.out.mono H5.out.size)).grown HG.out (by omega) (fun r e=>by have:=HROW.out r e;omega)).setCell (p:=⟨w.heap.size+1,0,none⟩) (by show w.heap.size<=w.heap.size+1;omega) _
   rw[<- hw4]
   have g1:w4.cell? ⟨Bx,1,none⟩=some (.int .i64 x.at_):=qc.cell 1
   have g2:=q3.cell
   have g2':=q3.frozen
   have FIN:Hid (vT (w.heap.size+4) 5 w' (w4.setCell ⟨w.heap.size+1+1,0,none⟩ (.int .i64 x.at_))/\jej w t (yf t (pre++[x])) (w4.setCell ⟨w.heap.size+1+1,0,none⟩ (.int .i64 x.at_))) :=
    ⟨st4.setCell (.inl (by show w.heap.size+1+1<_;omega)) _,by
     rw[SN1.out]
     exact⟨_,_,q1.other (by omega) _,q2.other (by omega) _,joi _ q3,own4.set (p:=⟨w.heap.size+1+1,0,none⟩) (by show w.heap.size+1+1<_;omega) _,B4.setCell (p:=⟨w.heap.size+1+1,0,none⟩) (by show w.heap.size<=w.heap.size+1+1;omega) _⟩⟩
   clear own4 B4 st4 q1 q2 q3 qc j1 j2 j3 jc J OS HG HROW hw4
   gi_wp2_with fail
   exact FIN.out
  refine wpIn_mono (Q:=fun e a' w'=>e=.normal/\w'=W/\∃y9 y10 y11 y12 y13 y14 y15 y16 y17,a'={tmps:=#[.string (B t),.pointer (some ⟨w.heap.size,0,none⟩),.slice none 0 0,.pointer (some ⟨w.heap.size+1,0,none⟩),.pointer (some ⟨w.heap.size+1+1,0,none⟩),.pointer (some ⟨Bx,0,none⟩),.string (B t),.func (.func 139) #[] #[.pointer (some ⟨w.heap.size+1+1+1,0,none⟩)],.agg #[.int .i64 x.no,.int .i64 x.at_,.string ⟨x.text.toArray⟩,.bool x.ended],y9,y10,y11,y12,y13,y14,y15,y16,y17,.bool false,undef,undef,undef,undef,undef,undef,undef,undef,undef,undef,undef,undef,undef,undef,undef,undef,undef,undef],defers:=[]}) ?first ?rest
  case first =>
   clear HI SN h1 h2 h3 h4 h5
   by_cases hlt:beg<x.at_
   ·have hp:Lib.hasPrefix x.text [32,32]=true:=by
     cases h:Lib.hasPrefix x.text [32,32]with
     | true=>rfl
     | false=>exact absurd ⟨hlt,h⟩ hcd
    have q:¬(x.at_:Int)<=(beg:Int):=by omega
    gi_wp2_with fail
    refine⟨trivial,((callsIn_wide.2 (Tryz.strings_HasPrefix ⟨x.text.toArray⟩ ⟨#[32,32]⟩ W)).inRound l).mono ?_⟩
    rintro e V ⟨rfl,rfl⟩
    rw[show Lib.hasPrefix (⟨x.text.toArray⟩:ByteArray).data.toList (⟨#[32,32]⟩:ByteArray).data.toList=Lib.hasPrefix x.text [32,32] from rfl,hp]
    gi_wp2_with fail
    all_goals exact⟨rfl,rfl,_,_,_,_,_,_,_,_,_,rfl⟩
   gi_wp2_with fail
   refine⟨trivial,?_⟩
   gi_wp2_with fail
   all_goals exact⟨rfl,rfl,_,_,_,_,_,_,_,_,_,rfl⟩
  case rest =>
  rintro e a' w' ⟨rfl,hw',y9,y10,y11,y12,y13,y14,y15,y16,y17,rfl⟩
  subst hw'
  change Code.wpIn _ _ _ _ _ _ _
  refine wpIn_cond_false rfl ?_
  gi_wp2
  refine⟨vT.refl _ _ _,?_⟩
  show jej w t (yf t (pre++[x])) w'
  rw[SN.out,show KT t (acc,beg) x=(acc,beg) from if_neg hcd]
  exact HI.out
 case done =>
  rw[hz]
  rintro W ⟨u,fvs,h1,h2,h3,h4,h5⟩ hK
  rename_i Q' K hcont
  refine hcont _ _ ?_
  refine wpIn_seq ?_
  refine wpIn_wide.2 ?_
  refine wp_region_any (by kernel_rfl) ?_
  obtain⟨st,hst⟩:∃st,yf t xs=st:=⟨_,rfl⟩
  have e1:=jbV t
  have e2:=Gf t
  rw[HXS.out,hst]at e1 e2
  rw[hst]at h3 h4
  obtain⟨acc,beg⟩:=st
  dsimp only at h3 h4 e1 e2
  obtain⟨ua,uc,rfl,_⟩:=jg h4.row
  have hkl:w.heap.size+4<W.heap.size:=(Array.getElem?_eq_some_iff.1 hK).1
  have hS:∀V,Below W.drew.heap.size W.drew V->V.cell? ⟨w.heap.size+1,0,none⟩=some (.slice ua acc.length uc)/\V.cell? ⟨w.heap.size,0,none⟩=some (.string (B t))/\V.cell? ⟨w.heap.size+1+1,0,none⟩=some (.int .i64 (beg:Nat))/\True:=fun V hV=>by
   have hV':Below W.heap.size W V:=(jne W.heap.size W).drew.trans hV
   exact⟨(hV'.cell (p:=⟨w.heap.size+1,0,none⟩) (by show w.heap.size+1<_;omega)).trans h2.cell,(hV'.cell (p:=⟨w.heap.size,0,none⟩) (by show w.heap.size<_;omega)).trans h1.cell,(hV'.cell (p:=⟨w.heap.size+1+1,0,none⟩) (by show w.heap.size+1+1<_;omega)).trans h3.cell,trivial⟩
  obtain⟨pc,hpc⟩:∃pc,pc=t.drop beg:=⟨_,rfl⟩
  have hpl:pc.length<=60000:=by rw[hpc,jnr];omega
  rw[<- hpc]at e1
  obtain⟨i0,hi,hz0,hz1,hz2⟩:=info_parts jfD
  refine jda _ W.drew (w.heap.size+1) w.heap.size (w.heap.size+1+1) (w.heap.size+5) (.slice ua acc.length uc) (B t) beg (jiZ (w.heap.size+5) pc) _ rfl rfl rfl rfl hS (by show w.heap.size+5<=W.heap.size;omega) (by rw[jm];exact e2.1) ?pm ?pf ?pC ?pQ
  case pm =>
   rintro v x y hb ⟨u,e,h⟩
   exact⟨u,e,zL h hb (jnd _)⟩
  case pf =>
   rintro v w ⟨u,rfl,h⟩
   obtain⟨A,c,rfl,_⟩:=jg h
   exact⟨_,_,_,_,_,rfl⟩
  case pC =>
   intro V hV
   have hV':Below W.heap.size W V:=(jne W.heap.size W).drew.trans hV
   rw[jf5,show(t.drop beg).take ((B t).size-beg)=pc by rw[hpc,jm,jnD (by rw[jnr];omega)]]
   refine(jaw pc hpl V (HT.out.below (h5.trans (hV'.mono h5.size)) (jnd _))).mono ?_
   rintro e w2 ⟨v,rfl,⟨u,e,h⟩,hb⟩
   exact⟨v,rfl,⟨u,e,zk h (by have:=hV'.size;omega)⟩,hb⟩
  case pQ =>
  intro y0 y1 y2 y3 y4 y5 w2 hb2 hy0 hy5
  subst hy0
  obtain⟨b9,u9,cs9,rfl,⟨ux,rfl,hux⟩,hlo9,hcs,hcb⟩:=hy5
  injection hcs with hcs
  subst hcs
  have hB2:Below W.heap.size W w2:=(jne W.heap.size W).drew.trans hb2
  have hO2:Qq (w.heap.size+5) w2 (.slice ua acc.length uc) acc fvs:=by
   have h:=h4.below hB2 (jnd _)
   exact⟨zk h.row (by omega),h.len,fun i ed fv q1 q2=>zk (h.each i ed fv q1 q2) (by omega)⟩
  obtain⟨xa,xc,rfl,_⟩:=jg hux
  have HV:Hid (∀(i:Nat) (u:Value),[Value.int .i64 (qY pc).kind,.int .i64 (qY pc).id,.slice xa (qY pc).fields.length xc][i]?=some u->w2.cell? ((⟨b9,0,none⟩:Addr).add i)=some u):=fun i u h=>by
   have ea:(⟨b9,0,none⟩:Addr).add i=⟨b9,i,none⟩:=by unfold Addr.add;split<;>simp_all
   rw[ea,hcb.cell i];simpa using h
  have hK2:w2.heap[w.heap.size+4]?=some (Obj.deferred (some [])):=(hB2.block _ hkl).trans hK
  have hz2':=hB2.size
  have HR:=jnc hO2.row
  have HO2:=jnc hO2
  have HUX:=jnc hux
  have HB2:=jnc (h5.trans (hB2.mono h5.size))
  have hal:acc.length<=50000:=by omega
  clear hcb hb2 hB2 hO2 hux h1 h2 h3 h4 h5 hS hpc hpl
  generalize hfl:(qY pc).fields.length=fl at *
  simp only[List.foldl,jnq,jnM,jnN]
  go_wp2_with (at_builtin;refine jW rfl _ _ 22 rfl (w.heap.size+5) 63 i0 _ 3 40 underlying22 hi hz0 hz1 hz2 rfl (by decide) _ _ _ rfl HR.out ⟨b9,0,none⟩ 1 1 _ rfl rfl HV.out (by intro u hu;simp at hu;rcases hu with rfl | rfl | rfl<;>rfl) (by unfold maxLen;omega) (by omega) (by omega) ?_)
  intro ov' w3 own3 grow3 at3
  have hrow:∀r,(Value.slice ua acc.length uc).ownBlock=some r->w.heap.size+5<=r:=fun r e=>(HR.out.lt r e).1
  have hK3:w3.heap[w.heap.size+4]?=some (Obj.deferred (some [])):=(grow3.block _ (by omega) (fun e=>by have:=hrow _ e.symm;omega)).trans hK2
  have OS:=HO2.out.snoc (ed:=qY pc) (by rw[hfl];exact HUX.out) own3 grow3
  rw[<- e1]at OS
  have B3:Below w.heap.size w w3:=HB2.out.grown grow3 HB2.out.size (fun r e=>by have:=hrow r e;omega)
  have pb:=grownBy_putObj' w3 (w.heap.size+4) (.deferred none)
  have kb:Below w.heap.size w3 (w3.putObj (w.heap.size+4) (.deferred none)):=belowK_b (w:=w) (jnd _) w3 _ _ _ (by omega) hK3 rfl rfl
  have FIN:Hid (Qq w.heap.size (w3.putObj (w.heap.size+4) (.deferred none)) ov' (yU t) (fvs++[.slice xa fl xc])/\Below w.heap.size w (w3.putObj (w.heap.size+4) (.deferred none))) :=
   ⟨⟨zk (jq OS.row fun b e=>pb.block b (OS.row.lt b e).2 (fun q=>by have:=(OS.row.lt b e).1;have:=jng q;omega)) (by omega),OS.len,fun i ed fv q1 q2=>zk (jq (OS.each i ed fv q1 q2) fun b e=>pb.block b ((OS.each i ed fv q1 q2).lt b e).2 (fun q=>by have:=((OS.each i ed fv q1 q2).lt b e).1;have:=jng q;omega)) (by omega)⟩,B3.trans kb⟩
  have hK4:=jnc hK3
  obtain⟨ova,ovc,rfl,_⟩:=jg own3
  clear own3 grow3 at3 hrow HO2 HUX HV OS B3 pb kb hK3 hK2 hK
  go_wp2_with fail
  change Code.wpIn _ _ _ _ _ _ _
  gi_wp2
  refine⟨by simp,.inl ⟨_,_,rfl,run_takeDeferred hK4.out,?_⟩⟩
  exact⟨_,results_tmp rfl _ _ _,.slice ova (acc.length+1) ovc,_,rfl,FIN.out.1,FIN.out.2⟩
 case stop =>
 intro c pre W _ h _
 exact h.elim
theorem jaM(t:List UInt8):jk9 (qD t)/\∀f∈qD t,f.1.length<=32/\f.2.length<=1000:=by
 unfold qD
 cases h:jE (dd [32,32] ((jf t).map KW)).1 with
 | error e=>exact⟨⟨by simp,fun f hf=>by cases hf⟩,fun f hf=>by cases hf⟩
 | ok its =>
 obtain⟨_,hil,hif⟩:=Je h
 have hcnt:=Yj h
 rw[<- jbT]at hcnt
 have hrl:=jfr (Vh its) 40 (fun r hr=>by
  unfold Vh at hr
  obtain⟨it,h1,rfl⟩:=List.mem_map.1 hr
  exact(hif it (List.mem_filter.1 h1).1).1)
 have each:∀f∈(Vh its).flatten,f.1.length<=32/\f.2.length<=1000:=fun f hf=>by
  obtain⟨r,hr,hfr⟩:=List.mem_flatten.1 hf
  unfold Vh at hr
  obtain⟨it,h1,rfl⟩:=List.mem_map.1 hr
  obtain⟨h2,h3⟩:=List.mem_filter.1 h1
  obtain⟨_,_,h4⟩:=xW (jhy h it h2 (by simpa using h3))
  obtain⟨h5,h6⟩:=Qb _ h4 f hfr
  exact⟨JJ h5,h6⟩
 refine⟨⟨?_,fun f hf => ?_⟩,each⟩
 ·show((Vh its).flatten).length<=_
  rw[YN];omega
 have:=each f hf;omega
theorem jdd(t:List UInt8):jaD (yU t):=by
 intro ed hed
 obtain⟨p,_,rfl⟩:=List.mem_map.1 hed
 exact(jaM _).1
theorem jhp(t:List UInt8):(yU t).length<=t.length+1:=by
 rw[jbV,jnf]
 have:=(Gf t).2
 simp only[jni,jnG];omega
def jml(w w':World)(t:List UInt8)(e:Ending):Prop :=
 Below w.heap.size w w'/\((jdW t=none/\e=.returned (.tuple #[.slice none 0 0,.iface 46 (.int .i64 2)]))\/∃eds u fvs,jdW t=some eds/\e=.returned (.tuple #[u,.nilIface])/\Qq w.heap.size w' u eds fvs)
theorem Kz(t:List UInt8)(ht:t.length<=maxLen)(w:World)(hT:Tabs w):
  Calls prog 78 #[.string (B t)] w fun e w'=>jml w w' t e:=by
 have bs:=jm t
 by_cases hl:¬t.length<=50000
 ·have NO:Hid (jml w w t (.returned (.tuple #[.slice none 0 0,.iface 46 (.int .i64 2)]))):=⟨jne _ _,.inl ⟨by unfold jdW;rw[if_neg (fun h=>hl h.1)],rfl⟩⟩
  have q:¬((B t).size:Int)<=50000:=by omega
  generalize B t=s at *
  go_enter func78,ntmps78
  go_wp2_with fail
  go_ret2
  exact NO.out
 replace hl:=Classical.not_not.1 hl
 have RD:=jnc (read_any t hl w hT)
 have q:((B t).size:Int)<=50000:=by omega
 have hrl:=jhp t
 have RF:=jnc (jdd t)
 have RI:=jnc (jbU t)
 have HT:=jnc hT
 have YES:Hid (∀W u fvs,Qq w.heap.size W u (yU t) fvs->Below w.heap.size w W->(vS (yU t)).2=0->js (yU t)=t->jml w W t (.returned (.tuple #[u,.nilIface]))):=fun W u fvs ho hb h1 h2 =>
  ⟨hb,.inr ⟨yU t,u,fvs,by unfold jdW;rw[if_pos ⟨hl,h1,h2⟩],rfl,ho⟩⟩
 have NO:Hid (∀W,Below w.heap.size w W->¬((vS (yU t)).2=0/\js (yU t)=t)->jml w W t (.returned (.tuple #[.slice none 0 0,.iface 46 (.int .i64 2)]))):=fun W hb h =>
  ⟨hb,.inl ⟨by unfold jdW;rw[if_neg (fun h2=>h h2.2)],rfl⟩⟩
 clear hT ht bs
 generalize yU t=eds at *
 go_enter func78,ntmps78
 go_wp2_with fail
 refine RD.out.mono ?_
 rintro e w1 ⟨u,fvs,rfl,ho,b1⟩
 have EN:=jnc (Kw eds u w1 ho.edv (by omega) RF.out RI.out (HT.out.below b1 (jnd _)))
 have HO:=jnc ho
 have B1:=jnc b1
 obtain⟨ua,uc,rfl,_⟩:=jg ho.row
 clear RD ho b1
 go_wp2_with fail
 refine EN.out.mono ?_
 rintro e w2 ⟨b2,⟨h0,rfl⟩|⟨h0,u',rfl,hz⟩⟩
 ·have B2:=jnc (B1.out.trans (b2.mono B1.out.size))
  have Z0:=jnc h0
  have E2:=jjl (js eds) t
  by_cases hq:js eds=t
  ·have E3:((B (js eds)).toList==(B t).toList)=true:=by rw[E2];exact decide_eq_true hq
   have Y:=jnc (YES.out w2 _ fvs (HO.out.below b2 (jnd _)) B2.out Z0.out hq)
   clear EN YES NO b2 h0 HO E2 hq
   generalize B (js eds)=own at *
   go_wp2_with fail
   go_ret2
   exact Y.out
  have E3:((B (js eds)).toList==(B t).toList)=false:=by rw[E2];exact decide_eq_false hq
  have E4:¬(B (js eds)).toList=(B t).toList:=by simpa using E3
  have Y:=jnc (NO.out w2 B2.out (fun h=>hq h.2))
  clear EN YES NO b2 h0 HO E2 hq
  generalize B (js eds)=own at *
  go_wp2_with fail
  go_ret2
  exact Y.out
 have B2:=jnc (B1.out.trans (b2.mono B1.out.size))
 have Y:=jnc (NO.out w2 B2.out (fun h=>h0 h.1))
 obtain⟨_,⟨rfl,hx⟩|⟨kk,⟨q,_,rfl,_⟩,_,_⟩⟩:=hz
 ·have hpos:0<(vS eds).2:=joC h0
  rw[ze _ hpos]
  clear EN YES NO b2 h0 HO hx hpos
  generalize ((vS eds).2:Int)=zz at *
  go_wp2_with fail
  go_ret2
  exact Y.out
 clear EN YES NO b2 h0 HO
 go_wp2_with fail
 go_ret2
 exact Y.out
end
namespace Bk
attribute [local go_sem] jnn
structure QX(w:World):Prop where
 tabs:Tabs w
 max:Hd.MaxL w
theorem QX.below{w w':World}{N:Nat}(h:QX w)(hb:Below N w w')(hN:w.heap.size<=N):QX w':=⟨h.tabs.below hb hN,h.max.below hb hN⟩
theorem QX.nums{w:World}(h:QX w):Fr.TabsN w:=⟨h.tabs.pow,h.tabs.syn,h.tabs.ran⟩
theorem QX.tab{w:World}(h:QX w):Hd.Tab w:=⟨h.nums,h.max⟩
def Dc(b:List UInt8):Bool:=(jdW b).isSome
def Qg(b:List UInt8):List Ed:=(jdW b).getD []
def jlW(n:Nat):Value:=.int .i64 (n:Int)
def Ql(n:Nat)(base:List UInt8)(bv ev:Value)(tail:List UInt8):Value:=.agg #[.int .i64 (n:Int),.string (B base),bv,ev,.string (B tail)]
theorem JE{lo lo' n sz:Nat}{w w':World}{v u:Value}{eds:List Ed}{fvs xs:List Value}{t:TypeId}(h:Qq lo w v eds fvs)(hu:w.ownsRow lo' t sz u n xs)(t1:t≠63)(t2:t≠155)(o:jv (fun r=>u.ownBlock=some r) w w'):Qq lo w' v eds fvs :=
 ⟨jN h.row o (fun b e q=>qq hu h.row t1 b q e),h.len,fun i ed fv h1 h2=>jN (h.each i ed fv h1 h2) o (fun b e q=>qq hu (h.each i ed fv h1 h2) t2 b q e)⟩
theorem jhz{lo:Nat}{w w':World}{v:Value}{eds:List Ed}{fvs:List Value}{t:TypeId}{b:Nat}{cur:Array Value}(h:Qq lo w v eds fvs)(hc:ja w b t cur)(t1:63≠t)(t2:155≠t)(o:jv (· = b) w w'):Qq lo w' v eds fvs :=
 ⟨jN h.row o (fun r e q=>jB h.row hc t1 (by rw[e,q])),h.len,fun i ed fv h1 h2=>jN (h.each i ed fv h1 h2) o (fun r e q=>jB (h.each i ed fv h1 h2) hc t2 (by rw[e,q]))⟩
structure KJ(lo:Nat)(w:World)(bv:Value)(bds:List (List UInt8))(us:List Value):Prop where
 row:w.ownsRow lo 22 1 bv bds.length us
 each:∀(i:Nat) b u,bds[i]?=some b->us[i]?=some u->∃fvs,Qq lo w u (Qg b) fvs
theorem KJ.len{lo:Nat}{w:World}{bv:Value}{bds:List (List UInt8)}{us:List Value}(h:KJ lo w bv bds us):us.length=bds.length:=by have:=h.row.1;omega
theorem KJ.below{lo:Nat}{w w':World}{bv:Value}{bds:List (List UInt8)}{us:List Value}(h:KJ lo w bv bds us)(hb:Below w.heap.size w w'):KJ lo w' bv bds us :=
 ⟨zL h.row hb (jnd _),fun i b u h1 h2=>by
  obtain⟨fvs,ho⟩:=h.each i b u h1 h2
  exact⟨fvs,ho.below hb (jnd _)⟩⟩
theorem KJ.nil(lo:Nat)(w:World):KJ lo w (.slice none 0 0) [] []:=⟨⟨rfl,.inl ⟨rfl,rfl⟩⟩,fun i b u h1 h2=>by simp at h1⟩
theorem KJ.box{lo:Nat}{w w':World}{bv:Value}{bds:List (List UInt8)}{us:List Value}{t:TypeId}{b:Nat}{cur:Array Value}(h:KJ lo w bv bds us)(hc:ja w b t cur)(t0:22≠t)(t1:63≠t)(t2:155≠t)(o:jv (· = b) w w'):KJ lo w' bv bds us :=
 ⟨jN h.row o (fun r e q=>jB h.row hc t0 (by rw[e,q])),fun i x u h1 h2=>by
  obtain⟨fvs,ho⟩:=h.each i x u h1 h2
  exact⟨fvs,jhz ho hc t1 t2 o⟩⟩
theorem KJ.beside{lo lo' n sz:Nat}{w w':World}{bv u:Value}{bds:List (List UInt8)}{us xs:List Value}{t:TypeId}(h:KJ lo w bv bds us)(hu:w.ownsRow lo' t sz u n xs)(t0:t≠22)(t1:t≠63)(t2:t≠155)(o:jv (fun r=>u.ownBlock=some r) w w'):KJ lo w' bv bds us :=
 ⟨jN h.row o (fun b e q=>qq hu h.row t0 b q e),fun i x v h1 h2=>by
  obtain⟨fvs,ho⟩:=h.each i x v h1 h2
  exact⟨fvs,JE ho hu t1 t2 o⟩⟩
theorem KJ.snoc{lo:Nat}{w w':World}{bv bv' u:Value}{bds:List (List UInt8)}{us:List Value}{b:List UInt8}{fvs:List Value}(h:KJ lo w bv bds us)(hO:Qq lo w u (Qg b) fvs)(own:w'.ownsRow lo 22 1 bv' (bds.length+1) (us++[u]))(o:jv (fun r=>bv.ownBlock=some r) w w'):KJ lo w' bv' (bds++[b]) (us++[u]):=by
 refine⟨by rw[jnf];exact own,fun i x v h1 h2 => ?_⟩
 rw[List.getElem?_append]at h1 h2
 rw[h.len]at h2
 split at h1
 ·rename_i hi
  rw[if_pos hi]at h2
  obtain⟨f,ho⟩:=h.each i x v h1 h2
  exact⟨f,JE ho h.row (by decide) (by decide) o⟩
 rename_i hi
 rw[if_neg hi]at h2
 rw[List.getElem?_singleton]at h1 h2
 split at h1
 ·rename_i hz
  rw[if_pos hz]at h2
  obtain rfl:=jng h1
  obtain rfl:=jng h2
  exact⟨fvs,JE hO h.row (by decide) (by decide) o⟩
 cases h1
structure xv(lo:Nat)(w:World)(v:Value)(n:Nat)(base:List UInt8)(bds:List (List UInt8))(tail:List UInt8):Prop where
 is:∃bv ev us,v=Ql n base bv ev tail/\KJ lo w bv bds us/\w.ownsRow lo 3 1 ev bds.length ((qB (hl n+base.length) bds).map jlW)
theorem xv.below{lo:Nat}{w w':World}{v:Value}{n:Nat}{base tail:List UInt8}{bds:List (List UInt8)}(h:xv lo w v n base bds tail)(hb:Below w.heap.size w w'):xv lo w' v n base bds tail:=by
 obtain⟨bv,ev,us,h1,h2,h3⟩:=h.is
 exact⟨bv,ev,us,h1,h2.below hb,zL h3 hb (jnd _)⟩
theorem jkq(n:Nat):Hd.lenP n=hl n:=rfl
theorem Vv{lo:Nat}{w:World}{v:Value}{n:Nat}{base tail:List UInt8}{bds:List (List UInt8)}(h:xv lo w v n base bds tail)(hs:jo n base bds<=1000000)(ht:QX w):
  Calls prog 70 #[v] w fun e w'=>e=.returned (.int .i64 (jo n base bds:Nat))/\Below w.heap.size w w':=by
 obtain⟨bv,ev,us,rfl,hB,hE⟩:=h.is
 obtain⟨ba,bc,rfl,_⟩:=jg hB.row
 have hEE:=hE
 obtain⟨ea,ec,rfl,hele⟩:=jg hE
 obtain⟨w1,hw1⟩:∃z,w.alloc (.cells #[.int .i64 (n:Int),.string (B base),.slice ba bds.length bc,.slice ea bds.length ec,.string (B tail)] 73)=z:=⟨_,rfl⟩
 have hb1:Below w.heap.size w w1:=by rw[<- hw1];exact(jne _ w).alloc (jnd _) _
 have C1:ja w1 w.heap.size 73 #[.int .i64 (n:Int),.string (B base),.slice ba bds.length bc,.slice ea bds.length ec,.string (B tail)]:=by rw[<- hw1];exact ja.new _ _ _
 have hE1:=zL hE hb1 (jnd _)
 have hsz:(B base).size=base.length:=jm base
 have hwh:jo n base bds=hl n+base.length+(bds.flatMap Fr.fullR).length:=rfl
 have HB1:=jnc hb1
 have HW1:=jnc hw1
 unfold Ql
 by_cases h0:bds.length=0
 ·have hbn:bds=[]:=List.length_eq_zero_iff.1 h0
  subst hbn
  have hq:hl n+base.length<=1000000:=by simpa [jo]using hs
  have hwq:jo n base []=hl n+base.length:=by simp[jo]
  rw[hwq]
  have HVAL:Hid (Value.int .i64 (IntKind.i64.wrap (((hl n:Nat):Int)+((B base).size:Int)))=.int .i64 ((hl n+base.length:Nat):Int)):=by
   show _=_
   rw[hsz]
   congr 1
   rw[jn1 _ (by omega)]
   omega
  have LEN:Hid (∀W,Below w1.heap.size w1 W->Calls prog 97 #[.int .i64 (n:Int)] W fun e w'=>e=.returned (.int .i64 (hl n:Nat))/\Below W.heap.size W w'):=fun W hW=>Hd.lenP_call n W ((ht.below hb1 (jnd _)).below hW (jnd _)).tab
  have DR:Hid (Below w1.heap.size w1 w1.drew):=(jne _ _).drew
  have HC:=jnc C1
  have k0:=C1.cell 0
  have k1:=C1.cell 1
  have k3:=C1.cell 3
  simp only[jnl,jnp,jnj]at k0 k1 k3
  have e0:([]:List (List UInt8)).length=0:=rfl
  simp only[e0]at *
  rw[<- hw1]at k3
  clear h hB hE hEE hE1 ht hb1 C1 hw1 hwh hwq h0
  go_enter func70,ntmps70
  go_wp2_with fail
  rw[HW1.out]
  go_region_law (go_simp;go_at_call 97;refine(LEN.out _ DR.out).mono ?_;rintro e w5 ⟨rfl,hb5⟩;have kk:=je HC.out (DR.out.trans hb5) HC.out.lt;have t1:=kk.cell 1;simp only[jnl,jnp,jnj]at t1;have HB5:=jnc (DR.out.trans hb5);clear hb5 kk)
  all_goals go_wp2_with fail
  all_goals
   go_ret
   exact⟨congrArg Ending.returned HVAL.out,HB1.out.trans (HB5.out.mono HB1.out.size)⟩
 have hne:bds≠[]:=fun e=>h0 (by rw[e];rfl)
 obtain⟨g,cap,hug⟩:=joD hE1 (by omega)
 have hlast:=Ww (hl n+base.length) bds hne
 have hcell:∃g,ea=some ⟨g,0,none⟩/\w1.cell? ⟨g,bds.length-1,none⟩=some (.int .i64 (jo n base bds:Nat)):=by
  have hrow:=hE1
  rw[hug]at hrow
  cases hug
  refine⟨g,rfl,?_⟩
  rw[jnL hrow (bds.length-1) (by omega),jnF,hlast]
  rfl
 obtain⟨g',rfl,hc⟩:=hcell
 have hpos:(0:Int)<(bds.length:Int):=by omega
 have hbl:bds.length<=1000000:=by have:=Ua bds;omega
 have hcast:((bds.length:Int)-1)=((bds.length-1:Nat):Int):=by omega
 have hwr:IntKind.i64.wrap ((bds.length:Int)-1)=((bds.length-1:Nat):Int):=by rw[hcast];exact jn1 _ (by omega)
 have hin:((bds.length-1:Nat):Int)<(bds.length:Int):=by omega
 have k3:=C1.cell 3
 simp only[jnl,jnp,jnj]at k3
 rw[<- hw1]at k3 hc
 generalize jo n base bds=W at *
 generalize bds.length-1=j at *
 generalize bds.length=m at *
 clear h hB hE hEE hE1 ht hb1 C1 hw1 hwh hlast hcast
 go_enter func70,ntmps70
 go_wp2_with fail
 go_ret
 exact⟨rfl,by rw[HW1.out];exact HB1.out⟩
end Bk
end Go.Proofs.YtpibhbjmcmfnmaaGreatDoor
