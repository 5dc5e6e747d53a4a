/- Texts put together:AK,AL,SC. -/
import Derived.Test.YtmdhainabeljpaaGreatDoorBxr18
set_option linter.unusedVariables false
set_option maxRecDepth 100000
set_option maxHeartbeats 16000000
namespace Go.Proofs.YtmdhainabeljpaaGreatDoor
open Go.RowKit Go.Shelf
attribute [local go_sem] jil
def YT(t:List UInt8)(st:List Ed×Nat)(x:Ln):List Ed×Nat:=if st.2<x.at_/\Lib.hasPrefix x.text [32,32]=false then (st.1++[qO ((t.drop st.2).take (x.at_-st.2))],x.at_) else st
def vH(t:List UInt8)(xs:List Ln):List Ed×Nat:=xs.foldl (YT t) ([],0)
theorem Yg(t:List UInt8)(xs:List Ln)(x:Ln):vH t (xs++[x])=YT t (vH t xs) x:=by unfold vH;rw[jkg];rfl
theorem Je(t:List UInt8):∀(xs:List Ln) (acc:List Ed) (b:Nat),(xs.foldl (YT t) (acc,b)).1++[qO (t.drop (xs.foldl (YT t) (acc,b)).2)]=acc++(zM t b xs).map qO
 | [],acc,b=>rfl
 | x::r,acc,b=>by
  rw[List.foldl_cons,zM]
  by_cases h:b<x.at_/\Lib.hasPrefix x.text [32,32]=false
  ·rw[show YT t (acc,b) x=(acc++[qO ((t.drop b).take (x.at_-b))],x.at_) from if_pos h,Je t r,if_pos h,jiP];simp
  rw[show YT t (acc,b) x=(acc,b) from if_neg h,Je t r,if_neg h]
theorem Gm(t:List UInt8):yA t=(vH t (jf t)).1++[qO (t.drop (vH t (jf t)).2)]:=by
 unfold yA vH
 rw[Je];rfl
theorem Yf(t:List UInt8)(k:Nat):((vH t ((jf t).take k)).2<=(((jf t).take k).flatMap Ln.bytes).length)/\(vH t ((jf t).take k)).1.length<=k:=by
 induction k with
 | zero=>exact⟨jh6 _,jh6 _⟩
 | succ k ih =>
 rw[jiK]
 cases h:(jf t)[k]? with
 | none=>simp only[Option.toList,jix];omega
 | some x =>
 obtain⟨hk,e⟩:=List.getElem?_eq_some_iff.1 h
 have hat:=(qz t ((jf t).take k) x ((jf t).drop (k+1)) (by conv=>lhs;rw[<- jiy k (jf t),jiB hk,e])).2
 show(vH t (_++[x])).2<=_/\(vH t (_++[x])).1.length<=_
 rw[Yg]
 have hb:((((jf t).take k++[x])).flatMap Ln.bytes).length=(((jf t).take k).flatMap Ln.bytes).length+x.bytes.length:=by rw[jiG,jh7];simp
 show(YT t _ x).2<=(((jf t).take k++[x]).flatMap Ln.bytes).length/\_
 rw[hb]
 unfold YT
 split
 ·refine⟨by show x.at_<=_;omega,?_⟩
  show(_++[_]).length<=_
  rw[jh7];simp only[jic,jiW];omega
 exact⟨by omega,by omega⟩
theorem jdC{t:List UInt8}{pre post:List Ln}{x:Ln}(h:jf t=pre++x::post):(vH t pre).2<=x.at_/\x.at_<=t.length/\(vH t pre).1.length<=t.length:=by
 have e:pre=(jf t).take pre.length:=by rw[h];simp
 have h1:=Yf t pre.length
 rw[<- e]at h1
 have h2:=(qz t pre x post h).2
 have h3:=congrArg List.length (jB t)
 rw[h,jiG,jh7]at h3
 have h4:=zD t
 rw[h,jh7,jic]at h4
 exact⟨by omega,by omega,by omega⟩
theorem Kn(t:List UInt8):(vH t (jf t)).2<=t.length/\(vH t (jf t)).1.length<=t.length:=by
 have h1:=Yf t (jf t).length
 rw[jiF,jB]at h1
 have:=zD t
 exact⟨h1.1,by omega⟩
theorem jg8(t:List UInt8)(i j:Nat):(B t).extract i j=B ((t.drop i).take (j-i)):=by
 apply jjf
 simp[B,ByteArray.data_extract,List.extract_eq_take_drop]
theorem vM.turned{lo B k:Nat}{W W':World}{v:Value}{eds:List Ed}{fvs:List Value}(h:vM lo W v eds fvs)(ht:zc B k W W')(hlo:B+k<=lo):vM lo W' v eds fvs :=
 ⟨ht.row h.row (fun b e=>.inr (by have:=(h.row.lt b e).1;omega)),h.len,fun i ed fv h1 h2=>ht.row (h.each i ed fv h1 h2) (fun b e=>.inr (by have:=((h.each i ed fv h1 h2).lt b e).1;omega))⟩
theorem vM.set{lo:Nat}{W:World}{v:Value}{eds:List Ed}{fvs:List Value}(h:vM lo W v eds fvs){p:Addr}(hp:p.block<lo)(u:Value):vM lo (W.setCell p u) v eds fvs :=
 ⟨jT h.row (fun e=>by have:=(h.row.lt _ e).1;omega) _,h.len,fun i ed fv h1 h2=>jT (h.each i ed fv h1 h2) (fun e=>by have:=((h.each i ed fv h1 h2).lt _ e).1;omega) _⟩
theorem vM.snoc{lo:Nat}{w2 w3:World}{v v' x:Value}{eds:List Ed}{fvs:List Value}{ed:Ed}(h:vM lo w2 v eds fvs)(hx:w2.ownsRow lo 71 2 x ed.fields.length (jt ed.fields))
  (own3:w3.ownsRow lo 40 3 v' (eds.length+1) (yv eds fvs++[.int .i64 ed.kind,.int .i64 ed.id,x])) (grow3:w2.grownBy w3 v.ownBlock):vM lo w3 v' (eds++[ed]) (fvs++[x]):=by
 have hty:∀(fx:Value) (n:Nat) (xs:List Value),w2.ownsRow lo 71 2 fx n xs->w3.ownsRow lo 71 2 fx n xs:=fun fx n xs hx =>
  jQ hx (fun r e=>grow3.block r (hx.lt r e).2 (fun q=>zq h.row hx (by decide) r q.symm e))
 refine⟨by rw[Zz _ _ _ _ h.len,jh7];exact own3,by rw[jh7,jh7,h.len];rfl,fun i y fx h1 h2 => ?_⟩
 rcases jir i eds.length with q|q
 ·rw[jiT q]at h1
  rw[jiT (by rw[h.len];exact q)]at h2
  exact hty _ _ _ (h.each i y fx h1 h2)
 rw[jiD q]at h1
 rw[jiD (by rw[h.len];exact q),h.len]at h2
 rcases hq:i-eds.length with _|j
 ·rw[hq]at h1 h2
  simp at h1 h2
  subst h1 h2
  exact hty _ _ _ hx
 rw[hq]at h1;simp at h1
theorem jfx{W:World}{lo sz n b:Nat}{T U:TypeId}{v:Value}{xs:List Value}{cur:Array Value}(h:W.ownsRow lo T sz v n xs)(hc:jd W b U cur)(ht:T≠U):v.ownBlock≠some b:=by
 intro e
 rcases h.2 with ⟨rfl,_⟩|⟨g,cap,cur',rfl,_,hg,_⟩
 ·cases e
 have:g=b:=jh9 e
 subst this
 have h2:=hg.symm.trans hc
 injection h2 with h2
 injection h2 with _ h2 _
 exact ht h2
def jbg(w:World)(t:List UInt8)(st:List Ed×Nat)(W:World):Prop :=
 ∃u fvs,Boxed W w.heap.size 9 (.string (B t))/\Boxed W (w.heap.size+1) 37 u/\Boxed W (w.heap.size+2) 3 (.int .i64 (st.2:Nat))/\vM (w.heap.size+9) W u st.1 fvs/\Below w.heap.size w W
theorem jbg.turned{w:World}{t:List UInt8}{st:List Ed×Nat}{W W':World}{k:Nat}(h:jbg w t st W)(ht:zc (w.heap.size+4) k W W')(hk:k<=5):jbg w t st W':=by
 obtain⟨u,fvs,h1,h2,h3,h4,h5⟩:=h
 exact⟨u,fvs,ht.box h1 (.inl (by omega)),ht.box h2 (.inl (by omega)),ht.box h3 (.inl (by omega)),h4.turned ht (by omega),h5.trans (ht.below (by omega) h5.size)⟩
theorem jbg.alloc{w:World}{t:List UInt8}{st:List Ed×Nat}{W:World}(h:jbg w t st W)(o:Obj):jbg w t st (W.alloc o):=by
 obtain⟨u,fvs,h1,h2,h3,h4,h5⟩:=h
 exact⟨u,fvs,h1.alloc _,h2.alloc _,h3.alloc _,h4.below ((jh8 _ W).alloc (jh6 _) _) (jh6 _),h5.alloc h5.size _⟩
theorem read_any(t:List UInt8)(ht:t.length<=50000)(w:World)(hT:Tabs w):
  Calls Tryz.prog 42 #[.string (B t)] w fun e w'=>∃u fvs,e=.returned u/\vM w.heap.size w' u (yA t) fvs/\Below w.heap.size w w':=by
 obtain⟨xs,hxs⟩:∃xs,jf t=xs:=⟨_,rfl⟩
 have HXS:=jh5 hxs
 have HT:=jh5 hT
 have RA:Hid (∀pre x post,xs=pre++x::post->(vH t pre).2<=x.at_/\x.at_<=t.length/\(vH t pre).1.length<=t.length):=fun pre x post h=>jdC (hxs.trans h)
 clear hxs hT
 refine callsIn_wide (n:=9).1 ?_
 refine callsIn_of_wp_marks Tryz.func42 rfl trivial ?_ rfl
 simp only[Tryz.ntmps42,jjw,jic,jiW,Nat.reduceAdd,Nat.reduceSub,jjm,jjn,jjx,jjp,ji4,jiq]
 gi_wp2_with fail
 refine⟨trivial,(callsIn_wide.2 (yj (B t) _)).mono ?_⟩
 rintro e w3 ⟨rfl,rfl⟩
 gi_wp2_with fail
 obtain⟨w1,hw1⟩:∃w1,w1=((((w.alloc (.cells #[.string (B t)] 9)).alloc (.cells #[.slice none 0 0] 37)).alloc (.cells #[.int .i64 0] 3)).alloc (.cells #[.string (B t)] 9)):=⟨_,rfl⟩
 have hz:w1.heap.size=w.heap.size+4:=by rw[hw1];simp
 have k3:Boxed w1 (w.heap.size+3) 9 (.string (B t)):=by
  rw[hw1]
  have:=jjV (((w.alloc (.cells #[.string (B t)] 9)).alloc (.cells #[.slice none 0 0] 37)).alloc (.cells #[.int .i64 0] 3)) 9 (.string (B t))
  simpa using this
 have init:jbg w t ([],0) w1:=by
  rw[hw1]
  refine jbg.alloc ⟨.slice none 0 0,[],((jjV w _ _).alloc _).alloc _,(ZB w _ _ _).alloc _,Vr w _ _ _ _,⟨⟨rfl,.inl ⟨rfl,rfl⟩⟩,rfl,fun i ed fv h1 _=>by simp at h1⟩,(((jh8 _ w).alloc (jh6 _) _).alloc (by simp) _).alloc (by simp;omega) _⟩ _
 rw[<- hw1]
 clear hw1
 have HH:=qQ (B t) (w.heap.size+3) w1 k3 (by rw[je];omega)
 rw[ji,HXS.out]at HH
 refine vy (gf:=68) (lb:=#[.pointer (some ⟨w.heap.size+3,0,none⟩)]) rfl (enters_of Tryz.func68 (by kernel_rfl) rfl) HH (fun _=>rfl)
  (fun pre W=>jbg w t (vH t pre) W) (fun _ _ _=>False) (by rw[hz];intro pre W W' h ht;exact h.turned ht (by omega)) (fun _ _ _ _ hs _=>hs) init
  (fun a pre x a' W=>∃Bx,w.heap.size+9<=Bx/\a'={tmps:=(a.tmps.setIfInBounds 8 (.agg (zO x))).setIfInBounds 5 (.pointer (some ⟨Bx,0,none⟩)),defers:=[]}/\jd W Bx 76 (zO x)/\jbg w t (vH t pre) W)
  ?hM ?assign ?body ?done ?stop
 case hM =>
  rw[hz]
  rintro a pre x a' _ W W' ⟨Bx,h1,h2,h3,h4⟩ ht
  exact⟨Bx,h1,h2,(ht.same Bx h3.lt (.inr (by omega))).trans h3,h4.turned (ht.sub (jh6 _) (by omega)) (jh6 5)⟩
 case assign =>
  rw[hz]
  intro l pre x post W hx hsz hi
  clear hx
  dsimp only[zO]
  gi_wp2
  exact⟨(yh.refl _ _ W).alloc hsz _,W.heap.size,by omega,rfl,jd.new _ _ _,hi.alloc _⟩
 case body =>
  rw[hz]
  rintro l pre x post a' W hx hsz ⟨Bx,hB,rfl,hc,u,fvs,h1,h2,h3,h4,h5⟩
  obtain⟨r1,r2,r3⟩:=RA.out pre x post hx
  have SN:=jh5 (Yg t pre x)
  clear hx RA
  obtain⟨⟨acc,beg⟩,hst⟩:∃st,vH t pre=st:=⟨_,rfl⟩
  rw[hst]at r1 r3 h3 h4 SN
  dsimp only at r1 r3 h3 h4
  simp only[jiw,jiU,jiV,zO]at hc ⊢
  have p1:W.cell? ⟨Bx,1,none⟩=some (.int .i64 x.at_):=hc.cell 1
  have p2:W.cell? ⟨Bx,2,none⟩=some (.string ⟨x.text.toArray⟩):=hc.cell 2
  have p3:=h3.cell
  have HI:Hid (jbg w t (acc,beg) W):=⟨u,fvs,h1,h2,h3,h4,h5⟩
  refine wpIn_block (wpIn_seq ?_)
  by_cases hcd:beg<x.at_/\Lib.hasPrefix x.text [32,32]=false
  ·obtain⟨hlt,hp⟩:=hcd
   have q:¬(x.at_:Int)<=(beg:Int):=by omega
   refine wpIn_mono (Q:=fun e a' w'=>e=.normal/\w'=W/\∃y9 y10 y11 y12 y13 y14 y15 y16 y17,a'={tmps:=#[.string (B t),.pointer (some ⟨w.heap.size,0,none⟩),.slice none 0 0,.pointer (some ⟨w.heap.size+1,0,none⟩),.pointer (some ⟨w.heap.size+1+1,0,none⟩),.pointer (some ⟨Bx,0,none⟩),.string (B t),.func (.func 68) #[] #[.pointer (some ⟨w.heap.size+1+1+1,0,none⟩)],.agg #[.int .i64 x.no,.int .i64 x.at_,.string ⟨x.text.toArray⟩,.bool x.ended],y9,y10,y11,y12,y13,y14,y15,y16,y17,.bool true,undef,undef,undef,undef,undef,undef,undef,undef,undef,undef,undef,undef,undef,undef,undef,undef,undef,undef],defers:=[]}) ?first ?rest
   case first =>
    clear HI SN h1 h2 h3 h4 h5
    gi_wp2_with fail
    refine⟨trivial,((callsIn_wide.2 (Tryz.strings_HasPrefix ⟨x.text.toArray⟩ ⟨#[32,32]⟩ W)).inRound l).mono ?_⟩
    rintro e V ⟨rfl,rfl⟩
    rw[show Lib.hasPrefix (⟨x.text.toArray⟩:ByteArray).data.toList (⟨#[32,32]⟩:ByteArray).data.toList=Lib.hasPrefix x.text [32,32] from rfl,hp]
    gi_wp2_with fail
    all_goals exact⟨rfl,rfl,_,_,_,_,_,_,_,_,_,rfl⟩
   case rest =>
   rintro e a' w' ⟨rfl,hw',y9,y10,y11,y12,y13,y14,y15,y16,y17,rfl⟩
   subst hw'
   change Code.wpIn _ _ _ _ _ _ _
   refine wpIn_cond_true rfl (wpIn_seq (Qt (by decide +kernel) (by rintro⟨a,w,h⟩;exact h) (by kernel_rfl) ?_))
   have hzW:=h5.size
   have hcbx:=hc.lt
   obtain⟨ua,uc,rfl,_⟩:=jg h4.row
   have hS:∀V,Below w'.drew.heap.size w'.drew V->V.cell? ⟨w.heap.size+1,0,none⟩=some (.slice ua acc.length uc)/\V.cell? ⟨w.heap.size,0,none⟩=some (.string (B t))/\V.cell? ⟨w.heap.size+1+1,0,none⟩=some (.int .i64 (beg:Nat))/\V.cell? ⟨Bx,1,none⟩=some (.int .i64 (x.at_:Nat)):=fun V hV=>by
    have hV':Below w'.heap.size w' V:=(jh8 w'.heap.size w').drew.trans hV
    exact⟨(hV'.cell (p:=⟨w.heap.size+1,0,none⟩) (by show w.heap.size+1<_;omega)).trans h2.cell,(hV'.cell (p:=⟨w.heap.size,0,none⟩) (by show w.heap.size<_;omega)).trans h1.cell,(hV'.cell (p:=⟨w.heap.size+1+1,0,none⟩) (by show w.heap.size+1+1<_;omega)).trans h3.cell,(hV'.cell (p:=⟨Bx,1,none⟩) hcbx).trans p1⟩
   obtain⟨pc,hpc⟩:∃pc,pc=(t.drop beg).take (x.at_-beg):=⟨_,rfl⟩
   have hpl:pc.length<=60000:=by rw[hpc,jiE,jik];omega
   have SN1:Hid (vH t (pre++[x])=(acc++[qO pc],x.at_)):=by
    show _=_
    rw[SN.out,hpc];exact if_pos ⟨hlt,hp⟩
   obtain⟨i0,hi,hz0,hz1,hz2⟩:=info_parts WY
   refine jas _ w'.drew (w.heap.size+1) w.heap.size (w.heap.size+1+1) Bx (w.heap.size+9) (.slice ua acc.length uc) (B t) beg x.at_ (jeM (w.heap.size+9) pc) _ rfl rfl rfl rfl rfl hS hsz ⟨r1,by rw[je];exact r2⟩ ?pm ?pf ?pC ?pQ
   case pm =>
    rintro v x y hb ⟨u,e,h⟩
    exact⟨u,e,jJ h hb (jh6 _)⟩
   case pf =>
    rintro v w ⟨u,rfl,h⟩
    obtain⟨A,c,rfl,_⟩:=jg h
    exact⟨_,_,_,_,_,rfl⟩
   case pC =>
    intro V hV
    have hV':Below w'.heap.size w' V:=(jh8 w'.heap.size w').drew.trans hV
    rw[jg8,<- hpc]
    refine(Wl pc hpl V (HT.out.below (h5.trans (hV'.mono h5.size)) (jh6 _))).mono ?_
    rintro e w2 ⟨v,rfl,⟨u,e,h⟩,hb⟩
    exact⟨v,rfl,⟨u,e,zd h (jiv hsz hV'.size)⟩,hb⟩
   case pQ =>
   intro y0 y1 y2 y3 y4 y5 y6 y7 w2 hb2 hy0 hy7
   subst hy0
   obtain⟨b9,u9,cs9,rfl,⟨ux,rfl,hux⟩,hlo9,hcs,hcb⟩:=hy7
   injection hcs with hcs
   subst hcs
   have hB2:Below w'.heap.size w' w2:=(jh8 w'.heap.size w').drew.trans hb2
   have hO2:=h4.below hB2 (jh6 _)
   obtain⟨xa,xc,rfl,_⟩:=jg hux
   have HV:Hid (∀(i:Nat) (u:Value),[Value.int .i64 (qO pc).kind,.int .i64 (qO pc).id,.slice xa (qO pc).fields.length xc][i]?=some u->w2.cell? ((⟨b9,0,none⟩:Addr).add i)=some u):=fun i u h=>by
    have ea:(⟨b9,0,none⟩:Addr).add i=⟨b9,i,none⟩:=by unfold Addr.add;split<;>simp_all
    rw[ea,hcb.cell i];simpa using h
   have k1:Boxed w2 w.heap.size 9 (.string (B t)):=(hB2.block _ h1.lt).trans h1
   have k2:Boxed w2 (w.heap.size+1) 37 (.slice ua acc.length uc):=(hB2.block _ h2.lt).trans h2
   have k3':Boxed w2 (w.heap.size+1+1) 3 (.int .i64 (beg:Nat)):=(hB2.block _ h3.lt).trans h3
   have kc:=jb hc hB2 hcbx
   have hz2':=hB2.size
   have HR:=jh5 hO2.row
   have HO2:=jh5 hO2
   have HUX:=jh5 hux
   have HB2:=jh5 hB2
   have K:=jh5 (And.intro k1 (And.intro k2 (And.intro k3' kc)))
   have H5:=jh5 h5
   have hal:acc.length<=50000:=by omega
   clear hcb hb2 hB2 hO2 hux k1 k2 k3' kc h1 h2 h3 h4 h5 hS HI p1 p2 p3 hc SN hpc hpl
   generalize hfl:(qO pc).fields.length=fl at *
   simp only[List.foldl,jiw,jiU,jiV]
   go_wp2_with (at_builtin;refine jP rfl _ _ 37 rfl (w.heap.size+9) 40 i0 _ 3 40 Tryz.underlying37 hi hz0 hz1 hz2 rfl (by decide) _ _ _ rfl HR.out ⟨b9,0,none⟩ 1 1 _ rfl rfl HV.out (by intro u hu;simp at hu;rcases hu with rfl | rfl | rfl<;>rfl) (by unfold maxLen;omega) (by omega) (by omega) ?_)
   intro ov' w3 own3 grow3 at3
   have hrow:∀r,(Value.slice ua acc.length uc).ownBlock=some r->w.heap.size+9<=r:=fun r e=>(HR.out.lt r e).1
   obtain⟨k1,k2,k3',kc⟩:=K.out
   have j1:=k1.kept grow3 (fun e=>by have:=hrow _ e.symm;omega)
   have j2:=k2.kept grow3 (fun e=>by have:=hrow _ e.symm;omega)
   have j3:=k3'.kept grow3 (fun e=>by have:=hrow _ e.symm;omega)
   have jc:jd w3 Bx 76 _:=(grow3.block Bx kc.lt (fun e=>jfx HR.out kc (by decide) e.symm)).trans kc
   have hs3:=grow3.size
   have f2:=j2.cell
   have f2':=j2.frozen
   have OS:=jh5 (HO2.out.snoc (ed:=qO pc) (by rw[hfl];exact HUX.out) own3 grow3)
   have HG:=jh5 grow3
   have HROW:=jh5 hrow
   have J:=jh5 (And.intro j1 (And.intro j2 (And.intro j3 jc)))
   obtain⟨ova,ovc,rfl,_⟩:=jg own3
   clear own3 grow3 at3 hrow k1 k2 k3' kc j1 j2 j3 jc HO2 HUX HV
   go_wp2_with fail
   change Code.wpIn _ _ _ _ _ _ _
   obtain⟨j1,j2,j3,jc⟩:=J.out
   obtain⟨w4,hw4⟩:∃w4,w4=w3.setCell ⟨w.heap.size+1,0,none⟩ (.slice ova (acc.length+1) ovc):=⟨_,rfl⟩
   have q1:Boxed w4 w.heap.size 9 (.string (B t)):=by rw[hw4];exact j1.other (by omega) _
   have q2:Boxed w4 (w.heap.size+1) 37 (.slice ova (acc.length+1) ovc):=by rw[hw4];exact jjy _ j2
   have q3:Boxed w4 (w.heap.size+1+1) 3 (.int .i64 (beg:Nat)):=by rw[hw4];exact j3.other (by omega) _
   have qc:jd w4 Bx 76 #[.int .i64 x.no,.int .i64 x.at_,.string ⟨x.text.toArray⟩,.bool x.ended]:=by rw[hw4];exact jc.other (p:=⟨w.heap.size+1,0,none⟩) (by show Bx≠w.heap.size+1;omega) _
   have hs4:w4.heap.size=w3.heap.size:=by rw[hw4];simp
   have st4:yh (w.heap.size+4) 5 w' w4:=by
    rw[hw4]
    exact(((yh.refl _ _ _).below HB2.out (by omega)).grown HG.out (by omega) (fun r e=>.inr (by have:=HROW.out r e;omega))).setCell (.inl (by show w.heap.size+1<_;omega)) _
   have own4:=(OS.out).set (p:=⟨w.heap.size+1,0,none⟩) (by show w.heap.size+1<_;omega) (.slice ova (acc.length+1) ovc)
   rw[<- hw4]at own4
   have B4:Below w.heap.size w w4:=by
    rw[hw4]
    exact((H5.out.trans (HB2.out.mono H5.out.size)).grown HG.out (by omega) (fun r e=>by have:=HROW.out r e;omega)).setCell (p:=⟨w.heap.size+1,0,none⟩) (by show w.heap.size<=w.heap.size+1;omega) _
   rw[<- hw4]
   have g1:w4.cell? ⟨Bx,1,none⟩=some (.int .i64 x.at_):=qc.cell 1
   have g2:=q3.cell
   have g2':=q3.frozen
   have FIN:Hid (yh (w.heap.size+4) 5 w' (w4.setCell ⟨w.heap.size+1+1,0,none⟩ (.int .i64 x.at_))/\jbg w t (vH t (pre++[x])) (w4.setCell ⟨w.heap.size+1+1,0,none⟩ (.int .i64 x.at_))) :=
    ⟨st4.setCell (.inl (by show w.heap.size+1+1<_;omega)) _,by
     rw[SN1.out]
     exact⟨_,_,q1.other (by omega) _,q2.other (by omega) _,jjy _ q3,own4.set (p:=⟨w.heap.size+1+1,0,none⟩) (by show w.heap.size+1+1<_;omega) _,B4.setCell (p:=⟨w.heap.size+1+1,0,none⟩) (by show w.heap.size<=w.heap.size+1+1;omega) _⟩⟩
   clear own4 B4 st4 q1 q2 q3 qc j1 j2 j3 jc J OS HG HROW hw4
   gi_wp2_with fail
   exact FIN.out
  refine wpIn_mono (Q:=fun e a' w'=>e=.normal/\w'=W/\∃y9 y10 y11 y12 y13 y14 y15 y16 y17,a'={tmps:=#[.string (B t),.pointer (some ⟨w.heap.size,0,none⟩),.slice none 0 0,.pointer (some ⟨w.heap.size+1,0,none⟩),.pointer (some ⟨w.heap.size+1+1,0,none⟩),.pointer (some ⟨Bx,0,none⟩),.string (B t),.func (.func 68) #[] #[.pointer (some ⟨w.heap.size+1+1+1,0,none⟩)],.agg #[.int .i64 x.no,.int .i64 x.at_,.string ⟨x.text.toArray⟩,.bool x.ended],y9,y10,y11,y12,y13,y14,y15,y16,y17,.bool false,undef,undef,undef,undef,undef,undef,undef,undef,undef,undef,undef,undef,undef,undef,undef,undef,undef,undef],defers:=[]}) ?first ?rest
  case first =>
   clear HI SN h1 h2 h3 h4 h5
   by_cases hlt:beg<x.at_
   ·have hp:Lib.hasPrefix x.text [32,32]=true:=by
     cases h:Lib.hasPrefix x.text [32,32]with
     | true=>rfl
     | false=>exact absurd ⟨hlt,h⟩ hcd
    have q:¬(x.at_:Int)<=(beg:Int):=by omega
    gi_wp2_with fail
    refine⟨trivial,((callsIn_wide.2 (Tryz.strings_HasPrefix ⟨x.text.toArray⟩ ⟨#[32,32]⟩ W)).inRound l).mono ?_⟩
    rintro e V ⟨rfl,rfl⟩
    rw[show Lib.hasPrefix (⟨x.text.toArray⟩:ByteArray).data.toList (⟨#[32,32]⟩:ByteArray).data.toList=Lib.hasPrefix x.text [32,32] from rfl,hp]
    gi_wp2_with fail
    all_goals exact⟨rfl,rfl,_,_,_,_,_,_,_,_,_,rfl⟩
   have q:(x.at_:Int)<=(beg:Int):=by omega
   gi_wp2_with fail
   refine⟨trivial,?_⟩
   gi_wp2_with fail
   all_goals exact⟨rfl,rfl,_,_,_,_,_,_,_,_,_,rfl⟩
  case rest =>
  rintro e a' w' ⟨rfl,hw',y9,y10,y11,y12,y13,y14,y15,y16,y17,rfl⟩
  subst hw'
  change Code.wpIn _ _ _ _ _ _ _
  refine wpIn_cond_false rfl ?_
  gi_wp2
  refine⟨yh.refl _ _ _,?_⟩
  show jbg w t (vH t (pre++[x])) w'
  rw[SN.out,show YT t (acc,beg) x=(acc,beg) from if_neg hcd]
  exact HI.out
 case done =>
  rw[hz]
  rintro W ⟨u,fvs,h1,h2,h3,h4,h5⟩ hK
  rename_i Q' K hcont
  refine hcont _ _ ?_
  refine wpIn_seq ?_
  refine wpIn_wide.2 ?_
  refine wp_region_any (by kernel_rfl) ?_
  obtain⟨st,hst⟩:∃st,vH t xs=st:=⟨_,rfl⟩
  have e1:=Gm t
  have e2:=Kn t
  rw[HXS.out,hst]at e1 e2
  rw[hst]at h3 h4
  obtain⟨acc,beg⟩:=st
  dsimp only at h3 h4 e1 e2
  obtain⟨ua,uc,rfl,_⟩:=jg h4.row
  have hkl:w.heap.size+4<W.heap.size:=(Array.getElem?_eq_some_iff.1 hK).1
  have hS:∀V,Below W.drew.heap.size W.drew V->V.cell? ⟨w.heap.size+1,0,none⟩=some (.slice ua acc.length uc)/\V.cell? ⟨w.heap.size,0,none⟩=some (.string (B t))/\V.cell? ⟨w.heap.size+1+1,0,none⟩=some (.int .i64 (beg:Nat))/\True:=fun V hV=>by
   have hV':Below W.heap.size W V:=(jh8 W.heap.size W).drew.trans hV
   exact⟨(hV'.cell (p:=⟨w.heap.size+1,0,none⟩) (by show w.heap.size+1<_;omega)).trans h2.cell,(hV'.cell (p:=⟨w.heap.size,0,none⟩) (by show w.heap.size<_;omega)).trans h1.cell,(hV'.cell (p:=⟨w.heap.size+1+1,0,none⟩) (by show w.heap.size+1+1<_;omega)).trans h3.cell,trivial⟩
  obtain⟨pc,hpc⟩:∃pc,pc=t.drop beg:=⟨_,rfl⟩
  have hpl:pc.length<=60000:=by rw[hpc,jik];omega
  rw[<- hpc]at e1
  obtain⟨i0,hi,hz0,hz1,hz2⟩:=info_parts WY
  refine jar _ W.drew (w.heap.size+1) w.heap.size (w.heap.size+1+1) (w.heap.size+5) (.slice ua acc.length uc) (B t) beg (jeM (w.heap.size+5) pc) _ rfl rfl rfl rfl hS (by show w.heap.size+5<=W.heap.size;omega) (by rw[je];exact e2.1) ?pm ?pf ?pC ?pQ
  case pm =>
   rintro v x y hb ⟨u,e,h⟩
   exact⟨u,e,jJ h hb (jh6 _)⟩
  case pf =>
   rintro v w ⟨u,rfl,h⟩
   obtain⟨A,c,rfl,_⟩:=jg h
   exact⟨_,_,_,_,_,rfl⟩
  case pC =>
   intro V hV
   have hV':Below W.heap.size W V:=(jh8 W.heap.size W).drew.trans hV
   rw[jg8,show(t.drop beg).take ((B t).size-beg)=pc by rw[hpc,je,jiC (by rw[jik];omega)]]
   refine(Wl pc hpl V (HT.out.below (h5.trans (hV'.mono h5.size)) (jh6 _))).mono ?_
   rintro e w2 ⟨v,rfl,⟨u,e,h⟩,hb⟩
   exact⟨v,rfl,⟨u,e,zd h (by have:=hV'.size;omega)⟩,hb⟩
  case pQ =>
  intro y0 y1 y2 y3 y4 y5 w2 hb2 hy0 hy5
  subst hy0
  obtain⟨b9,u9,cs9,rfl,⟨ux,rfl,hux⟩,hlo9,hcs,hcb⟩:=hy5
  injection hcs with hcs
  subst hcs
  have hB2:Below W.heap.size W w2:=(jh8 W.heap.size W).drew.trans hb2
  have hO2:vM (w.heap.size+5) w2 (.slice ua acc.length uc) acc fvs:=by
   have h:=h4.below hB2 (jh6 _)
   exact⟨zd h.row (by omega),h.len,fun i ed fv q1 q2=>zd (h.each i ed fv q1 q2) (by omega)⟩
  obtain⟨xa,xc,rfl,_⟩:=jg hux
  have HV:Hid (∀(i:Nat) (u:Value),[Value.int .i64 (qO pc).kind,.int .i64 (qO pc).id,.slice xa (qO pc).fields.length xc][i]?=some u->w2.cell? ((⟨b9,0,none⟩:Addr).add i)=some u):=fun i u h=>by
   have ea:(⟨b9,0,none⟩:Addr).add i=⟨b9,i,none⟩:=by unfold Addr.add;split<;>simp_all
   rw[ea,hcb.cell i];simpa using h
  have hK2:w2.heap[w.heap.size+4]?=some (Obj.deferred (some [])):=(hB2.block _ hkl).trans hK
  have hz2':=hB2.size
  have HR:=jh5 hO2.row
  have HO2:=jh5 hO2
  have HUX:=jh5 hux
  have HB2:=jh5 (h5.trans (hB2.mono h5.size))
  have hal:acc.length<=50000:=by omega
  clear hcb hb2 hB2 hO2 hux h1 h2 h3 h4 h5 hS hpc hpl
  generalize hfl:(qO pc).fields.length=fl at *
  simp only[List.foldl,jiw,jiU,jiV]
  go_wp2_with (at_builtin;refine jP rfl _ _ 37 rfl (w.heap.size+5) 40 i0 _ 3 40 Tryz.underlying37 hi hz0 hz1 hz2 rfl (by decide) _ _ _ rfl HR.out ⟨b9,0,none⟩ 1 1 _ rfl rfl HV.out (by intro u hu;simp at hu;rcases hu with rfl | rfl | rfl<;>rfl) (by unfold maxLen;omega) (by omega) (by omega) ?_)
  intro ov' w3 own3 grow3 at3
  have hrow:∀r,(Value.slice ua acc.length uc).ownBlock=some r->w.heap.size+5<=r:=fun r e=>(HR.out.lt r e).1
  have hK3:w3.heap[w.heap.size+4]?=some (Obj.deferred (some [])):=(grow3.block _ (by omega) (fun e=>by have:=hrow _ e.symm;omega)).trans hK2
  have OS:=HO2.out.snoc (ed:=qO pc) (by rw[hfl];exact HUX.out) own3 grow3
  rw[<- e1]at OS
  have B3:Below w.heap.size w w3:=HB2.out.grown grow3 HB2.out.size (fun r e=>by have:=hrow r e;omega)
  have pb:=grownBy_putObj' w3 (w.heap.size+4) (.deferred none)
  have kb:Below w.heap.size w3 (w3.putObj (w.heap.size+4) (.deferred none)):=belowK_b (w:=w) (jh6 _) w3 _ _ _ (by omega) hK3 rfl rfl
  have FIN:Hid (vM w.heap.size (w3.putObj (w.heap.size+4) (.deferred none)) ov' (yA t) (fvs++[.slice xa fl xc])/\Below w.heap.size w (w3.putObj (w.heap.size+4) (.deferred none))) :=
   ⟨⟨zd (jQ OS.row fun b e=>pb.block b (OS.row.lt b e).2 (fun q=>by have:=(OS.row.lt b e).1;have:=jh9 q;omega)) (by omega),OS.len,fun i ed fv q1 q2=>zd (jQ (OS.each i ed fv q1 q2) fun b e=>pb.block b ((OS.each i ed fv q1 q2).lt b e).2 (fun q=>by have:=((OS.each i ed fv q1 q2).lt b e).1;have:=jh9 q;omega)) (by omega)⟩,B3.trans kb⟩
  have hK4:=jh5 hK3
  obtain⟨ova,ovc,rfl,_⟩:=jg own3
  clear own3 grow3 at3 hrow HO2 HUX HV OS B3 pb kb hK3 hK2 hK
  go_wp2_with fail
  change Code.wpIn _ _ _ _ _ _ _
  gi_wp2
  refine⟨by simp,.inl ⟨_,_,rfl,run_takeDeferred hK4.out,?_⟩⟩
  exact⟨_,results_tmp rfl _ _ _,.slice ova (acc.length+1) ovc,_,rfl,FIN.out.1,FIN.out.2⟩
 case stop =>
 intro c pre W _ h _
 exact h.elim
theorem Ws(t:List UInt8):jeQ (qw t)/\∀f∈qw t,f.1.length<=32/\f.2.length<=1000:=by
 unfold qw
 cases h:za (dd [32,32] ((jf t).map YU)).1 with
 | error e=>exact⟨⟨by simp,fun f hf=>by cases hf⟩,fun f hf=>by cases hf⟩
 | ok its =>
 obtain⟨_,hil,hif⟩:=Yl h
 have hcnt:=Ks h
 rw[<- Gk]at hcnt
 have hrl:=jck (Qj its) 40 (fun r hr=>by
  unfold Qj at hr
  obtain⟨it,h1,rfl⟩:=List.mem_map.1 hr
  exact(hif it (List.mem_filter.1 h1).1).1)
 have each:∀f∈(Qj its).flatten,f.1.length<=32/\f.2.length<=1000:=fun f hf=>by
  obtain⟨r,hr,hfr⟩:=List.mem_flatten.1 hf
  unfold Qj at hr
  obtain⟨it,h1,rfl⟩:=List.mem_map.1 hr
  obtain⟨h2,h3⟩:=List.mem_filter.1 h1
  obtain⟨_,_,h4⟩:=Wd (jdI h it h2 (by simpa using h3))
  obtain⟨h5,h6⟩:=Zw _ h4 f hfr
  exact⟨Jc h5,h6⟩
 refine⟨⟨?_,fun f hf => ?_⟩,each⟩
 ·show((Qj its).flatten).length<=_
  rw[Vh];omega
 have:=each f hf;omega
theorem jay(t:List UInt8):Wp (yA t):=by
 intro ed hed
 obtain⟨p,_,rfl⟩:=List.mem_map.1 hed
 exact(Ws _).1
theorem jdB(t:List UInt8):(yA t).length<=t.length+1:=by
 rw[Gm,jh7]
 have:=(Kn t).2
 simp only[jic,jiW];omega
def jhz(w w':World)(t:List UInt8)(e:Ending):Prop :=
 Below w.heap.size w w'/\((Jt t=none/\e=.returned (.tuple #[.slice none 0 0,.iface 43 (.int .i64 2)]))\/∃eds u fvs,Jt t=some eds/\e=.returned (.tuple #[u,.nilIface])/\vM w.heap.size w' u eds fvs)
theorem YG(t:List UInt8)(ht:t.length<=maxLen)(w:World)(hT:Tabs w):
  Calls Tryz.prog 17 #[.string (B t)] w fun e w'=>jhz w w' t e:=by
 have bs:=je t
 by_cases hl:¬t.length<=50000
 ·have NO:Hid (jhz w w t (.returned (.tuple #[.slice none 0 0,.iface 43 (.int .i64 2)]))):=⟨jh8 _ _,.inl ⟨by unfold Jt;rw[if_neg (fun h=>hl h.1)],rfl⟩⟩
  have q:¬((B t).size:Int)<=50000:=by omega
  generalize B t=s at *
  go_enter Tryz.func17,Tryz.ntmps17
  go_wp2_with fail
  go_ret2
  exact NO.out
 replace hl:=Classical.not_not.1 hl
 have RD:=jh5 (read_any t hl w hT)
 have q:((B t).size:Int)<=50000:=by omega
 have hrl:=jdB t
 have RF:=jh5 (jay t)
 have RI:=jh5 (Gl t)
 have HT:=jh5 hT
 have YES:Hid (∀W u fvs,vM w.heap.size W u (yA t) fvs->Below w.heap.size w W->(yx (yA t)).2=0->jC (yA t)=t->jhz w W t (.returned (.tuple #[u,.nilIface]))):=fun W u fvs ho hb h1 h2 =>
  ⟨hb,.inr ⟨yA t,u,fvs,by unfold Jt;rw[if_pos ⟨hl,h1,h2⟩],rfl,ho⟩⟩
 have NO:Hid (∀W,Below w.heap.size w W->¬((yx (yA t)).2=0/\jC (yA t)=t)->jhz w W t (.returned (.tuple #[.slice none 0 0,.iface 43 (.int .i64 2)]))):=fun W hb h =>
  ⟨hb,.inl ⟨by unfold Jt;rw[if_neg (fun h2=>h h2.2)],rfl⟩⟩
 clear hT ht bs
 generalize yA t=eds at *
 go_enter Tryz.func17,Tryz.ntmps17
 go_wp2_with fail
 refine RD.out.mono ?_
 rintro e w1 ⟨u,fvs,rfl,ho,b1⟩
 have EN:=jh5 (ja3 eds u w1 ho.edv (by omega) RF.out RI.out (HT.out.below b1 (jh6 _)))
 have HO:=jh5 ho
 have B1:=jh5 b1
 obtain⟨ua,uc,rfl,_⟩:=jg ho.row
 clear RD ho b1
 go_wp2_with fail
 refine EN.out.mono ?_
 rintro e w2 ⟨b2,⟨h0,rfl⟩|⟨h0,u',rfl,hz⟩⟩
 ·have B2:=jh5 (B1.out.trans (b2.mono B1.out.size))
  have Z0:=jh5 h0
  have E2:=jfe (jC eds) t
  by_cases hq:jC eds=t
  ·have E3:((B (jC eds)).toList==(B t).toList)=true:=by rw[E2];exact decide_eq_true hq
   have Y:=jh5 (YES.out w2 _ fvs (HO.out.below b2 (jh6 _)) B2.out Z0.out hq)
   clear EN YES NO b2 h0 HO E2 hq
   generalize B (jC eds)=own at *
   go_wp2_with fail
   go_ret2
   exact Y.out
  have E3:((B (jC eds)).toList==(B t).toList)=false:=by rw[E2];exact decide_eq_false hq
  have E4:¬(B (jC eds)).toList=(B t).toList:=by simpa using E3
  have Y:=jh5 (NO.out w2 B2.out (fun h=>hq h.2))
  clear EN YES NO b2 h0 HO E2 hq
  generalize B (jC eds)=own at *
  go_wp2_with fail
  go_ret2
  exact Y.out
 have B2:=jh5 (B1.out.trans (b2.mono B1.out.size))
 have Y:=jh5 (NO.out w2 B2.out (fun h=>h0 h.1))
 obtain⟨_,⟨rfl,hx⟩|⟨kk,⟨q,_,rfl,_⟩,_,_⟩⟩:=hz
 ·have hpos:0<(yx eds).2:=jjr h0
  rw[zk _ hpos]
  clear EN YES NO b2 h0 HO hx hpos
  generalize ((yx eds).2:Int)=zz at *
  go_wp2_with fail
  go_ret2
  exact Y.out
 clear EN YES NO b2 h0 HO
 go_wp2_with fail
 go_ret2
 exact Y.out
end Go.Proofs.YtmdhainabeljpaaGreatDoor
namespace Go.Proofs.YtmdhainabeljpaaGreatDoor.Bk
open Go.RowKit Go.Shelf
attribute [local go_sem] jil
structure XP(w:World):Prop where
 tabs:Tabs w
 max:Hd.MaxL w
theorem XP.below{w w':World}{N:Nat}(h:XP w)(hb:Below N w w')(hN:w.heap.size<=N):XP w':=⟨h.tabs.below hb hN,h.max.below hb hN⟩
theorem XP.nums{w:World}(h:XP w):Fr.TabsN w:=⟨h.tabs.pow,h.tabs.syn,h.tabs.ran⟩
theorem XP.tab{w:World}(h:XP w):Hd.Tab w:=⟨h.nums,h.max⟩
def Dc(b:List UInt8):Bool:=(Jt b).isSome
def vO(b:List UInt8):List Ed:=(Jt b).getD []
def jcP(n:Nat):Value:=.int .i64 (n:Int)
def Jr(n:Nat)(base:List UInt8)(bv ev:Value)(tail:List UInt8):Value:=.agg #[.int .i64 (n:Int),.string (B base),bv,ev,.string (B tail)]
theorem xZ{lo lo' n sz:Nat}{w w':World}{v u:Value}{eds:List Ed}{fvs xs:List Value}{t:TypeId}(h:vM lo w v eds fvs)(hu:w.ownsRow lo' t sz u n xs)(t1:t≠40)(t2:t≠71)(o:zH (fun r=>u.ownBlock=some r) w w'):vM lo w' v eds fvs :=
 ⟨zf h.row o (fun b e q=>zq hu h.row t1 b q e),h.len,fun i ed fv h1 h2=>zf (h.each i ed fv h1 h2) o (fun b e q=>zq hu (h.each i ed fv h1 h2) t2 b q e)⟩
theorem jdM{lo:Nat}{w w':World}{v:Value}{eds:List Ed}{fvs:List Value}{t:TypeId}{b:Nat}{cur:Array Value}(h:vM lo w v eds fvs)(hc:jd w b t cur)(t1:40≠t)(t2:71≠t)(o:zH (· = b) w w'):vM lo w' v eds fvs :=
 ⟨zf h.row o (fun r e q=>jx h.row hc t1 (by rw[e,q])),h.len,fun i ed fv h1 h2=>zf (h.each i ed fv h1 h2) o (fun r e q=>jx (h.each i ed fv h1 h2) hc t2 (by rw[e,q]))⟩
structure Qs(lo:Nat)(w:World)(bv:Value)(bds:List (List UInt8))(us:List Value):Prop where
 row:w.ownsRow lo 37 1 bv bds.length us
 each:∀(i:Nat) b u,bds[i]?=some b->us[i]?=some u->∃fvs,vM lo w u (vO b) fvs
theorem Qs.len{lo:Nat}{w:World}{bv:Value}{bds:List (List UInt8)}{us:List Value}(h:Qs lo w bv bds us):us.length=bds.length:=by have:=h.row.1;omega
theorem Qs.below{lo:Nat}{w w':World}{bv:Value}{bds:List (List UInt8)}{us:List Value}(h:Qs lo w bv bds us)(hb:Below w.heap.size w w'):Qs lo w' bv bds us :=
 ⟨jJ h.row hb (jh6 _),fun i b u h1 h2=>by
  obtain⟨fvs,ho⟩:=h.each i b u h1 h2
  exact⟨fvs,ho.below hb (jh6 _)⟩⟩
theorem Qs.nil(lo:Nat)(w:World):Qs lo w (.slice none 0 0) [] []:=⟨⟨rfl,.inl ⟨rfl,rfl⟩⟩,fun i b u h1 h2=>by simp at h1⟩
theorem Qs.box{lo:Nat}{w w':World}{bv:Value}{bds:List (List UInt8)}{us:List Value}{t:TypeId}{b:Nat}{cur:Array Value}(h:Qs lo w bv bds us)(hc:jd w b t cur)(t0:37≠t)(t1:40≠t)(t2:71≠t)(o:zH (· = b) w w'):Qs lo w' bv bds us :=
 ⟨zf h.row o (fun r e q=>jx h.row hc t0 (by rw[e,q])),fun i x u h1 h2=>by
  obtain⟨fvs,ho⟩:=h.each i x u h1 h2
  exact⟨fvs,jdM ho hc t1 t2 o⟩⟩
theorem Qs.beside{lo lo' n sz:Nat}{w w':World}{bv u:Value}{bds:List (List UInt8)}{us xs:List Value}{t:TypeId}(h:Qs lo w bv bds us)(hu:w.ownsRow lo' t sz u n xs)(t0:t≠37)(t1:t≠40)(t2:t≠71)(o:zH (fun r=>u.ownBlock=some r) w w'):Qs lo w' bv bds us :=
 ⟨zf h.row o (fun b e q=>zq hu h.row t0 b q e),fun i x v h1 h2=>by
  obtain⟨fvs,ho⟩:=h.each i x v h1 h2
  exact⟨fvs,xZ ho hu t1 t2 o⟩⟩
theorem Qs.snoc{lo:Nat}{w w':World}{bv bv' u:Value}{bds:List (List UInt8)}{us:List Value}{b:List UInt8}{fvs:List Value}(h:Qs lo w bv bds us)(hO:vM lo w u (vO b) fvs)(own:w'.ownsRow lo 37 1 bv' (bds.length+1) (us++[u]))(o:zH (fun r=>bv.ownBlock=some r) w w'):Qs lo w' bv' (bds++[b]) (us++[u]):=by
 refine⟨by rw[jh7];exact own,fun i x v h1 h2 => ?_⟩
 rw[List.getElem?_append]at h1 h2
 rw[h.len]at h2
 split at h1
 ·rename_i hi
  rw[if_pos hi]at h2
  obtain⟨f,ho⟩:=h.each i x v h1 h2
  exact⟨f,xZ ho h.row (by decide) (by decide) o⟩
 rename_i hi
 rw[if_neg hi]at h2
 rw[List.getElem?_singleton]at h1 h2
 split at h1
 ·rename_i hz
  rw[if_pos hz]at h2
  obtain rfl:=jh9 h1
  obtain rfl:=jh9 h2
  exact⟨fvs,xZ hO h.row (by decide) (by decide) o⟩
 cases h1
structure yg(lo:Nat)(w:World)(v:Value)(n:Nat)(base:List UInt8)(bds:List (List UInt8))(tail:List UInt8):Prop where
 is:∃bv ev us,v=Jr n base bv ev tail/\Qs lo w bv bds us/\w.ownsRow lo 3 1 ev bds.length ((zh (hl n+base.length) bds).map jcP)
theorem yg.below{lo:Nat}{w w':World}{v:Value}{n:Nat}{base tail:List UInt8}{bds:List (List UInt8)}(h:yg lo w v n base bds tail)(hb:Below w.heap.size w w'):yg lo w' v n base bds tail:=by
 obtain⟨bv,ev,us,h1,h2,h3⟩:=h.is
 exact⟨bv,ev,us,h1,h2.below hb,jJ h3 hb (jh6 _)⟩
theorem jcw(n:Nat):Hd.lenP n=hl n:=rfl
theorem Jw{lo:Nat}{w:World}{v:Value}{n:Nat}{base tail:List UInt8}{bds:List (List UInt8)}(h:yg lo w v n base bds tail)(hs:jN n base bds<=1000000)(ht:XP w):
  Calls Tryz.prog 11 #[v] w fun e w'=>e=.returned (.int .i64 (jN n base bds:Nat))/\Below w.heap.size w w':=by
 obtain⟨bv,ev,us,rfl,hB,hE⟩:=h.is
 obtain⟨ba,bc,rfl,_⟩:=jg hB.row
 have hEE:=hE
 obtain⟨ea,ec,rfl,hele⟩:=jg hE
 obtain⟨w1,hw1⟩:∃z,w.alloc (.cells #[.int .i64 (n:Int),.string (B base),.slice ba bds.length bc,.slice ea bds.length ec,.string (B tail)] 26)=z:=⟨_,rfl⟩
 have hb1:Below w.heap.size w w1:=by rw[<- hw1];exact(jh8 _ w).alloc (jh6 _) _
 have C1:jd w1 w.heap.size 26 #[.int .i64 (n:Int),.string (B base),.slice ba bds.length bc,.slice ea bds.length ec,.string (B tail)]:=by rw[<- hw1];exact jd.new _ _ _
 have hE1:=jJ hE hb1 (jh6 _)
 have hsz:(B base).size=base.length:=je base
 have hwh:jN n base bds=hl n+base.length+(bds.flatMap Fr.fullR).length:=rfl
 have HB1:=jh5 hb1
 have HW1:=jh5 hw1
 unfold Jr
 by_cases h0:bds.length=0
 ·have hbn:bds=[]:=List.length_eq_zero_iff.1 h0
  subst hbn
  have hq:hl n+base.length<=1000000:=by simpa [jN]using hs
  have hwq:jN n base []=hl n+base.length:=by simp[jN]
  rw[hwq]
  have HVAL:Hid (Value.int .i64 (IntKind.i64.wrap (((hl n:Nat):Int)+((B base).size:Int)))=.int .i64 ((hl n+base.length:Nat):Int)):=by
   show _=_
   rw[hsz]
   congr 1
   rw[jiz _ (by omega)]
   omega
  have LEN:Hid (∀W,Below w1.heap.size w1 W->Calls Tryz.prog 26 #[.int .i64 (n:Int)] W fun e w'=>e=.returned (.int .i64 (hl n:Nat))/\Below W.heap.size W w'):=fun W hW=>Hd.lenP_call n W ((ht.below hb1 (jh6 _)).below hW (jh6 _)).tab
  have DR:Hid (Below w1.heap.size w1 w1.drew):=(jh8 _ _).drew
  have HC:=jh5 C1
  have k0:=C1.cell 0
  have k1:=C1.cell 1
  have k3:=C1.cell 3
  simp only[jie,jid,jib]at k0 k1 k3
  have e0:([]:List (List UInt8)).length=0:=rfl
  simp only[e0]at *
  rw[<- hw1]at k3
  clear h hB hE hEE hE1 ht hb1 C1 hw1 hwh hwq h0
  go_enter Tryz.func11,Tryz.ntmps11
  go_wp2_with fail
  rw[HW1.out]
  go_region_law (go_simp;go_at_call 26;refine(LEN.out _ DR.out).mono ?_;rintro e w5 ⟨rfl,hb5⟩;have kk:=jb HC.out (DR.out.trans hb5) HC.out.lt;have t1:=kk.cell 1;simp only[jie,jid,jib]at t1;have HB5:=jh5 (DR.out.trans hb5);clear hb5 kk)
  all_goals go_wp2_with fail
  all_goals
   go_ret
   exact⟨congrArg Ending.returned HVAL.out,HB1.out.trans (HB5.out.mono HB1.out.size)⟩
 have hne:bds≠[]:=fun e=>h0 (by rw[e];rfl)
 obtain⟨g,cap,hug⟩:=jjd hE1 (by omega)
 have hlast:=XA (hl n+base.length) bds hne
 have hcell:∃g,ea=some ⟨g,0,none⟩/\w1.cell? ⟨g,bds.length-1,none⟩=some (.int .i64 (jN n base bds:Nat)):=by
  have hrow:=hE1
  rw[hug]at hrow
  cases hug
  refine⟨g,rfl,?_⟩
  rw[jin hrow (bds.length-1) (by omega),ji3,hlast]
  rfl
 obtain⟨g',rfl,hc⟩:=hcell
 have hpos:(0:Int)<(bds.length:Int):=by omega
 have hbl:bds.length<=1000000:=by have:=Vs bds;omega
 have hcast:((bds.length:Int)-1)=((bds.length-1:Nat):Int):=by omega
 have hwr:IntKind.i64.wrap ((bds.length:Int)-1)=((bds.length-1:Nat):Int):=by rw[hcast];exact jiz _ (by omega)
 have hin:((bds.length-1:Nat):Int)<(bds.length:Int):=by omega
 have k3:=C1.cell 3
 simp only[jie,jid,jib]at k3
 rw[<- hw1]at k3 hc
 generalize jN n base bds=W at *
 generalize bds.length-1=j at *
 generalize bds.length=m at *
 clear h hB hE hEE hE1 ht hb1 C1 hw1 hwh hlast hcast
 go_enter Tryz.func11,Tryz.ntmps11
 go_wp2_with fail
 go_ret
 exact⟨rfl,by rw[HW1.out];exact HB1.out⟩
theorem size_any{lo:Nat}{w:World}{v:Value}{n:Nat}{base tail:List UInt8}{bds:List (List UInt8)}(h:yg lo w v n base bds tail)(hs:jN n base bds+tail.length<=1000000)(ht:XP w):
  Calls Tryz.prog 10 #[v] w fun e w'=>e=.returned (.int .i64 (jN n base bds+tail.length:Nat))/\Below w.heap.size w w':=by
 obtain⟨bv,ev,us,hv,hB,hE⟩:=h.is
 obtain⟨ba,bc,rfl,_⟩:=jg hB.row
 obtain⟨ea,ec,rfl,hele⟩:=jg hE
 unfold Jr at hv
 obtain⟨w1,hw1⟩:∃z,w.alloc (.cells #[.int .i64 (n:Int),.string (B base),.slice ba bds.length bc,.slice ea bds.length ec,.string (B tail)] 26)=z:=⟨_,rfl⟩
 have hb1:Below w.heap.size w w1:=by rw[<- hw1];exact(jh8 _ w).alloc (jh6 _) _
 have C1:jd w1 w.heap.size 26 #[.int .i64 (n:Int),.string (B base),.slice ba bds.length bc,.slice ea bds.length ec,.string (B tail)]:=by rw[<- hw1];exact jd.new _ _ _
 have hsz:(B tail).size=tail.length:=je tail
 have WH:Hid (∀W,Below w1.heap.size w1 W->Calls Tryz.prog 11 #[.agg #[.int .i64 (n:Int),.string (B base),.slice ba bds.length bc,.slice ea bds.length ec,.string (B tail)]] W fun e w'=>e=.returned (.int .i64 (jN n base bds:Nat))/\Below W.heap.size W w'):=fun W hW=>by
  have h9:=Jw ((h.below hb1).below hW) (by omega) ((ht.below hb1 (jh6 _)).below hW (jh6 _))
  rw[hv]at h9
  exact h9
 have HVAL:Hid (Value.int .i64 (IntKind.i64.wrap (((jN n base bds:Nat):Int)+((B tail).size:Int)))=.int .i64 ((jN n base bds+tail.length:Nat):Int)):=by
  show _=_
  rw[hsz]
  congr 1
  rw[jiz _ (by omega)]
  omega
 subst hv
 have DR:Hid (Below w1.heap.size w1 w1.drew):=(jh8 _ _).drew
 have HC:=jh5 C1
 have k0:=C1.cell 0
 have k1:=C1.cell 1
 have k2:=C1.cell 2
 have k3:=C1.cell 3
 have k4:=C1.cell 4
 simp only[jie,jid,jib]at k0 k1 k2 k3 k4
 have HB1:=jh5 hb1
 have HW1:=jh5 hw1
 clear h hB hE ht hb1 C1 hw1
 generalize jN n base bds=W at *
 go_enter Tryz.func10,Tryz.ntmps10
 go_wp2_with fail
 rw[HW1.out]
 go_region_law (go_simp;go_at_call 11;refine(WH.out _ DR.out).mono ?_;rintro e w5 ⟨rfl,hb5⟩;have kk:=jb HC.out (DR.out.trans hb5) HC.out.lt;have t4:=kk.cell 4;simp only[jie,jid,jib]at t4;have HB5:=jh5 (DR.out.trans hb5);clear hb5 kk)
 all_goals go_wp2_with fail
 all_goals
  go_ret
  exact⟨congrArg Ending.returned HVAL.out,HB1.out.trans (HB5.out.mono HB1.out.size)⟩
end Go.Proofs.YtmdhainabeljpaaGreatDoor.Bk
