/- Texts put together:BH,HD,HB,NY,ET,HE,SYN,SM. -/
import Derived.Test.YtmdhainabeljpaaGreatDoorBxr24
import Derived.Test.YtmdhainabeljpaaGreatDoorBxr27
set_option linter.unusedVariables false
set_option maxRecDepth 100000
set_option maxHeartbeats 16000000
namespace Go.Proofs.YtmdhainabeljpaaGreatDoor
open Go.RowKit Go.Shelf
attribute [local go_sem] jil
def jhc(x:List UInt8):Value:=.string (B x)
theorem XW{w:World}{base:Nat}{v:Value}{ss:List (List UInt8)}(h:w.ownsRow base 9 1 v ss.length (ss.map jhc)):Strs w v (ss.map B):=by
 by_cases h0:ss=[]
 ·subst h0
  obtain⟨A,c,rfl,hle⟩:=jg h
  exact⟨A,c,rfl,hle,fun i z hi=>by simp at hi⟩
 have hn:ss.length≠0:=fun e=>h0 (List.length_eq_zero_iff.1 e)
 have hrow:=h
 obtain⟨g,cap,hug⟩:=jjd hrow (by omega)
 have hle:ss.length<=cap:=by
  obtain⟨A,c,e,hle⟩:=jg h
  rw[hug]at e;cases e;exact hle
 rw[hug]at hrow
 refine⟨_,cap,by rw[hug,jiA],by rw[jiA];exact hle,fun i z hi => ?_⟩
 have hil:=(List.getElem?_eq_some_iff.1 hi).1
 rw[jiA]at hil
 refine⟨g,0,rfl,(hrow.lt g rfl).2,?_⟩
 rw[jiH,jin hrow i (by omega)]
 rw[ji3]at hi ⊢
 cases hx:ss[i]? with
 | none=>rw[hx]at hi;cases hi
 | some x=>rw[hx]at hi;cases hi;rfl
def jh0(w w':World)(l:List UInt8)(e:Ending):Prop :=
 Below w.heap.size w w'/\((Jt l=none/\e=.returned (.tuple #[.slice none 0 0,.bool false]))\/∃eds u fvs,Jt l=some eds/\e=.returned (.tuple #[u,.bool true])/\vM w.heap.size w' u eds fvs)
theorem vM.low{lo lo':Nat}{w:World}{v:Value}{eds:List Ed}{fvs:List Value}(h:vM lo w v eds fvs)(hl:lo'<=lo):vM lo' w v eds fvs :=
 ⟨zd h.row hl,h.len,fun i ed fv h1 h2=>zd (h.each i ed fv h1 h2) hl⟩
structure jho(w wr:World)(l:List UInt8)(k:Nat)(ov sv:Value)(st:StD)(fvs:List Value):Prop where
 run:k<=(zG l).length->xg ((zG l).take k) ([],[])=some st
 fin:k=(zG l).length+1->st.2=[]/\jbi (zG l)=some st.1
 own:vM w.heap.size wr ov st.1 fvs
 str:wr.ownsRow w.heap.size 9 1 sv st.2.length (st.2.map jhc)
 bel:Below w.heap.size w wr
theorem Jy:∀(ls:List (List UInt8)),(∀x∈ls,x.length<=wL ls)/\(ls.map List.length).sum+ls.length<=wL ls
 | []=>⟨(fun x hx=>by cases hx),jh6 _⟩
 | a::r=>by
  obtain⟨h1,h2⟩:=Jy r
  have e:wL (a::r)=a.length+3+wL r:=by unfold wL;rw[jiP,ji5]
  refine⟨fun x hx => ?_,by rw[e,jiP,ji5,jic];omega⟩
  rcases List.mem_cons.1 hx with q|q
  ·rw[e,q];omega
  have:=h1 x q;omega
theorem jdK{lo lo' n:Nat}{w w3:World}{ov sv:Value}{E:List Ed}{fvs xs:List Value}(hO:vM lo w ov E fvs)(hs:w.ownsRow lo' 9 1 sv n xs)(g:w.grownBy w3 sv.ownBlock):vM lo w3 ov E fvs :=
 ⟨jQ hO.row (fun r e=>g.block r (hO.row.lt r e).2 (fun q=>zq hs hO.row (by decide) r q.symm e)),hO.len,
  fun i ed fv h1 h2=>jQ (hO.each i ed fv h1 h2) (fun r e=>g.block r ((hO.each i ed fv h1 h2).lt r e).2 (fun q=>zq hs (hO.each i ed fv h1 h2) (by decide) r q.symm e))⟩
theorem jdL{lo:Nat}{w w3:World}{ov ov':Value}{E:List Ed}{fvs:List Value}{x:Ed}(hO:vM lo w ov E fvs)(hx:x.fields=[])
  (own3:w3.ownsRow lo 40 3 ov' (E.length+1) (yv E fvs++[.int .i64 x.kind,.int .i64 x.id,.slice none 0 0])) (g:w.grownBy w3 ov.ownBlock):vM lo w3 ov' (E++[x]) (fvs++[.slice none 0 0]):=by
 have hl0:=hO.len
 have hty:∀(fx:Value) (n:Nat) (xs:List Value),w.ownsRow lo 71 2 fx n xs->w3.ownsRow lo 71 2 fx n xs:=fun fx n xs hx =>
  jQ hx (fun r e=>g.block r (hx.lt r e).2 (fun q=>zq hO.row hx (by decide) r q.symm e))
 refine⟨?_,by rw[jh7,jh7,hl0];rfl,fun i y fx h1 h2 => ?_⟩
 ·rw[Zz _ _ _ _ hl0,jh7];exact own3
 rcases jir i E.length with q|q
 ·rw[jiT q]at h1
  rw[jiT (by omega)]at h2
  exact hty _ _ _ (hO.each i y fx h1 h2)
 rw[jiD q]at h1
 rw[jiD (by omega),hl0]at h2
 rcases hq:i-E.length with _|j
 ·rw[hq]at h1 h2
  simp at h1 h2
  subst h1 h2
  rw[hx]
  exact⟨rfl,.inl ⟨rfl,rfl⟩⟩
 rw[hq]at h1;simp at h1
def YR(s:List UInt8):Nat->Ed
 | 0=>⟨0,0,[]⟩
 | j+1=>Wu s ((j:Int)+1) (YR s j)
theorem xW(s:List UInt8):∀j,(YR s j).fields=[]
 | 0=>rfl
 | j+1=>by
  show(Wu s _ _).fields=[]
  unfold Wu
  split
  ·split
   ·rfl
   exact xW s j
  exact xW s j
theorem jcy(s:List UInt8):headD s=YR s 3:=rfl
theorem jch{k:Int}(hk:k=1\/k=2\/k=3):jV k 0=VL k++[48]:=by
 unfold jV VL
 rw[if_pos hk,jhF];simp
theorem jdG{k:Int}(hk:k=1\/k=2\/k=3):(VL k).length<=9:=by rcases hk with rfl | rfl | rfl<;>decide
theorem JE(l:List UInt8)(hl:l.length<=6000)(w:World):
  Calls Tryz.prog 23 #[.string (B l)] w fun e w'=>jh0 w w' l e:=by
 have bs:=je l
 have SP:=jh5 (vR (B l) (by omega) w)
 rw[show(B l).data.toList=l from ji l]at SP
 have hn:(jf l).length=(zG l).length:=by unfold zG;rw[jiA]
 have q0:decide (50000<((B l).size:Int))=false:=by simp;omega
 generalize hX:B l=X at *
 go_enter Tryz.func23,Tryz.ntmps23
 go_wp2_with fail
 refine SP.out.mono ?_
 rintro e w1 ⟨v1,rfl,row1,b1⟩
 rw[hn]at row1
 obtain⟨la,lc,rfl,_⟩:=jg row1
 have hnl:(zG l).length<=6000:=by rw[<- hn];have:=zD l;omega
 have ROW:=jh5 row1
 have B1:=jh5 b1
 have hsz1:=b1.size
 clear SP row1 b1
 generalize hN:(zG l).length=n at *
 go_wp2_with fail
 go_loopw [4,5,7] (fun ov sv i wr=>∃(k:Nat) (st:StD) (fvs:List Value),i=.int .i64 k/\k<=n+1/\jho w1 wr l k ov sv st fvs) (fun _ _ i _=>n+2-(intOf i).toNat)
 case atStart=>exact⟨0,([],[]),[],rfl,jii _,⟨fun _=>rfl,fun h=>by omega,⟨⟨rfl,.inl ⟨rfl,rfl⟩⟩,rfl,fun i ed fv h1 _=>by simp at h1⟩,⟨rfl,.inl ⟨rfl,rfl⟩⟩,jh8 _ _⟩⟩
 case round =>
 obtain⟨k,st,fvs,rfl,hk,HC⟩:=hrel
 have hb1:=HC.bel
 obtain⟨eds,ls⟩:=st
 obtain⟨oa,oc,rfl,_⟩:=jg HC.own.row
 obtain⟨sa,sc,rfl,_⟩:=jg HC.str
 dsimp only at *
 by_cases hlt:k<=n
 ·have hrun:=HC.run (by rw[hN];exact hlt)
  have hok:=jgr hrun
  have hne0:ls≠[]->eds≠[]:=jeZ _ (fun q=>absurd rfl q) hrun
  have hown:vM w1.heap.size wr (.slice oa eds.length oc) eds fvs:=HC.own
  have hstr:wr.ownsRow w1.heap.size 9 1 (.slice sa ls.length sc) ls.length (ls.map jhc):=HC.str
  by_cases hkn:k=n
  ·subst hkn
   have hend0:jbi (zG l)=(zx (eds,ls)).map Prod.fst:=by
    unfold jbi
    rw[<- hN,jiF]at hrun
    rw[hrun];rfl
   by_cases hls:ls=[]
   ·subst hls
    have HC2:Hid (jho w1 wr l (k+1) (.slice oa eds.length oc) (.slice sa 0 sc) (eds,[]) fvs):=⟨fun q=>by rw[hN]at q;omega,fun _=>⟨rfl,by rw[hend0];unfold zx;rw[if_pos rfl];rfl⟩,HC.own,HC.str,HC.bel⟩
    simp only[jiW]
    clear HC hrun hok hne0 hend0
    go_wp2_with fail
    go_roundw
    case rel=>exact⟨k+1,(eds,[]),fvs,by go_num,jh6 _,HC2.out⟩
    case measure=>first | (simp[intOf];done) | (simp[intOf];omega)
   have hbo:=Jy ls
   have hwt:=hok.wt
   simp only at hwt
   have UF:=jh5 (JA ls _ wr (XW hstr) (fun x hx=>by have:=hbo.1 x hx;omega) (by omega) (by have:=xG ls;omega))
   obtain⟨p0,e0,hpe⟩:∃p0 e0,eds=p0++[e0]:=by
    rcases jjH eds with z|⟨p0,e0,z⟩
    ·exact absurd z (hne0 hls)
    exact⟨p0,e0,by rw[z,jjI]⟩
   have hel:eds.length=p0.length+1:=by rw[hpe];simp
   have hpos:0<ls.length:=List.length_pos_iff.2 hls
   have qf:decide (0<(ls.length:Int))=true:=by simp;omega
   have qf2:decide (0<ls.length)=true:=by simpa using hpos
   obtain⟨og,oc',hog⟩:=jjd hown.row (by omega)
   obtain⟨rfl,rfl⟩:oa=some ⟨og,0,none⟩/\oc=oc':=by injection hog with q1 _ q2;exact⟨q1,q2⟩
   obtain⟨fv,hfv⟩:∃fv,fvs[p0.length]?=some fv:=⟨_,jia (by rw[hown.len,hel];omega)⟩
   have hed:eds[p0.length]?=some e0:=by rw[hpe];simp
   have hfr:=hown.each p0.length e0 fv hed hfv
   have hcnt:=hok.cnt e0 (jim hed)
   simp only at hcnt
   have c2:wr.cell? ⟨og,p0.length*3+2,none⟩=some fv:=by rw[jin hown.row (p0.length*3+2) (by omega)];exact(JT eds fvs p0.length e0 fv hed hfv).2.2
   have z2:wr.frozen? ⟨og,p0.length*3+2,none⟩=false:=by
    rcases hown.row.2 with ⟨q,_⟩|⟨g',cap',cur,q,_,hc,_⟩
    ·cases q
    cases q;simp[World.frozen?,hc]
   have hogl:=hown.row.lt og rfl
   have hp40:p0.length<=40:=by have h4:=hok.len;simp only at h4;omega
   have HFR:=jh5 hfr
   have HO:=jh5 hown
   have HB:=jh5 HC.bel
   have HB1:=jh5 hb1
   have hfl40:e0.fields.length<=100000:=by omega
   have hbel:=HC.bel
   have q3:(k:Int)=(k:Int):=rfl
   clear HC hown hstr hrun hok hne0 hfr hcnt hbo hwt
   go_wp2_with fail
   refine UF.out.mono ?_
   rintro e w2 ⟨rfl,b2⟩
   have B2:=jh5 (hbel.trans (b2.mono hbel.size))
   have HB12:=jh5 (HB1.out.trans (b2.mono HB1.out.size))
   clear UF
   by_cases hbad:jo ls=0
   ·have hFA:Hid (zx (eds,ls)=some (jeL eds (jF ls,jE ls),[])):=by show zx _=_;unfold zx;rw[if_neg hls,if_pos hbad]
    rw[hbad]
    have hOX:vM w1.heap.size w2 (.slice (some ⟨og,0,none⟩) (p0.length+1) oc) (p0++[e0]) fvs:=by rw[<- hpe,<- hel];exact HO.out.below b2 (jh6 _)
    have HOX:=jh5 hOX
    have hfr2:=HFR.out
    unfold zi
    generalize hK:jF ls=K at *
    generalize hV:jE ls=V at *
    obtain⟨wf,hwf⟩:∃wf,wf=w2.alloc (.cells #[.string (B K),.string (B V)] 71):=⟨_,rfl⟩
    have bwf:Below w2.heap.size w2 wf:=by rw[hwf];exact(jh8 _ w2).alloc (jh6 _) _
    have hFC:jd wf w2.heap.size 71 #[.string (B K),.string (B V)]:=by rw[hwf];exact jd.new _ _ _
    have hr6:wf.ownsRow 0 71 2 fv e0.fields.length (jt e0.fields):=zd (jJ (jJ hfr2 b2 (jh6 _)) bwf (jh6 _)) (jii _)
    have hVC:wf.cell? ⟨og,p0.length*3+2,none⟩=some fv:=(bwf.cell (p:=⟨og,p0.length*3+2,none⟩) (jih hogl.2 b2.size)).trans ((b2.cell (p:=⟨og,p0.length*3+2,none⟩) hogl.2).trans c2)
    have hVZ:wf.frozen? ⟨og,p0.length*3+2,none⟩=false:=(bwf.frozen (p:=⟨og,p0.length*3+2,none⟩) (jih hogl.2 b2.size)).trans ((b2.frozen (p:=⟨og,p0.length*3+2,none⟩) hogl.2).trans z2)
    have hnb:og<wf.heap.size:=jih (jih hogl.2 b2.size) bwf.size
    have hone:∀u∈jt e0.fields,u.oneCell'=true:=by
     intro u hu
     unfold jt at hu
     simp at hu
     obtain⟨a,b,_,h|h⟩:=hu<;>subst h<;>rfl
    have HOF:=jh5 (hOX.below bwf (jh6 _))
    have BF:=jh5 (B2.out.trans (bwf.mono B2.out.size))
    have BF1:=jh5 (HB12.out.trans (bwf.mono HB12.out.size))
    have HPE:=jh5 hpe
    clear hOX HOX hfr2 c2 z2 hpe hed hfv HO HB HB1 HFR hbel b2 bwf B2 HB12
    go_upto_region 14 with fail
    rw[<- hwf]
    refine FD.region29x _ wf og p0.length (p0.length+1) oc w2.heap.size e0.fields.length fv (jt e0.fields) (B K) (B V) _ rfl rfl rfl (Nat.lt_succ_self _) (jj4 rfl) hnb hVC hVZ hFC hr6 hone hfl40 ?_
    intro x0 x1 x2 x3 x4 x5 x6 x7 x8 x9 x10 x11 x12 x13 w3 g c hb3 hr3
    have hown9:=Ku (f:=(K,V)) HOF.out hb3 BF.out.size hr3
    have HB9:=jh5 ((BF.out.trans (hb3.mono BF.out.size)).setCell (p:=⟨og,p0.length*3+2,none⟩) hogl.1 (FD.sl g (e0.fields.length+1) c))
    have HCN:Hid (jho w1 (w3.setCell ⟨og,p0.length*3+2,none⟩ (FD.sl g (e0.fields.length+1) c)) l (k+1) (.slice (some ⟨og,0,none⟩) (p0.length+1) oc) (.slice none 0 0) (p0++[⟨e0.kind,e0.id,e0.fields++[(K,V)]⟩],[]) (fvs.set p0.length (FD.sl g (e0.fields.length+1) c))) :=
     ⟨fun q=>by rw[hN]at q;omega,fun _=>⟨rfl,by rw[hend0,hFA.out,HPE.out,Zb];rfl⟩,hown9,⟨rfl,.inl ⟨rfl,rfl⟩⟩,HB9.out⟩
    clear hb3 hr3 hown9 HB9 HOF BF hr6 hVC hVZ hnb hone hFC hwf
    simp only[jiw,jiU,jiV]
    go_wp2_with fail
    go_roundw
    case rel=>exact⟨k+1,_,_,by go_num,jh6 _,HCN.out⟩
    case measure=>first | (simp[intOf];done) | (simp[intOf];omega)
   have NO:Hid (Jt l=none):=Vm (by rw[hend0];unfold zx;rw[if_neg hls,if_neg hbad];rfl)
   have qb:((((jo ls:Nat):Int))==0)=false:=by simpa using hbad
   unfold zi
   generalize jo ls=bad at *
   clear HO HB HB1 HFR hbel b2 HB12
   go_wp2_with fail
   go_ret2
   have B2w:=B1.out.trans (B2.out.mono B1.out.size)
   exact⟨B2w.alloc B2w.size _,.inl ⟨NO.out,rfl⟩⟩
  have hkn2:k<n:=by omega
  obtain⟨x,hx⟩:∃x,(zG l)[k]?=some x:=⟨_,jia (by omega)⟩
  obtain⟨lg,lcap,hlg⟩:=jjd ROW.out (by omega)
  obtain⟨rfl,rfl⟩:la=some ⟨lg,0,none⟩/\lc=lcap:=by injection hlg with q1 _ q2;exact⟨q1,q2⟩
  have HLC:Hid (∀W,Below w1.heap.size w1 W->W.cell? ⟨lg,k*4+2,none⟩=some (.string (B x))):=fun W hW =>
   (hW.cell (p:=⟨lg,k*4+2,none⟩) (ROW.out.lt lg rfl).2).trans (by rw[jin ROW.out (k*4+2) (by omega)];exact jcg hx)
  have hxl:x.length<=6001:=by
   have h1:∀xs:List (List UInt8),∀y∈xs,y.length<=VD xs:=fun xs=>by
    induction xs with
    | nil=>intro y hy;cases hy
    | cons a r ih =>
    intro y hy
    have e:VD (a::r)=a.length+1+VD r:=by unfold VD;rw[jiP,ji5]
    rcases List.mem_cons.1 hy with q|q
    ·rw[e,q];omega
    have:=ih y q;omega
   have h2:=h1 _ x (jim hx)
   have:=Yv l
   omega
  have BG2:Hid (∀W,Calls Tryz.prog 60 #[.string (B x),.string ⟨#[32,32]⟩] W fun e w'=>e=.returned (.bool (Lib.hasPrefix x [32,32]))/\w'=W):=fun W=>xA x [32,32] (by omega) (by decide) W
  have BG3:Hid (∀W,Calls Tryz.prog 60 #[.string (B x),.string ⟨#[32,32,32]⟩] W fun e w'=>e=.returned (.bool (Lib.hasPrefix x [32,32,32]))/\w'=W):=fun W=>xA x [32,32,32] (by omega) (by decide) W
  have qkn:((k:Int)==(n:Int))=false:=by simp;omega
  obtain⟨fl,hfl⟩:∃fl:Bool,fl=(decide (ls≠[]) && !Lib.hasPrefix x [32,32,32]):=⟨_,rfl⟩
  have c0:=HLC.out wr hb1
  have HOW:=jh5 hown
  have HSW:=jh5 hstr
  have HBW:=jh5 hb1
  have HRN:=jh5 hrun
  have HOK:=jh5 hok
  have HNE:=jh5 hne0
  have HFL:=jh5 hfl
  clear HC hown hstr hrun hok hne0 hfl
  go_upto_region 9 with fail
  go_cut [47] (fun b wx=>b=.bool fl/\wx=wr)
  case first =>
   by_cases hls:ls=[]
   ·have hl0:ls.length=0:=by rw[hls];rfl
    have hfl0:fl=false:=by rw[HFL.out,hls];rfl
    have hq0:¬0<ls.length:=by omega
    clear hls
    go_wp2_with fail
    go_meet
    exact⟨by rw[hfl0],rfl⟩
   have hq0:0<ls.length:=List.length_pos_iff.2 hls
   have hfl0:fl = !Lib.hasPrefix x [32,32,32]:=by rw[HFL.out];simp[hls]
   go_wp2_with fail
   refine(BG3.out _).mono ?_
   rintro e wb ⟨rfl,rfl⟩
   go_wp2_with fail
   go_meet
   exact⟨by rw[hfl0],rfl⟩
  case rest =>
  obtain⟨rfl,rfl⟩:=hcut
  go_upto_if 47 with fail
  go_cut [4,5,8,9,10] (fun ov sv _ _ _ wx=>∃(E:List Ed) (S:List (List UInt8)) (fvs':List Value) (oa':Option Addr) (oc':Nat) (sa':Option Addr) (sc':Nat),ov=.slice oa' E.length oc'/\sv=.slice sa' S.length sc'/\vM w1.heap.size wx (.slice oa' E.length oc') E fvs'/\wx.ownsRow w1.heap.size 9 1 (.slice sa' S.length sc') S.length (S.map jhc)/\Below w1.heap.size w1 wx/\qN (eds,ls) x=yF (E,S) x/\E.length<=40)
  case first =>
   cases fl with
   | false =>
    have HST:Hid (qN (eds,ls) x=yF (eds,ls) x):=by
     show qN _ _=_
     have h:=HFL.out
     unfold qN
     by_cases hls:ls=[]
     ·subst hls
      split
      ·rfl
      unfold zx;rw[if_pos rfl];rfl
     have:Lib.hasPrefix x [32,32,32]=true:=by simpa [hls]using h
     rw[this,if_pos rfl];rfl
    go_wp2_with fail
    go_meet
    exact⟨eds,ls,fvs,oa,oc,sa,sc,rfl,rfl,HOW.out,HSW.out,HBW.out,HST.out,HOK.out.len⟩
   | true =>
   have hfl:=HFL.out
   have hls:ls≠[]:=fun e=>by rw[e]at hfl;simp at hfl
   have hpx:Lib.hasPrefix x [32,32,32]=false:=by simpa [hls]using hfl
   have hown:=HOW.out
   have hstr:=HSW.out
   have hok:=HOK.out
   have hne0:=HNE.out
   clear hfl
   have hbo:=Jy ls
   have hwt:=hok.wt
   simp only at hwt
   have UF:=jh5 (JA ls _ wc (XW hstr) (fun x hx=>by have:=hbo.1 x hx;omega) (by omega) (by have:=xG ls;omega))
   obtain⟨p0,e0,hpe⟩:∃p0 e0,eds=p0++[e0]:=by
    rcases jjH eds with z|⟨p0,e0,z⟩
    ·exact absurd z (hne0 hls)
    exact⟨p0,e0,by rw[z,jjI]⟩
   have hel:eds.length=p0.length+1:=by rw[hpe];simp
   have hpos:0<ls.length:=List.length_pos_iff.2 hls
   have qf:decide (0<(ls.length:Int))=true:=by simp;omega
   have qf2:decide (0<ls.length)=true:=by simpa using hpos
   obtain⟨og,oc',hog⟩:=jjd hown.row (by omega)
   obtain⟨rfl,rfl⟩:oa=some ⟨og,0,none⟩/\oc=oc':=by injection hog with q1 _ q2;exact⟨q1,q2⟩
   obtain⟨fv,hfv⟩:∃fv,fvs[p0.length]?=some fv:=⟨_,jia (by rw[hown.len,hel];omega)⟩
   have hed:eds[p0.length]?=some e0:=by rw[hpe];simp
   have hfr:=hown.each p0.length e0 fv hed hfv
   have hcnt:=hok.cnt e0 (jim hed)
   simp only at hcnt
   have c2:wc.cell? ⟨og,p0.length*3+2,none⟩=some fv:=by rw[jin hown.row (p0.length*3+2) (by omega)];exact(JT eds fvs p0.length e0 fv hed hfv).2.2
   have z2:wc.frozen? ⟨og,p0.length*3+2,none⟩=false:=by
    rcases hown.row.2 with ⟨q,_⟩|⟨g',cap',cur,q,_,hc,_⟩
    ·cases q
    cases q;simp[World.frozen?,hc]
   have hogl:=hown.row.lt og rfl
   have hp40:p0.length<=40:=by have h4:=hok.len;simp only at h4;omega
   have HP41:=jh5 (show p0.length+1<=40 by have h4:=hok.len;simp only at h4;omega)
   have HFR:=jh5 hfr
   have HO:=jh5 hown
   have HB:=HBW
   have HB1:=jh5 hb1
   have hfl40:e0.fields.length<=100000:=by omega
   have hbel:=HBW.out
   have q3:(k:Int)=(k:Int):=rfl
   clear hown hstr hok hne0 hfr hcnt hbo hwt
   go_wp2_with fail
   refine UF.out.mono ?_
   rintro e w2 ⟨rfl,b2⟩
   have B2:=jh5 (hbel.trans (b2.mono hbel.size))
   have HB12:=jh5 (HB1.out.trans (b2.mono HB1.out.size))
   clear UF
   by_cases hbad:jo ls=0
   ·have hFA:Hid (zx (eds,ls)=some (jeL eds (jF ls,jE ls),[])):=by show zx _=_;unfold zx;rw[if_neg hls,if_pos hbad]
    rw[hbad]
    have hOX:vM w1.heap.size w2 (.slice (some ⟨og,0,none⟩) (p0.length+1) oc) (p0++[e0]) fvs:=by rw[<- hpe,<- hel];exact HO.out.below b2 (jh6 _)
    have HOX:=jh5 hOX
    have hfr2:=HFR.out
    unfold zi
    generalize hK:jF ls=K at *
    generalize hV:jE ls=V at *
    obtain⟨wf,hwf⟩:∃wf,wf=w2.alloc (.cells #[.string (B K),.string (B V)] 71):=⟨_,rfl⟩
    have bwf:Below w2.heap.size w2 wf:=by rw[hwf];exact(jh8 _ w2).alloc (jh6 _) _
    have hFC:jd wf w2.heap.size 71 #[.string (B K),.string (B V)]:=by rw[hwf];exact jd.new _ _ _
    have hr6:wf.ownsRow 0 71 2 fv e0.fields.length (jt e0.fields):=zd (jJ (jJ hfr2 b2 (jh6 _)) bwf (jh6 _)) (jii _)
    have hVC:wf.cell? ⟨og,p0.length*3+2,none⟩=some fv:=(bwf.cell (p:=⟨og,p0.length*3+2,none⟩) (jih hogl.2 b2.size)).trans ((b2.cell (p:=⟨og,p0.length*3+2,none⟩) hogl.2).trans c2)
    have hVZ:wf.frozen? ⟨og,p0.length*3+2,none⟩=false:=(bwf.frozen (p:=⟨og,p0.length*3+2,none⟩) (jih hogl.2 b2.size)).trans ((b2.frozen (p:=⟨og,p0.length*3+2,none⟩) hogl.2).trans z2)
    have hnb:og<wf.heap.size:=jih (jih hogl.2 b2.size) bwf.size
    have hone:∀u∈jt e0.fields,u.oneCell'=true:=by
     intro u hu
     unfold jt at hu
     simp at hu
     obtain⟨a,b,_,h|h⟩:=hu<;>subst h<;>rfl
    have HOF:=jh5 (hOX.below bwf (jh6 _))
    have BF:=jh5 (B2.out.trans (bwf.mono B2.out.size))
    have BF1:=jh5 (HB12.out.trans (bwf.mono HB12.out.size))
    have HPE:=jh5 hpe
    clear hOX HOX hfr2 c2 z2 hpe hed hfv HO HB HB1 HFR hbel b2 bwf B2 HB12
    go_upto_region 14 with fail
    rw[<- hwf]
    refine FD.region29x _ wf og p0.length (p0.length+1) oc w2.heap.size e0.fields.length fv (jt e0.fields) (B K) (B V) _ rfl rfl rfl (Nat.lt_succ_self _) (jj4 rfl) hnb hVC hVZ hFC hr6 hone hfl40 ?_
    intro x0 x1 x2 x3 x4 x5 x6 x7 x8 x9 x10 x11 x12 x13 w3 g c hb3 hr3
    have hown9:=Ku (f:=(K,V)) HOF.out hb3 BF.out.size hr3
    have HB9:=jh5 ((BF.out.trans (hb3.mono BF.out.size)).setCell (p:=⟨og,p0.length*3+2,none⟩) hogl.1 (FD.sl g (e0.fields.length+1) c))
    have HST:Hid (qN (eds,ls) x=yF (p0++[⟨e0.kind,e0.id,e0.fields++[(K,V)]⟩],[]) x):=by
     show qN _ _=_
     unfold qN
     rw[hpx,if_neg (by simp),hFA.out,HPE.out,Zb];rfl
    have HO9:Hid (vM w1.heap.size (w3.setCell ⟨og,p0.length*3+2,none⟩ (FD.sl g (e0.fields.length+1) c)) (.slice (some ⟨og,0,none⟩) (p0++[⟨e0.kind,e0.id,e0.fields++[(K,V)]⟩]:List Ed).length oc) (p0++[⟨e0.kind,e0.id,e0.fields++[(K,V)]⟩]) (fvs.set p0.length (FD.sl g (e0.fields.length+1) c))):=by
     show vM _ _ _ _ _
     rw[jh7];exact hown9
    clear hb3 hr3 hown9 HOF BF hr6 hVC hVZ hnb hone hFC hwf
    simp only[jiw,jiU,jiV]
    go_wp2_with fail
    go_meet
    exact⟨_,[],_,some ⟨og,0,none⟩,oc,none,0,by rw[jh7];rfl,rfl,HO9.out,⟨rfl,.inl ⟨rfl,rfl⟩⟩,HB9.out,HST.out,by rw[jh7];exact HP41.out⟩
   have NO:Hid (Jt l=none):=Vm (YW hx HRN.out (by unfold qN;rw[hpx,if_neg (by simp)];unfold zx;rw[if_neg hls,if_neg hbad];rfl))
   have qb:((((jo ls:Nat):Int))==0)=false:=by simpa using hbad
   unfold zi
   generalize jo ls=bad at *
   clear HO HB HB1 HFR hbel b2 HB12
   go_wp2_with fail
   go_ret2
   have B2w:=B1.out.trans (B2.out.mono B1.out.size)
   exact⟨B2w.alloc B2w.size _,.inl ⟨NO.out,rfl⟩⟩
  case rest =>
  obtain⟨E,S,fvs',oa',oc',sa',sc',rfl,rfl,hO,hS,hB,hst,hE40⟩:=hcut
  have HO:=jh5 hO
  have HS:=jh5 hS
  have HB:=jh5 hB
  have HST:=jh5 hst
  have HRX:Hid (xg ((zG l).take (k+1)) ([],[])=yF (E,S) x):=by show _=_;rw[Ke hx HRN.out,HST.out]
  have c1:=HLC.out wc hB
  have hBw:=B1.out.trans (hB.mono B1.out.size)
  have HBw:=jh5 hBw
  have hzz:=hB.size
  clear c0 HOW HSW HBW hb1 HFL HOK HNE hO hS hB hst hBw
  go_wp2_with fail
  refine(BG2.out _).mono ?_
  rintro e wb ⟨rfl,rfl⟩
  cases hp2:Lib.hasPrefix x [32,32]with
  | true =>
   by_cases hE:E=[]
   ·have NO:Hid (Jt l=none):=Vm (YW hx HRN.out (by rw[HST.out];unfold yF;rw[if_pos hp2,if_pos hE]))
    have qe:((E.length:Int)==0)=true:=by rw[hE];rfl
    clear hE
    go_wp2_with fail
    go_ret2
    exact⟨HBw.out,.inl ⟨NO.out,rfl⟩⟩
   have qe:((E.length:Int)==0)=false:=by have:0<E.length:=List.length_pos_iff.2 hE;simp;omega
   have HNX:Hid (xg ((zG l).take (k+1)) ([],[])=some (E,S++[x.drop 2])):=by show _=_;rw[HRX.out];unfold yF;rw[if_pos hp2,if_neg hE]
   have hx2:2<=x.length:=by
    unfold Lib.hasPrefix at hp2
    have:=(List.isPrefixOf_iff_prefix.1 hp2).length_le
    simpa using this
   have hok:=jgr HNX.out
   have hbo:=Jy (S++[x.drop 2])
   have hwt:=hok.wt
   simp only at hwt
   have hSl:S.length+1<=6001:=by
    have:=hbo.2
    rw[jh7]at this
    simp at this
    omega
   have bx:=je x
   have hx2i:(2:Int)<=(B x).size:=by rw[bx];omega
   have ex2:(B x).extract 2 (B x).size=B (x.drop 2):=by
    apply jjf
    apply Array.toList_inj.1
    rw[ji7,ji,ji,bx,jiC (by simp)]
   have EX2:=jh5 ex2
   obtain⟨i0,hi,hz0,hz1,hz2⟩:=info_parts KU
   clear hE hok hbo hwt ex2 bx hp2
   generalize hXX:B x=XX at *
   clear hXX
   obtain⟨wa,hwa⟩:∃wa,wa=wb.alloc (.cells #[.string (XX.extract 2 XX.size)] 9):=⟨_,rfl⟩
   have hba:Below wb.heap.size wb wa:=by rw[hwa];exact(jh8 _ wb).alloc (jh6 _) _
   have HV:Hid (∀(i:Nat) (u:Value),[Value.string (XX.extract 2 XX.size)][i]?=some u->wa.cell? ((⟨wb.heap.size,0,none⟩:Addr).add i)=some u):=fun i u h=>by
    match i,h with
    | 0,h =>
     have ea:(⟨wb.heap.size,0,none⟩:Addr).add 0=⟨wb.heap.size,0,none⟩:=by unfold Addr.add;split<;>simp_all
     simp only[jid,Option.some.injEq]at h
     rw[ea,hwa,(jd.new wb _ _).cell 0,<- h];rfl
    | i+1,h=>simp at h
   have HR:=jh5 (jJ HS.out hba (jh6 _))
   have HOa:=jh5 (HO.out.below hba (jh6 _))
   have HBa:=jh5 (HB.out.trans (hba.mono HB.out.size))
   have hza:w1.heap.size<=wa.heap.size:=HBa.out.size
   have HRa:=HR
   rw[hwa]at HV HR hza
   go_wp2_with (at_builtin;refine jP rfl _ _ 77 rfl w1.heap.size 9 i0 _ 1 16 Tryz.underlying77 hi hz0 hz1 hz2 rfl (by decide) _ _ _ rfl HR.out ⟨wb.heap.size,0,none⟩ 1 1 _ rfl rfl HV.out (by intro u hu;simp at hu;subst hu;rfl) (by unfold maxLen;omega) (by omega) hza ?_)
   rw[<- hwa]
   intro sv' w3 own3 grow3 at3
   have hge:∀r,(Value.slice sa' S.length sc').ownBlock=some r->w1.heap.size<=r:=fun r e=>(HRa.out.lt r e).1
   have HCN:Hid (jho w1 w3 l (k+1) (.slice oa' E.length oc') sv' (E,S++[x.drop 2]) fvs'):=by
    refine⟨fun _=>HNX.out,fun q=>by rw[hN]at q;omega,jdK HOa.out HRa.out grow3,?_,HBa.out.grown grow3 HBa.out.size hge⟩
    have h3:=own3
    rw[EX2.out]at h3
    show w3.ownsRow _ _ _ _ (S++[x.drop 2]).length ((S++[x.drop 2]).map jhc)
    rw[jh7,ji1]
    exact h3
   obtain⟨ga,gc,rfl⟩:∃A c,sv'=.slice A (S.length+1) c:=by
    obtain⟨A,c,e,_⟩:=jg own3
    exact⟨A,c,e⟩
   clear own3 grow3 at3 hge HRa HR HV HOa HBa HO HS HB hba hwa
   go_wp2_with fail
   go_roundw
   case rel=>exact⟨k+1,_,_,by go_num,by omega,HCN.out⟩
   case measure=>first | (simp[intOf];done) | (simp[intOf];omega)
  | false =>
  obtain⟨wn,hwn⟩:∃wn,wn=wb.alloc (.cells #[.int .i64 0,.int .i64 0,.slice none 0 0] 40):=⟨_,rfl⟩
  have hbn:Below wb.heap.size wb wn:=by rw[hwn];exact(jh8 _ wb).alloc (jh6 _) _
  have hcn:jd wn wb.heap.size 40 #[.int .i64 0,.int .i64 0,.slice none 0 0]:=by rw[hwn];exact jd.new _ _ _
  have HCN:=jh5 hcn
  have HBN:=jh5 hbn
  clear hcn hbn c1
  go_wp2_with fail
  rw[<- hwn]
  clear hwn
  go_loopw [13] (fun kv wi=>∃j:Nat,j<=3/\kv=.int .i64 ((j:Int)+1)/\jd wi wb.heap.size 40 #[.int .i64 (YR x j).kind,.int .i64 (YR x j).id,.slice none 0 0]/\Below wb.heap.size wb wi) (fun kv _=>5-(intOf kv).toNat)
  case atStart=>exact⟨0,by omega,rfl,HCN.out,HBN.out⟩
  case round =>
  obtain⟨j,hj,rfl,hc,hbi⟩:=hrel
  have HCI:=jh5 hc
  have HBI:=jh5 hbi
  have hli:=hc.lt
  by_cases hj3:j<3
  ·have hK:((j:Int)+1)=1\/((j:Int)+1)=2\/((j:Int)+1)=3:=by omega
   have hP9:=jdG hK
   have LAq:=jh5 (fun w=>ZN ((j:Int)+1) 0 (.slice none 0 0) (by unfold I64;omega) w)
   simp only[jch hK]at LAq
   have hTN:Hid (YR x (j+1)=Wu x ((j:Int)+1) (YR x j)):=rfl
   have hPs:(B (VL ((j:Int)+1)++[48])).size=(VL ((j:Int)+1)).length+1:=by rw[je];simp
   have xP:Hid ((B (VL ((j:Int)+1)++[48])).extract 0 (VL ((j:Int)+1)).length=B (VL ((j:Int)+1))):=by
    show _=_
    apply jjf
    apply Array.toList_inj.1
    rw[ji7,ji,ji];simp
   have BGP:=jh5 (fun w=>xA x (VL ((j:Int)+1)) (by omega) (by omega) w)
   have hTK:Hid (∀y,Wu x ((j:Int)+1) y=if Lib.hasPrefix x (VL ((j:Int)+1)) then (match numL (x.drop (VL ((j:Int)+1)).length) with | some n=>⟨(j:Int)+1,n,[]⟩ | none=>y) else y):=fun y=>rfl
   have NM:=jh5 (fun w=>number_any (x.drop (VL ((j:Int)+1)).length) (by simp;omega) w)
   have bx:=je x
   have xd:Hid ((B x).extract (VL ((j:Int)+1)).length (B x).size=B (x.drop (VL ((j:Int)+1)).length)):=by
    show _=_
    apply jjf
    apply Array.toList_inj.1
    rw[ji7,ji,ji,bx,jiC (by simp)]
   have qj:((j:Int)+1)<=3:=by omega
   generalize hPP:VL ((j:Int)+1)=P at *
   clear hPP
   generalize B (P++[48])=H at *
   generalize hXX:B x=XX at *
   clear hXX hc hbi
   cases hpx:Lib.hasPrefix x P with
   | false =>
    simp only[hpx]at BGP
    have hTN2:Hid (YR x (j+1)=YR x j):=by show _=_;rw[hTN.out,hTK.out,hpx,if_neg (by simp)]
    clear hpx bx
    go_wp2_with fail
    refine(LAq.out _).mono ?_
    rintro e wl ⟨rfl,hbl⟩
    have HCL:=jh5 (HCI.out.below hbl hli)
    have HBL:=jh5 (HBI.out.trans (hbl.mono HBI.out.size))
    clear hbl
    go_wp2_with fail
    rw[xP.out]
    refine(BGP.out _).mono ?_
    rintro e wl2 ⟨rfl,rfl⟩
    go_wp2_with fail
    go_roundw
    case rel=>exact⟨j+1,by omega,by go_num,by rw[hTN2.out];exact HCL.out,HBL.out⟩
    case measure=>first | (simp[intOf];done) | (simp[intOf];omega)
   | true =>
   simp only[hpx]at BGP
   have hPx:P.length<=x.length:=by
    unfold Lib.hasPrefix at hpx
    exact(List.isPrefixOf_iff_prefix.1 hpx).length_le
   have hPxi:((B P).size:Int)<=(XX.size:Int):=by rw[bx,je];omega
   have hPxj:(B P).size<=XX.size:=by rw[bx,je];omega
   cases hnm:numL (x.drop P.length) with
   | none =>
    have hTN2:Hid (YR x (j+1)=YR x j):=by show _=_;rw[hTN.out,hTK.out,hpx,if_pos rfl,hnm]
    have e0:numEnd (x.drop P.length)=.returned (.tuple #[.int .i64 0,.bool false]):=by unfold numEnd;rw[hnm];rfl
    simp only[e0]at NM
    clear hpx bx hnm e0 hPx
    go_wp2_with fail
    refine(LAq.out _).mono ?_
    rintro e wl ⟨rfl,hbl⟩
    have HCL:=jh5 (HCI.out.below hbl hli)
    have HBL:=jh5 (HBI.out.trans (hbl.mono HBI.out.size))
    clear hbl
    go_wp2_with fail
    rw[xP.out]
    refine(BGP.out _).mono ?_
    rintro e wl2 ⟨rfl,rfl⟩
    go_wp2_with fail
    rw[show(B P).size=P.length from je P,xd.out]
    refine(NM.out _).mono ?_
    rintro e wl3 ⟨rfl,rfl⟩
    go_wp2_with fail
    go_roundw
    case rel=>exact⟨j+1,by omega,by go_num,by rw[hTN2.out];exact HCL.out,HBL.out⟩
    case measure=>first | (simp[intOf];done) | (simp[intOf];omega)
   | some i =>
   have hTN2:Hid (YR x (j+1)=⟨(j:Int)+1,i,[]⟩):=by show _=_;rw[hTN.out,hTK.out,hpx,if_pos rfl,hnm]
   have e0:numEnd (x.drop P.length)=.returned (.tuple #[.int .i64 i,.bool true]):=by unfold numEnd;rw[hnm];rfl
   simp only[e0]at NM
   clear hpx bx hnm e0 hPx
   go_wp2_with fail
   refine(LAq.out _).mono ?_
   rintro e wl ⟨rfl,hbl⟩
   have HCL:=jh5 (HCI.out.below hbl hli)
   have HBL:=jh5 (HBI.out.trans (hbl.mono HBI.out.size))
   clear hbl
   go_wp2_with fail
   rw[xP.out]
   refine(BGP.out _).mono ?_
   rintro e wl2 ⟨rfl,rfl⟩
   go_wp2_with fail
   rw[show(B P).size=P.length from je P,xd.out]
   refine(NM.out _).mono ?_
   rintro e wl3 ⟨rfl,rfl⟩
   have f0:=HCL.out.frozen 0
   have f1:=HCL.out.frozen 1
   have f2:=HCL.out.frozen 2
   have g0:wl3.cell? ⟨wb.heap.size,0,none⟩=some (.int .i64 (YR x j).kind):=HCL.out.cell 0
   have g1:wl3.cell? ⟨wb.heap.size,1,none⟩=some (.int .i64 (YR x j).id):=HCL.out.cell 1
   have g2:wl3.cell? ⟨wb.heap.size,2,none⟩=some (.slice none 0 0):=HCL.out.cell 2
   go_wp2_with fail
   go_roundw
   case rel =>
    refine⟨j+1,by omega,by go_num,?_,?_⟩
    ·rw[hTN2.out]
     have:=((HCL.out.set 0 (.int .i64 ((j:Int)+1))).set 1 (.int .i64 i)).set 2 (.slice none 0 0)
     simpa [List.setIfInBounds_toArray]using this
    exact((HBL.out.setCell (p:=⟨wb.heap.size,0,none⟩) (jh6 _) _).setCell (p:=⟨wb.heap.size,1,none⟩) (jh6 _) _).setCell (p:=⟨wb.heap.size,2,none⟩) (jh6 _) _
   case measure=>first | (simp[intOf];done) | (simp[intOf];omega)
  obtain rfl:j=3:=by omega
  have c0:wr.cell? ⟨wb.heap.size,0,none⟩=some (.int .i64 (YR x 3).kind):=hc.cell 0
  have c1:wr.cell? ⟨wb.heap.size,1,none⟩=some (.int .i64 (YR x 3).id):=hc.cell 1
  have c2:wr.cell? ⟨wb.heap.size,2,none⟩=some (.slice none 0 0):=hc.cell 2
  have hfe:=xW x 3
  have hst2:yF (E,S) x=if (YR x 3).kind=0\/40<=E.length then none else some (E++[YR x 3],S):=by unfold yF;rw[hp2,if_neg (by simp),jcy]
  have HST2:=jh5 hst2
  have HBr:=jh5 (HBw.out.trans (hbi.mono HBw.out.size))
  clear hst2 hc
  generalize YR x 3=hd at *
  by_cases h0:hd.kind=0
  ·have NO:Hid (Jt l=none):=Vm (YW hx HRN.out (by rw[HST.out,HST2.out,if_pos (.inl h0)]))
   have qk:(hd.kind==0)=true:=by simpa using h0
   clear h0
   go_wp2_with fail
   go_ret2
   exact⟨HBr.out,.inl ⟨NO.out,rfl⟩⟩
  have qk:(hd.kind==0)=false:=by simpa using h0
  by_cases h40:40<=E.length
  ·have NO:Hid (Jt l=none):=Vm (YW hx HRN.out (by rw[HST.out,HST2.out,if_pos (.inr h40)]))
   have q40:(40:Int)<=(E.length:Int):=by omega
   clear h0 h40
   go_wp2_with fail
   go_ret2
   exact⟨HBr.out,.inl ⟨NO.out,rfl⟩⟩
  have q40:¬(40:Int)<=(E.length:Int):=by omega
  have HNX:Hid (xg ((zG l).take (k+1)) ([],[])=some (E++[hd],S)):=by show _=_;rw[HRX.out,HST2.out,if_neg (by omega)]
  have HOr:=jh5 (HO.out.below hbi (jh6 _))
  have HSr:=jh5 (jJ HS.out hbi (jh6 _))
  have HB2:=jh5 (HB.out.trans (hbi.mono HB.out.size))
  obtain⟨i0,hi,hz0,hz1,hz2⟩:=info_parts WY
  obtain⟨wa,hwa⟩:∃wa,wa=wr.alloc (.cells #[.int .i64 hd.kind,.int .i64 hd.id,.slice none 0 0] 40):=⟨_,rfl⟩
  have hba:Below wr.heap.size wr wa:=by rw[hwa];exact(jh8 _ wr).alloc (jh6 _) _
  have HV:Hid (∀(i:Nat) (u:Value),[Value.int .i64 hd.kind,.int .i64 hd.id,.slice none 0 0][i]?=some u->wa.cell? ((⟨wr.heap.size,0,none⟩:Addr).add i)=some u):=fun i u h=>by
   have ea:(⟨wr.heap.size,0,none⟩:Addr).add i=⟨wr.heap.size,i,none⟩:=by unfold Addr.add;split<;>simp_all
   rw[ea,hwa,(jd.new wr _ _).cell i];simpa using h
  have hrow:=jJ HOr.out.row hba (jh6 _)
  have HRa:=jh5 hrow
  have HR:=jh5 hrow
  have HOa:=jh5 (HOr.out.below hba (jh6 _))
  have HSa:=jh5 (jJ HSr.out hba (jh6 _))
  have HBa:=jh5 (HB2.out.trans (hba.mono HB2.out.size))
  have hza:w1.heap.size<=wa.heap.size:=HBa.out.size
  rw[hwa]at HV HR hza
  clear h0 h40 hrow hbi
  go_wp2_with (at_builtin;refine jP rfl _ _ 37 rfl w1.heap.size 40 i0 _ 3 40 Tryz.underlying37 hi hz0 hz1 hz2 rfl (by decide) _ _ _ rfl HR.out ⟨wr.heap.size,0,none⟩ 1 1 _ rfl rfl HV.out (by intro u hu;simp at hu;rcases hu with rfl | rfl | rfl<;>rfl) (by unfold maxLen;omega) (by omega) hza ?_)
  rw[<- hwa]
  intro ov' w3 own3 grow3 at3
  have hge:∀r,(Value.slice oa' E.length oc').ownBlock=some r->w1.heap.size<=r:=fun r e=>(HRa.out.lt r e).1
  have HCN2:Hid (jho w1 w3 l (k+1) ov' (.slice sa' S.length sc') (E++[hd],S) (fvs'++[.slice none 0 0])) :=
   ⟨fun _=>HNX.out,fun q=>by rw[hN]at q;omega,jdL HOa.out hfe own3 grow3,jQ HSa.out (fun r e=>grow3.block r (HSa.out.lt r e).2 (fun q=>zq HOa.out.row HSa.out (by decide) r q.symm e)),HBa.out.grown grow3 HBa.out.size hge⟩
  obtain⟨ga,gc,rfl⟩:∃A c,ov'=.slice A (E.length+1) c:=by
   obtain⟨A,c,e,_⟩:=jg own3
   exact⟨A,c,e⟩
  clear own3 grow3 at3 hge HRa HR HV HOa HSa HBa HOr HSr HO HS HB hba hwa
  go_wp2_with fail
  go_roundw
  case rel=>exact⟨k+1,_,_,by go_num,by omega,HCN2.out⟩
  case measure=>first | (simp[intOf];done) | (simp[intOf];omega)
 obtain rfl:k=n+1:=by omega
 have q9:decide (((n+1:Nat):Int)<=(n:Int))=false:=by simp;omega
 have q8:decide ((n:Int)+1<=(n:Int))=false:=by simp;omega
 obtain⟨hls,hend⟩:=HC.fin (by omega)
 have hok:=jcN hend
 have hfn:=jaC (by omega) hok
 have hlen:=hok.len
 simp only at hls hlen hfn
 have DE:=jes (by omega) hend
 have CB:=jh5 (VK eds _ wr HC.own.edv (by omega) hfn)
 have HO:=jh5 (vM.low HC.own hsz1)
 have HB:=jh5 (B1.out.trans (HC.bel.mono B1.out.size))
 have HDE:=jh5 DE
 have IDS:=jh5 hok.ids
 clear HC hb1 hls hend hok DE
 go_wp2_with fail
 refine CB.out.mono ?_
 rintro e w2 ⟨rfl,b2⟩
 have B2:=jh5 (HB.out.trans (b2.mono HB.out.size))
 have HO2:=jh5 (HO.out.below b2 (jh6 _))
 clear CB b2
 by_cases h0:(yx eds).2=0
 ·obtain⟨⟨_,_⟩,hg⟩:=xy h0
  have EN:=jh5 (VJ eds _ w2 HO2.out.edv (by omega) hg IDS.out)
  have HZ:=jh5 h0
  rw[h0]
  generalize (yx eds).1=at4 at *
  clear h0 hg
  by_cases he:jC eds=l
  ·rw[he,hX]at EN
   have YES:Hid (Jt l=some eds):=by show _=_;rw[HDE.out,if_pos ⟨HZ.out,he⟩]
   clear he
   go_wp2_with fail
   refine EN.out.mono ?_
   rintro e w3 ⟨rfl,b3⟩
   have B3:=jh5 (B2.out.trans (b3.mono B2.out.size))
   have HO3:=jh5 (HO2.out.below b3 (jh6 _))
   clear EN b3
   go_wp2_with fail
   go_ret2
   exact⟨B3.out,.inr ⟨eds,_,fvs,YES.out,rfl,HO3.out⟩⟩
  have NO:Hid (Jt l=none):=by show _=_;rw[HDE.out,if_neg (fun z=>he z.2)]
  have hne:¬(B (jC eds)).toList=X.toList:=fun e=>he (by rw[<- hX]at e;rw[jiu,jiu,ji,ji]at e;exact e)
  have hnb:((B (jC eds)).toList==X.toList)=false:=by simpa using hne
  generalize B (jC eds)=V at *
  clear he
  go_wp2_with fail
  refine EN.out.mono ?_
  rintro e w3 ⟨rfl,b3⟩
  have B3:=jh5 (B2.out.trans (b3.mono B2.out.size))
  clear EN b3
  go_wp2_with fail
  go_ret2
  exact⟨B3.out,.inl ⟨NO.out,rfl⟩⟩
 have NO:Hid (Jt l=none):=by show _=_;rw[HDE.out,if_neg (fun z=>h0 z.1)]
 have qn:((((yx eds).2:Nat):Int)==0)=false:=by simpa using h0
 generalize (yx eds).1=at4 at *
 generalize (yx eds).2=bad at *
 go_wp2_with fail
 go_ret2
 exact⟨B2.out,.inl ⟨NO.out,rfl⟩⟩
end Go.Proofs.YtmdhainabeljpaaGreatDoor
namespace Go.Proofs.YtmdhainabeljpaaGreatDoor
open Go.RowKit Go.Shelf
end Go.Proofs.YtmdhainabeljpaaGreatDoor
namespace Go.Proofs.YtmdhainabeljpaaGreatDoor
open Go.RowKit Go.Shelf
attribute [local go_sem] jil
theorem Yd{P:Nat->Prop}{lo' n sz:Nat}{w w':World}{v:Value}{t:TypeId}{xs:List Value}(h:w.ownsRow lo' t sz v n xs)(hs:zn P w w')(ht:t≠71):w'.ownsRow lo' t sz v n xs:=by
 refine⟨h.1,?_⟩
 rcases h.2 with q|⟨g,cap,cur,q,a,hg,r⟩
 ·exact .inl q
 exact .inr ⟨g,cap,cur,q,a,hs.kept hg ht,r⟩
theorem Kx{lo hi n:Nat}{w:World}{v:Value}{xs:List Value}(h:w.ownsRow lo 71 2 v n xs)(hw:w.heap.size<=hi):Wm w (fun r=>lo<=r/\r<hi) v n:=by
 rcases h.2 with ⟨rfl,hn⟩|⟨g,cap,cur,rfl,hb,hc,hle,_,hs,_⟩
 ·exact .inl ⟨hn,none,0,rfl⟩
 exact .inr ⟨g,cap,cur,rfl,hle,⟨hb,jih (Array.getElem?_eq_some_iff.1 hc).1 hw⟩,hc,by rw[hs];exact Nat.mul_le_mul_right 2 hle⟩
theorem zn.only{P:Nat->Prop}{w w':World}(h:zn P w w'):zH P w w':=⟨h.os,h.tape,h.output,h.size,fun _ hr hp=>h.block hr hp⟩
end Go.Proofs.YtmdhainabeljpaaGreatDoor
namespace Go.Proofs.YtmdhainabeljpaaGreatDoor.Bk
open Go.RowKit Go.Shelf
attribute [local go_sem] jil
theorem xO.same{t base base' tail tail':List UInt8}{n n':Nat}{bds bds':List (List UInt8)}(h:xO Dc t n base bds tail)(h':xO Dc t n' base' bds' tail'):n=n'/\base=base'/\bds=bds'/\tail=tail':=by
 have e1:=Hd.gen_one h.gen h'.gen
 subst e1
 have e2:base=base':=by rw[<- h.isB,h'.isB]
 subst e2
 obtain⟨e3,e4⟩:=xH h.recd h'.recd (.inl h.fin) (.inl h'.fin)
 exact⟨rfl,rfl,e3,e4⟩
theorem KS{b:List UInt8}{eds:List Ed}(h:Jt b=some eds):eds.length<=40/\jgw eds:=by
 obtain⟨_,h0,_,_⟩:=JU.1 h
 obtain⟨⟨_,h1⟩,h2⟩:=xy h0
 refine⟨h1,fun ed hm => ?_⟩
 have g:=Jd (h2 ed hm)
 exact⟨by have:=g.len;omega,fun f hf=>by have:=g.each f hf;have:=Jc this.1;omega⟩
theorem jbc{w:World}{lo lo':Nat}{bv bv':Value}{bds bds':List (List UInt8)}{us us':List Value}{i:Nat}{b:List UInt8}{u u':Value}(h:Qs lo w bv bds us)(h':Qs lo' w bv' bds' us')(hb:bds[i]?=some b)(hb':bds'[i]?=some b)(hu:us[i]?=some u)(hu':us'[i]?=some u')(hd:Dc b=true):
  Calls Tryz.prog 25 #[u,u'] w fun e w'=>e=.returned (.bool true)/\Below w.heap.size w w':=by
 obtain⟨fvs,ho⟩:=h.each i b u hb hu
 obtain⟨fvs',ho'⟩:=h'.each i b u' hb' hu'
 obtain⟨eds,hdec⟩:∃eds,Jt b=some eds:=by
  unfold Dc at hd
  cases he:Jt b with
  | none=>rw[he]at hd;cases hd
  | some eds=>exact⟨eds,rfl⟩
 have e:vO b=eds:=by unfold vO;rw[hdec];rfl
 rw[e]at ho ho'
 obtain⟨h1,h2⟩:=KS hdec
 exact(Uj eds _ _ w ho.edv ho'.edv (by omega) h2).mono fun e w' ⟨he,m,hm⟩=>⟨he,by rw[hm];exact qT (jh8 _ _) m⟩
end Go.Proofs.YtmdhainabeljpaaGreatDoor.Bk
