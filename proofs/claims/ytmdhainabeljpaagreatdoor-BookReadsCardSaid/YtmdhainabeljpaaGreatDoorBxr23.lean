/- Texts put together:QG,QH,SG,DP. -/
import Derived.Test.YtmdhainabeljpaaGreatDoorBxr20
import Derived.Test.YtmdhainabeljpaaGreatDoorBxr22
set_option linter.unusedVariables false
set_option maxRecDepth 100000
set_option maxHeartbeats 16000000
namespace Go.Proofs.YtmdhainabeljpaaGreatDoor
abbrev jj4:=@Nat.le_of_ble_eq_true
end Go.Proofs.YtmdhainabeljpaaGreatDoor
namespace Go.Proofs.YtmdhainabeljpaaGreatDoor
open Go.RowKit Go.Shelf
theorem jf1:(Tryz.prog.info? 3).map (fun i=>(i.zero,i.size,i.bytes))=some (some (.int .i64 0),1,8):=by kernel_rfl
theorem VM(xs:List Ln)(x:Ln):ve (xs++[x])=ve xs++[.int .i64 (jk x.text:Nat)]:=by unfold ve;simp
theorem jaF{t:List UInt8}{xs:List Ln}(h:jf t=xs){k:Nat}{x:Ln}(hx:xs[k]?=some x):x.no=k:=by
 have hlt:k<xs.length:=by
  rcases jir k xs.length with q|q
  ·exact q
  rw[jis q]at hx;cases hx
 have e:=jiB hlt
 rw[jia hlt]at hx
 rw[jh9 hx]at e
 have:=(qz t (xs.take k) x (xs.drop (k+1)) (by rw[h,<- e,jiy])).1
 rw[this,jiE];omega
theorem Xk:∀(ys:List Ln),(∀y∈ys,1<=y.bytes.length)->((zv ys).map List.length).sum<=(ys.flatMap Ln.bytes).length/\(zv ys).length<=(ys.flatMap Ln.bytes).length
 | [],_=>⟨jh6 _,jh6 _⟩
 | y::ys,h=>by
  obtain⟨i1,i2⟩:=Xk ys (fun z hz=>h z (jif _ hz))
  have h1:=h y jig
  have h2:y.text.length<=y.bytes.length:=by unfold Ln.bytes;simp
  rw[jio,jh7]
  unfold zv
  split
  ·simp only[jiP,ji5,jic];omega
  simp
theorem Xm{x:Ln}{xs:List Ln}(h:∀y∈x::xs,1<=y.bytes.length):((x.text::zv xs).map List.length).sum<=((x::xs).flatMap Ln.bytes).length/\(x.text::zv xs).length<=((x::xs).flatMap Ln.bytes).length:=by
 obtain⟨i1,i2⟩:=Xk xs (fun z hz=>h z (jif _ hz))
 have h1:=h x jig
 have h2:x.text.length<=x.bytes.length:=by unfold Ln.bytes;simp
 rw[jio,jh7]
 simp only[jiP,ji5,jic];omega
def jeP(lo:Nat)(w:World)(v:Value)(its:List It):Prop :=
 ∃fvs,w.ownsRow lo 98 3 v its.length (jK its fvs)/\fvs.length=its.length/\∀(j:Nat) it x,its[j]?=some it->fvs[j]?=some x->w.ownsRow lo 71 2 x it.fields.length (jt it.fields)
theorem jdl.fresh{lo:Nat}{w wr:World}{v:Value}{fvs:List Value}{its:List It}(h:jdl w wr v fvs its)(hl:lo<=w.heap.size):jeP lo wr v its :=
 ⟨fvs,zd h.row hl,h.len,fun j it x h1 h2=>zd (h.each j it x h1 h2) hl⟩
def qM(w:World)(t:List UInt8)(e:Ending)(w':World):Prop :=
 Below w.heap.size w w'/\match yl t with
  | .error (a,n)=>e=.returned (.tuple #[.slice none 0 0,.int .i64 (a:Nat),.int .i64 (n:Nat)])
  | .ok its=>∃v,e=.returned (.tuple #[v,.int .i64 (-9),.int .i64 0])/\Its w' v its/\jeP w.heap.size w' v its
theorem qM.no{w w':World}{t:List UInt8}{a n:Nat}(h:yl t=.error (a,n))(hb:Below w.heap.size w w'):qM w t (.returned (.tuple #[.slice none 0 0,.int .i64 (a:Nat),.int .i64 (n:Nat)])) w':=⟨hb,by rw[h]⟩
theorem qM.yes{w w':World}{t:List UInt8}{v:Value}{its:List It}(h:yl t=.ok its)(hb:Below w.heap.size w w')(hi:Its w' v its)(hf:jeP w.heap.size w' v its):qM w t (.returned (.tuple #[v,.int .i64 (-9),.int .i64 0])) w':=⟨hb,by rw[h];exact⟨v,rfl,hi,hf⟩⟩
structure Qd(w wr:World)(nb:Nat)(s:RS)(u fv:Value)(fvs:List Value):Prop where
 acc:jdl w wr u fvs s.out
 box:jd wr nb 98 #[.int .i64 s.kind,.string (B s.raw),fv]
 low:w.heap.size<=nb
 flds:wr.ownsRow w.heap.size 71 2 fv s.fields.length (jt s.fields)
 apart:u.ownBlock≠some nb
theorem Qd.kept{w wr w2:World}{nb:Nat}{s:RS}{u fv:Value}{fvs:List Value}(h:Qd w wr nb s u fv fvs)(hb:Below wr.heap.size wr w2):Qd w w2 nb s u fv fvs :=
 ⟨h.acc.kept hb,jb h.box hb h.box.lt,h.low,zu h.flds hb (jh6 _),h.apart⟩
theorem jhp{w:World}{lo m nb:Nat}{x:Value}{ys:List Value}{cur:Array Value}(hx:w.ownsRow lo 71 2 x m ys)(hb:jd w nb 98 cur):x.ownBlock≠some nb:=by
 intro e
 rcases hx.2 with ⟨rfl,_⟩|⟨g,cap,c,rfl,_,hc,_⟩
 ·cases e
 have:g=nb:=jh9 e
 subst this
 have hb':w.heap[g]?=some (.cells cur 98 (0,0)):=hb
 rw[hc]at hb'
 injection hb' with hb'
 injection hb' with _ h2 _
 exact absurd h2 (by decide)
theorem Qd.set{w wr:World}{nb:Nat}{s s':RS}{u fv:Value}{fvs:List Value}(h:Qd w wr nb s u fv fvs)(i:Nat)(v:Value)(hc:#[.int .i64 s.kind,.string (B s.raw),fv].setIfInBounds i v=#[.int .i64 s'.kind,.string (B s'.raw),fv])(ho:s'.out=s.out)(hf:s'.fields=s.fields):Qd w (wr.setCell ⟨nb,i,none⟩ v) nb s' u fv fvs:=by
 refine⟨⟨?_,?_,fun j it x h1 h2 => ?_,h.acc.below.setCell (p:=⟨nb,i,none⟩) h.low v⟩,?_,h.low,?_,h.apart⟩
 ·rw[ho];exact jT (p:=⟨nb,i,none⟩) h.acc.row h.apart v
 ·rw[ho];exact h.acc.len
 ·rw[ho]at h1
  exact jT (p:=⟨nb,i,none⟩) (h.acc.each j it x h1 h2) (jhp (h.acc.each j it x h1 h2) h.box) v
 ·rw[<- hc];exact h.box.set i v
 rw[hf];exact jT (p:=⟨nb,i,none⟩) h.flds (jhp h.flds h.box) v
theorem Vq{w:World}{b nb:Nat}(h:b≠nb)(o i:Nat){v:Value}:(w.setCell ⟨nb,i,none⟩ v).cell? ⟨b,o,none⟩=w.cell? ⟨b,o,none⟩ :=
 World.cell?_of_block (a:=⟨b,o,none⟩) (jiJ _ _ _ _ h)
theorem Qd.drew{w wr:World}{nb:Nat}{s:RS}{u fv:Value}{fvs:List Value}(h:Qd w wr nb s u fv fvs):Qd w wr.drew nb s u fv fvs:=h.kept ((jh8 _ _).drew)
theorem Qd.put{w W w3:World}{nb:Nat}{s:RS}{u v' fv x:Value}{fvs:List Value}{it:It}(h:Qd w W nb s u fv fvs)(hx:W.ownsRow w.heap.size 71 2 x it.fields.length (jt it.fields))(ho:w3.ownsRow w.heap.size 98 3 v' (s.out.length+1) (jK s.out fvs++[.int .i64 it.kind,.string (B it.raw),x]))(o:Obj)(hg:(W.alloc o).grownBy w3 u.ownBlock)(hat:v'.ownBlock=u.ownBlock\/v'.ownBlock=some (W.heap.size+1)):Qd w w3 nb {s with out:=s.out++[it]} v' fv (fvs++[x]):=by
 have hb:=(jh8 W.heap.size W).alloc (jh6 _) o
 have hl:=h.box.lt
 refine⟨h.acc.snoc hx ho o hg,?_,h.low,?_,?_⟩
 ·exact(hg.block nb (by simp;omega) (fun e=>h.apart e.symm)).trans (jb h.box hb hl)
 ·exact jfz (zu h.acc.row hb (jh6 _)) (zu h.flds hb (jh6 _)) hg
 intro e
 rcases hat with q|q
 ·exact h.apart (q.symm.trans e)
 rw[q]at e
 have:=jh9 e
 omega
theorem Qd.setF{w wr:World}{nb:Nat}{s s':RS}{u fv fv':Value}{fvs:List Value}(h:Qd w wr nb s u fv fvs)(hk:s'.kind=s.kind)(hr:s'.raw=s.raw)(ho:s'.out=s.out)(hf:wr.ownsRow w.heap.size 71 2 fv' s'.fields.length (jt s'.fields)):Qd w (wr.setCell ⟨nb,2,none⟩ fv') nb s' u fv' fvs:=by
 refine⟨⟨?_,?_,fun j it x h1 h2 => ?_,h.acc.below.setCell (p:=⟨nb,2,none⟩) h.low _⟩,?_,h.low,?_,h.apart⟩
 ·rw[ho];exact jT (p:=⟨nb,2,none⟩) h.acc.row h.apart _
 ·rw[ho];exact h.acc.len
 ·rw[ho]at h1
  exact jT (p:=⟨nb,2,none⟩) (h.acc.each j it x h1 h2) (jhp (h.acc.each j it x h1 h2) h.box) _
 ·have:=h.box.set 2 fv'
  rw[hk,hr];simpa using this
 exact jT (p:=⟨nb,2,none⟩) hf (jhp hf h.box) _
theorem Qd.fresh{w wr:World}{nb:Nat}{s s':RS}{u fv:Value}{fvs:List Value}(h:Qd w wr nb s u fv fvs)(hk:s'.kind=2)(hr:s'.raw=[])(ho:s'.out=s.out)(hf:s'.fields=[]):Qd w (((wr.setCell ⟨nb,0,none⟩ (.int .i64 2)).setCell ⟨nb,1,none⟩ (.string ⟨#[]⟩)).setCell ⟨nb,2,none⟩ (.slice none 0 0)) nb s' u (.slice none 0 0) fvs:=by
 have h1:=h.set (s':={s with kind:=2}) 0 (.int .i64 2) rfl rfl rfl
 have h2:=h1.set (s':={s with kind:=2,raw:=[]}) 1 (.string ⟨#[]⟩) rfl rfl rfl
 refine h2.setF hk hr ho ?_
 rw[hf];exact⟨rfl,.inl ⟨rfl,rfl⟩⟩
theorem Ki(s:ByteArray)(hs:s.size<=60000)(w:World):
  Calls Tryz.prog 21 #[.string s] w fun e w'=>qM w s.data.toList e w':=by
 obtain⟨xs,hxs⟩:∃xs,jf s.data.toList=xs:=⟨_,rfl⟩
 have hll:=zD s.data.toList
 rw[<- jij,hxs]at hll
 have hj:(xs.flatMap Ln.bytes).length=s.size:=by rw[<- hxs,jB,<- jij]
 have HXS:=jh5 hxs
 have SPL:=jh5 (vR s (by omega) w)
 rw[hxs]at SPL
 have HJ:=jh5 hj
 obtain⟨i0,hi,hz0,hz1,hz2⟩:=info_parts jf1
 clear hxs hj
 go_enter Tryz.func21,Tryz.ntmps21
 go_wp2_with fail
 refine SPL.out.mono ?_
 rintro e w1 ⟨lv,rfl,hlr,b1⟩
 obtain⟨la,lc,hle,_⟩:=jg hlr
 subst hle
 have LRq:=jh5 (jaE hlr)
 have hz1':=b1.size
 clear hlr SPL
 go_wp2_with fail
 go_loopw [6,7] (fun u i wr=>∃k:Nat,k<=xs.length/\i=.int .i64 k/\wr.ownsRow w1.heap.size 3 1 u k (ve (xs.take k))/\Below w1.heap.size w1 wr) (fun _ i _=>xs.length-(intOf i).toNat)
 case atStart=>exact⟨0,jii _,rfl,⟨rfl,.inl ⟨rfl,rfl⟩⟩,jh8 _ _⟩
 case round =>
 obtain⟨k,hk,rfl,hown,hb⟩:=hrel
 have hzb:=hb.size
 by_cases hlt:k<xs.length
 ·obtain⟨x,hx⟩:∃x,xs[k]?=some x:=⟨_,jia hlt⟩
  obtain⟨A,cap,e,_,hc⟩:=LRq.out.below hb (jh6 _)
  cases e
  obtain⟨b,off,rfl,hbb,c0,_⟩:=hc k x hx
  have hxl:x.text.length<=60000:=by
   have h1:x.bytes.length<=(xs.flatMap Ln.bytes).length:=by
    obtain⟨p1,p2,e⟩:=jjT (jim hx)
    rw[e,jiG,jio,jh7,jh7];omega
   have h2:=HJ.out
   have h3:x.text.length<=x.bytes.length:=by unfold Ln.bytes;simp
   omega
  have KD:=jh5 (zL (B x.text) (by rw[je];omega) wr)
  rw[ji]at KD
  have TK:=jh5 (show ve (xs.take (k+1))=ve (xs.take k)++[.int .i64 (jk x.text:Nat)] by rw[jiK,hx];exact VM _ _)
  have HO:=jh5 hown
  clear hc hx hown
  go_wp2_with fail
  refine KD.out.mono ?_
  rintro e w2 ⟨rfl,b2⟩
  have hb2:=hb.trans (b2.mono hzb)
  have hown2:=zu HO.out b2 (jh6 _)
  have hzb2:=hb2.size
  have HV:=jh5 (jbt w2 (.int .i64 (jk x.text:Nat)) 3)
  clear KD HO b2 c0
  go_wp2_with (at_builtin;refine wpList_append_own _ rfl _ _ 24 rfl w1.heap.size 3 i0 _ 1 8 Tryz.underlying24 hi hz0 hz1 hz2 rfl (by decide) _ _ _ rfl (hown2.alloc _) ⟨w2.heap.size,0,none⟩ 1 1 _ rfl rfl HV.out ?c2 ?c3 ?c4 ?c5 ?_)
  case c2=>intro u hu;simp at hu;subst hu;rfl
  case c3=>unfold maxLen;omega
  case c4=>omega
  case c5=>simp;omega
  intro v' w3 hown' hgrow _
  obtain⟨g',cap3,rfl⟩:=ownsRow_succ hown'
  have hb3:Below w1.heap.size w1 w3:=(hb2.alloc (by omega) _).grown hgrow (by simp;omega) (fun j ej=>(hown2.lt j ej).1)
  go_wp2_with fail
  go_roundw
  case rel=>exact⟨k+1,hlt,by go_num,by rw[TK.out];exact hown',hb3⟩
  case measure=>simp[intOf];omega
 obtain rfl:k=xs.length:=by omega
 rw[jiF]at hown
 obtain⟨ka,kc,hke,_⟩:=jg hown
 subst hke
 have KR:=jh5 (jaI hown)
 have hbw:=b1.trans (hb.mono hz1')
 have LRq2:=jh5 (LRq.out.below hb (jh6 _))
 clear hown LRq hb
 obtain⟨wm,hwm⟩:∃wm,wm=wr:=⟨wr,rfl⟩
 subst hwm
 have zxs:=jh5 (fun(k:Nat) (x:Ln) (hx:xs[k]?=some x)=>jaF HXS.out hx)
 have start:Qd wm (wm.alloc (.cells #[.int .i64 2,.string ⟨#[]⟩,.slice none 0 0] 98)) wm.heap.size RS.new (.slice none 0 0) (.slice none 0 0) [] :=
  ⟨⟨⟨rfl,.inl ⟨rfl,rfl⟩⟩,rfl,fun j it x h=>by simp[RS.new]at h,(jh8 _ _).alloc (jh6 _) _⟩,jd.new _ _ _,jh6 _,⟨rfl,.inl ⟨rfl,rfl⟩⟩,fun e=>by cases e⟩
 have hpos:∀x∈xs,1<=x.bytes.length:=by rw[<- HXS.out];exact yD _ 0 0 _ (jh6 _)
 have HPOS:=jh5 hpos
 have hwz:=hbw.size
 clear hpos
 go_wp2_with fail
 go_loopw [8,10,11] (fun u r i wr=>∃(k:Nat) (st:RS) (fv:Value) (fvs:List Value),k<=xs.length/\i=.int .i64 k/\r=.int .i64 st.records/\Qd wm wr wm.heap.size st u fv fvs/\JC RS.new xs=JC st (xs.drop k)/\st.prev=vN xs k/\st.records<=k/\st.fields.length<=k/\st.out.length<=2*k/\st.raw.length<=60001*k) (fun _ _ i _=>xs.length-(intOf i).toNat)
 case atStart=>exact⟨0,RS.new,_,[],jii _,rfl,rfl,start,rfl,rfl,jh6 _,jh6 _,jh6 _,jh6 _⟩
 case round =>
 obtain⟨k,st,fv,fvs,hk,rfl,rfl,hV,hrun,hprev,q1,q2,q3,q4⟩:=hrel
 have hbm:=hV.acc.below
 have hb:=hbw.trans (hbm.mono hwz)
 obtain⟨fa,fc,hfe,_⟩:=jg hV.flds
 subst hfe
 obtain⟨ua,uc,hue,_⟩:=jg hV.acc.row
 subst hue
 have n0:wr.cell? ⟨wm.heap.size,0,none⟩=some (.int .i64 st.kind):=hV.box.cell 0
 have n1:wr.cell? ⟨wm.heap.size,1,none⟩=some (.string (B st.raw)):=hV.box.cell 1
 have n2:wr.cell? ⟨wm.heap.size,2,none⟩=some (.slice fa st.fields.length fc):=hV.box.cell 2
 have nl:=hV.box.lt
 by_cases hlt:k<xs.length
 ·obtain⟨x,hx⟩:∃x,xs[k]?=some x:=⟨_,jia hlt⟩
  have hdrop:xs.drop k=x::xs.drop (k+1):=by
   have e:=jiB hlt
   rw[jia hlt]at hx
   rw[jh9 hx]at e
   exact e
  have LRr:=LRq2.out.below hbm (jh6 _)
  have KRr:=KR.out.below hbm (jh6 _)
  have hms:=Xk (xs.drop k) (fun y hy=>HPOS.out y (jjN hy))
  have hdl:((xs.drop k).flatMap Ln.bytes).length<=s.size:=by
   rw[<- HJ.out]
   conv=>rhs;rw[<- jiy k xs,jiG,jh7]
   omega
  have hts:=Xm (x:=x) (xs:=xs.drop (k+1)) (by rw[<- hdrop];exact fun y hy=>HPOS.out y (jjN hy))
  rw[<- hdrop]at hts
  have WR:=jh5 (jbq xs _ _ k x st.fields.length st.records wr LRr KRr hx (by omega) (by omega) (by omega) (by omega) (by omega))
  rw[<- hprev,<- jbp]at WR
  have hno:=zxs.out k x hx
  rw[hdrop]at hrun
  have hrun2:JC RS.new xs=if ze st x (xs.drop (k+1))≠0 then Except.error (x.no,ze st x (xs.drop (k+1))) else JC (vd st x (xs.drop (k+1))) (xs.drop (k+1)):=hrun
  by_cases hn:ze st x (xs.drop (k+1))=0
  ·rw[if_neg (by rw[hn];decide)]at hrun2
   rw[hn]at WR
   obtain⟨A9,cap9,e9,_,hc9⟩:=LRq2.out
   cases e9
   obtain⟨bl,ol,rfl,hblm,l2,_⟩:=hc9 k x hx
   obtain⟨A8,cap8,e8,_,hc8⟩:=KR.out
   cases e8
   obtain⟨bk,ok,rfl,hbkm,k0⟩:=hc8 k x hx
   replace l2:=(hbm.cell (p:=⟨bl,ol+k*4+1+1,none⟩) hblm).trans l2
   replace k0:=(hbm.cell (p:=⟨bk,ok+k,none⟩) hbkm).trans k0
   have hbl:bl<wr.heap.size:=jih hblm hbm.size
   have hbk:bk<wr.heap.size:=jih hbkm hbm.size
   have nebk:bk≠wm.heap.size:=jj2 hbkm
   have nebl:bl≠wm.heap.size:=jj2 hblm
   have hxl:x.text.length<=60000:=by
    have h1:=hts.1
    simp only[jiP,ji5]at h1
    omega
   have hzb:=hb.size
   have hzm:=hbm.size
   have NX:=jh5 hrun2
   have PK:Hid (∀m,m=jk x.text->m=vN xs (k+1)):=by
    show ∀m,_
    intro m hm
    unfold vN;rw[if_neg (by omega),Nat.add_sub_cancel,hx];exact hm
   have HV:=jh5 hV
   have zr:=je st.raw
   have zt:=je x.text
   have hkinds:=JL x.text
   have HDR:Hid (∀y∈x::xs.drop (k+1),1<=y.bytes.length):=by
    show ∀y,_
    rw[<- hdrop];exact fun y hy=>HPOS.out y (jjN hy)
   have HDL:Hid (((x::xs.drop (k+1)).flatMap Ln.bytes).length<=60000):=by
    show _<=_
    rw[<- hdrop];omega
   clear hrun hrun2 hdl hms hts hV hc8 hc9 hdrop start hno n0 n1
   by_cases hk1:jk x.text=1
   ·have hput:vd st x (xs.drop (k+1))=⟨st.out++st.block++[⟨1,x.text++[10],[]⟩],2,[],[],st.records,1⟩:=by unfold vd;rw[if_pos hk1]
    rw[hput]at NX
    have PK2:=jh5 (PK.out 1 hk1.symm)
    rw[hk1]at k0
    have e10:B x.text ++ ⟨#[10]⟩=B (x.text++[10]):=jj _ [10]
    have E10:=jh5 e10
    obtain⟨i1,hi1,hy0,hy1,hy2⟩:=info_parts Xo
    have hvl:st.out.length<=200000:=by omega
    clear hput hx hkinds PK hk1 e10
    go_wp2_with fail
    refine WR.out.mono ?_
    rintro e w2 ⟨rfl,b2⟩
    have V2:=HV.out.kept b2
    have n0:w2.cell? ⟨wm.heap.size,0,none⟩=some (.int .i64 st.kind):=V2.box.cell 0
    have n1:w2.cell? ⟨wm.heap.size,1,none⟩=some (.string (B st.raw)):=V2.box.cell 1
    have n2':w2.cell? ⟨wm.heap.size,2,none⟩=some (.slice fa st.fields.length fc):=V2.box.cell 2
    have nl2:=V2.box.lt
    have l2':=(b2.cell (p:=⟨bl,ol+k*4+1+1,none⟩) hbl).trans l2
    have k0':=(b2.cell (p:=⟨bk,ok+k,none⟩) hbk).trans k0
    have hz2:=b2.size
    have VH:=jh5 V2
    have hrow:=V2.acc.row
    have hm2:=V2.acc.below.size
    clear WR HV V2 b2 l2 k0 n2
    by_cases hr:st.raw=[]
    ·have hblk:st.block=[]:=by unfold RS.block;rw[if_pos hr]
     rw[hblk,jix]at NX
     have e1:((B st.raw).toList==[])=true:=by rw[hr,jiu,ji];rfl
     have e2:((B st.raw).toList != [])=false:=by rw[hr,jiu,ji];rfl
     have HI:=jh5 (zl w2 98 [.int .i64 1,.string (B x.text ++ ⟨#[10]⟩),.slice none 0 0])
     clear hr hblk
     go_wp2_with (at_builtin;refine wpList_append_own_at _ rfl _ _ 47 rfl wm.heap.size 98 i1 _ 3 48 Tryz.underlying47 hi1 hy0 hy1 hy2 rfl (by decide) _ _ _ rfl (hrow.alloc _) ⟨w2.heap.size,0,none⟩ 1 1 _ rfl rfl HI.out ?c2 ?c3 ?c4 ?c5 ?_)
     case c2=>intro u hu;simp at hu;rcases hu with rfl | rfl | rfl<;>rfl
     case c3=>unfold maxLen;omega
     case c4=>omega
     case c5=>simp;omega
     intro v' w3 hown' hgrow _ hat
     rw[E10.out]at hown'
     have V3:=VH.out.put (it:=⟨1,x.text++[10],[]⟩) (x:=.slice none 0 0) ⟨rfl,.inl ⟨rfl,rfl⟩⟩ hown' _ hgrow hat
     obtain⟨g',cap3,rfl⟩:=ownsRow_succ hown'
     have f0:=V3.box.frozen 0
     have f1:=V3.box.frozen 1
     have f2:=V3.box.frozen 2
     have m0:w3.cell? ⟨wm.heap.size,0,none⟩=some (.int .i64 st.kind):=V3.box.cell 0
     have m1:w3.cell? ⟨wm.heap.size,1,none⟩=some (.string (B st.raw)):=V3.box.cell 1
     have m2:w3.cell? ⟨wm.heap.size,2,none⟩=some (.slice fa st.fields.length fc):=V3.box.cell 2
     have nl3:=V3.box.lt
     have V4:=jh5 (V3.fresh (s':=⟨st.out++[⟨1,x.text++[10],[]⟩],2,[],[],st.records,1⟩) rfl rfl rfl rfl)
     clear V3 VH hrow n0 n1 n2' l2' k0' e1 e2 hown' hgrow hat HI
     go_wp2_with fail
     go_roundw
     case rel=>exact⟨k+1,⟨st.out++[⟨1,x.text++[10],[]⟩],2,[],[],st.records,1⟩,_,_,hlt,by go_num,rfl,V4.out,NX.out,PK2.out,by show st.records<=_;omega,jii _,by show(st.out++[_]).length<=_;simp;omega,jii _⟩
     case measure=>simp[intOf];omega
    have hblk:st.block=[⟨st.kind,st.raw,st.fields⟩]:=by unfold RS.block;rw[if_neg hr]
    rw[hblk]at NX
    have hB:(B st.raw).toList=st.raw:=by rw[jiu,ji]
    have e1:((B st.raw).toList==[])=false:=by rw[hB];simpa using hr
    have e2:((B st.raw).toList != [])=true:=by rw[hB];simpa using hr
    have HI:=jh5 (zl w2 98 [.int .i64 st.kind,.string (B st.raw),.slice fa st.fields.length fc])
    clear hr hblk hB
    go_wp2_with (at_builtin;refine wpList_append_own_at _ rfl _ _ 47 rfl wm.heap.size 98 i1 _ 3 48 Tryz.underlying47 hi1 hy0 hy1 hy2 rfl (by decide) _ _ _ rfl (hrow.alloc _) ⟨w2.heap.size,0,none⟩ 1 1 _ rfl rfl HI.out ?c2 ?c3 ?c4 ?c5 ?_)
    case c2=>intro u hu;simp at hu;rcases hu with rfl | rfl | rfl<;>rfl
    case c3=>unfold maxLen;omega
    case c4=>omega
    case c5=>simp;omega
    intro v' w3 hown' hgrow _ hat
    have V3:=VH.out.put (it:=⟨st.kind,st.raw,st.fields⟩) VH.out.flds hown' _ hgrow hat
    obtain⟨g',cap3,rfl⟩:=ownsRow_succ hown'
    have b3:=V3.acc.below
    have l3':w3.cell? ⟨bl,ol+k*4+1+1,none⟩=some (.string (B x.text)):=by
     have h0:=(hbm.cell (p:=⟨bl,ol+k*4+1+1,none⟩) hblm)
     rw[b3.cell (p:=⟨bl,ol+k*4+1+1,none⟩) hblm,<- VH.out.acc.below.cell (p:=⟨bl,ol+k*4+1+1,none⟩) hblm];exact l2'
    have hrow3:=V3.acc.row
    have hm3:=b3.size
    have V3H:=jh5 V3
    have hl3:=V3.box.lt
    have HI2:=jh5 (zl w3 98 [.int .i64 1,.string (B x.text ++ ⟨#[10]⟩),.slice none 0 0])
    have hlen3:(st.out++[(⟨st.kind,st.raw,st.fields⟩:It)]).length=st.out.length+1:=by simp
    simp only[hlen3]at hrow3
    clear V3 VH hrow n0 n1 n2' l2' k0' e1 e2 hown' hgrow hat HI b3
    go_wp2_with (at_builtin;refine wpList_append_own_at _ rfl _ _ 47 rfl wm.heap.size 98 i1 _ 3 48 Tryz.underlying47 hi1 hy0 hy1 hy2 rfl (by decide) _ _ _ rfl (hrow3.alloc _) ⟨w3.heap.size,0,none⟩ 1 1 _ rfl rfl HI2.out ?d2 ?d3 ?d4 ?d5 ?_)
    case d2=>intro u hu;simp at hu;rcases hu with rfl | rfl | rfl<;>rfl
    case d3=>unfold maxLen;omega
    case d4=>omega
    case d5=>simp;omega
    intro v'' w4 hown4 hgrow4 _ hat4
    rw[E10.out]at hown4
    have V4:=V3H.out.put (it:=⟨1,x.text++[10],[]⟩) (x:=.slice none 0 0) ⟨rfl,.inl ⟨rfl,rfl⟩⟩ (by show w4.ownsRow _ _ _ _ ((st.out++[(⟨st.kind,st.raw,st.fields⟩:It)]).length+1) _;rw[hlen3];exact hown4) _ hgrow4 hat4
    obtain⟨g4,cap4,rfl⟩:=ownsRow_succ hown4
    have f0:=V4.box.frozen 0
    have f1:=V4.box.frozen 1
    have f2:=V4.box.frozen 2
    have m0:w4.cell? ⟨wm.heap.size,0,none⟩=some (.int .i64 st.kind):=V4.box.cell 0
    have m1:w4.cell? ⟨wm.heap.size,1,none⟩=some (.string (B st.raw)):=V4.box.cell 1
    have m2:w4.cell? ⟨wm.heap.size,2,none⟩=some (.slice fa st.fields.length fc):=V4.box.cell 2
    have nl4:=V4.box.lt
    have V5:=jh5 (V4.fresh (s':=⟨st.out++[⟨st.kind,st.raw,st.fields⟩]++[⟨1,x.text++[10],[]⟩],2,[],[],st.records,1⟩) rfl rfl rfl rfl)
    clear V4 V3H hrow3 l3' hown4 hgrow4 hat4 HI2
    go_wp2_with fail
    go_roundw
    case rel=>exact⟨k+1,⟨st.out++[⟨st.kind,st.raw,st.fields⟩]++[⟨1,x.text++[10],[]⟩],2,[],[],st.records,1⟩,_,_,hlt,by go_num,rfl,V5.out,NX.out,PK2.out,by show st.records<=_;omega,jii _,by show(st.out++[_]++[_]).length<=_;simp;omega,jii _⟩
    case measure=>simp[intOf];omega
   by_cases hk4:jk x.text=4
   ·obtain⟨ls,hls⟩:∃ls,x.text::zv (xs.drop (k+1))=ls:=⟨_,rfl⟩
    have hput:vd st x (xs.drop (k+1))=⟨st.out,3,st.raw++x.text++[10],st.fields++[(jF ls,jE ls)],if st.kind=2 then st.records+1 else st.records,4⟩:=by unfold vd;rw[if_neg (by omega),if_pos hk4,hls]
    rw[hput]at NX
    have PK2:=jh5 (PK.out 4 hk4.symm)
    rw[hk4]at k0
    have HX:=jh5 hx
    have HK4:=jh5 hk4
    have HLS:=jh5 hls
    have hms:=(Xm (x:=x) (xs:=xs.drop (k+1)) (HDR.out)).1
    have hms2:=(Xm (x:=x) (xs:=xs.drop (k+1)) (HDR.out)).2
    have hm1:(ls.map List.length).sum<=60000:=by rw[<- hls];have:=HDL.out;omega
    have hm2:ls.length<=60000:=by rw[<- hls];have:=HDL.out;omega
    have kz1:(((4:Nat):Int)==1)=false:=rfl
    clear hput hx hkinds PK hk1 hk4 hls hms hms2
    go_wp2_with fail
    refine WR.out.mono ?_
    rintro e w2 ⟨rfl,b2⟩
    have V2:=HV.out.kept b2
    have n1:w2.cell? ⟨wm.heap.size,1,none⟩=some (.string (B st.raw)):=V2.box.cell 1
    have nf1:=V2.box.frozen 1
    have nl2:=V2.box.lt
    have l2':=(b2.cell (p:=⟨bl,ol+k*4+1+1,none⟩) hbl).trans l2
    have k0':=(b2.cell (p:=⟨bk,ok+k,none⟩) hbk).trans k0
    have VV:=jh5 (fun st' h1 h2 h3=>V2.set (s':=st') 1 (.string (B st.raw++B x.text ++ ⟨#[10]⟩)) h1 h2 h3)
    clear WR HV V2 b2 l2 k0 n2
    go_wp2_with fail
    go_cut [] (fun wx=>Qd wm wx wm.heap.size {st with raw:=st.raw++x.text++[10]} (.slice ua st.out.length uc) (.slice fa st.fields.length fc) fvs/\wx.cell? ⟨bk,ok+k,none⟩=some (.int .i64 4))
    case first =>
     go_region
     all_goals
      go_wp2
      go_meet
      refine⟨Qd.drew (VV.out _ ?_ rfl rfl),?_⟩
      ·show #[_,_,_]=_
       rw[<- jj,<- jj];rfl
      show((w2.setCell ⟨wm.heap.size,1,none⟩ _).drew).cell? ⟨bk,ok+k,none⟩=_
      exact(Vq nebk _ _).trans k0'
    case rest =>
    obtain⟨V3,k0''⟩:=hcut
    have n0:wc.cell? ⟨wm.heap.size,0,none⟩=some (.int .i64 st.kind):=V3.box.cell 0
    have nf0:=V3.box.frozen 0
    have nl3:=V3.box.lt
    have hV3:=V3.acc.below.size
    have VH:=jh5 V3
    clear V3 VV l2' k0' n1 nf1
    by_cases hk2:st.kind=2
    ·have c0:((st.kind:Int)==2)=true:=by rw[hk2];rfl
     rw[if_pos hk2]at NX
     have V4:=VH.out.set (s':={st with raw:=st.raw++x.text++[10],kind:=3}) 0 (.int .i64 3) rfl rfl rfl
     have hbW:=V4.acc.below
     have SD:=jh5 (QA xs _ _ k x _ (LRq2.out.below hbW (jh6 _)) (KR.out.below hbW (jh6 _)) HX.out (by omega))
     rw[HLS.out]at SD
     have V4H:=jh5 V4
     have hzW:=hbW.size
     clear V4 VH
     go_wp2_with fail
     refine SD.out.mono ?_
     rintro e w5 ⟨sv,rfl,hown,b5⟩
     have hst:=hown.strs
     obtain⟨Av,capv,rfl,_,_⟩:=id hst
     have UF:=jh5 (vn x.text (zv (xs.drop (k+1))) _ w5 (by rw[HLS.out];exact hst) (by rw[HLS.out];exact fun l hl=>by have:=Yz _ _ hl;omega) (by rw[HLS.out];omega) (by rw[HLS.out];have:=xG ls;omega) HK4.out)
     rw[HLS.out,jiA]at UF
     have V5H:=jh5 (V4H.out.kept b5)
     unfold zi at UF
     clear hown hst SD V4H b5 n0 nf0
     generalize jF ls=uk at *
     generalize jE ls=uv at *
     generalize jo ls=un at *
     go_wp2_with fail
     refine UF.out.mono ?_
     rintro e w6 ⟨rfl,b6⟩
     have V6H:=jh5 (V5H.out.kept b6)
     clear UF V5H b6
     go_upto_region 29 with fail
     have hb63:Below w6.heap.size w6 (w6.alloc (.cells #[.string (B uk),.string (B uv)] 71)):=(jh8 _ _).alloc (jh6 _) _
     have V7:=jh5 (V6H.out.kept hb63)
     have FB:=jd.new w6 71 #[.string (B uk),.string (B uv)]
     generalize w6.alloc (.cells #[.string (B uk),.string (B uv)] 71)=W3 at *
     have hone:∀u∈jt st.fields,u.oneCell'=true:=by
      intro u hu
      unfold jt at hu
      simp at hu
      obtain⟨a,b,_,h|h⟩:=hu<;>subst h<;>rfl
     refine region29x _ _ wm.heap.size w6.heap.size st.fields.length (.slice fa st.fields.length fc) (jt st.fields) (B uk) (B uv) _ _ _ ?h9 ?h13 ?hsz V7.out.box FB (zd V7.out.flds (jii _)) hone (by omega) ?_
     case h9=>kernel_rfl
     case h13=>kernel_rfl
     case hsz=>exact jj4 (by kernel_rfl)
     intro y0 y1 y2 y3 y4 y5 y6 y7 w2' g2 c2 bb o2
     have V9:Hid (Qd wm (w2'.setCell ⟨wm.heap.size,2,none⟩ (sl g2 (st.fields.length+1) c2)) wm.heap.size ⟨st.out,3,st.raw++x.text++[10],st.fields++[(uk,uv)],st.records+1,4⟩ (.slice ua st.out.length uc) (sl g2 (st.fields.length+1) c2) fvs) :=
      (V7.out.kept bb).setF rfl rfl rfl (by show w2'.ownsRow _ _ _ _ (st.fields++[(uk,uv)]).length _;rw[jh7,Jp];exact zd o2 V7.out.acc.below.size)
     clear bb o2 V7 FB hone hb63 V6H
     dsimp only
     simp only[jiw,jiU,jiV]
     go_wp2_with fail
     go_roundw
     case rel=>exact⟨k+1,⟨st.out,3,st.raw++x.text++[10],st.fields++[(uk,uv)],st.records+1,4⟩,_,fvs,hlt,by go_num,rfl,V9.out,NX.out,PK2.out,by show st.records+1<=_;omega,by show(st.fields++[_]).length<=_;rw[jh7];simp only[jiS];omega,by show st.out.length<=_;omega,by show(st.raw++x.text++[10]).length<=_;simp;omega⟩
     case measure=>simp[intOf];omega
    have c0:((st.kind:Int)==2)=false:=beq_eq_false_iff_ne.2 hk2
    rw[if_neg hk2]at NX
    have V4:=VH.out.set (s':={st with raw:=st.raw++x.text++[10],kind:=3}) 0 (.int .i64 3) rfl rfl rfl
    have hbW:=V4.acc.below
    have SD:=jh5 (QA xs _ _ k x _ (LRq2.out.below hbW (jh6 _)) (KR.out.below hbW (jh6 _)) HX.out (by omega))
    rw[HLS.out]at SD
    have V4H:=jh5 V4
    have hzW:=hbW.size
    clear V4 VH
    go_wp2_with fail
    refine SD.out.mono ?_
    rintro e w5 ⟨sv,rfl,hown,b5⟩
    have hst:=hown.strs
    obtain⟨Av,capv,rfl,_,_⟩:=id hst
    have UF:=jh5 (vn x.text (zv (xs.drop (k+1))) _ w5 (by rw[HLS.out];exact hst) (by rw[HLS.out];exact fun l hl=>by have:=Yz _ _ hl;omega) (by rw[HLS.out];omega) (by rw[HLS.out];have:=xG ls;omega) HK4.out)
    rw[HLS.out,jiA]at UF
    have V5H:=jh5 (V4H.out.kept b5)
    unfold zi at UF
    clear hown hst SD V4H b5 n0 nf0
    generalize jF ls=uk at *
    generalize jE ls=uv at *
    generalize jo ls=un at *
    go_wp2_with fail
    refine UF.out.mono ?_
    rintro e w6 ⟨rfl,b6⟩
    have V6H:=jh5 (V5H.out.kept b6)
    clear UF V5H b6
    go_upto_region 29 with fail
    have hb63:Below w6.heap.size w6 (w6.alloc (.cells #[.string (B uk),.string (B uv)] 71)):=(jh8 _ _).alloc (jh6 _) _
    have V7:=jh5 (V6H.out.kept hb63)
    have FB:=jd.new w6 71 #[.string (B uk),.string (B uv)]
    generalize w6.alloc (.cells #[.string (B uk),.string (B uv)] 71)=W3 at *
    have hone:∀u∈jt st.fields,u.oneCell'=true:=by
     intro u hu
     unfold jt at hu
     simp at hu
     obtain⟨a,b,_,h|h⟩:=hu<;>subst h<;>rfl
    refine region29x _ _ wm.heap.size w6.heap.size st.fields.length (.slice fa st.fields.length fc) (jt st.fields) (B uk) (B uv) _ _ _ ?h9 ?h13 ?hsz V7.out.box FB (zd V7.out.flds (jii _)) hone (by omega) ?_
    case h9=>kernel_rfl
    case h13=>kernel_rfl
    case hsz=>exact jj4 (by kernel_rfl)
    intro y0 y1 y2 y3 y4 y5 y6 y7 w2' g2 c2 bb o2
    have V9:Hid (Qd wm (w2'.setCell ⟨wm.heap.size,2,none⟩ (sl g2 (st.fields.length+1) c2)) wm.heap.size ⟨st.out,3,st.raw++x.text++[10],st.fields++[(uk,uv)],st.records,4⟩ (.slice ua st.out.length uc) (sl g2 (st.fields.length+1) c2) fvs) :=
     (V7.out.kept bb).setF rfl rfl rfl (by show w2'.ownsRow _ _ _ _ (st.fields++[(uk,uv)]).length _;rw[jh7,Jp];exact zd o2 V7.out.acc.below.size)
    clear bb o2 V7 FB hone hb63 V6H
    dsimp only
    simp only[jiw,jiU,jiV]
    go_wp2_with fail
    go_roundw
    case rel=>exact⟨k+1,⟨st.out,3,st.raw++x.text++[10],st.fields++[(uk,uv)],st.records,4⟩,_,fvs,hlt,by go_num,rfl,V9.out,NX.out,PK2.out,by show st.records<=_;omega,by show(st.fields++[_]).length<=_;rw[jh7];simp only[jiS];omega,by show st.out.length<=_;omega,by show(st.raw++x.text++[10]).length<=_;simp;omega⟩
    case measure=>simp[intOf];omega
   have kz1:(((jk x.text:Nat):Int)==1)=false:=beq_eq_false_iff_ne.2 (by omega)
   have kz4:(((jk x.text:Nat):Int)==4)=false:=beq_eq_false_iff_ne.2 (by omega)
   have hput:vd st x (xs.drop (k+1))={st with raw:=st.raw++x.text++[10],prev:=jk x.text}:=by unfold vd;rw[if_neg hk1,if_neg hk4]
   rw[hput]at NX
   have PK2:=jh5 (PK.out _ rfl)
   clear hput hx hkinds
   generalize jk x.text=kn at *
   go_wp2_with fail
   refine WR.out.mono ?_
   rintro e w2 ⟨rfl,b2⟩
   have V2:=HV.out.kept b2
   have n1:w2.cell? ⟨wm.heap.size,1,none⟩=some (.string (B st.raw)):=V2.box.cell 1
   have nf1:=V2.box.frozen 1
   have nl2:=V2.box.lt
   have l2':=(b2.cell (p:=⟨bl,ol+k*4+1+1,none⟩) hbl).trans l2
   have k0':=(b2.cell (p:=⟨bk,ok+k,none⟩) hbk).trans k0
   have hz2:=b2.size
   have VV:=jh5 (fun st' h1 h2 h3=>V2.set (s':=st') 1 (.string (B st.raw++B x.text ++ ⟨#[10]⟩)) h1 h2 h3)
   clear WR HV V2 b2 l2 k0 n2
   go_wp2_with fail
   go_cut [] (fun wx=>Qd wm wx wm.heap.size {st with raw:=st.raw++x.text++[10],prev:=kn} (.slice ua st.out.length uc) (.slice fa st.fields.length fc) fvs/\wx.cell? ⟨bk,ok+k,none⟩=some (.int .i64 (kn:Nat)))
   case first =>
    go_region
    all_goals
     go_wp2
     go_meet
     refine⟨Qd.drew (VV.out _ ?_ rfl rfl),?_⟩
     ·show #[_,_,_]=_
      rw[<- jj,<- jj];rfl
     show((w2.setCell ⟨wm.heap.size,1,none⟩ _).drew).cell? ⟨bk,ok+k,none⟩=_
     exact(Vq nebk _ _).trans k0'
   case rest =>
   obtain⟨V3,k0''⟩:=hcut
   have hV3:=V3.acc.below.size
   have VH:=jh5 V3
   clear V3 VV l2' k0' n1 nf1
   go_wp2_with fail
   go_roundw
   case rel=>exact⟨k+1,{st with raw:=st.raw++x.text++[10],prev:=kn},_,fvs,hlt,by go_num,rfl,VH.out,NX.out,PK2.out,by show st.records<=_;omega,by show st.fields.length<=_;omega,by show st.out.length<=_;omega,by show(st.raw++x.text++[10]).length<=_;simp;omega⟩
   case measure=>simp[intOf];omega
  rw[if_pos hn,hno]at hrun2
  have FIN:=jh5 (fun w' (hb':Below w.heap.size w w')=>qM.no (w:=w) (t:=s.data.toList) (w':=w') (a:=k) (n:=ze st x (xs.drop (k+1))) (by unfold yl;rw[HXS.out,hrun2]) hb')
  obtain⟨n,hnn⟩:∃n,ze st x (xs.drop (k+1))=n:=⟨_,rfl⟩
  rw[hnn]at WR FIN hn
  have z1:((n:Int) != 0)=true:=by simp;omega
  have hzb:=hb.size
  clear hrun hrun2 hnn hdl hms hts LRr KRr hV hdrop hx start
  go_wp2_with fail
  refine WR.out.mono ?_
  rintro e w2 ⟨rfl,b2⟩
  have hb2:=hb.trans (b2.mono hzb)
  clear WR
  go_wp2_with fail
  refine bodyPost_ret (v:=.tuple #[.slice none 0 0,.int .i64 (k:Nat),.int .i64 (n:Nat)]) (by simp[results,Tryz.results21,go_sem]) rfl ?_
  exact FIN.out _ hb2
 obtain rfl:k=xs.length:=by omega
 rw[ji0 (jh6 _)]at hrun
 have hrun2:JC RS.new xs=.ok st:=hrun
 have FIN:=jh5 (fun w' v (hb':Below w.heap.size w w') (hi:Its w' v (st.out++st.block)) (hf:jeP w.heap.size w' v (st.out++st.block))=>qM.yes (w:=w) (t:=s.data.toList) (w':=w') (v:=v) (by unfold yl;rw[HXS.out,hrun2]) hb' hi hf)
 have ACC:=jh5 hV.acc
 have HFL:=jh5 hV.flds
 have hzm:=hbm.size
 have hzb:=hb.size
 by_cases hr:st.raw=[]
 ·have hblk:st.block=[]:=by unfold RS.block;rw[if_pos hr]
  rw[hblk,jix]at FIN
  have e1:((B st.raw).toList==[])=true:=by rw[hr,jiu,ji];rfl
  have e2:((B st.raw).toList != [])=false:=by rw[hr,jiu,ji];rfl
  clear hrun hrun2 hV start hblk hr
  go_wp2_with fail
  refine bodyPost_ret (v:=.tuple #[.slice ua st.out.length uc,.int .i64 (-9),.int .i64 0]) (by simp[results,Tryz.results21,go_sem]) rfl ?_
  exact FIN.out _ _ hb ACC.out.its (ACC.out.fresh hwz)
 have hblk:st.block=[⟨st.kind,st.raw,st.fields⟩]:=by unfold RS.block;rw[if_neg hr]
 rw[hblk]at FIN
 have hB:(B st.raw).toList=st.raw:=by rw[jiu,ji]
 have e1:((B st.raw).toList==[])=false:=by rw[hB];simpa using hr
 have e2:((B st.raw).toList != [])=true:=by rw[hB];simpa using hr
 obtain⟨i1,hi1,hy0,hy1,hy2⟩:=info_parts Xo
 have hrow:=hV.acc.row
 have hvl:st.out.length<=200000:=by omega
 have HV:=jh5 (zl wr 98 [.int .i64 st.kind,.string (B st.raw),.slice fa st.fields.length fc])
 clear hrun hrun2 hV start hblk hr hB
 go_wp2_with (at_builtin;refine wpList_append_own _ rfl _ _ 47 rfl wm.heap.size 98 i1 _ 3 48 Tryz.underlying47 hi1 hy0 hy1 hy2 rfl (by decide) _ _ _ rfl (hrow.alloc _) ⟨wr.heap.size,0,none⟩ 1 1 _ rfl rfl HV.out ?c2 ?c3 ?c4 ?c5 ?_)
 case c2=>intro u hu;simp at hu;rcases hu with rfl | rfl | rfl<;>rfl
 case c3=>unfold maxLen;omega
 case c4=>omega
 case c5=>simp;omega
 intro v' w3 hown' hgrow _
 have hacc3:=ACC.out.snoc (it:=⟨st.kind,st.raw,st.fields⟩) HFL.out hown' _ hgrow
 obtain⟨g',cap3,rfl⟩:=ownsRow_succ hown'
 have hb3:=hbw.trans (hacc3.below.mono hwz)
 go_wp2_with fail
 refine bodyPost_ret (v:=.tuple #[.slice (some ⟨g',0,none⟩) (st.out.length+1) cap3,.int .i64 (-9),.int .i64 0]) (by simp[results,Tryz.results21,go_sem]) rfl ?_
 exact FIN.out _ _ hb3 hacc3.its (hacc3.fresh hwz)
theorem jbF{t:List UInt8}{p:PS}{x:Ln}{a n:Nat}(h:jL t p x=.error (a,n)):n≠0/\n<=11:=by
 unfold jL at h
 split at h
 ·rename_i hc
  cases h
  exact⟨hc.2,ZZ _⟩
 split at h
 ·cases h;exact⟨by decide,by decide⟩
 cases h
theorem jeY(t:List UInt8):∀(xs:List Ln) (p:PS) (a n:Nat),qF t p xs=.error (a,n)->n≠0/\n<=11
 | [],p,a,n,h=>by cases h
 | x::xs,p,a,n,h=>by
  have h':(match jL t p x with | .error e=>Except.error e | .ok q=>qF t q xs)=.error (a,n):=h
  cases ht:jL t p x with
  | error e =>
   rw[ht]at h'
   cases h'
   exact jbF ht
  | ok q =>
  rw[ht]at h'
  exact jeY t xs q a n h'
theorem Gq{t:List UInt8}{a n:Nat}(h:za t=.error (a,n)):n≠0/\n<=11:=by
 unfold za at h
 cases hr:qF t PS.new (jf t) with
 | error e =>
  rw[hr]at h
  cases h
  exact jeY t _ _ _ _ hr
 | ok p =>
 rw[hr]at h
 dsimp only at h
 unfold JK at h
 split at h
 ·rename_i hc
  cases h
  exact⟨hc,ZZ _⟩
 cases h
theorem WG{w w':World}{t:List UInt8}{e:Ending}{a n:Nat}(h:qM w t e w')(hp:za t=.error (a,n)):Below w.heap.size w w'/\e=.returned (.tuple #[.slice none 0 0,.int .i64 (a:Nat),.int .i64 (n:Nat)]):=by
 obtain⟨h1,h2⟩:=h
 rw[<- Kr,hp]at h2
 exact⟨h1,h2⟩
theorem Kh{w w':World}{t:List UInt8}{e:Ending}{its:List It}(h:qM w t e w')(hp:za t=.ok its):Below w.heap.size w w'/\∃v,e=.returned (.tuple #[v,.int .i64 (-9),.int .i64 0])/\Its w' v its:=by
 obtain⟨h1,h2⟩:=h
 rw[<- Kr,hp]at h2
 obtain⟨v,e1,i1,_⟩:=h2
 exact⟨h1,v,e1,i1⟩
end Go.Proofs.YtmdhainabeljpaaGreatDoor
namespace Go.Proofs.YtmdhainabeljpaaGreatDoor.Bk
open Go.RowKit Go.Shelf
attribute [local go_sem] jil
def Qf(t:List UInt8)(a k:Nat):Prop :=
 za (vk (t.drop (hl (Hd.genP t))))=.error (a,k) \/
 (k=10/\∃its bds r,za (vk (t.drop (hl (Hd.genP t))))=.ok its/\jbm Dc (t.drop (hl (Hd.genP t)+(vk (t.drop (hl (Hd.genP t)))).length)) bds r/\jeR Dc r/\a=bds.length)
theorem Qf.one{t:List UInt8}{a k a' k':Nat}(h:Qf t a k)(h':Qf t a' k'):a=a'/\k=k':=by
 rcases h with h|⟨rfl,its,bds,r,h1,h2,h3,rfl⟩<;>rcases h' with h'|⟨rfl,its',bds',r',h1',h2',h3',rfl⟩
 ·rw[h]at h'
  injection h' with h'
  exact⟨(Prod.mk.inj h').1,(Prod.mk.inj h').2⟩
 ·rw[h]at h1';cases h1'
 ·rw[h']at h1;cases h1
 obtain⟨rfl,_⟩:=xH h2 h2' (.inr h3) (.inr h3')
 exact⟨rfl,rfl⟩
theorem Qf.not{t:List UInt8}{a k n:Nat}{base tail:List UInt8}{bds:List (List UInt8)}(h:Qf t a k)(s:xO Dc t n base bds tail):False:=by
 have hn:Hd.genP t=n:=Hd.gen_one (Hd.genP_is t) s.gen
 obtain⟨its,hp⟩:=s.parse
 have hB:=s.isB
 unfold Qf at h
 rw[hn,hB]at h
 rcases h with h|⟨_,_,bds',r,_,h2,h3,_⟩
 ·rw[hp]at h;cases h
 obtain⟨rfl,rfl⟩:=xH h2 s.recd (.inr h3) (.inl s.fin)
 exact GP s.fin h3
theorem Qf.num{t:List UInt8}{a k:Nat}(h:Qf t a k):k≠0/\k<=11:=by
 rcases h with h|⟨rfl,_⟩
 ·exact Gq h
 exact⟨by decide,by decide⟩
theorem jbf.two{w w':World}{t:List UInt8}{e:Ending}(h:jbf w w' t e):Below w.heap.size w w' /\
  ((∃a k u,Qf t a k/\e=.returned (.tuple #[Ze,u])/\jz w.heap.size w' u a k)\/∃n base bds tail v,xO Dc t n base bds tail/\e=.returned (.tuple #[v,.nilIface])/\yg w.heap.size w' v n base bds tail):=by
 obtain⟨hb,h⟩:=h
 refine⟨hb,?_⟩
 rcases h with ⟨a,k,u,h1,h2,h3⟩|⟨its,bds,r,u,h1,h2,h3,h4,h5⟩|⟨base,bds,tail,v,h1,h2,h3⟩
 ·exact .inl ⟨a,k,u,.inl h1,h2,h3⟩
 ·exact .inl ⟨_,10,u,.inr ⟨rfl,its,bds,r,h1,h2,h3,rfl⟩,h4,h5⟩
 exact .inr ⟨_,base,bds,tail,v,h1,h2,h3⟩
end Go.Proofs.YtmdhainabeljpaaGreatDoor.Bk
namespace Go.Proofs.YtmdhainabeljpaaGreatDoor.Fr
open Go.RowKit Go.Shelf
attribute [local go_sem] jil
theorem vl{p:UInt8->Bool}{l:List UInt8}{k:Nat}(hk:k<=l.length)(h1:(l.take k).all p=true)(h2:k=l.length\/∃c,l[k]?=some c/\p c=false):(l.takeWhile p).length=k:=by
 have e:l=l.take k++l.drop k:=(jiy k l).symm
 rw[e,jjC (fun x hx=>List.all_eq_true.1 h1 x hx)]
 have hd:(l.drop k).takeWhile p=[]:=by
  rcases h2 with h|⟨c,hc,hp⟩
  ·rw[ji0 (by omega)];rfl
  obtain⟨hlt,hc⟩:=List.getElem?_eq_some_iff.1 hc
  rw[jiB hlt,jiR,hc,hp];rfl
 rw[hd,jix,jiE];omega
theorem XM{p:UInt8->Bool}{s:ByteArray}{k:Nat}(h:k<s.size)(h1:(s.data.toList.take k).all p=true)(h2:p s[k]=true):(s.data.toList.take (k+1)).all p=true:=by
 rw[Sm.take_snoc s k h,jjo,h1]
 simp[h2]
theorem yQ{s:ByteArray}{k:Nat}(h:k<s.size):s.data.toList[k]?=some s[k]:=by
 rw[jia (by rw[<- jij];exact h)];rfl
theorem Uk(s:ByteArray)(hs:s.size<=1000000)(w:World):
  Calls Tryz.prog 52 #[.string s] w fun e w'=>e=.returned (.int .i64 ((s.data.toList.takeWhile dgB).length:Int))/\w'=w:=by
 go_enter Tryz.func52,Tryz.ntmps52
 go_wp2_with fail
 go_loop [3] (fun i=>∃k:Nat,k<=s.size/\i=.int .i64 k/\(s.data.toList.take k).all dgB=true) (fun i=>s.size-(intOf i).toNat)
 case atStart=>exact⟨0,jii _,rfl,rfl⟩
 case round =>
 obtain⟨k,hk,rfl,ha⟩:=hrel
 by_cases hlt:k<s.size
 ·have hd:dgB s[k]=(decide (48<=s[k].toNat)&&decide (s[k].toNat<=57)):=rfl
  by_cases h1:48<=s[k].toNat
  ·have q1:(48:Int)<=(s[k].toNat:Int):=by omega
   by_cases h2:s[k].toNat<=57
   ·have q2:(s[k].toNat:Int)<=57:=by omega
    have HN:=jh5 (XM hlt ha (by rw[hd];simp[h1,h2]))
    clear ha hd
    go_wp2_with fail
    go_round
    case rel=>exact⟨k+1,by omega,by go_num,HN.out⟩
    case measure=>simp[intOf];omega
   have q2:¬(s[k].toNat:Int)<=57:=by omega
   have HN:=jh5 (vl (p:=dgB) (by rw[<- jij];omega) ha (.inr ⟨_,yQ hlt,by rw[hd];simp[h2]⟩))
   clear ha hd
   go_wp2_with fail
   go_ret
   exact⟨by rw[HN.out];rfl,rfl⟩
  have q1:¬(48:Int)<=(s[k].toNat:Int):=by omega
  have HN:=jh5 (vl (p:=dgB) (by rw[<- jij];omega) ha (.inr ⟨_,yQ hlt,by rw[hd];simp[h1]⟩))
  clear ha hd
  go_wp2_with fail
  go_ret
  exact⟨by rw[HN.out];rfl,rfl⟩
 obtain rfl:k=s.size:=by omega
 have HN:=jh5 (vl (p:=dgB) (by rw[<- jij];omega) ha (.inl (jij s)))
 clear ha
 go_wp2_with fail
 go_ret
 exact⟨by rw[HN.out];rfl,rfl⟩
theorem jf6(c:UInt8):VC c=(decide (48<=c.toNat/\c.toNat<=57) || decide (97<=c.toNat/\c.toNat<=102)):=by
 unfold VC Sm.val
 by_cases h:48<=c.toNat/\c.toNat<=57
 ·rw[if_pos h];simp[h]
 rw[if_neg h]
 by_cases h2:97<=c.toNat/\c.toNat<=102
 ·rw[if_pos h2];simp[h2]
 rw[if_neg h2];simp[h,h2]
theorem KI{s:ByteArray}{k:Nat}(h8:k<=8)(hk:k<=s.size)(h1:(s.data.toList.take k).all VC=true)(h2:k=s.size\/k=8\/∃h:k<s.size,VC s[k]=false):hx s.data.toList=k:=by
 unfold hx
 have e:=jij s
 refine vl (by simp;omega) (by rw[List.take_take,Nat.min_eq_left h8];exact h1) ?_
 rcases h2 with h|h|⟨h,hc⟩
 ·exact .inl (by simp;omega)
 ·exact .inl (by simp;omega)
 by_cases hk8:k=8
 ·exact .inl (by simp;omega)
 exact .inr ⟨_,by rw[List.getElem?_take,if_pos (by omega)];exact yQ h,hc⟩
theorem jf5(s:ByteArray)(hs:s.size<=1000000)(w:World):
  Calls Tryz.prog 53 #[.string s] w fun e w'=>e=.returned (.int .i64 (hx s.data.toList:Int))/\w'=w:=by
 go_enter Tryz.func53,Tryz.ntmps53
 go_wp2_with fail
 go_loop [3] (fun i=>∃k:Nat,k<=s.size/\k<=8/\i=.int .i64 k/\(s.data.toList.take k).all VC=true) (fun i=>s.size-(intOf i).toNat)
 case atStart=>exact⟨0,jii _,jii _,rfl,rfl⟩
 case round =>
 obtain⟨k,hk,hk8,rfl,ha⟩:=hrel
 by_cases hlt:k<s.size
 ·by_cases h8:k<8
  ·have q8:(k:Int)<8:=by omega
   have hh:=jf6 s[k]
   by_cases h1:48<=s[k].toNat
   ·have q1:(48:Int)<=(s[k].toNat:Int):=by omega
    by_cases h2:s[k].toNat<=57
    ·have q2:(s[k].toNat:Int)<=57:=by omega
     have HN:=jh5 (XM (p:=VC) hlt ha (by rw[hh];simp[h1,h2]))
     clear ha hh
     go_wp2_with fail
     go_round
     case rel=>exact⟨k+1,by omega,by omega,by go_num,HN.out⟩
     case measure=>simp[intOf];omega
    have q2:¬(s[k].toNat:Int)<=57:=by omega
    by_cases h3:97<=s[k].toNat
    ·have q3:(97:Int)<=(s[k].toNat:Int):=by omega
     by_cases h4:s[k].toNat<=102
     ·have q4:(s[k].toNat:Int)<=102:=by omega
      have HN:=jh5 (XM (p:=VC) hlt ha (by rw[hh];simp[h3,h4]))
      clear ha hh
      go_wp2_with fail
      go_round
      case rel=>exact⟨k+1,by omega,by omega,by go_num,HN.out⟩
      case measure=>simp[intOf];omega
     have q4:¬(s[k].toNat:Int)<=102:=by omega
     have HN:=jh5 (KI hk8 hk ha (.inr (.inr ⟨hlt,by rw[hh];simp[h2,h4]⟩)))
     clear ha hh
     go_wp2_with fail
     go_ret
     exact⟨by rw[HN.out];rfl,rfl⟩
    have q3:¬(97:Int)<=(s[k].toNat:Int):=by omega
    have HN:=jh5 (KI hk8 hk ha (.inr (.inr ⟨hlt,by rw[hh];simp[h2,h3]⟩)))
    clear ha hh
    go_wp2_with fail
    go_ret
    exact⟨by rw[HN.out];rfl,rfl⟩
   have q1:¬(48:Int)<=(s[k].toNat:Int):=by omega
   have h3:¬97<=s[k].toNat:=by omega
   have q3:¬(97:Int)<=(s[k].toNat:Int):=by omega
   have HN:=jh5 (KI hk8 hk ha (.inr (.inr ⟨hlt,by rw[hh];simp[h1,h3]⟩)))
   clear ha hh
   go_wp2_with fail
   go_ret
   exact⟨by rw[HN.out];rfl,rfl⟩
  have q8:¬(k:Int)<8:=by omega
  have HN:=jh5 (KI hk8 hk ha (.inr (.inl (by omega))))
  clear ha
  go_wp2_with fail
  go_ret
  exact⟨by rw[HN.out];rfl,rfl⟩
 obtain rfl:k=s.size:=by omega
 have HN:=jh5 (KI hk8 hk ha (.inl rfl))
 clear ha
 go_wp2_with fail
 go_ret
 exact⟨by rw[HN.out];rfl,rfl⟩
end Go.Proofs.YtmdhainabeljpaaGreatDoor.Fr
