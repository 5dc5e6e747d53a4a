/- Texts put together:QG,QH,NY,EU,ET. -/
import Derived.Test.YtbapfpekklcicaaGreatDoorBtx21
set_option linter.unusedVariables false
set_option maxRecDepth 100000
set_option maxHeartbeats 16000000
namespace Go.Proofs.YtbapfpekklcicaaGreatDoor
open Go.RowKit Go.Shelf Tryz
abbrev jrl:=@Nat.le_of_ble_eq_true
theorem jlO:(prog.info? 3).map (fun i=>(i.zero,i.size,i.bytes))=some (some (.int .i64 0),1,8):=by kernel_rfl
theorem Kp(xs:List Ln)(x:Ln):vI (xs++[x])=vI xs++[.int .i64 (jm x.text:Nat)]:=by unfold vI;simp
theorem jeL{t:List UInt8}{xs:List Ln}(h:jf t=xs){k:Nat}{x:Ln}(hx:xs[k]?=some x):x.no=k:=by
 have a:k<xs.length:=by
  rcases jpc k xs.length with q|q
  ·exact q
  rw[jpe q]at hx;cases hx
 have e:=jpp a;rw[joM a]at hx;rw[joN hx]at e;have:=(qX t (xs.take k) x (xs.drop (k+1)) (by rw[h,<- e,jpb])).1
 rw[this,joS];omega
theorem Gb:∀(a:List Ln),(∀y∈a,1<=y.bytes.length)->((zJ a).map List.length).sum<=(a.flatMap Ln.bytes).length/\(zJ a).length<=(a.flatMap Ln.bytes).length
 | [],_=>⟨joJ _,joJ _⟩
 | y::a,h=>by
  obtain⟨e,f⟩:=Gb a (fun z b=>h z (joU _ b));have c:=h y joV
  have d:y.text.length<=y.bytes.length:=by unfold Ln.bytes;simp
  rw[jo5,joK];unfold zJ;split
  ·simp only[jpr,jpR,joR];omega
  simp
theorem Ge{x:Ln}{xs:List Ln}(h:∀y∈x::xs,1<=y.bytes.length):((x.text::zJ xs).map List.length).sum<=((x::xs).flatMap Ln.bytes).length/\(x.text::zJ xs).length<=((x::xs).flatMap Ln.bytes).length:=by
 obtain⟨d,e⟩:=Gb xs (fun z a=>h z (joU _ a));have b:=h x joV
 have c:x.text.length<=x.bytes.length:=by unfold Ln.bytes;simp
 rw[jo5,joK];simp only[jpr,jpR,joR];omega
def jil(lo:Nat)(w:World)(v:Value)(its:List It):Prop :=
 ∃fvs,w.ownsRow lo 107 3 v its.length (jQ its fvs)/\fvs.length=its.length/\∀(j:Nat) it x,its[j]?=some it->fvs[j]?=some x->w.ownsRow lo 148 2 x it.fields.length (ju it.fields)
theorem YB.fresh{lo:Nat}{w wr:World}{v:Value}{fvs:List Value}{its:List It}(h:YB w wr v fvs its)(hl:lo<=w.heap.size):jil lo wr v its :=
 ⟨fvs,jA h.row hl,h.len,fun j c x a b=>jA (h.each j c x a b) hl⟩
def qO(w:World)(t:List UInt8)(e:Ending)(w':World):Prop :=
 Below w.heap.size w w'/\match yM t with
  | .error (a,n)=>e=.returned (.tuple #[.slice none 0 0,.int .i64 (a:Nat),.int .i64 (n:Nat)])
  | .ok its=>∃v,e=.returned (.tuple #[v,.int .i64 (-9),.int .i64 0])/\Its w' v its/\jil w.heap.size w' v its
theorem qO.no{w w':World}{t:List UInt8}{a n:Nat}(h:yM t=.error (a,n))(b:Below w.heap.size w w'):qO w t (.returned (.tuple #[.slice none 0 0,.int .i64 (a:Nat),.int .i64 (n:Nat)])) w':=⟨b,by rw[h]⟩
theorem qO.yes{w w':World}{t:List UInt8}{v:Value}{its:List It}(h:yM t=.ok its)(a:Below w.heap.size w w')(c:Its w' v its)(b:jil w.heap.size w' v its):qO w t (.returned (.tuple #[v,.int .i64 (-9),.int .i64 0])) w':=⟨a,by rw[h];exact⟨v,rfl,c,b⟩⟩
structure Ye(w wr:World)(nb:Nat)(s:RS)(u fv:Value)(fvs:List Value):Prop where
 acc:YB w wr u fvs s.out
 box:ja wr nb 107 #[.int .i64 s.kind,.string (B s.raw),fv]
 low:w.heap.size<=nb
 flds:wr.ownsRow w.heap.size 148 2 fv s.fields.length (ju s.fields)
 apart:u.ownBlock≠some nb
theorem Ye.kept{w wr w2:World}{c:Nat}{s:RS}{u b:Value}{fvs:List Value}(h:Ye w wr c s u b fvs)(a:Below wr.heap.size wr w2):Ye w w2 c s u b fvs :=
 ⟨h.acc.kept a,jb h.box a h.box.lt,h.low,jX h.flds a (joJ _),h.apart⟩
theorem jnK{w:World}{lo m d:Nat}{x:Value}{k:List Value}{b:Array Value}(hx:w.ownsRow lo 148 2 x m k)(i:ja w d 107 b):x.ownBlock≠some d:=by
 intro e;rcases hx.2 with ⟨rfl,_⟩|⟨g,f,c,rfl,_,j,_⟩
 ·cases e
 have:g=d:=joN e;subst this;have a:w.heap[g]?=some (.cells b 107 (0,0)):=i
 rw[j]at a;injection a with a;injection a with _ h _;exact absurd h (by decide)
theorem Ye.set{w wr:World}{a:Nat}{s s':RS}{u b:Value}{fvs:List Value}(h:Ye w wr a s u b fvs)(i:Nat)(v:Value)(g:#[.int .i64 s.kind,.string (B s.raw),b].setIfInBounds i v=#[.int .i64 s'.kind,.string (B s'.raw),b])(d:s'.out=s.out)(k:s'.fields=s.fields):Ye w (wr.setCell ⟨a,i,none⟩ v) a s' u b fvs:=by
 refine⟨⟨?_,?_,fun j f x c e => ?_,h.acc.below.setCell (p:=⟨a,i,none⟩) h.low v⟩,?_,h.low,?_,h.apart⟩
 ·rw[d];exact js (p:=⟨a,i,none⟩) h.acc.row h.apart v
 ·rw[d];exact h.acc.len
 ·rw[d]at c;exact js (p:=⟨a,i,none⟩) (h.acc.each j f x c e) (jnK (h.acc.each j f x c e) h.box) v
 ·rw[<- g];exact h.box.set i v
 rw[k];exact js (p:=⟨a,i,none⟩) h.flds (jnK h.flds h.box) v
theorem XS{w:World}{b c:Nat}(h:b≠c)(o i:Nat){v:Value}:(w.setCell ⟨c,i,none⟩ v).cell? ⟨b,o,none⟩=w.cell? ⟨b,o,none⟩ :=
 jpX (a:=⟨b,o,none⟩) (jpw _ _ _ _ h)
theorem Ye.drew{w wr:World}{b:Nat}{s:RS}{u a:Value}{fvs:List Value}(h:Ye w wr b s u a fvs):Ye w wr.drew b s u a fvs:=h.kept ((joL _ _).drew)
theorem Ye.put{w W g:World}{f:Nat}{s:RS}{u a i x:Value}{fvs:List Value}{it:It}(h:Ye w W f s u i fvs)(hx:W.ownsRow w.heap.size 148 2 x it.fields.length (ju it.fields))(j:g.ownsRow w.heap.size 107 3 a (s.out.length+1) (jQ s.out fvs++[.int .i64 it.kind,.string (B it.raw),x]))(o:Obj)(d:(W.alloc o).grownBy g u.ownBlock)(b:a.ownBlock=u.ownBlock\/a.ownBlock=some (W.heap.size+1)):Ye w g f {s with out:=s.out++[it]} a i (fvs++[x]):=by
 have c:=(joL W.heap.size W).alloc (joJ _) o;have hl:=h.box.lt
 refine⟨h.acc.snoc hx j o d,?_,h.low,?_,?_⟩
 ·exact(d.block f (by simp;omega) (fun e=>h.apart e.symm)).trans (jb h.box c hl)
 ·exact jli (jX h.acc.row c (joJ _)) (jX h.flds c (joJ _)) d
 intro e;rcases b with q|q
 ·exact h.apart (q.symm.trans e)
 rw[q]at e;have:=joN e
 omega
theorem Ye.setF{w wr:World}{b:Nat}{s s':RS}{u i a:Value}{fvs:List Value}(h:Ye w wr b s u i fvs)(k:s'.kind=s.kind)(l:s'.raw=s.raw)(d:s'.out=s.out)(f:wr.ownsRow w.heap.size 148 2 a s'.fields.length (ju s'.fields)):Ye w (wr.setCell ⟨b,2,none⟩ a) b s' u a fvs:=by
 refine⟨⟨?_,?_,fun j g x c e => ?_,h.acc.below.setCell (p:=⟨b,2,none⟩) h.low _⟩,?_,h.low,?_,h.apart⟩
 ·rw[d];exact js (p:=⟨b,2,none⟩) h.acc.row h.apart _
 ·rw[d];exact h.acc.len
 ·rw[d]at c;exact js (p:=⟨b,2,none⟩) (h.acc.each j g x c e) (jnK (h.acc.each j g x c e) h.box) _
 ·have:=h.box.set 2 a;rw[k,l];simpa using this
 exact js (p:=⟨b,2,none⟩) f (jnK f h.box) _
theorem Ye.fresh{w wr:World}{a:Nat}{s s':RS}{u b:Value}{fvs:List Value}(h:Ye w wr a s u b fvs)(f:s'.kind=2)(i:s'.raw=[])(g:s'.out=s.out)(e:s'.fields=[]):Ye w (((wr.setCell ⟨a,0,none⟩ (.int .i64 2)).setCell ⟨a,1,none⟩ (.string ⟨#[]⟩)).setCell ⟨a,2,none⟩ (.slice none 0 0)) a s' u (.slice none 0 0) fvs:=by
 have c:=h.set (s':={s with kind:=2}) 0 (.int .i64 2) rfl rfl rfl;have d:=c.set (s':={s with kind:=2,raw:=[]}) 1 (.string ⟨#[]⟩) rfl rfl rfl
 refine d.setF f i g ?_;rw[e];exact⟨rfl,.inl ⟨rfl,rfl⟩⟩
theorem VA(s:ByteArray)(hs:s.size<=60000)(w:World):
  Calls prog 56 #[.string s] w fun e w'=>qO w s.data.toList e w':=by
 obtain⟨xs,aw⟩:∃xs,jf s.data.toList=xs:=⟨_,rfl⟩
 have bW:=zO s.data.toList;rw[<- jo2,aw]at bW;have hj:(xs.flatMap Ln.bytes).length=s.size:=by rw[<- aw,jL,<- jo2]
 have aC:=joI aw;have aP:=joI (yv s (by omega) w)
 rw[aw]at aP;have HJ:=joI hj
 obtain⟨i0,hi,cd,ce,bL⟩:=info_parts jlO;clear aw hj;go_enter func56,ntmps56;go_wp2_with fail;refine aP.out.mono ?_;rintro e w1 ⟨lv,rfl,aV,b1⟩;obtain⟨la,lc,bU,_⟩:=je aV;subst bU;have aO:=joI (jeK aV)
 have bK:=b1.size;clear aV aP;go_wp2_with fail;go_loopw [6,7] (fun u i wr=>∃k:Nat,k<=xs.length/\i=.int .i64 k/\wr.ownsRow w1.heap.size 3 1 u k (vI (xs.take k))/\Below w1.heap.size w1 wr) (fun _ i _=>xs.length-(intOf i).toNat)
 case atStart=>exact⟨0,joT _,rfl,⟨rfl,.inl ⟨rfl,rfl⟩⟩,joL _ _⟩
 case round =>
 obtain⟨k,hk,rfl,z,hb⟩:=hrel;have aB:=hb.size
 by_cases G:k<xs.length
 ·obtain⟨x,hx⟩:∃x,xs[k]?=some x:=⟨_,joM G⟩
  obtain⟨A,cz,e,_,hc⟩:=aO.out.below hb (joJ _);cases e;obtain⟨b,cG,rfl,cB,c0,_⟩:=hc k x hx;have c8:x.text.length<=60000:=by
   have h1:x.bytes.length<=(xs.flatMap Ln.bytes).length:=by obtain⟨p1,p2,e⟩:=jqR (joW hx);rw[e,jpo,jo5,joK,joK];omega
   have h2:=HJ.out;have h3:x.text.length<=x.bytes.length:=by unfold Ln.bytes;simp
   omega
  have KD:=joI (vy (B x.text) (by rw[jg];omega) wr);rw[jj]at KD;have TK:=joI (show vI (xs.take (k+1))=vI (xs.take k)++[.int .i64 (jm x.text:Nat)] by rw[jpd,hx];exact Kp _ _)
  have HO:=joI z;clear hc hx z;go_wp2_with fail;refine KD.out.mono ?_;rintro e V ⟨rfl,H⟩;have aD:=hb.trans (H.mono aB)
  have av:=jX HO.out H (joJ _);have cw:=aD.size
  have HV:=joI (jfP V (.int .i64 (jm x.text:Nat)) 3);clear KD HO H c0;go_wp2_with (at_builtin;refine wpList_append_own _ rfl _ _ 23 rfl w1.heap.size 3 i0 _ 1 8 underlying23 hi cd ce bL rfl (by decide) _ _ _ rfl (av.alloc _) ⟨V.heap.size,0,none⟩ 1 1 _ rfl rfl HV.out ?c2 ?c3 ?c4 ?c5 ?_)
  case c2=>intro u O;simp at O;subst O;rfl
  case c3=>unfold maxLen;omega
  case c4=>omega
  case c5=>simp;omega
  intro v' w3 c f _;obtain⟨g',aa,rfl⟩:=ownsRow_succ c;have aR:Below w1.heap.size w1 w3:=(aD.alloc (by omega) _).grown f (by simp;omega) (fun j ej=>(av.lt j ej).1)
  go_wp2_with fail;go_roundw
  case rel=>exact⟨k+1,G,by go_num,by rw[TK.out];exact c,aR⟩
  case measure=>simp[intOf];omega
 obtain rfl:k=xs.length:=by omega
 rw[jpa]at z;obtain⟨ka,kc,bT,_⟩:=je z;subst bT;have KR:=joI (jeQ z)
 have aU:=b1.trans (hb.mono bK);have aj:=joI (aO.out.below hb (joJ _))
 clear z aO hb;obtain⟨g,c7⟩:∃g,g=wr:=⟨wr,rfl⟩
 subst c7;have co:=joI (fun(k:Nat) (x:Ln) (hx:xs[k]?=some x)=>jeL aC.out hx)
 have start:Ye g (g.alloc (.cells #[.int .i64 2,.string ⟨#[]⟩,.slice none 0 0] 107)) g.heap.size RS.new (.slice none 0 0) (.slice none 0 0) [] :=
  ⟨⟨⟨rfl,.inl ⟨rfl,rfl⟩⟩,rfl,fun j it x h=>by simp[RS.new]at h,(joL _ _).alloc (joJ _) _⟩,ja.new _ _ _,joJ _,⟨rfl,.inl ⟨rfl,rfl⟩⟩,fun e=>by cases e⟩
 have aL:∀x∈xs,1<=x.bytes.length:=by rw[<- aC.out];exact xw _ 0 0 _ (joJ _)
 have ai:=joI aL;have aH:=aU.size
 clear aL;go_wp2_with fail;go_loopw [8,10,11] (fun u r i wr=>∃(k:Nat) (st:RS) (fv:Value) (P:List Value),k<=xs.length/\i=.int .i64 k/\r=.int .i64 st.records/\Ye g wr g.heap.size st u fv P/\ZL RS.new xs=ZL st (xs.drop k)/\st.prev=yt xs k/\st.records<=k/\st.fields.length<=k/\st.out.length<=2*k/\st.raw.length<=60001*k) (fun _ _ i _=>xs.length-(intOf i).toNat)
 case atStart=>exact⟨0,RS.new,_,[],joT _,rfl,rfl,start,rfl,rfl,joJ _,joJ _,joJ _,joJ _⟩
 case round =>
 obtain⟨k,st,fv,P,hk,rfl,rfl,Y,D,aW,q1,q2,q3,q4⟩:=hrel;have K:=Y.acc.below
 have hb:=aU.trans (K.mono aH);obtain⟨fa,fc,bR,_⟩:=je Y.flds;subst bR;obtain⟨ua,uc,bY,_⟩:=je Y.acc.row;subst bY;have n0:wr.cell? ⟨g.heap.size,0,none⟩=some (.int .i64 st.kind):=Y.box.cell 0
 have n1:wr.cell? ⟨g.heap.size,1,none⟩=some (.string (B st.raw)):=Y.box.cell 1;have n2:wr.cell? ⟨g.heap.size,2,none⟩=some (.slice fa st.fields.length fc):=Y.box.cell 2
 have nl:=Y.box.lt;by_cases G:k<xs.length
 ·obtain⟨x,hx⟩:∃x,xs[k]?=some x:=⟨_,joM G⟩
  have q:xs.drop k=x::xs.drop (k+1):=by have e:=jpp G;rw[joM G]at hx;rw[joN hx]at e;exact e
  have bo:=aj.out.below K (joJ _);have bm:=KR.out.below K (joJ _)
  have aF:=Gb (xs.drop k) (fun y hy=>ai.out y (jpz hy));have bG:((xs.drop k).flatMap Ln.bytes).length<=s.size:=by
   rw[<- HJ.out]
   conv=>rhs;rw[<- jpb k xs,jpo,joK]
   omega
  have aG:=Ge (x:=x) (xs:=xs.drop (k+1)) (by rw[<- q];exact fun y hy=>ai.out y (jpz hy));rw[<- q]at aG;have WR:=joI (jfM xs _ _ k x st.fields.length st.records wr bo bm hx (by omega) (by omega) (by omega) (by omega) (by omega))
  rw[<- aW,<- jfL]at WR;have bJ:=co.out k x hx
  rw[q]at D;have d:ZL RS.new xs=if zv st x (xs.drop (k+1))≠0 then Except.error (x.no,zv st x (xs.drop (k+1))) else ZL (vG st x (xs.drop (k+1))) (xs.drop (k+1)):=D
  by_cases hn:zv st x (xs.drop (k+1))=0
  ·rw[if_neg (by rw[hn];decide)]at d;rw[hn]at WR;obtain⟨A9,ct,e9,_,bF⟩:=aj.out;cases e9;obtain⟨bl,ol,rfl,Q,l2,_⟩:=bF k x hx;obtain⟨A8,cr,e8,_,bE⟩:=KR.out;cases e8;obtain⟨bk,ok,rfl,am,k0⟩:=bE k x hx;replace l2:=(K.cell (p:=⟨bl,ol+k*4+1+1,none⟩) Q).trans l2;replace k0:=(K.cell (p:=⟨bk,ok+k,none⟩) am).trans k0;have aT:bl<wr.heap.size:=jo4 Q K.size
   have aS:bk<wr.heap.size:=jo4 am K.size;have aM:bk≠g.heap.size:=jqY am
   have cy:bl≠g.heap.size:=jqY Q;have c8:x.text.length<=60000:=by have h1:=aG.1;simp only[jpr,jpR]at h1;omega
   have aB:=hb.size;have ci:=K.size
   have NX:=joI d;have PK:Hid (∀m,m=jm x.text->m=yt xs (k+1)):=by show ∀m,_;intro m hm;unfold yt;rw[if_neg (by omega),Nat.add_sub_cancel,hx];exact hm
   have HV:=joI Y;have zr:=jg st.raw
   have zt:=jg x.text;have L:=ZU x.text
   have bi:Hid (∀y∈x::xs.drop (k+1),1<=y.bytes.length):=by show ∀y,_;rw[<- q];exact fun y hy=>ai.out y (jpz hy)
   have bg:Hid (((x::xs.drop (k+1)).flatMap Ln.bytes).length<=60000):=by show _<=_;rw[<- q];omega
   clear D d bG aF aG Y bE bF q start bJ n0 n1;by_cases ag:jm x.text=1
   ·have C:vG st x (xs.drop (k+1))=⟨st.out++st.block++[⟨1,x.text++[10],[]⟩],2,[],[],st.records,1⟩:=by unfold vG;rw[if_pos ag]
    rw[C]at NX;have X:=joI (PK.out 1 ag.symm)
    rw[ag]at k0;have bB:B x.text ++ ⟨#[10]⟩=B (x.text++[10]):=jn _ [10]
    have be:=joI bB;obtain⟨i1,aq,ax,ay,aA⟩:=info_parts xz;have bZ:st.out.length<=200000:=by omega
    clear C hx L PK ag bB;go_wp2_with fail;refine WR.out.mono ?_;rintro e V ⟨rfl,H⟩;have J:=HV.out.kept H
    have n0:V.cell? ⟨g.heap.size,0,none⟩=some (.int .i64 st.kind):=J.box.cell 0;have n1:V.cell? ⟨g.heap.size,1,none⟩=some (.string (B st.raw)):=J.box.cell 1
    have bN:V.cell? ⟨g.heap.size,2,none⟩=some (.slice fa st.fields.length fc):=J.box.cell 2;have cm:=J.box.lt
    have a8:=(H.cell (p:=⟨bl,ol+k*4+1+1,none⟩) aT).trans l2;have U:=(H.cell (p:=⟨bk,ok+k,none⟩) aS).trans k0
    have bL:=H.size;have VH:=joI J
    have I:=J.acc.row;have bX:=J.acc.below.size
    clear WR HV J H l2 k0 n2;by_cases R:st.raw=[]
    ·have o:st.block=[]:=by unfold RS.block;rw[if_pos R]
     rw[o,jo9]at NX;have e1:((B st.raw).toList==[])=true:=by rw[R,jpn,jj];rfl
     have e2:((B st.raw).toList != [])=false:=by rw[R,jpn,jj];rfl
     have HI:=joI (jp V 107 [.int .i64 1,.string (B x.text ++ ⟨#[10]⟩),.slice none 0 0]);clear R o;go_wp2_with (at_builtin;refine wpList_append_own_at _ rfl _ _ 92 rfl g.heap.size 107 i1 _ 3 48 underlying92 aq ax ay aA rfl (by decide) _ _ _ rfl (I.alloc _) ⟨V.heap.size,0,none⟩ 1 1 _ rfl rfl HI.out ?c2 ?c3 ?c4 ?c5 ?_)
     case c2=>intro u O;simp at O;rcases O with rfl | rfl | rfl<;>rfl
     case c3=>unfold maxLen;omega
     case c4=>omega
     case c5=>simp;omega
     intro v' w3 c f _ ak;rw[be.out]at c;have E:=VH.out.put (it:=⟨1,x.text++[10],[]⟩) (x:=.slice none 0 0) ⟨rfl,.inl ⟨rfl,rfl⟩⟩ c _ f ak
     obtain⟨g',aa,rfl⟩:=ownsRow_succ c;have f0:=E.box.frozen 0
     have f1:=E.box.frozen 1;have f2:=E.box.frozen 2
     have m0:w3.cell? ⟨g.heap.size,0,none⟩=some (.int .i64 st.kind):=E.box.cell 0;have m1:w3.cell? ⟨g.heap.size,1,none⟩=some (.string (B st.raw)):=E.box.cell 1
     have m2:w3.cell? ⟨g.heap.size,2,none⟩=some (.slice fa st.fields.length fc):=E.box.cell 2;have V4:=joI (E.fresh (s':=⟨st.out++[⟨1,x.text++[10],[]⟩],2,[],[],st.records,1⟩) rfl rfl rfl rfl)
     clear E VH I n0 n1 bN a8 U e1 e2 c f ak HI;go_wp2_with fail;go_roundw
     case rel=>exact⟨k+1,⟨st.out++[⟨1,x.text++[10],[]⟩],2,[],[],st.records,1⟩,_,_,G,by go_num,rfl,V4.out,NX.out,X.out,by show st.records<=_;omega,joT _,by show(st.out++[_]).length<=_;simp;omega,joT _⟩
     case measure=>simp[intOf];omega
    have o:st.block=[⟨st.kind,st.raw,st.fields⟩]:=by unfold RS.block;rw[if_neg R]
    rw[o]at NX;have hB:(B st.raw).toList=st.raw:=by rw[jpn,jj]
    have e1:((B st.raw).toList==[])=false:=by rw[hB];simpa using R
    have e2:((B st.raw).toList != [])=true:=by rw[hB];simpa using R
    have HI:=joI (jp V 107 [.int .i64 st.kind,.string (B st.raw),.slice fa st.fields.length fc]);clear R o hB;go_wp2_with (at_builtin;refine wpList_append_own_at _ rfl _ _ 92 rfl g.heap.size 107 i1 _ 3 48 underlying92 aq ax ay aA rfl (by decide) _ _ _ rfl (I.alloc _) ⟨V.heap.size,0,none⟩ 1 1 _ rfl rfl HI.out ?c2 ?c3 ?c4 ?c5 ?_)
    case c2=>intro u O;simp at O;rcases O with rfl | rfl | rfl<;>rfl
    case c3=>unfold maxLen;omega
    case c4=>omega
    case c5=>simp;omega
    intro v' w3 c f _ ak;have E:=VH.out.put (it:=⟨st.kind,st.raw,st.fields⟩) VH.out.flds c _ f ak
    obtain⟨g',aa,rfl⟩:=ownsRow_succ c;have b3:=E.acc.below
    have ck:w3.cell? ⟨bl,ol+k*4+1+1,none⟩=some (.string (B x.text)):=by rw[b3.cell (p:=⟨bl,ol+k*4+1+1,none⟩) Q,<- VH.out.acc.below.cell (p:=⟨bl,ol+k*4+1+1,none⟩) Q];exact a8
    have a7:=E.acc.row;have bu:=joI E
    have cC:=E.box.lt;have bj:=joI (jp w3 107 [.int .i64 1,.string (B x.text ++ ⟨#[10]⟩),.slice none 0 0])
    have ar:(st.out++[(⟨st.kind,st.raw,st.fields⟩:It)]).length=st.out.length+1:=by simp
    simp only[ar]at a7;clear E VH I n0 n1 bN a8 U e1 e2 c f ak HI b3;go_wp2_with (at_builtin;refine wpList_append_own_at _ rfl _ _ 92 rfl g.heap.size 107 i1 _ 3 48 underlying92 aq ax ay aA rfl (by decide) _ _ _ rfl (a7.alloc _) ⟨w3.heap.size,0,none⟩ 1 1 _ rfl rfl bj.out ?d2 ?d3 ?d4 ?d5 ?_)
    case d2=>intro u O;simp at O;rcases O with rfl | rfl | rfl<;>rfl
    case d3=>unfold maxLen;omega
    case d4=>omega
    case d5=>simp;omega
    intro cH w4 N ae _ aI;rw[be.out]at N;have V4:=bu.out.put (it:=⟨1,x.text++[10],[]⟩) (x:=.slice none 0 0) ⟨rfl,.inl ⟨rfl,rfl⟩⟩ (by show w4.ownsRow _ _ _ _ ((st.out++[(⟨st.kind,st.raw,st.fields⟩:It)]).length+1) _;rw[ar];exact N) _ ae aI
    obtain⟨g4,cp,rfl⟩:=ownsRow_succ N;have f0:=V4.box.frozen 0
    have f1:=V4.box.frozen 1;have f2:=V4.box.frozen 2
    have m0:w4.cell? ⟨g.heap.size,0,none⟩=some (.int .i64 st.kind):=V4.box.cell 0;have m1:w4.cell? ⟨g.heap.size,1,none⟩=some (.string (B st.raw)):=V4.box.cell 1
    have m2:w4.cell? ⟨g.heap.size,2,none⟩=some (.slice fa st.fields.length fc):=V4.box.cell 2;have V5:=joI (V4.fresh (s':=⟨st.out++[⟨st.kind,st.raw,st.fields⟩]++[⟨1,x.text++[10],[]⟩],2,[],[],st.records,1⟩) rfl rfl rfl rfl)
    clear V4 bu a7 ck N ae aI bj;go_wp2_with fail;go_roundw
    case rel=>exact⟨k+1,⟨st.out++[⟨st.kind,st.raw,st.fields⟩]++[⟨1,x.text++[10],[]⟩],2,[],[],st.records,1⟩,_,_,G,by go_num,rfl,V5.out,NX.out,X.out,by show st.records<=_;omega,joT _,by show(st.out++[_]++[_]).length<=_;simp;omega,joT _⟩
    case measure=>simp[intOf];omega
   by_cases ah:jm x.text=4
   ·obtain⟨ls,au⟩:∃ls,x.text::zJ (xs.drop (k+1))=ls:=⟨_,rfl⟩
    have C:vG st x (xs.drop (k+1))=⟨st.out,3,st.raw++x.text++[10],st.fields++[(jW ls,jV ls)],if st.kind=2 then st.records+1 else st.records,4⟩:=by unfold vG;rw[if_neg (by omega),if_pos ah,au]
    rw[C]at NX;have X:=joI (PK.out 4 ah.symm)
    rw[ah]at k0;have HX:=joI hx
    have bQ:=joI ah;have af:=joI au
    have aF:=(Ge (x:=x) (xs:=xs.drop (k+1)) (bi.out)).1;have bH:=(Ge (x:=x) (xs:=xs.drop (k+1)) (bi.out)).2
    have cD:(ls.map List.length).sum<=60000:=by rw[<- au];have:=bg.out;omega
    have bX:ls.length<=60000:=by rw[<- au];have:=bg.out;omega
    have cj:(((4:Nat):Int)==1)=false:=rfl;clear C hx L PK ag ah au aF bH;go_wp2_with fail;refine WR.out.mono ?_;rintro e V ⟨rfl,H⟩;have J:=HV.out.kept H
    have n1:V.cell? ⟨g.heap.size,1,none⟩=some (.string (B st.raw)):=J.box.cell 1;have aY:=J.box.frozen 1
    have cm:=J.box.lt;have a8:=(H.cell (p:=⟨bl,ol+k*4+1+1,none⟩) aT).trans l2
    have U:=(H.cell (p:=⟨bk,ok+k,none⟩) aS).trans k0;have VV:=joI (fun aZ h1 h2 h3=>J.set (s':=aZ) 1 (.string (B st.raw++B x.text ++ ⟨#[10]⟩)) h1 h2 h3)
    clear WR HV J H l2 k0 n2;go_wp2_with fail;go_cut [] (fun wx=>Ye g wx g.heap.size {st with raw:=st.raw++x.text++[10]} (.slice ua st.out.length uc) (.slice fa st.fields.length fc) P/\wx.cell? ⟨bk,ok+k,none⟩=some (.int .i64 4))
    case first =>
     go_region
     all_goals
      go_wp2;go_meet;refine⟨Ye.drew (VV.out _ ?_ rfl rfl),?_⟩
      ·show #[_,_,_]=_;rw[<- jn,<- jn];rfl
      show((V.setCell ⟨g.heap.size,1,none⟩ _).drew).cell? ⟨bk,ok+k,none⟩=_;exact(XS aM _ _).trans U
    case rest =>
    obtain⟨E,bM⟩:=hcut;have n0:wc.cell? ⟨g.heap.size,0,none⟩=some (.int .i64 st.kind):=E.box.cell 0
    have cl:=E.box.frozen 0;have cF:=E.box.lt
    have cA:=E.acc.below.size;have VH:=joI E
    clear E VV a8 U n1 aY;by_cases aE:st.kind=2
    case' pos =>
     have c0:((st.kind:Int)==2)=true:=by rw[aE];rfl
     rw[if_pos aE]at NX
    case' neg =>
     have c0:((st.kind:Int)==2)=false:=beq_eq_false_iff_ne.2 aE;rw[if_neg aE]at NX
    all_goals
     have V4:=VH.out.set (s':={st with raw:=st.raw++x.text++[10],kind:=3}) 0 (.int .i64 3) rfl rfl rfl;have bC:=V4.acc.below
     have SD:=joI (jaA xs _ _ k x _ (aj.out.below bC (joJ _)) (KR.out.below bC (joJ _)) HX.out (by omega));rw[af.out]at SD;have bw:=joI V4
     clear V4 VH;go_wp2_with fail;refine SD.out.mono ?_;rintro e w5 ⟨sv,rfl,z,b5⟩;have aX:=z.strs
     obtain⟨Av,cu,rfl,_,_⟩:=id aX;have UF:=joI (xm x.text (zJ (xs.drop (k+1))) _ w5 (by rw[af.out];exact aX) (by rw[af.out];exact fun l hl=>by have:=ja1 _ _ hl;omega) (by rw[af.out];omega) (by rw[af.out];have:=ZJ ls;omega) bQ.out)
     rw[af.out,jo8]at UF;have bz:=joI (bw.out.kept b5)
     unfold zC at UF;clear z aX SD bw b5 n0 cl;generalize jW ls=uk at *
     generalize jV ls=uv at *
     generalize jy ls=un at *
     go_wp2_with fail;refine UF.out.mono ?_;rintro e w6 ⟨rfl,b6⟩;have bA:=joI (bz.out.kept b6)
     clear UF bz b6;go_upto_region 29 with fail;have aJ:Below w6.heap.size w6 (w6.alloc (.cells #[.string (B uk),.string (B uv)] 148)):=(joL _ _).alloc (joJ _) _
     have V7:=joI (bA.out.kept aJ);have FB:=ja.new w6 148 #[.string (B uk),.string (B uv)]
     generalize w6.alloc (.cells #[.string (B uk),.string (B uv)] 148)=W3 at *
     have aK:∀u∈ju st.fields,u.oneCell'=true:=by intro u O;unfold ju at O;simp at O;obtain⟨a,b,_,h|h⟩:=O<;>subst h<;>rfl
     refine region29x _ _ g.heap.size w6.heap.size st.fields.length (.slice fa st.fields.length fc) (ju st.fields) (B uk) (B uv) _ _ _ ?h9 ?h13 ?hsz V7.out.box FB (jA V7.out.flds (joT _)) aK (by omega) ?_
     case h9=>kernel_rfl
     case h13=>kernel_rfl
     case hsz=>exact jrl (by kernel_rfl)
     intro y0 y1 y2 y3 y4 y5 y6 y7 bO g2 c2 bb o2;have V9:∀nr,Hid (Ye g (bO.setCell ⟨g.heap.size,2,none⟩ (sl g2 (st.fields.length+1) c2)) g.heap.size ⟨st.out,3,st.raw++x.text++[10],st.fields++[(uk,uv)],nr,4⟩ (.slice ua st.out.length uc) (sl g2 (st.fields.length+1) c2) P):=fun nr =>
      (V7.out.kept bb).setF rfl rfl rfl (by show bO.ownsRow _ _ _ _ (st.fields++[(uk,uv)]).length _;rw[joK,XQ];exact jA o2 V7.out.acc.below.size)
     clear bb o2 V7 FB aK aJ bA;dsimp only;simp only[jo3,jpF,jpG];go_wp2_with fail;go_roundw
     case rel =>
      first | exact⟨k+1,⟨st.out,3,st.raw++x.text++[10],st.fields++[(uk,uv)],st.records+1,4⟩,_,P,G,by go_num,rfl,(V9 _).out,NX.out,X.out,by show st.records+1<=_;omega,by show(st.fields++[_]).length<=_;rw[joK];simp only[jpA];omega,by show st.out.length<=_;omega,by show(st.raw++x.text++[10]).length<=_;simp;omega⟩ | exact⟨k+1,⟨st.out,3,st.raw++x.text++[10],st.fields++[(uk,uv)],st.records,4⟩,_,P,G,by go_num,rfl,(V9 _).out,NX.out,X.out,by show st.records<=_;omega,by show(st.fields++[_]).length<=_;rw[joK];simp only[jpA];omega,by show st.out.length<=_;omega,by show(st.raw++x.text++[10]).length<=_;simp;omega⟩
     case measure=>simp[intOf];omega
   have cj:(((jm x.text:Nat):Int)==1)=false:=beq_eq_false_iff_ne.2 (by omega);have cE:(((jm x.text:Nat):Int)==4)=false:=beq_eq_false_iff_ne.2 (by omega)
   have C:vG st x (xs.drop (k+1))={st with raw:=st.raw++x.text++[10],prev:=jm x.text}:=by unfold vG;rw[if_neg ag,if_neg ah]
   rw[C]at NX;have X:=joI (PK.out _ rfl)
   clear C hx L;generalize jm x.text=kn at *
   go_wp2_with fail;refine WR.out.mono ?_;rintro e V ⟨rfl,H⟩;have J:=HV.out.kept H
   have n1:V.cell? ⟨g.heap.size,1,none⟩=some (.string (B st.raw)):=J.box.cell 1;have aY:=J.box.frozen 1
   have a8:=(H.cell (p:=⟨bl,ol+k*4+1+1,none⟩) aT).trans l2;have U:=(H.cell (p:=⟨bk,ok+k,none⟩) aS).trans k0
   have VV:=joI (fun aZ h1 h2 h3=>J.set (s':=aZ) 1 (.string (B st.raw++B x.text ++ ⟨#[10]⟩)) h1 h2 h3);clear WR HV J H l2 k0 n2;go_wp2_with fail;go_cut [] (fun wx=>Ye g wx g.heap.size {st with raw:=st.raw++x.text++[10],prev:=kn} (.slice ua st.out.length uc) (.slice fa st.fields.length fc) P/\wx.cell? ⟨bk,ok+k,none⟩=some (.int .i64 (kn:Nat)))
   case first =>
    go_region
    all_goals
     go_wp2;go_meet;refine⟨Ye.drew (VV.out _ ?_ rfl rfl),?_⟩
     ·show #[_,_,_]=_;rw[<- jn,<- jn];rfl
     show((V.setCell ⟨g.heap.size,1,none⟩ _).drew).cell? ⟨bk,ok+k,none⟩=_;exact(XS aM _ _).trans U
   case rest =>
   obtain⟨E,bM⟩:=hcut;have VH:=joI E
   clear E VV a8 U n1 aY;go_wp2_with fail;go_roundw
   case rel=>exact⟨k+1,{st with raw:=st.raw++x.text++[10],prev:=kn},_,P,G,by go_num,rfl,VH.out,NX.out,X.out,by show st.records<=_;omega,by show st.fields.length<=_;omega,by show st.out.length<=_;omega,by show(st.raw++x.text++[10]).length<=_;simp;omega⟩
   case measure=>simp[intOf];omega
  rw[if_pos hn,bJ]at d;have W:=joI (fun w' (aQ:Below w.heap.size w w')=>qO.no (w:=w) (t:=s.data.toList) (w':=w') (a:=k) (n:=zv st x (xs.drop (k+1))) (by unfold yM;rw[aC.out,d]) aQ)
  obtain⟨n,bI⟩:∃n,zv st x (xs.drop (k+1))=n:=⟨_,rfl⟩
  rw[bI]at WR W hn;have z1:((n:Int) != 0)=true:=by simp;omega
  have aB:=hb.size;clear D d bI bG aF aG bo bm Y q hx start;go_wp2_with fail;refine WR.out.mono ?_;rintro e V ⟨rfl,H⟩;have aD:=hb.trans (H.mono aB)
  clear WR;go_wp2_with fail;refine bodyPost_ret (v:=.tuple #[.slice none 0 0,.int .i64 (k:Nat),.int .i64 (n:Nat)]) (by simp[results,results56,go_sem]) rfl ?_;exact W.out _ aD
 obtain rfl:k=xs.length:=by omega
 rw[jpE (joJ _)]at D;have d:ZL RS.new xs=.ok st:=D
 have W:=joI (fun w' v (aQ:Below w.heap.size w w') (hi:Its w' v (st.out++st.block)) (hf:jil w.heap.size w' v (st.out++st.block))=>qO.yes (w:=w) (t:=s.data.toList) (w':=w') (v:=v) (by unfold yM;rw[aC.out,d]) aQ hi hf);have aN:=joI Y.acc
 have bP:=joI Y.flds;have ci:=K.size
 have aB:=hb.size;by_cases R:st.raw=[]
 ·have o:st.block=[]:=by unfold RS.block;rw[if_pos R]
  rw[o,jo9]at W;have e1:((B st.raw).toList==[])=true:=by rw[R,jpn,jj];rfl
  have e2:((B st.raw).toList != [])=false:=by rw[R,jpn,jj];rfl
  clear D d Y start o R;go_wp2_with fail;refine bodyPost_ret (v:=.tuple #[.slice ua st.out.length uc,.int .i64 (-9),.int .i64 0]) (by simp[results,results56,go_sem]) rfl ?_;exact W.out _ _ hb aN.out.its (aN.out.fresh aH)
 have o:st.block=[⟨st.kind,st.raw,st.fields⟩]:=by unfold RS.block;rw[if_neg R]
 rw[o]at W;have hB:(B st.raw).toList=st.raw:=by rw[jpn,jj]
 have e1:((B st.raw).toList==[])=false:=by rw[hB];simpa using R
 have e2:((B st.raw).toList != [])=true:=by rw[hB];simpa using R
 obtain⟨i1,aq,ax,ay,aA⟩:=info_parts xz;have I:=Y.acc.row
 have bZ:st.out.length<=200000:=by omega
 have HV:=joI (jp wr 107 [.int .i64 st.kind,.string (B st.raw),.slice fa st.fields.length fc]);clear D d Y start o R hB;go_wp2_with (at_builtin;refine wpList_append_own _ rfl _ _ 92 rfl g.heap.size 107 i1 _ 3 48 underlying92 aq ax ay aA rfl (by decide) _ _ _ rfl (I.alloc _) ⟨wr.heap.size,0,none⟩ 1 1 _ rfl rfl HV.out ?c2 ?c3 ?c4 ?c5 ?_)
 case c2=>intro u O;simp at O;rcases O with rfl | rfl | rfl<;>rfl
 case c3=>unfold maxLen;omega
 case c4=>omega
 case c5=>simp;omega
 intro v' w3 c f _;have Z:=aN.out.snoc (it:=⟨st.kind,st.raw,st.fields⟩) bP.out c _ f
 obtain⟨g',aa,rfl⟩:=ownsRow_succ c;have aR:=aU.trans (Z.below.mono aH)
 go_wp2_with fail;refine bodyPost_ret (v:=.tuple #[.slice (some ⟨g',0,none⟩) (st.out.length+1) aa,.int .i64 (-9),.int .i64 0]) (by simp[results,results56,go_sem]) rfl ?_;exact W.out _ _ aR Z.its (Z.fresh aH)
theorem jfX{t:List UInt8}{p:PS}{x:Ln}{a n:Nat}(h:zq t p x=.error (a,n)):n≠0/\n<=11:=by
 unfold zq at h;split at h
 ·rename_i b;cases h;exact⟨b.2,VS _⟩
 split at h
 ·cases h;exact⟨by decide,by decide⟩
 cases h
theorem jku(t:List UInt8):∀(c:List Ln) (p:PS) (a n:Nat),qU t p c=.error (a,n)->n≠0/\n<=11
 | [],p,a,n,h=>by cases h
 | x::c,p,a,n,h=>by
  have b:(match zq t p x with | .error e=>Except.error e | .ok q=>qU t q c)=.error (a,n):=h;cases d:zq t p x with
  | error e =>
   rw[d]at b;cases b;exact jfX d
  | ok q =>
  rw[d]at b;exact jku t c q a n b
theorem Yo{t:List UInt8}{a n:Nat}(h:jD t=.error (a,n)):n≠0/\n<=11:=by
 unfold jD at h;cases b:qU t PS.new (jf t) with
 | error e =>
  rw[b]at h;cases h;exact jku t _ _ _ _ b
 | ok p =>
 rw[b]at h;dsimp only at h;unfold ZS at h;split at h
 ·rename_i c;cases h;exact⟨c,VS _⟩
 cases h
theorem YP{w w':World}{t:List UInt8}{e:Ending}{a n:Nat}(h:qO w t e w')(d:jD t=.error (a,n)):Below w.heap.size w w'/\e=.returned (.tuple #[.slice none 0 0,.int .i64 (a:Nat),.int .i64 (n:Nat)]):=by obtain⟨c,b⟩:=h;rw[<- YX,d]at b;exact⟨c,b⟩
theorem jaE{w w':World}{t:List UInt8}{e:Ending}{its:List It}(h:qO w t e w')(d:jD t=.ok its):Below w.heap.size w w'/\∃v,e=.returned (.tuple #[v,.int .i64 (-9),.int .i64 0])/\Its w' v its:=by obtain⟨c,a⟩:=h;rw[<- YX,d]at a;obtain⟨v,b,f,_⟩:=a;exact⟨c,v,b,f⟩
theorem jaF{w w':World}{t:List UInt8}{e:Ending}{its:List It}(h:qO w t e w')(c:jD t=.ok its):Below w.heap.size w w'/\∃v,e=.returned (.tuple #[v,.int .i64 (-9),.int .i64 0])/\Its w' v its/\jil w.heap.size w' v its:=by obtain⟨b,a⟩:=h;rw[<- YX,c]at a;exact⟨b,a⟩
section
attribute [local go_sem] joY
def jnE(w:World)(t:List UInt8)(e:Ending)(w':World):Prop :=
 Below w.heap.size w w'/\match jD t with
  | .error (a,n)=>e=.returned (.tuple #[.agg #[.slice none 0 0,.int .i64 0],.int .i64 (a:Nat),.int .i64 (n:Nat)])
  | .ok its=>∃v qs,e=.returned (.tuple #[.agg #[v,.int .i64 (zF its).next],.int .i64 (-9),.int .i64 0])/\zK w' v qs/\qs.map Prod.fst=(zF its).es/\(∀b,v.ownBlock=some b->w.heap.size<=b)/\(∀q∈qs,∀b,q.2.ownBlock=some b->w.heap.size<=b)
theorem yI.next{w wr:World}{a:Nat}{v:Value}{b:List Pr}{c:Int}(h:yI w wr a v b c)(n:Int):yI w (wr.setCell ⟨a,1,none⟩ (.int .i64 n)) a v b n:=by
 refine⟨?_,js h.row h.ne _,h.below.setCell (p:=⟨a,1,none⟩) h.lo _,h.lo⟩;have:=h.head.set 1 (.int .i64 n)
 simpa [List.setIfInBounds_toArray,List.set]using this
theorem jhc{its:List It}{k:Nat}{it:It}(h:its[k]?=some it):zT 1 (its.take (k+1))=zT 1 (its.take k)++[(it,if it.kind=3 then jI 1 (its.take k) else 0)]/\jI 1 (its.take (k+1))=if it.kind=3 then jI 1 (its.take k)+1 else jI 1 (its.take k):=by
 have e:its.take (k+1)=its.take k++[it]:=by rw[jpd,h];rfl
 rw[e];exact Qa 1 _ it
theorem jex(s:ByteArray)(hs:s.size<=60000)(w:World):Calls prog 35 #[.string s] w fun e w'=>jnE w s.data.toList e w':=by
 obtain⟨Z,O⟩:∃Z,Z=w.alloc (.cells #[.slice none 0 0,.int .i64 0] 37):=⟨_,rfl⟩
 have b1:Below w.heap.size w Z:=by rw[O];exact(joL _ w).alloc (joJ _) _
 have BX:=joI (show ja Z w.heap.size 37 #[.slice none 0 0,.int .i64 0] by rw[O];exact ja.new _ _ _);have PA:=joI (VA s hs Z)
 have aa:=joI b1;have aw:=b1.size
 have a8:Z.heap.size=w.heap.size+1:=by rw[O];simp
 have aD:=joI a8;clear b1 a8;go_enter func35,ntmps35;go_wp2_with fail;rw[<- O];clear O;refine PA.out.mono ?_;rintro e o hP;clear PA;cases hp:jD s.data.toList with
 | error an =>
  obtain⟨a,n⟩:=an;obtain⟨b2,rfl⟩:=YP hP hp;have hn:n≠0:=(Yo hp).1
  have R:=jb BX.out b2 BX.out.lt;have U:=joI (aa.out.trans (b2.mono aw))
  have c0:=R.cell 0;have c1:=R.cell 1
  have f0:=R.frozen 0;have f1:=R.frozen 1
  simp only[joQ,joP,joO]at c0 c1;have aP:((n:Int) != 0)=true:=bne_iff_ne.2 (by omega)
  have HD:=joI R;have HP:=joI hp
  clear hP b2 hp R;go_wp2_with fail;have RE:=((HD.out.set 0 (.slice none 0 0)).set 1 (.int .i64 0))
  rw[Qs]at RE;refine bodyPost_ret (Vt rfl _ _ w.heap.size _ rfl RE rfl) rfl ?_;refine⟨(U.out.setCell (p:=⟨w.heap.size,0,none⟩) (joJ _) _).setCell (p:=⟨w.heap.size,1,none⟩) (joJ _) _,?_⟩;rw[HP.out];rfl
 | ok l =>
 obtain⟨b2,v,rfl,_,ai,c,aj,P⟩:=jaF hP hp;have aG:=(ye hp).2.1
 rw[<- jo2]at aG;have U:=joI (aa.out.trans (b2.mono aw))
 have R:=joI (jb BX.out b2 BX.out.lt);have aJ:=U.out.size
 have aM:=b2.size;have aL:w.heap.size<o.heap.size:=by have:=R.out.lt;omega
 obtain⟨va,vc,rfl,_⟩:=je c;have af:=joI c
 have aA:=joI aj;have ay:=joI P
 have HP:=joI hp;obtain⟨i0,hi,ar,au,av⟩:=info_parts jjm;clear hP hp b2 c aj P BX;go_wp2_with fail;go_loopw [9] (fun i wr=>∃(k:Nat) (u:Value) (z:List Pr),k<=l.length/\i=.int .i64 k/\yI o wr o.heap.size u z (jI 1 (l.take k))/\z.map Prod.fst=zT 1 (l.take k)/\(∀q∈z,vP o q.2 q.1.1.fields/\∀b,q.2.ownBlock=some b->Z.heap.size<=b)) (fun i _=>l.length-(intOf i).toNat)
 case atStart=>exact⟨0,_,[],joT _,rfl,yI.start o 1,rfl,fun q h=>by cases h⟩
 case round =>
 obtain⟨k,u,z,hk,rfl,d,N,I⟩:=hrel;have hb:=d.below
 have aT:=hb.size;have g0:wr.cell? ⟨o.heap.size,0,none⟩=some u:=d.head.cell 0
 have g1:wr.cell? ⟨o.heap.size,1,none⟩=some (.int .i64 (jI 1 (l.take k))):=d.head.cell 1;have aN:=d.head.frozen 1
 have aR:z.length<=l.length:=by have h1:=congrArg List.length N;rw[jo8,JP,joS]at h1;omega
 have aH:=yW 1 (l.take k);rw[joS]at aH;obtain⟨ua,uc,rfl,_⟩:=je d.row;by_cases X:k<l.length
 ·obtain⟨E,W⟩:∃E,l[k]?=some E:=⟨_,joM X⟩
  obtain⟨x,hx⟩:∃x,ai[k]?=some x:=⟨_,joM (by rw[aA.out];exact X)⟩
  have Y:=ay.out k E x W hx;obtain⟨G,H,rfl,_⟩:=je Y;have c:=af.out
  obtain⟨g,cg,aq⟩:=jpO c (by omega);obtain⟨a0,a1,a2⟩:=qE l ai k E _ W hx;rw[aq]at c;have a7:g<o.heap.size:=(jpJ c g rfl).2
  have d0:wr.cell? ⟨g,k*3,none⟩=some (.int .i64 E.kind):=(hb.cell (p:=⟨g,k*3,none⟩) a7).trans (by rw[jo1 c (k*3) (by omega),a0]);have d1:wr.cell? ⟨g,k*3+1,none⟩=some (.string (B E.raw)):=(hb.cell (p:=⟨g,k*3+1,none⟩) a7).trans (by rw[jo1 c (k*3+1) (by omega),a1])
  have d2:wr.cell? ⟨g,k*3+1+1,none⟩=some (.slice G E.fields.length H):=(hb.cell (p:=⟨g,k*3+1+1,none⟩) a7).trans (by rw[jo1 c (k*3+1+1) (by omega),a2]);obtain⟨e1,e2⟩:=jhc W;have E1:=joI e1
  have E2:=joI e2;have K:=joI d
  have V:=joI N;have HM:=joI I
  have ag:Hid (vP o (.slice G E.fields.length H) E.fields/\∀b,(Value.slice G E.fields.length H).ownBlock=some b->Z.heap.size<=b):=⟨ym Y,fun b e=>(Y.lt b e).1⟩
  injection aq with q1 _ q3;subst q1 q3;have aO:g<wr.heap.size:=by omega
  have aQ:o.heap.size<wr.heap.size:=d.head.lt;generalize jI 1 (l.take k)=J at *
  clear d N I W hx Y c a0 a1 a2 e1 e2;by_cases L:E.kind=3
  ·have aF:((E.kind:Int)==3)=true:=by rw[L];decide
   obtain⟨kd,m,t⟩:=E;dsimp only at *
   subst L;have aS:IntKind.i64.wrap (J+1)=J+1:=jph _ (by omega)
   replace E1:=joI (E1.out.trans (by rw[if_pos rfl]));replace E2:=joI (E2.out.trans (if_pos rfl));obtain⟨Q,C⟩:∃Q,Q=(wr.setCell ⟨o.heap.size,1,none⟩ (.int .i64 (J+1))).alloc (.cells #[.int .i64 3,.string (B m),.slice G t.length H,.int .i64 J] 112):=⟨_,rfl⟩
   have A:=joI (show yI o Q o.heap.size (.slice ua z.length uc) z (J+1) by rw[C];exact((K.out.next _).alloc _));have c:=A.out.row
   have D:Q.heap.size=wr.heap.size+1:=by rw[C];simp[World.setCell]
   have hv:=jp Q 112 [.int .i64 3,.string (B m),.slice G t.length H,.int .i64 J];rw[D]at hv;have HV:=joI hv
   have aE:=joI D;clear hv D;subst C;go_wp2_with (at_builtin;refine wpList_append_own _ rfl _ _ 35 rfl o.heap.size 112 i0 _ 4 56 underlying35 hi ar au av rfl (by decide) _ _ _ rfl (c.alloc _) ⟨wr.heap.size+1,0,none⟩ 1 1 _ rfl rfl HV.out ?c2 ?c3 ?c4 ?c5 ?_)
   case c2=>exact⟨rfl,rfl,rfl,rfl⟩
   case c3=>unfold maxLen;omega
   case c4=>omega
   case c5=>first | omega | (simp[World.setCell];omega)
   intro v' w6 j f _;have r:=(A.out.alloc (.cells #[.int .i64 3,.string (B m),.slice G t.length H,.int .i64 J] 112)).grow (p:=((⟨3,m,t⟩,J),.slice G t.length H)) j f
   have h6:=(A.out.alloc (.cells #[.int .i64 3,.string (B m),.slice G t.length H,.int .i64 J] 112)).grown_head f;have q0:=h6.cell 0
   have aK:=h6.frozen 0;simp only[joQ,joP]at q0;have A6:=joI r
   obtain⟨g',ah,rfl⟩:=ownsRow_succ j;clear r h6 j f;go_wp2_with fail;refine⟨⟨k+1,_,z++[((⟨3,m,t⟩,J),.slice G t.length H)],X,by go_num,by rw[E2.out];exact A6.out,by rw[E1.out,jpt,V.out];rfl,fun q y => ?_⟩,by simp[intOf];omega⟩;rcases List.mem_append.1 y with y|y
   ·exact HM.out q y
   rw[List.mem_singleton.1 y];exact ag.out
  have aF:((E.kind:Int)==3)=false:=beq_eq_false_iff_ne.2 L;replace E1:=joI (E1.out.trans (by rw[if_neg L]));replace E2:=joI (E2.out.trans (if_neg L));obtain⟨kd,m,t⟩:=E;dsimp only at *
  clear L;obtain⟨Q,C⟩:∃Q,Q=wr.alloc (.cells #[.int .i64 kd,.string (B m),.slice G t.length H,.int .i64 0] 112):=⟨_,rfl⟩
  have A:=joI (show yI o Q o.heap.size (.slice ua z.length uc) z J by rw[C];exact(K.out.alloc _));have c:=A.out.row
  have D:Q.heap.size=wr.heap.size+1:=by rw[C];simp
  have hv:=jp Q 112 [.int .i64 kd,.string (B m),.slice G t.length H,.int .i64 0];rw[D]at hv;have HV:=joI hv
  have aE:=joI D;clear hv D;subst C;go_wp2_with (at_builtin;refine wpList_append_own _ rfl _ _ 35 rfl o.heap.size 112 i0 _ 4 56 underlying35 hi ar au av rfl (by decide) _ _ _ rfl (c.alloc _) ⟨wr.heap.size+1,0,none⟩ 1 1 _ rfl rfl HV.out ?c2 ?c3 ?c4 ?c5 ?_)
  case c2=>exact⟨rfl,rfl,rfl,rfl⟩
  case c3=>unfold maxLen;omega
  case c4=>omega
  case c5=>first | omega | (simp[World.setCell];omega)
  intro v' w6 j f _;have r:=(A.out.alloc (.cells #[.int .i64 kd,.string (B m),.slice G t.length H,.int .i64 0] 112)).grow (p:=((⟨kd,m,t⟩,0),.slice G t.length H)) j f
  have h6:=(A.out.alloc (.cells #[.int .i64 kd,.string (B m),.slice G t.length H,.int .i64 0] 112)).grown_head f;have q0:=h6.cell 0
  have aK:=h6.frozen 0;simp only[joQ,joP]at q0;have A6:=joI r
  obtain⟨g',ah,rfl⟩:=ownsRow_succ j;clear r h6 j f;go_wp2_with fail;refine⟨⟨k+1,_,z++[((⟨kd,m,t⟩,0),.slice G t.length H)],X,by go_num,by rw[E2.out];exact A6.out,by rw[E1.out,jpt,V.out];rfl,fun q y => ?_⟩,by simp[intOf];omega⟩;rcases List.mem_append.1 y with y|y
  ·exact HM.out q y
  rw[List.mem_singleton.1 y];exact ag.out
 obtain rfl:k=l.length:=by omega
 rw[jpa]at d N;have D2:=jb R.out hb (by omega)
 have r0:=D2.cell 0;have r1:=D2.cell 1
 have f0:=D2.frozen 0;have f1:=D2.frozen 1
 simp only[joQ,joP,joO]at r0 r1;rw[jpa]at g1;have RE:=((D2.set 0 (.slice ua z.length uc)).set 1 (.int .i64 (jI 1 l)))
 rw[Qs]at RE;have aC:=joI RE
 have K:=joI d;have V:=joI N
 have HM:=joI I;have ax:=joI (U.out.trans (hb.mono aJ))
 have am:(Value.slice ua z.length uc).ownBlock≠some w.heap.size:=fun e=>by have:=(d.row.lt _ e).1;omega
 have ae:=joI am;generalize ak:jI 1 l=J at *
 have aB:=joI ak;clear ak;clear d N I D2 RE am hb;go_wp2_with fail;refine bodyPost_ret (Vt rfl _ _ w.heap.size _ rfl aC.out rfl) rfl ?_;refine⟨(ax.out.setCell (p:=⟨w.heap.size,0,none⟩) (joJ _) _).setCell (p:=⟨w.heap.size,1,none⟩) (joJ _) _,?_⟩;rw[HP.out];have aI:jH (· = w.heap.size) o ((wr.setCell ⟨w.heap.size,0,none⟩ (.slice ua z.length uc)).setCell ⟨w.heap.size,1,none⟩ (.int .i64 J)):=((jH.of_below K.out.below (joJ _)).cellS 0 _).cellS 1 _
 have a8:=aD.out;refine⟨.slice ua z.length uc,z,by rw[show(zF l).next=J from aB.out];rfl,⟨js (js (jA K.out.row (joT _)) ae.out _) ae.out _,fun q y=>(HM.out q y).1.only aI (fun _ b e q2=>by have:=(HM.out q y).2 b e;omega)⟩,V.out,fun b e=>by have:=(K.out.row.lt b e).1;omega,fun q y b e=>by have:=(HM.out q y).2 b e;omega⟩
section
variable {o:Oper} {a:Act} {w:World} {K:Act->World->Prop} {Q:Exit->Act->World->Prop}
end
theorem XE{w:World}{v:Value}{fs:List Fld}{b:Nat}{T:TypeId}{c:Array Value}(h:vP w v fs)(g:fs≠[])(m:v.ownBlock=some b)(n:ja w b T c)(q:∀x∈c,∀s,x ≠ .string s):False:=by
 obtain⟨A,l,rfl,p,d⟩:=h;obtain⟨f,o⟩:∃f,fs[0]?=some f:=by
  cases fs with
  | nil=>exact absurd rfl g
  | cons a r=>exact⟨a,rfl⟩
 obtain⟨k,i,rfl,_,j,_⟩:=d 0 f o;have e:k=b:=by cases m;rfl
 subst e;rw[Nat.zero_mul,jqk,n.cell i]at j;exact q _ (Array.mem_of_getElem? j) _ rfl
end
end Go.Proofs.YtbapfpekklcicaaGreatDoor
