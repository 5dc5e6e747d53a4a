/- Texts put together:GK,GL,GI,CA,CP,AB. -/
import Derived.Lib.AtoiAll
import Derived.Lib.ItoaLen
import Derived.Test.YtbapfpekklcicaaGreatDoorBtx22
set_option linter.unusedVariables false
set_option maxRecDepth 100000
set_option maxHeartbeats 16000000
namespace Go.Proofs.YtbapfpekklcicaaGreatDoor
open Go.RowKit Go.Shelf Tryz
abbrev jqw:=@List.take_append_of_le_length
abbrev jqC:=@Nat.xor_lt_two_pow
abbrev jqZ:=@Go.Ending.returned.injEq
abbrev jq2:=@Nat.mod_lt
abbrev jq9:=@Nat.testBit_xor
abbrev jrc:=@Nat.pow_succ
abbrev jrg:=@Go.Value.tuple.injEq
abbrev jrh:=@List.foldl_append
abbrev jrk:=@Nat.xor_assoc
abbrev jrq:=@Go.Value.agg.injEq
abbrev jrr:=@Go.Value.int.injEq
abbrev jrs:=@Nat.eq_of_testBit_eq
namespace Rp
attribute [local go_sem] joY
theorem jdo:∀(a:List (List Ed)) (l k:LS),OkL l->qA l a=some k->OkL k/\k.es.length<=l.es.length+xS a/\k.next<=l.next+(xS a:Nat)
 | [],l,k,h,e=>by cases e;exact⟨h,joJ _,by show l.next<=l.next+((0:Nat):Int);omega⟩
 | x::r,l,k,h,e=>by
  have b:(if (doB l x).2=0 then qA (zH l x) r else none)=some k:=e;split at b
  ·obtain⟨c,f,g⟩:=jdo r _ k (h.on x) b;obtain⟨i,_,j⟩:=jkD l x;have d:xS (x::r)=x.length+xS r:=rfl
   exact⟨c,by omega,by omega⟩
  cases b
def jcS(w w':World)(s:List UInt8)(bs:List (List Ed))(e:Ending):Prop:=Below w.heap.size w w' /\
  ((∃a n v nx,jD s=.error (a,n)/\e=.returned (.tuple #[.agg #[.slice none 0 0,.int .i64 nx],.slice none 0 0,.int .i64 (a:Nat),.int .i64 (n:Nat)])/\v=nx) \/
   (∃its i xa xn xc nx,jD s=.ok its/\qJ (zF its) bs i/\e=.returned (.tuple #[.agg #[.slice xa xn xc,.int .i64 nx],.slice none 0 0,.int .i64 (i:Nat),.int .i64 10])) \/
   (∃its k v qs gv us,jD s=.ok its/\qA (zF its) bs=some k/\e=.returned (.tuple #[.agg #[v,.int .i64 k.next],gv,.int .i64 (-9),.int .i64 0])/\zK w' v qs/\qs.map Prod.fst=k.es/\Kf w.heap.size w' gv (Kq (zF its) bs) us))
def DoQ(N:Nat)(wr wx:World)(mb:Nat)(l:LS)(eds:List Ed)(d f:Value):Prop:=Below wr.heap.size wr wx/\wr.heap.size<=mb /\
  (((doB l eds).2≠0/\d=.slice none 0 0/\f=.int .i64 ((doB l eds).2:Nat)) \/
   ((doB l eds).2=0/\f=.int .i64 0/\∃v qs,ja wx mb 37 #[v,.int .i64 (zH l eds).next]/\zK wx v qs/\qs.map Prod.fst=(zH l eds).es/\(∀p∈qs,p.1.1.fields≠[]->∀b,p.2.ownBlock=some b->b<N)/\wx.ownsRow wr.heap.size 3 1 d (zc l eds).length ((zc l eds).map Kr)))
theorem doA{N:Nat}{wr m b:World}{l:LS}{eds:List Ed}{v d:Value}{a f:Int}{j:Int}(c:m=wr.drew)(h:JE N m b l eds (.returned (.tuple #[.agg #[v,.int .i64 j],d,.int .i64 a,.int .i64 f]))):
  DoQ N wr (b.alloc (.cells #[v,.int .i64 j] 37)) b.heap.size l eds d (.int .i64 f):=by
 subst c;have i:Below b.heap.size b (b.alloc (.cells #[v,.int .i64 j] 37)):=(joL _ _).alloc (joJ _) _
 obtain⟨n,h⟩:=h;have g:Below wr.heap.size wr b:=((joL wr.heap.size wr).drew).trans n
 refine⟨g.trans (i.mono g.size),g.size,?_⟩;rcases h with ⟨c,s,k,e,_⟩|⟨c,_,s,k,t,e,o,p,q,_,r⟩
 ·simp only[jqZ,jrg,Array.mk.injEq,jqD,jrq,jrr]at e;obtain⟨_,rfl,_,⟨_,rfl⟩,_⟩:=e;exact .inl ⟨c,rfl,rfl⟩
 simp only[jqZ,jrg,Array.mk.injEq,jqD,jrq,jrr]at e;obtain⟨⟨rfl,⟨_,rfl⟩,_⟩,rfl,_,⟨_,rfl⟩,_⟩:=e;exact .inr ⟨by rw[c],rfl,_,k,ja.new _ _ _,o.below i (joJ _),p,q,jN r i (joJ _)⟩
theorem doC{N:Nat}{wr c:World}{l:LS}{eds:List Ed}{v d:Value}{a f:Int}{i:Int}(D:N<=wr.heap.size)(h:JE N (wr.alloc (.cells #[.slice none 0 0,.int .i64 0] 37)).drew c l eds (.returned (.tuple #[.agg #[v,.int .i64 i],d,.int .i64 a,.int .i64 f]))):
  DoQ N wr ((c.setCell ⟨wr.heap.size,0,none⟩ v).setCell ⟨wr.heap.size,1,none⟩ (.int .i64 i)) wr.heap.size l eds d (.int .i64 f):=by
 have n:(wr.alloc (.cells #[.slice none 0 0,.int .i64 0] 37)).drew.heap.size=wr.heap.size+1:=by show(wr.alloc _).heap.size=_;simp
 obtain⟨j,h⟩:=h;rw[n]at j h;have y:Below wr.heap.size wr c:=(((joL wr.heap.size wr).alloc (joJ _) _).drew).trans (j.mono (by omega))
 have b:ja c wr.heap.size 37 #[.slice none 0 0,.int .i64 0]:=jb (show ja (wr.alloc (.cells #[.slice none 0 0,.int .i64 0] 37)).drew wr.heap.size 37 _ from(ja.new _ _ _).drew) j (by omega);have g:=(b.set 0 v).set 1 (.int .i64 i)
 rw[Qs]at g;have u:jH (· = wr.heap.size) c ((c.setCell ⟨wr.heap.size,0,none⟩ v).setCell ⟨wr.heap.size,1,none⟩ (.int .i64 i)):=((jH.refl (· = wr.heap.size) c).cellS 0 _).cellS 1 _
 refine⟨(y.setCell (p:=⟨wr.heap.size,0,none⟩) (joJ _) _).setCell (p:=⟨wr.heap.size,1,none⟩) (joJ _) _,joJ _,?_⟩;rcases h with ⟨k,A,w,e,_⟩|⟨k,_,A,w,C,e,o,x,s,_,t⟩
 ·simp only[jqZ,jrg,Array.mk.injEq,jqD,jrq,jrr]at e;obtain⟨_,rfl,_,⟨_,rfl⟩,_⟩:=e;exact .inl ⟨k,rfl,rfl⟩
 simp only[jqZ,jrg,Array.mk.injEq,jqD,jrq,jrr]at e;obtain⟨⟨rfl,⟨_,rfl⟩,_⟩,rfl,_,⟨_,rfl⟩,_⟩:=e;refine .inr ⟨by rw[k],rfl,_,w,g,o.only u (fun r e q=>jh o.row b (by decide) (by rw[e,q])) (fun p z m r e q=>by have:=s p z m r e;omega),x,s,?_⟩;exact jA (jG t u (fun r e q=>by have:=(t.lt r e).1;omega)) (by omega)
theorem jnZ(a:World)(b:Nat)(T:TypeId)(x:Value)(c:a.heap.size=b):∀(j:Nat) (u:Value),[x][j]?=some u->(a.alloc (.cells #[x] T)).cell? ((⟨b,0,none⟩:Addr).add j)=some u:=by subst c;exact jgB a T x
theorem jhH{N:Nat}{w w':World}{l:LS}{eds:List Ed}{e:Ending}(h:JE N w w' l eds e):∃c o d m g j i a f,e=.returned (.tuple #[.agg #[.slice c o d,.int .i64 m],.slice g j i,.int .i64 a,.int .i64 f]):=by
 obtain⟨_,⟨_,v,n,rfl,b⟩|⟨_,_,v,n,r,rfl,b,_,_,_,k⟩⟩:=h
 ·obtain⟨c,d,rfl,_⟩:=b.empty;exact⟨_,_,_,_,_,_,_,_,_,rfl⟩
 obtain⟨c,d,rfl,_⟩:=b.empty;obtain⟨p,q,rfl,_⟩:=je k;exact⟨_,_,_,_,_,_,_,_,_,rfl⟩
theorem Ux(ae:Int)(s:List UInt8)(y:List (List Ed))(A:Option Addr)(c:Nat)(ea:Option Addr)(en ec:Nat)(tl:ByteArray)(n:Nat)(hn:n<=y.length)(w:World)(hs:s.length+xS y<=5000)(hl:y.length<=100000)(hv:BtV w (.slice A y.length c) y)(N:jiq y):
  Calls prog 10 #[Yb ae s A y.length c ea en ec tl,.int .i64 (n:Nat)] w fun e w'=>jcS w w' s (y.take n) e:=by
 obtain⟨i2,bF,bA,bB,bC⟩:=info_parts jg1;obtain⟨w2,K⟩:∃z,(w.alloc (.cells #[.int .i64 ae,.string (B s),.slice A y.length c,.slice ea en ec,.string tl] 25)).alloc (.cells #[.slice none 0 0,.int .i64 0] 37)=z:=⟨_,rfl⟩
 have b2:Below w.heap.size w w2:=by rw[<- K];exact((joL _ w).alloc (joJ _) _).alloc (by simp) _
 have bQ:w2.heap.size=w.heap.size+2:=by rw[<- K];simp
 have CB:ja w2 w.heap.size 25 #[.int .i64 ae,.string (B s),.slice A y.length c,.slice ea en ec,.string tl]:=by rw[<- K];exact(ja.new _ _ _).alloc _
 have CR:ja w2 (w.heap.size+1) 37 #[.slice none 0 0,.int .i64 0]:=by
  rw[<- K];have:=ja.new (w.alloc (.cells #[.int .i64 ae,.string (B s),.slice A y.length c,.slice ea en ec,.string tl] 25)) 37 #[.slice none 0 0,.int .i64 0]
  simp only[joZ]at this;exact this
 have RO:=jex (B s) (by rw[jg];omega) w2;rw[jj]at RO;have ar:=joI RO
 have HV:=joI hv;have aY:=joI N
 have aD:=joI b2;have aF:=joI CB
 have aG:=joI CR;have bu:=joI K
 have k1:=CB.cell 1;simp only[joQ,joP,joO]at k1;rw[<- K]at k1;clear RO hv N b2 CB CR K;unfold Yb;go_enter func10,ntmps10;go_wp2_with fail;rw[bu.out];refine ar.out.mono ?_;rintro e l ⟨b3,h3⟩;have B3:=joI (aD.out.trans (b3.mono aD.out.size))
 have bR:=b3.size;have aC:=joI (jb aF.out b3 aF.out.lt)
 have D:=joI (jb aG.out b3 aG.out.lt);have r0:∀o,(l.alloc o).cell? ⟨w.heap.size+1,0,none⟩=some (.slice none 0 0):=fun o=>((D.out.alloc o).cell 0).trans rfl
 have r1:∀o,(l.alloc o).cell? ⟨w.heap.size+1,1,none⟩=some (.int .i64 0):=fun o=>((D.out.alloc o).cell 1).trans rfl;have s0:∀o,(l.alloc o).frozen? ⟨w.heap.size+1,0,none⟩=false:=fun o=>(D.out.alloc o).frozen 0
 have s1:∀o,(l.alloc o).frozen? ⟨w.heap.size+1,1,none⟩=false:=fun o=>(D.out.alloc o).frozen 1;clear b3 k1;cases H:jD s with
 | error an =>
  obtain⟨a,m⟩:=an;rw[H]at h3;subst h3;have aR:=(Yo H).1
  have qn:(((m:Nat):Int)==0)=false:=by simpa using aR
  have HP:=joI H;have R:=((D.out.alloc (.cells #[.slice none 0 0,.int .i64 0] 37)).set 0 (.slice none 0 0)).set 1 (.int .i64 0)
  rw[Qs]at R;have P:=joI R
  have BE:Hid (Below w.heap.size w (((l.alloc (.cells #[.slice none 0 0,.int .i64 0] 37)).setCell ⟨w.heap.size+1,0,none⟩ (.slice none 0 0)).setCell ⟨w.heap.size+1,1,none⟩ (.int .i64 0))) :=
   ((B3.out.alloc B3.out.size _).setCell (p:=⟨w.heap.size+1,0,none⟩) (by show w.heap.size<=w.heap.size+1;omega) _).setCell (p:=⟨w.heap.size+1,1,none⟩) (by show w.heap.size<=w.heap.size+1;omega) _
  clear R H aR ar;go_wp2_with fail;refine bodyPost_ret (JX rfl _ _ (w.heap.size+1) _ rfl P.out rfl) rfl ?_;exact⟨BE.out,.inl ⟨a,m,_,_,HP.out,rfl,rfl⟩⟩
 | ok C =>
 rw[H]at h3;obtain⟨v,qs,rfl,hq,I,_,X⟩:=h3;obtain⟨va,vc,rfl,_⟩:=hq.empty;have HP:=joI H
 have aK:=jhd H;have bK:(zF C).es.length<=s.length/\(zF C).next<=(s.length:Int)+1:=by
  have h1:=ye H;have h2:(zF C).es.length=C.length:=JP 1 C
  have h3:=(yW 1 C).2;have h4:(zF C).next=jI 1 C:=rfl
  omega
 generalize ay:zF C=Z at *
 obtain⟨w4,ag⟩:∃z,l.alloc (.cells #[.slice va qs.length vc,.int .i64 Z.next] 37)=z:=⟨_,rfl⟩
 have au:Below l.heap.size l w4:=by rw[<- ag];exact(joL _ _).alloc (joJ _) _
 have C4:ja w4 l.heap.size 37 #[.slice va qs.length vc,.int .i64 Z.next]:=by rw[<- ag];exact ja.new _ _ _
 have aE:=joI au;have be:=joI C4
 have bj:=joI (hq.below au (joJ _));have bo:=joI (show ∀p∈qs,p.1.1.fields≠[]->∀b,p.2.ownBlock=some b->b<l.heap.size from fun p H G b e=>(hq.each p H).lt G b e)
 have bw:=joI ag;have bi:=joI aK
 have bm:=joI I;clear au C4 hq X ag H ar aK I;go_wp2_with fail;rw[bw.out];go_loopw [11,12] (fun gx iv wr=>∃(i:Nat) (k:LS) (vk:Value) (L:List Pr) (us:List Value),i<=n/\iv=.int .i64 (i:Nat)/\qA Z (y.take i)=some k/\Below l.heap.size l wr/\ja wr l.heap.size 37 #[vk,.int .i64 k.next]/\zK wr vk L/\L.map Prod.fst=k.es/\(∀p∈L,p.1.1.fields≠[]->∀b,p.2.ownBlock=some b->b<l.heap.size)/\Kf l.heap.size wr gx (Kq Z (y.take i)) us) (fun _ iv _=>n-(intOf iv).toNat)
 case atStart=>exact⟨0,Z,_,qs,[],joT _,rfl,rfl,aE.out,be.out,bj.out,bm.out,bo.out,Kf.nil _ _⟩
 case round =>
 obtain⟨i,k,vk,L,us,hi,rfl,V,N,hC,J,I,X,hG⟩:=hrel;obtain⟨ga,gc,rfl,_⟩:=je hG.row;obtain⟨ka,kc,rfl,_⟩:=J.empty;obtain⟨aB,aU,aV⟩:=jdo _ _ _ bi.out V;have bP:=YG y i
 by_cases aQ:i<n
 ·obtain⟨x,hx⟩:∃x,y[i]?=some x:=⟨_,joM (by omega)⟩
  have aS:=HV.out.below B3.out (joJ _);obtain⟨A',bI,e',_,hc⟩:=_root_.id aS;obtain⟨g,a7,u,eA,aO,cg,hu⟩:=hc i x hx;injection e' with e1 e2 e3;subst e1;subst e3;subst eA;obtain⟨ua,uc,rfl,_⟩:=_root_.id hu;obtain⟨bH,xf,xs⟩:=aY.out x (joW hx);have aa:Hid (∀W,Below wr.heap.size wr W->Calls prog 36 #[.agg #[.slice ka L.length kc,.int .i64 k.next],.slice ua x.length uc] W fun e w'=>JE l.heap.size W w' k x e):=fun W hW =>
   jgh L _ _ k x l W (N.trans (hW.mono N.size)) (J.below hW (joJ _)) X I aB (by omega) (by omega) hu bH xf
  have ak:=jb aC.out N aC.out.lt;have aw:=(N.cell (p:=⟨g,a7+i,none⟩) aO).trans cg
  have aP:g<wr.heap.size:=jo4 aO N.size;have c0:=aw
  have aL:∀o,(wr.alloc o).cell? ⟨g,a7+i,none⟩=some (.slice ua x.length uc):=fun o=>by rw[jqh _ _ ⟨g,a7+i,none⟩ aP];exact aw
  have d0:wr.cell? ⟨l.heap.size,0,none⟩=some (.slice ka L.length kc):=by rw[hC.cell];rfl
  have d1:wr.cell? ⟨l.heap.size,1,none⟩=some (.int .i64 k.next):=by rw[hC.cell];rfl
  have aM:∀o,(wr.alloc o).cell? ⟨l.heap.size,0,none⟩=some (.slice ka L.length kc):=fun o=>by rw[(hC.alloc o).cell];rfl
  have aN:∀o,(wr.alloc o).cell? ⟨l.heap.size,1,none⟩=some (.int .i64 k.next):=fun o=>by rw[(hC.alloc o).cell];rfl
  have p2:wr.cell? ⟨w.heap.size,2,none⟩=some (.slice (some ⟨g,a7,none⟩) y.length c):=by rw[ak.cell];rfl
  have aW:∀o,(wr.alloc o).cell? ⟨w.heap.size,2,none⟩=some (.slice (some ⟨g,a7,none⟩) y.length c):=fun o=>by rw[(ak.alloc o).cell];rfl
  have DR:Hid (Below wr.heap.size wr wr.drew):=(joL _ _).drew;have AR:Hid (Below wr.heap.size wr (wr.alloc (.cells #[.slice none 0 0,.int .i64 0] 37)).drew):=((joL _ _).alloc (joJ _) _).drew
  have a8:=joI (show ja (wr.alloc (.cells #[.slice none 0 0,.int .i64 0] 37)).drew wr.heap.size 37 #[.slice none 0 0,.int .i64 0] from(ja.new _ _ _).drew);have HX:=joI hx
  have Q:=joI V;have aZ:=joI N
  have aq:=joI hC;have bg:=joI hG
  have ax:=N.size;have bN:(i:Int)<(y.length:Int):=by omega
  have bJ:(Kq Z (y.take i)).length<=100000:=by rw[jcr,joS];omega
  clear V N hC J I X hG hx aS hc cg hu xf xs ak aw aB aU aV;generalize bE:Kq Z (y.take i)=gs at *
  go_upto_region 8 with fail;go_cut [13,14,15,16] (fun c d e f wx=>∃mb z,c=.pointer (some ⟨mb,0,none⟩)/\e=.int .i64 z/\DoQ l.heap.size wr wx mb k x d f)
  case first =>
   go_region_law (go_simp;go_at_call 36;first
    | (refine(aa.out _ DR.out).mono ?_;rintro e w5 h5;obtain⟨xa,xn,xc,nx,da,dn,dc,az,fz,rfl⟩:=jhH h5;have H5:=joI h5;clear h5)
    | (refine(aa.out _ AR.out).mono ?_;rintro e w5 h5;obtain⟨xa,xn,xc,nx,da,dn,dc,az,fz,rfl⟩:=jhH h5;have kk:=jb a8.out h5.1 a8.out.lt;have t0:=kk.cell 0;have t1:=kk.cell 1;have bT:=kk.frozen 0;have bU:=kk.frozen 1;simp only[joQ,joP,joO]at t0 t1;have H5:=joI h5;clear h5 kk))
   all_goals (try go_wp2_with fail)
   all_goals go_meet
   all_goals first
    | exact⟨_,_,rfl,rfl,doA rfl H5.out⟩
    | exact⟨_,_,rfl,rfl,doC ax H5.out⟩
  case rest =>
  obtain⟨mb,z,rfl,rfl,bD,lD,hD⟩:=hcut;have am:=joI (aZ.out.trans (bD.mono ax))
  have Cx:=jb aq.out bD aq.out.lt;have t:=jb D.out am.out D.out.lt
  have Gx:=bg.out.below bD (joJ _);have bO:=Cx.lt
  have n0:wc.cell? ⟨l.heap.size,0,none⟩=some (.slice ka L.length kc):=by rw[Cx.cell];rfl
  have n1:wc.cell? ⟨l.heap.size,1,none⟩=some (.int .i64 k.next):=by rw[Cx.cell];rfl
  rcases hD with ⟨h0,rfl,rfl⟩|⟨h0,rfl,v',E,aA,af,ai,Y,O⟩
  ·have G:(((doB k x).2:Nat):Int)≠0:=by omega
   have qn:((((doB k x).2:Nat):Int)==0)=false:=by simpa using h0
   have R:=(t.set 0 (.slice ka L.length kc)).set 1 (.int .i64 k.next);rw[Qs]at R;have P:=joI R
   have BE:Hid (Below w.heap.size w ((wc.setCell ⟨w.heap.size+1,0,none⟩ (.slice ka L.length kc)).setCell ⟨w.heap.size+1,1,none⟩ (.int .i64 k.next))) :=
    ((B3.out.trans (am.out.mono (by omega))).setCell (p:=⟨w.heap.size+1,0,none⟩) (by show w.heap.size<=w.heap.size+1;omega) _).setCell (p:=⟨w.heap.size+1,1,none⟩) (by show w.heap.size<=w.heap.size+1;omega) _
   have RF:=joI (show qJ Z (y.take n) i from⟨k,x,by rw[jrd,jq5 (by omega)];exact Q.out,by rw[jpD,if_pos aQ];exact HX.out,h0⟩);have e0:=t.cell 0
   have e1:=t.cell 1;have f0:=t.frozen 0
   have f1:=t.frozen 1;simp only[joQ,joP,joO]at e0 e1;clear bD Cx t Gx R aa c0 aL d0 d1 aM aN p2 aW a8 h0;generalize (doB k x).2=dz at *
   go_wp2_with fail;refine bodyPost_ret (JX rfl _ _ (w.heap.size+1) _ rfl P.out rfl) rfl ?_;exact⟨BE.out,.inr (.inl ⟨C,i,_,_,_,_,HP.out,by rw[ay];exact RF.out,rfl⟩)⟩
  obtain⟨xa,xc,rfl,_⟩:=af.empty;obtain⟨da,dc,rfl,_⟩:=je O;have m0:wc.cell? ⟨mb,0,none⟩=some (.slice xa E.length xc):=by rw[aA.cell];rfl
  have m1:wc.cell? ⟨mb,1,none⟩=some (.int .i64 (zH k x).next):=by rw[aA.cell];rfl
  have g0:=Cx.frozen 0;have g1:=Cx.frozen 1
  have oB:jH (· = l.heap.size) wc ((wc.setCell ⟨l.heap.size,0,none⟩ (.slice xa E.length xc)).setCell ⟨l.heap.size,1,none⟩ (.int .i64 (zH k x).next)):=((jH.refl (· = l.heap.size) wc).cellS 0 _).cellS 1 _;have av:=(Cx.set 0 (.slice xa E.length xc)).set 1 (.int .i64 (zH k x).next)
  rw[Qs]at av;have H1:=joI av
  have H2:=joI (af.only oB (fun r e q=>jh af.row Cx (by decide) (by rw[e,q])) (fun p H G r e q=>by have:=Y p H G r e;omega));have H4:=joI (Gx.box Cx (by decide) (by decide) oB)
  have H5:=joI (am.out.trans (oB.to_below (by omega) (fun r hr e=>by omega)));have H6:=joI (jA (jG O oB (fun r e q=>by have:=(O.lt r e).1;have:=aq.out.lt;omega)) ax)
  have aJ:((wc.setCell ⟨l.heap.size,0,none⟩ (.slice xa E.length xc)).setCell ⟨l.heap.size,1,none⟩ (.int .i64 (zH k x).next)).heap.size=wc.heap.size:=by simp[World.setCell]
  have aT:=oB.size;have PN:Hid (qA Z (y.take (i+1))=some (zH k x)):=by show _=_;rw[Qy HX.out,QP Q.out,if_pos h0]
  have GN:Hid (Kq Z (y.take (i+1))=gs++[zc k x]):=by show _=_;rw[Qy HX.out,Gr _ _ _ _ Q.out,bE]
  have aH:=joI ai;have ah:=joI Y
  clear bD Cx t Gx aa c0 aL d0 d1 aM aN p2 aW a8 h0 af ai Y aA O oB av;go_wp2_with (at_builtin;generalize bL:((wc.setCell ⟨l.heap.size,0,none⟩ (.slice xa E.length xc)).setCell ⟨l.heap.size,1,none⟩ (.int .i64 (zH k x).next))=aX at H1 H2 H4 H5 H6 aT aJ ⊢;refine jz rfl _ _ 38 rfl l.heap.size 23 i2 _ 1 24 underlying38 bF bA bB bC rfl (by decide) _ _ _ rfl (H4.out.row.alloc _) _ 1 1 [.slice da (zc k x).length dc] rfl rfl (by first | exact jgB _ _ _ | exact jnZ _ _ _ _ aJ) (by intro u hu;simp at hu;subst hu;rfl) (by unfold maxLen;omega) (by omega) (by simp only[joZ];omega) ?_);intro bM W4 aj U bz;have o4:jH (fun r=>(Value.slice ga gs.length gc).ownBlock=some r) aX W4 :=
   (jH.of_below (S:=fun r=>(Value.slice ga gs.length gc).ownBlock=some r) ((joL _ aX).alloc (joJ _) (.cells #[.slice da (zc k x).length dc] 23)) (joJ _)).grown U (fun r e=>.inl e)
  have R1:ja W4 l.heap.size 37 #[.slice xa E.length xc,.int .i64 (zH k x).next]:=H1.out.only o4 (fun e=>jh H4.out.row H1.out (by decide) e);have R2:zK W4 (.slice xa E.length xc) E:=H2.out.only o4 (fun r e q=>jZ H4.out.row H2.out.row (by decide) r q e) (fun p H G r e q=>by have:=ah.out p H G r e;have:=(H4.out.row.lt r q).1;omega)
  have R4:=H4.out.snoc H6.out aj o4;have R6:Below l.heap.size l W4:=H5.out.trans (o4.to_below (by omega) (fun r hr e=>by have:=(H4.out.row.lt r e).1;omega))
  have K1:=joI R1;have K2:=joI R2
  have K4:=joI R4;have K6:=joI R6
  clear R1 R2 R4 R6 o4 aj U bz H1 H2 H4 H5 H6;go_wp2_with fail;go_roundw
  case rel=>exact⟨i+1,zH k x,_,E,_,aQ,by go_num,PN.out,K6.out,K1.out,K2.out,aH.out,ah.out,by rw[GN.out];exact K4.out⟩
  case measure=>simp[intOf];omega
 have bG:i=n:=by omega
 subst bG;have t:=jb D.out N D.out.lt
 have n0:wr.cell? ⟨l.heap.size,0,none⟩=some (.slice ka L.length kc):=by rw[hC.cell];rfl
 have n1:wr.cell? ⟨l.heap.size,1,none⟩=some (.int .i64 k.next):=by rw[hC.cell];rfl
 have e0:=t.cell 0;have e1:=t.cell 1
 have f0:=t.frozen 0;have f1:=t.frozen 1
 simp only[joQ,joP,joO]at e0 e1;have oE:jH (· = w.heap.size+1) wr ((wr.setCell ⟨w.heap.size+1,0,none⟩ (.slice ka L.length kc)).setCell ⟨w.heap.size+1,1,none⟩ (.int .i64 k.next)):=((jH.refl (· = w.heap.size+1) wr).cellS 0 _).cellS 1 _
 have R:=(t.set 0 (.slice ka L.length kc)).set 1 (.int .i64 k.next);rw[Qs]at R;have P:=joI R
 have BW:=B3.out.trans (N.mono (by omega));have BE:=joI (BW.trans (oE.to_below BW.size (fun r hr e=>by omega)))
 have QE:=joI (J.only oE (fun r e q=>jh J.row t (by decide) (by rw[e,q])) (fun p H G r e q=>XE (J.each p H) G (by rw[e,q]) t (by intro x hx s;simp at hx;rcases hx with rfl | rfl<;>exact fun h=>by cases h)));have G9:=hG.box t (by decide) (by decide) oE
 have GE:=joI (show Kf w.heap.size _ _ (Kq Z (y.take i)) us from⟨jA G9.row (by omega),fun j g u h1 h2=>jA (G9.each j g u h1 h2) (by omega)⟩);have Q:=joI V
 have aI:=joI I;clear V N hC J I X hG t oE R G9 BW aB aU aV;go_wp2_with fail;refine bodyPost_ret (JX rfl _ _ (w.heap.size+1) _ rfl P.out rfl) rfl ?_;exact⟨BE.out,.inr (.inr ⟨C,k,_,L,_,us,HP.out,by rw[ay];exact Q.out,rfl,QE.out,aI.out,by rw[ay];exact GE.out⟩)⟩
theorem jeo{d:Func}{p u:Tmp}{e:TypeId}(h:d.results=#[.cell p e,.tmp u])(tmps:Array Value)(P:Program)(w:World):
  (results d tmps).run P w=((asAddr (tmps.getD p undef)).run P w).andThen fun a b=>((loadVar e a).run P b).andThen fun v c=>.ok (.tuple #[v,tmps.getD u undef]) c:=by
 simp only[results,h];simp[Sem.run_bind,Result.andThen]
theorem jgf{c:Func}{p u:Tmp}(h:c.results=#[.cell p 83,.tmp u])(tmps:Array Value)(w:World)(b:Nat)(a:Array Value)(e:tmps.getD p undef=.pointer (some ⟨b,0,none⟩))
  (d:ja w b 83 a) (f:a.size=3):(results c tmps).run prog w=.ok (.tuple #[.agg a,tmps.getD u undef]) w:=by
 have L:=run_loadVar_row (P:=prog) w b 83 83 a (0,0) _ d underlying83 rfl (by rw[f];kernel_rfl);rw[jeo h,e];show((loadVar _ _).run _ _).andThen _=_
 rw[L];rfl
theorem jnJ{W:World}{b:Nat}{T:TypeId}{a0 a1 a2:Value}(h:ja W b T #[a0,a1,a2])(a c d:Value):
  ja (((W.setCell ⟨b,0,none⟩ a).setCell ⟨b,1,none⟩ c).setCell ⟨b,2,none⟩ d) b T #[a,c,d]/\jH (· = b) W (((W.setCell ⟨b,0,none⟩ a).setCell ⟨b,1,none⟩ c).setCell ⟨b,2,none⟩ d):=by
 have k:=((h.set 0 a).set 1 c).set 2 d;refine⟨by simpa [List.setIfInBounds_toArray,List.set]using k,(((jH.refl (· = b) W).cellS 0 a).cellS 1 c).cellS 2 d⟩
theorem ji2{w w':World}{s:List UInt8}{its:List It}{e:Ending}(h:OfR w s e w')(i:jD s=.ok its)(r:s.length<=60000):
  Below w.heap.size w w'/\∃b c k,e=.returned (.tuple #[ptr b,.nilIface])/\zM w.heap.size w' b c k (zF its) s.length:=by
 obtain⟨m,b,c,k,rfl,g,d,f,j⟩:=h.yes i;have n:=ye i
 have a:(zF its).es.length<=s.length/\(zF its).next<=(s.length:Int)+1:=by
  have l:(zF its).es.length=its.length:=JP 1 its;have p:=(yW 1 its).2
  have q:(zF its).next=jI 1 its:=rfl;omega
 refine⟨m,b,c,k,rfl,f,j,jhd i,fun e o => ?_,g,d,a.1,a.2⟩;have l:e.1∈its:=by rw[<- QX 1 its];exact jqQ o
 obtain⟨t,u⟩:=n.2.2 _ l;exact⟨by omega,by omega⟩
theorem jhV{S0:Nat}{w:World}{lb:Nat}{f:Value}{g:List Pr}{l:LS}{m b:Nat}{T:TypeId}{a:Array Value}(C:zM S0 w lb f g l m)(i:ja w b T a)(j:∀x∈a,∀s,x ≠ .string s)(k:b<S0):∀r,Ky lb f g (.slice none 0 0) [] r->r≠b:=by
 rintro r (rfl|h|h|⟨p,d,c,h⟩|⟨p,d,_⟩) e
 ·have:=C.lb0;omega
 ·have:=C.ev0 r h;omega
 ·cases h
 ·exact XE (C.la.lr.ents.each p d).1 c (by rw[h,e]) i j
 cases d
def jmC:Value:=.agg #[.pointer none,.int .i64 0,.slice none 0 0]
def jd7(w w':World)(s:List UInt8)(bs:List (List Ed))(e:Ending):Prop:=Below w.heap.size w w' /\
  ((∃a n u,jD s=.error (a,n)/\e=.returned (.tuple #[jmC,u])/\jB w.heap.size w' u a n) \/
   (∃its i u,jD s=.ok its/\qJ (zF its) bs i/\e=.returned (.tuple #[jmC,u])/\jB w.heap.size w' u i 10) \/
   (∃its k lb ev ps gv us,jD s=.ok its/\qA (zF its) bs=some k/\e=.returned (.tuple #[.agg #[ptr lb,.int .i64 (zF its).next,gv],.nilIface])/\zM w.heap.size w' lb ev ps k (s.length+xS bs)/\Kf w.heap.size w' gv (Kq (zF its) bs) us))
theorem joB{w a:World}(b:Below w.heap.size w a)(c:ja a w.heap.size 83 #[.pointer none,.int .i64 0,.slice none 0 0])(k:Nat)(X:World)
  (i:X=(((a.alloc (.cells #[.int .i64 (k:Int),.iface 54 (.int .i64 10)] 90)).setCell ⟨w.heap.size,0,none⟩ (.pointer none)).setCell ⟨w.heap.size,1,none⟩ (.int .i64 0)).setCell ⟨w.heap.size,2,none⟩ (.slice none 0 0)) :
  Below w.heap.size w X/\ja X w.heap.size 83 #[.pointer none,.int .i64 0,.slice none 0 0]/\jB w.heap.size X (.iface 87 (.pointer (some ⟨a.heap.size,0,none⟩))) k 10:=by
 subst i;have h:=ja.new a 90 #[.int .i64 (k:Int),.iface 54 (.int .i64 10)]
 have f:=b.alloc b.size (.cells #[.int .i64 (k:Int),.iface 54 (.int .i64 10)] 90);obtain⟨g,d⟩:=jnJ (c.alloc (.cells #[.int .i64 (k:Int),.iface 54 (.int .i64 10)] 90)) (.pointer none) (.int .i64 0) (.slice none 0 0);have j:=c.lt
 exact⟨f.trans (d.to_below f.size (fun r l e=>by omega)),g,⟨a.heap.size,b.size,rfl,by rw[zf 10 (by decide)];exact h.only d (fun e=>by omega)⟩⟩
theorem UU(s:List UInt8)(c:List (List Ed))(v:Value)(w:World)(hs:s.length+xS c<=5000)(hn:c.length<=100000)(hv:BtV w v c)(H:jiq c)(hg:ErrT w):
  Calls prog 37 #[.string (B s),v] w fun e w'=>jd7 w w' s c e:=by
 obtain⟨R,t⟩:∃z,w.alloc (.cells #[.pointer none,.int .i64 0,.slice none 0 0] 83)=z:=⟨_,rfl⟩
 have ae:Below w.heap.size w R:=by rw[<- t];exact(joL _ w).alloc (joJ _) _
 have aj:R.heap.size=w.heap.size+1:=by rw[<- t];simp
 have C0:ja R w.heap.size 83 #[.pointer none,.int .i64 0,.slice none 0 0]:=by rw[<- t];exact ja.new _ _ _
 have OF:=joI (jmV (B s) (by rw[jg];omega) R);rw[jj]at OF;have l:=joI ae
 have D:=joI C0;have aC:=joI t
 have O:=joI aj;have BV:Hid (∀W,Below w.heap.size w W->BtV W v c/\ErrT W):=fun W hW=>⟨hv.below hW (joJ _),hg.below hW (joJ _)⟩
 have ar:=joI H;obtain⟨A,aL,rfl,aJ,_⟩:=_root_.id hv;clear ae C0 t aj hv hg H;go_enter func37,ntmps37;go_wp2_with fail;rw[aC.out];refine OF.out.mono ?_;rintro e U J;clear OF;cases V:jD s with
 | error an =>
  obtain⟨a,n⟩:=an;obtain⟨L,u,rfl,hf⟩:=J.no V;obtain⟨q,hq,rfl,ai⟩:=hf;have Y:=joI (l.out.trans (L.mono l.out.size))
  have C:=jb D.out L D.out.lt;obtain⟨P1,o1⟩:=jnJ C (.pointer none) (.int .i64 0) (.slice none 0 0);have ay:=joI P1
  have BF:=joI (Y.out.trans (o1.to_below Y.out.size (fun r hr e=>by omega)));have aO:w.heap.size+1<=q:=by have:=O.out;omega
  have HF:=joI (show jB w.heap.size _ (.iface 87 (.pointer (some ⟨q,0,none⟩))) a n from⟨q,by omega,rfl,ai.only o1 (fun e=>by omega)⟩);have c0:=C.cell 0
  have c1:=C.cell 1;have c2:=C.cell 2
  have f0:=C.frozen 0;have f1:=C.frozen 1
  have f2:=C.frozen 2;simp only[joQ,joP,joO]at c0 c1 c2;have HP:=joI V
  clear J ai L C P1 o1 V;go_wp2_with fail;refine bodyPost_ret (jgf rfl _ _ w.heap.size _ rfl ay.out rfl) rfl ?_;exact⟨BF.out,.inl ⟨a,n,_,HP.out,rfl,HF.out⟩⟩
 | ok d =>
 obtain⟨L,lb,ev,ps,rfl,Z⟩:=ji2 J V (by omega);have Y:=joI (l.out.trans (L.mono l.out.size))
 have C:=joI (jb D.out L D.out.lt);have aK:=l.out.size
 have a7:=joI Z;have NX:=joI (Ga lb ev ps _ U Z.la.lr ⟨by have:=Z.ok.pos;omega,by have:=Z.nx;omega⟩)
 have HP:=joI V;have aH:=L.size
 clear J V L Z;unfold ptr at *
 go_wp2_with fail;refine NX.out.mono ?_;rintro e aQ ⟨rfl,rfl⟩;obtain⟨w2,K⟩:∃z,U.alloc (.cells #[.pointer (some ⟨lb,0,none⟩),.int .i64 (zF d).next,.slice none 0 0] 83)=z:=⟨_,rfl⟩
 have G:Below U.heap.size U w2:=by rw[<- K];exact(joL _ _).alloc (joJ _) _
 have C2:ja w2 U.heap.size 83 #[.pointer (some ⟨lb,0,none⟩),.int .i64 (zF d).next,.slice none 0 0]:=by rw[<- K];exact ja.new _ _ _
 have B2:=joI (Y.out.trans (G.mono Y.out.size));have aq:=joI (jb C.out G (by have:=O.out;omega))
 have aE:=joI (show jbL R.heap.size w2 U.heap.size (zF d).next (zF d) (s.length+xS (c.take 0)) (Kq (zF d) (c.take 0)) from⟨⟨lb,ev,ps,_,[],C2,by simpa [xS]using a7.out.below G (joJ _),Kf.nil _ _⟩,aH⟩);have aD:=joI K
 have N:w.heap.size<R.heap.size:=by have:=O.out;omega
 generalize I:zF d=y at *
 clear NX a7 G C2 K;go_wp2_with fail;rw[aD.out];go_loopw [26] (fun iv wr=>∃(i:Nat) (k:LS),i<=c.length/\iv=.int .i64 (i:Nat)/\qA y (c.take i)=some k/\Below w.heap.size w wr/\ja wr w.heap.size 83 #[.pointer none,.int .i64 0,.slice none 0 0]/\jbL R.heap.size wr U.heap.size y.next k (s.length+xS (c.take i)) (Kq y (c.take i))) (fun iv _=>c.length-(intOf iv).toNat)
 case atStart=>exact⟨0,y,joT _,rfl,rfl,B2.out,aq.out,aE.out⟩
 case round =>
 obtain⟨i,k,hi,rfl,p,H,j,hP⟩:=hrel;by_cases ah:i<c.length
 ·obtain⟨x,hx⟩:∃x,c[i]?=some x:=⟨_,joM ah⟩
  obtain⟨af,ag⟩:=BV.out wr H;obtain⟨A',aI,e',_,hc⟩:=_root_.id af;obtain⟨g,aP,u,eA,aN,cg,hu⟩:=hc i x hx;injection e' with e1 e2 e3;subst e1;subst e3;subst eA;obtain⟨ua,uc,rfl,_⟩:=_root_.id hu;have aG:=YG c i
  have P:=joI (jnr hP x _ hu (ar.out x (joW hx)) ag (by omega) (by rw[jcr,joS];omega));have av:=joI j
  have HB:=joI H;have m:=joI p
  have HX:=joI hx;clear hP j H p hx af ag hc hu aG;go_wp2_with fail;refine P.out.mono ?_;rintro e X ⟨b5,h5⟩;have B5:=joI (HB.out.trans (b5.mono (by omega)))
  have f:=jb av.out b5 N;rcases h5 with ⟨h0,rfl⟩|⟨h0,rfl,aa⟩
  ·
   have RF:=joI (show qJ y c i from⟨k,x,m.out,HX.out,h0⟩);have CA:=joI (joB B5.out f i)
   have c0:=f.cell 0;have c1:=f.cell 1
   have c2:=f.cell 2;simp only[joQ,joP,joO]at c0 c1 c2;have d0:∀o,(X.alloc o).cell? ⟨w.heap.size,0,none⟩=_:=fun o=>((f.alloc o).cell 0).trans rfl
   have d1:∀o,(X.alloc o).cell? ⟨w.heap.size,1,none⟩=_:=fun o=>((f.alloc o).cell 1).trans rfl;have d2:∀o,(X.alloc o).cell? ⟨w.heap.size,2,none⟩=_:=fun o=>((f.alloc o).cell 2).trans rfl
   have g0:∀o,(X.alloc o).frozen? ⟨w.heap.size,0,none⟩=false:=fun o=>(f.alloc o).frozen 0;have g1:∀o,(X.alloc o).frozen? ⟨w.heap.size,1,none⟩=false:=fun o=>(f.alloc o).frozen 1
   have g2:∀o,(X.alloc o).frozen? ⟨w.heap.size,2,none⟩=false:=fun o=>(f.alloc o).frozen 2;clear b5 f P h0;go_wp2_with fail;refine bodyPost_ret (jgf rfl _ _ w.heap.size _ rfl (CA.out _ rfl).2.1 rfl) rfl ?_;exact⟨(CA.out _ rfl).1,.inr (.inl ⟨d,i,_,HP.out,by rw[I];exact RF.out,rfl,(CA.out _ rfl).2.2⟩)⟩
  have au:=joI f;have aA:=joI aa
  have PN:Hid (qA y (c.take (i+1))=some (zH k x)):=by show _=_;rw[Qy HX.out,QP m.out,if_pos h0]
  have GN:Hid (Kq y (c.take (i+1))=Kq y (c.take i)++[zc k x]):=by show _=_;rw[Qy HX.out,Gr _ _ _ _ m.out]
  have SN:Hid (xS (c.take (i+1))=xS (c.take i)+x.length):=jk0 HX.out;clear b5 f aa P h0;go_wp2_with fail;go_roundw
  case rel=>exact⟨i+1,zH k x,ah,by go_num,PN.out,B5.out,au.out,by rw[GN.out,SN.out,<- jqu];exact aA.out⟩
  case measure=>simp[intOf];omega
 have aF:c.take i=c:=jpi (by omega);rw[aF]at p hP;obtain⟨⟨Q,a8,ak,aM,am,cK,CK,GK⟩,_⟩:=hP;obtain⟨ga,gc,rfl,_⟩:=je GK.row;obtain⟨PE,oE⟩:=jnJ j (ptr Q) (.int .i64 y.next) (.slice ga (Kq y c).length gc);have E:=CK.only oE (fun r hr e=>jhV CK j (by intro x hx s;simp at hx;rcases hx with rfl | rfl | rfl<;>exact fun h=>by cases h) N r hr e)
 have GE:=GK.box j (by decide) (by decide) oE;have ax:=joI (show zM w.heap.size _ Q a8 ak k (s.length+xS c) from⟨E.la,E.es,E.ok,E.sz,by have:=E.lb0;omega,fun b e=>by have:=E.ev0 b e;omega,E.len,E.nx⟩)
 have aw:=joI (show Kf w.heap.size _ _ (Kq y c) am from⟨jA GE.row (by omega),fun i g u h1 h2=>jA (GE.each i g u h1 h2) (by omega)⟩);have aB:=joI PE
 have BE:=joI (H.trans (oE.to_below H.size (fun r hr e=>by omega)));have m:=joI p
 have c0:=j.cell 0;have c1:=j.cell 1
 have c2:=j.cell 2;have f0:=j.frozen 0
 have f1:=j.frozen 1;have f2:=j.frozen 2
 have d0:=cK.cell 0;have d1:=cK.cell 1
 have d2:=cK.cell 2;simp only[joQ,joP,joO]at c0 c1 c2 d0 d1 d2;clear p cK CK GK PE oE E GE H j;unfold ptr at *
 go_wp2_with fail;refine bodyPost_ret (jgf rfl _ _ w.heap.size _ rfl aB.out rfl) rfl ?_;exact⟨BE.out,.inr (.inr ⟨d,k,Q,a8,ak,_,am,HP.out,by rw[I];exact m.out,by rw[I];rfl,ax.out,by rw[I];exact aw.out⟩)⟩
end Rp
namespace Sm.M
def st(x:Nat):Nat:=if x / 2147483648=1 then (x*2 % 4294967296) ^^^ 79764919 else x*2 % 4294967296
def stn:Nat->Nat->Nat
 | 0,x=>x
 | n+1,x=>stn n (st x)
def jl6(x c:Nat):Nat:=stn 8 (x ^^^ (c*16777216))
def feed(x:Nat)(l:List UInt8):Nat:=l.foldl (fun x c=>jl6 x c.toNat) x
theorem jk8(x:Nat):st x<4294967296:=by
 unfold st;split
 ·exact jqC (n:=32) (jq2 _ (by decide)) (by decide)
 exact jq2 _ (by decide)
theorem stn_lt(n x:Nat)(h:x<4294967296):stn n x<4294967296:=by
 induction n generalizing x with
 | zero=>exact h
 | succ n a=>exact a _ (jk8 x)
theorem stn_succ(n x:Nat):stn (n+1) x=st (stn n x):=by
 induction n generalizing x with
 | zero=>rfl
 | succ n a=>show stn (n+1) (st x)=st (stn n (st x));exact a _
theorem jjO(x c:Nat)(h:x<4294967296)(a:c<256):jl6 x c<4294967296 :=
 stn_lt _ _ (jqC (n:=32) h (by omega))
theorem feed_lt(l:List UInt8)(x:Nat)(h:x<4294967296):feed x l<4294967296:=by
 induction l generalizing x with
 | nil=>exact h
 | cons c l a=>exact a _ (jjO x _ h c.toNat_lt)
theorem feed_append(x:Nat)(l r:List UInt8):feed x (l++r)=feed (feed x l) r:=by simp[feed,List.foldl_append]
theorem feed_snoc(x:Nat)(l:List UInt8)(c:UInt8):feed x (l++[c])=jl6 (feed x l) c.toNat:=by simp[feed,List.foldl_append]
theorem tb(x i:Nat)(h:x<4294967296):(x*2 % 4294967296).testBit i=(decide (i<32)&&decide (0<i)&&x.testBit (i-1)):=by
 have:(x*2 % 4294967296)=(x <<< 1) % 2 ^ 32:=by rw[Nat.shiftLeft_eq]
 rw[this,Nat.testBit_mod_two_pow,Nat.testBit_shiftLeft];by_cases a:i<32<;>by_cases b:0<i<;>simp[a,b]<;>omega
theorem top(x:Nat)(h:x<4294967296):(x / 2147483648=1)↔x.testBit 31=true:=by rw[Nat.testBit_eq_decide_div_mod_eq,show 2 ^ 31=2147483648 from rfl];simp;omega
theorem jlb(x y:Nat)(hx:x<4294967296)(a:y<4294967296):(x ^^^ y)*2 % 4294967296=(x*2 % 4294967296) ^^^ (y*2 % 4294967296):=by apply jrs;intro i;rw[tb _ _ (jqC (n:=32) hx a),jq9,jq9,tb _ _ hx,tb _ _ a];cases decide (i<32)<;>cases decide (0<i)<;>simp
theorem jmK(x y:Nat)(hx:x<4294967296)(d:y<4294967296):st (x ^^^ y)=st x ^^^ st y:=by
 have c:x ^^^ y<4294967296:=jqC (n:=32) hx d;unfold st;rw[jlb x y hx d];simp only[top x hx,top y d,top _ c,jq9];generalize x*2 % 4294967296=a;generalize y*2 % 4294967296=b;generalize 79764919=p;cases x.testBit 31<;>cases y.testBit 31<;>simp
 ·rw[jrk]
 ·rw[jrk,jrk,Nat.xor_comm b p]
 rw[jrk,Nat.xor_comm p,jrk,Nat.xor_self,Nat.xor_zero]
theorem jk2(n x y:Nat)(hx:x<4294967296)(a:y<4294967296):stn n (x ^^^ y)=stn n x ^^^ stn n y:=by
 induction n generalizing x y with
 | zero=>rfl
 | succ n b=>show stn n (st _)=_;rw[jmK x y hx a,b _ _ (jk8 x) (jk8 y)];rfl
theorem jmM(x:Nat)(h:x<2147483648):st x=x*2:=by unfold st;rw[if_neg (by omega)];omega
theorem jk3(n x:Nat)(h:x*2 ^ n<4294967296):stn n x=x*2 ^ n:=by
 induction n generalizing x with
 | zero=>simp[stn]
 | succ n a =>
 have e:x*2 ^ (n+1)=x*2*2 ^ n:=by rw[jrc,Nat.mul_comm (2 ^ n) 2,Nat.mul_assoc]
 have hx:x<2147483648:=by
  have:=Nat.one_le_two_pow (n:=n);have b:x*2*1<=x*2*2 ^ n:=Nat.mul_le_mul_left _ this
  omega
 show stn n (st x)=_;rw[jmM x hx,a _ (by rw[<- e];exact h),e]
theorem four(x:Nat)(hx:x<4294967296):stn 4 x=(x*16 % 4294967296) ^^^ stn 4 (x / 268435456*268435456):=by
 have e:x=(x / 268435456*268435456) ^^^ (x % 268435456):=by
  have h:=Nat.two_pow_add_eq_or_of_lt (i:=28) (b:=x % 268435456) (jq2 _ (by decide)) (x / 268435456);have d:x / 268435456*268435456 ^^^ x % 268435456=2 ^ 28*(x / 268435456)+x % 268435456:=by
   rw[Nat.mul_comm,show(268435456:Nat)=2 ^ 28 from rfl];apply jrs;intro i;rw[h,jq9,Nat.testBit_or,Nat.testBit_two_pow_mul,Nat.testBit_mod_two_pow];by_cases a:i<28
   ·simp[a,Nat.not_le.2 a]
   simp[a]
  omega
 have c:x / 268435456*268435456<4294967296:=by omega
 have hl:x % 268435456<4294967296:=by omega
 conv=>lhs;rw[e]
 rw[jk2 4 _ _ c hl,jk3 4 (x % 268435456) (by omega),Nat.xor_comm];congr 1;omega
theorem m24(c:Nat)(h:c<256):c*16777216<4294967296:=by omega
theorem m16(c:Nat)(h:c<256):c*65536<16777216:=by omega
theorem a1(t:Nat):t*65536*256=t*16777216:=by omega
theorem a2(t:Nat):t*256*256=t*65536:=by omega
theorem z24(p y:Nat)(h:p*16777216=y)(a:y<16777216):p=0/\y=0:=by omega
theorem z8(p y:Nat)(h:p*256=y)(a:y<256):p=0/\y=0:=by omega
end Sm.M
namespace Sm
def cat(ss:List ByteArray):List UInt8:=ss.flatMap (·.data.toList)
theorem jj9(a:List ByteArray)(k:Nat)(s:ByteArray)(h:a[k]?=some s):cat (a.take (k+1))=cat (a.take k)++s.data.toList:=by
 have c:k<a.length:=by
  rcases jpc k a.length with b|b
  ·exact b
  rw[jpe b]at h;cases h
 rw[jqo c,cat,jpo];have:a[k]=s:=by rw[joM c]at h;injection h
 rw[this];simp[cat]
def M.crc(l:List UInt8):Nat:=4294967295-M.feed 4294967295 l
theorem M.crc_lt(l:List UInt8):M.crc l<4294967296:=by unfold M.crc;omega
def dg(n:Nat):UInt8:=if n<10 then UInt8.ofNat (48+n) else UInt8.ofNat (87+n)
def figs(x:Nat):ByteArray:=⟨#[dg (x / 268435456 % 16),dg (x / 16777216 % 16),dg (x / 1048576 % 16),dg (x / 65536 % 16),dg (x / 4096 % 16),dg (x / 256 % 16),dg (x / 16 % 16),dg (x % 16)]⟩
theorem jht(x k:Nat)(a:k<8):(figs x).data.toList.drop (8-(k+1))=dg (x / 16 ^ k % 16)::(figs x).data.toList.drop (8-k):=by
 match k,a with
 | 0,_ | 1,_ | 2,_ | 3,_ | 4,_ | 5,_ | 6,_ | 7,_=>simp[figs]
 | n+8,h=>omega
def val(c:Nat):Option Nat:=if 48<=c/\c<=57 then some (c-48) else if 97<=c/\c<=102 then some (c-87) else none
def DIG:List UInt8:=[48,49,50,51,52,53,54,55,56,57,97,98,99,100,101,102]
def ix(c:Nat):Int:=match val c with | some d=>d | none => -1
theorem jmD{c d:Nat}(h:val c=some d):d<16:=by
 unfold val at h;split at h
 ·injection h;omega
 split at h
 ·injection h;omega
 cases h
def tk(acc:Nat):List UInt8->Option Nat
 | []=>some acc
 | c::l=>match val c.toNat with
  | none=>none
  | some d=>tk (acc*16 % 4294967296+d) l
def takes(l:List UInt8):Option Nat:=if l.length=8 then tk 0 l else none
theorem jns:∀(c:Fin 256) (k:Fin 16),((dg k.val).toNat=c.val)↔(val c.val=some k.val):=by decide +kernel
theorem jmE{n:Nat}(h:n<16):val (dg n).toNat=some n:=by exact(jns ⟨(dg n).toNat,(dg n).toNat_lt⟩ ⟨n,h⟩).1 rfl
theorem jal(a n:Nat)(l:List UInt8)(h:n<16):tk a (dg n::l)=tk (a*16 % 4294967296+n) l:=by rw[tk,jmE h]
theorem takes_figs(x:Nat)(hx:x<4294967296):takes (figs x).data.toList=some x:=by
 unfold takes;rw[if_pos (show(figs x).data.toList.length=8 from rfl)];have e:(figs x).data.toList=[dg (x / 268435456 % 16),dg (x / 16777216 % 16),dg (x / 1048576 % 16),dg (x / 65536 % 16),dg (x / 4096 % 16),dg (x / 256 % 16),dg (x / 16 % 16),dg (x % 16)]:=rfl
 rw[e,jal _ _ _ (by omega),jal _ _ _ (by omega),jal _ _ _ (by omega),jal _ _ _ (by omega),jal _ _ _ (by omega),jal _ _ _ (by omega),jal _ _ _ (by omega),jal _ _ _ (by omega)];rw[show 0*16 % 4294967296+x / 268435456 % 16=x / 268435456 by omega,show x / 268435456*16 % 4294967296+x / 16777216 % 16=x / 16777216 by omega,
  show x / 16777216*16 % 4294967296+x / 1048576 % 16=x / 1048576 by omega,show x / 1048576*16 % 4294967296+x / 65536 % 16=x / 65536 by omega,
  show x / 65536*16 % 4294967296+x / 4096 % 16=x / 4096 by omega,show x / 4096*16 % 4294967296+x / 256 % 16=x / 256 by omega,
  show x / 256*16 % 4294967296+x / 16 % 16=x / 16 by omega,show x / 16*16 % 4294967296+x % 16=x by omega]
 rfl
end Sm
section
open Go.Lib
theorem Ve{u:Nat}(h:u<10):(UInt8.ofNat (48+u)).toNat=48+u:=by rw[UInt8.toNat_ofNat'];omega
theorem za(u:Nat):∀c∈decDigits u,48<=c.toNat/\c.toNat<=57:=by
 induction u using Nat.strongRecOn with
 | _ u b =>
 intro c a;by_cases h:u<10
 ·rw[decDigits_one h]at a;rw[List.mem_singleton.1 a,Ve h];omega
 rw[decDigits,dif_neg h]at a;rcases List.mem_append.1 a with a|a
 ·exact b (u / 10) (by omega) c a
 rw[List.mem_singleton.1 a,Ve (by omega)];omega
theorem WS(u:Nat):decDigits u≠[]:=by
 intro h;have:=decDigits_length u
 have:=nDigits_pos u;rw[h]at *;simp at *;omega
theorem KZ(c:UInt8):∀(l:List UInt8) (acc:Nat),parseUint10 acc (l++[c])=(match parseUint10 acc l with | .ok a=>parseUint10 a [c] | NumEnd.syntax=>NumEnd.syntax | .range=>.range)
 | [],acc=>rfl
 | d::r,acc=>by
  show parseUint10 acc (d::(r++[c]))=_
  unfold parseUint10
  split
  ·split
   ·rfl
   split
   ·rfl
   exact KZ c r _
  rfl
theorem ZO(u:Nat)(hu:u<18446744073709551616):parseUint10 0 (decDigits u)=.ok u:=by
 induction u using Nat.strongRecOn with
 | _ u ih =>
 by_cases h:u<10
 ·rw[decDigits_one h]
  unfold parseUint10
  rw[Ve h,if_pos (by omega),if_neg (by omega),if_neg (by omega)]
  unfold parseUint10
  congr 1;omega
 rw[decDigits,dif_neg h,KZ,ih (u / 10) (by omega) (by omega)]
 show parseUint10 (u / 10) _=_
 unfold parseUint10
 rw[Ve (show u % 10<10 by omega),if_pos (by omega),if_neg (by omega),if_neg (by omega)]
 unfold parseUint10
 congr 1;omega
def I64(n:Int):Prop := -9223372036854775808<=n/\n<=9223372036854775807
theorem jh7{n:Int}(h:I64 n):atoiAll (itoa n)=.ok n:=by
 obtain⟨f,g⟩:=h;unfold itoa;by_cases e:n<0
 ·rw[if_pos e];unfold atoiAll;have a:(45:UInt8).toNat=45:=rfl
  simp only[a,or_true,if_true];have d:parseMag (decDigits n.natAbs)=.ok n.natAbs:=by unfold parseMag;rw[if_neg (WS _),ZO _ (by omega)]
  rw[d];simp only[not_true,false_and,if_false,true_and];rw[if_neg (by omega)];congr 1;omega
 rw[if_neg e];have d:parseMag (decDigits n.toNat)=.ok n.toNat:=by unfold parseMag;rw[if_neg (WS _),ZO _ (by omega)]
 cases b:decDigits n.toNat with
 | nil=>exact absurd b (WS _)
 | cons c r =>
 have i:=za n.toNat c (by rw[b];exact joV);unfold atoiAll;simp only;rw[if_neg (by omega),<- b,d];simp only;rw[if_neg (by omega),if_neg (by omega),if_neg (by omega)];congr 1;omega
def qt(l:List UInt8):Int:=match atoiAll l with | .ok v=>v | NumEnd.syntax=>0 | .range=>atoiSat l
theorem vB{n:Int}(h:I64 n):qt (itoa n)=n:=by unfold qt;rw[jh7 h]
theorem jeR(n:Int):∀c∈itoa n,c.toNat=45\/(48<=c.toNat/\c.toNat<=57):=by
 intro c a;unfold itoa at a;split at a
 ·rcases List.mem_cons.1 a with rfl|a
  ·exact .inl rfl
  exact .inr (za _ c a)
 exact .inr (za _ c a)
theorem jlJ{n:Int}{c:UInt8}(b:c.toNat≠45)(d:c.toNat<48\/57<c.toNat):c∉itoa n:=fun a=>by have:=jeR n c a;omega
theorem jjj{a b:Int}(c:I64 a)(d:I64 b)(h:itoa a=itoa b):a=b:=by rw[<- vB c,<- vB d,h]
def Jk(n:Int)(l:List UInt8):Int:=l.foldl (fun n c=>10*n-((c.toNat:Int)-48)) n
theorem QV(n:Int)(l:List UInt8)(c:UInt8):Jk n (l++[c])=10*Jk n l-((c.toNat:Int)-48):=by unfold Jk;rw[jrh];rfl
theorem Jj(u:Nat):Jk 0 (decDigits u) = -(u:Int):=by
 induction u using Nat.strongRecOn with
 | _ u a =>
 by_cases h:u<10
 ·rw[decDigits_one h];show 10*(0:Int)-(((UInt8.ofNat (48+u)).toNat:Int)-48)=_
  rw[Ve h];omega
 rw[decDigits,dif_neg h,QV,a (u / 10) (by omega),Ve (show u % 10<10 by omega)];omega
theorem JM(u k:Nat):∃m:Nat,Jk 0 ((decDigits u).take k) = -(m:Int)/\m<=u:=by
 induction u using Nat.strongRecOn generalizing k with
 | _ u b =>
 by_cases a:(decDigits u).length<=k
 ·rw[jpi a];exact⟨u,Jj u,joJ _⟩
 by_cases h:u<10
 ·rw[decDigits_one h]at a ⊢;have:k=0:=by simp at a;omega
  subst this;exact⟨0,rfl,joT _⟩
 rw[decDigits,dif_neg h]at a ⊢;rw[joK]at a;simp only[joR,jpm]at a;rw[jqw (by omega)];obtain⟨m,e,c⟩:=b (u / 10) (by omega) k;exact⟨m,e,by omega⟩
end
end Go.Proofs.YtbapfpekklcicaaGreatDoor
