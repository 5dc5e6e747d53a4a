/- Texts put together:UJ,UL,TM,UM. -/
import Derived.Test.YtpibhbjmcmfnmaaGreatDoorBag14
set_option linter.unusedVariables false
set_option maxRecDepth 100000
set_option maxHeartbeats 16000000
namespace Go.Proofs.YtpibhbjmcmfnmaaGreatDoor
open Go.RowKit Go.Shelf Tryz
section
open Go.Lib
theorem qR{P:Program}(w:World)(dT sT ty elem:TypeId)(i:TypeInfo)(b o dLen dCap:Nat)(a:Addr)(sLen sCap n:Nat)(cs:List Value)
  (hu:P.underlying dT=some (.slice elem)) (hi:P.info? elem=some i) (hm:Nat.min sLen dLen=n) (hn:cs.length=n*i.size)
  (hsrc:∀j v,cs[j]?=some v->w.cell? (a.add j)=some v) (hc:∀j,j<cs.length->(w.cell? ⟨b,o+j,none⟩).isSome=true) (hf:∀j,j<cs.length->w.frozen? ⟨b,o+j,none⟩=false) (h1:∀v∈cs,v.oneCell'=true) :
  (Builtin.copy_ #[dT,sT] ty #[.slice (some ⟨b,o,none⟩) dLen dCap,.slice (some a) sLen sCap]).run P w=.ok (goInt n) (w.setCells b o cs):=by
 have hl:=run_loadCells_list (P:=P) w a cs hsrc
 have hst:=run_storeCells_cells (P:=P) b o cs 0 w (by simpa using hc) (by simpa using hf) h1
 rw[hn]at hl
 simp[Builtin.copy_,run_underlying hu,Builtin.lenOf,Builtin.firstCells,sizeOf,typeInfo,hi,hm,hl,hst]
theorem jbO{W:World}{b:Nat}{t:TypeId}{cur:Array Value}(h:ja W b t cur):W.shape? b=some (t,cur.size):=by
 unfold World.shape?
 rw[show W.heap[b]?=_ from h]
theorem jW{P:Program}{w:World}{ops:Array Oper}{rest:List Oper}{o:Oper}{a:Act}{Q:Exit->Act->World->Prop}(hgd:o.guard=none)(s x:Operand)(t:TypeId)
  (hop:o.op=Op.call {callee:=Callee.builtin Builtin.append,args:=#[s,x],argTypes:=#[t,t]}) (base:Nat)
  (e:TypeId) (i:TypeInfo) (z:Value) (size bytes:Nat) (ht:P.underlying t=some (.slice e)) (hi:P.info? e=some i) (hz:i.zero=some z)
  (hsize:i.size=size) (hby:i.bytes=bytes) (hzs:z.cells.size=size) (hsz:0<size)
  (v:Value) (n:Nat) (xs:List Value) (hs:a.eval s=v) (hown:w.ownsRow base e size v n xs)
  (ad:Addr) (m c:Nat) (news:List Value) (hx:a.eval x=.slice (some ad) m c) (hl:news.length=m*size) (hnews:∀j u,news[j]?=some u->w.cell? (ad.add j)=some u) (h1:∀u∈news,u.oneCell'=true)
  (h63:n+m<=maxLen) (hbytes:(n+m)*bytes<=140737488355328) (hb:base<=w.heap.size)
  (h:∀v' w',w'.ownsRow base e size v' (n+m) (xs++news)->w.grownBy w' v.ownBlock->Hid (v'.ownBlock=v.ownBlock\/v'.ownBlock=some w.heap.size)->wpList P ops Q rest (a.put o.dst v') w'):wpList P ops Q (o::rest) a w:=by
 refine wpList_plain hgd fun K hK => ?_
 obtain⟨v',w',hr,h2,h3,h4,h5⟩:=run_append_own_at (P:=P) w base t o.type e i z size bytes ht hi hz hsize hby hzs hsz v n xs hown ad m c news hl hnews h1 h63 hbytes hb
 unfold Oper.wp
 simp[execOp,hop,resolve,invoke,builtin,hs,hx,hr,Result.andThen]
 exact hK _ _ (h v' w' h2 h3 h5)
def jlj(lo:Nat)(v:Value)(n i:Nat)(xs ys:List Value)(w:World)(e:Ending)(w':World):Prop :=
 ∃v',e=.returned v'/\w'.ownsRow lo 238 4 v' (n+1) (xs.take (i*4)++(ys++xs.drop (i*4)))/\jv (fun r=>v.ownBlock=some r) w w'/\(v'.ownBlock=v.ownBlock\/v'.ownBlock=some w.heap.size)
theorem jdq(lo:Nat)(v:Value)(n vb:Nat)(xs ys:List Value)(w:World)(hrow:w.ownsRow lo 238 4 v n xs)(hn:n<=1000000)(hlo:lo<=w.heap.size)(hy:ys.length=4)(hvb:ja w vb 238 ys.toArray)(hy1:∀u∈ys,u.oneCell'=true):
  Calls prog 211 #[v,.int .i64 (n:Nat),sl vb 1 1] w fun e w'=>jlj lo v n n xs ys w e w':=by
 obtain⟨i0,hi,hz0,hz1,hz2⟩:=info_parts xJ
 have HV:∀j u,ys[j]?=some u->w.cell? ((⟨vb,0,none⟩:Addr).add j)=some u:=fun j u h=>by
  have ea:(⟨vb,0,none⟩:Addr).add j=⟨vb,j,none⟩:=by unfold Addr.add;split<;>simp_all
  rw[ea,hvb.cell j];simpa using h
 have HV:=jnc HV
 have HR:=jnc hrow
 have hlen:=hrow.1
 have HL:=jnc hlen
 have E1:xs.take (n*4)=xs:=jnD (by omega)
 have E2:xs.drop (n*4)=[]:=jn6 (by omega)
 have E:=jnc (And.intro E1 E2)
 clear E1 E2 hlen
 unfold sl
 rcases jor hrow with ⟨rfl,rfl⟩|⟨g,cap,rfl⟩
 ·clear hrow
  go_enter func211,ntmps211
  go_wp2_with (at_builtin;refine jW rfl _ _ 232 rfl lo 238 i0 _ 4 56 underlying232 hi hz0 hz1 hz2 rfl (by decide) _ _ _ rfl HR.out ⟨vb,0,none⟩ 1 1 _ rfl (by rw[hy]) HV.out hy1 ?c3 ?c4 ?c5 ?_)
  case c3=>unfold maxLen;omega
  case c4=>omega
  case c5=>exact hlo
  intro v' w3 hown' hgrow hbk
  obtain⟨g',cap',rfl⟩:=ownsRow_succ hown'
  go_wp2_with fail
  go_ret
  exact⟨_,rfl,by rw[E.out.1,E.out.2,jnR];exact hown',(jv.refl _ _).grown hgrow (fun k hk=>.inl hk),hbk.out⟩
 clear hrow
 go_enter func211,ntmps211
 go_wp2_with (at_builtin;refine jW rfl _ _ 232 rfl lo 238 i0 _ 4 56 underlying232 hi hz0 hz1 hz2 rfl (by decide) _ _ _ rfl HR.out ⟨vb,0,none⟩ 1 1 _ rfl (by rw[hy]) HV.out hy1 ?c3 ?c4 ?c5 ?_)
 all_goals first | (show n+1<=maxLen;unfold maxLen;omega) | (show(n+1)*56<=140737488355328;omega) | exact hlo | skip
 all_goals
  intro v' w3 hown' hgrow hbk
  obtain⟨g',cap',rfl⟩:=ownsRow_succ hown'
  go_wp2_with fail
  go_ret
  exact⟨_,rfl,by rw[E.out.1,E.out.2,jnR];exact hown',(jv.refl _ _).grown hgrow (fun k hk=>.inl hk),hbk.out⟩
theorem jaV(w:World)(vb g off lb cb:Nat)(cur cur':Array Value)(hne:vb≠g)(hv:ja w vb 238 cur')(hg:ja w g 238 cur)(h0:cur.size≠0):
  (callFunc 255 #[.slice (some ⟨vb,0,none⟩) 1 1,.slice (some ⟨g,off,none⟩) lb cb]).run prog w=.ok (.value (.bool false)) w:=by
 obtain⟨i0,hi,hz0,hz1,hz2⟩:=info_parts xJ
 rw[run_callFunc_extern func255 (by kernel_rfl) (by kernel_rfl) (by kernel_rfl) (e:=Extern.SlicesOverlaps.overlaps #[232,232] #[4]) (by kernel_rfl),
  Lib.run_overlaps_apart w 232 4 238 underlying232 4 (fun w=>by simp[sizeOf,typeInfo,hi,hz1]) ⟨vb,0,none⟩ ⟨g,off,none⟩ 1 1 lb cb hne 238 238 _ _ (jbO hv) (jbO hg) h0 (hv.frozen 0) (hv.frozen _)]
 rfl
theorem Gr(lo g n cap i vb:Nat)(xs ys:List Value)(w:World)(hrow:w.ownsRow lo 238 4 (sl g n cap) n xs)(hone:∀u∈xs,u.oneCell'=true)(hi:i<n)(hn:n<=1000000)(hroom:n+1<=cap)(hy:ys.length=4)(hvb:ja w vb 238 ys.toArray)(hne:vb≠g)(hy1:∀u∈ys,u.oneCell'=true):
  Calls prog 211 #[sl g n cap,.int .i64 (i:Nat),sl vb 1 1] w fun e w'=>jlj lo (sl g n cap) n i xs ys w e w':=by
 obtain⟨i0,hi0,hz0,hz1,hz2⟩:=info_parts xJ
 have hlen:=hrow.1
 obtain⟨cur,hlo,hg,hle,hcm,hcs,htk⟩:∃cur,lo<=g/\ja w g 238 cur/\n<=cap/\cap<=maxLen/\cur.size=cap*4/\cur.toList.take (n*4)=xs:=by
  rcases hrow.2 with ⟨q,_⟩|⟨g',cap',cur,q,a,b,c,d,e,f⟩
  ·cases q
  cases q;exact⟨cur,a,b,c,d,e,f⟩
 have hat:∀j,j<n*4->xs[j]?=cur[j]?:=fun j hj=>by rw[<- htk,jnS,if_pos hj];simp
 have hu:prog.underlying 232=some (.slice 238):=underlying232
 obtain⟨news,hnews⟩:∃news,news=xs.drop (i*4):=⟨_,rfl⟩
 have hnl:news.length=(n-i)*4:=by rw[hnews,jnr,hlen];omega
 have hn1:∀u∈news,u.oneCell'=true:=fun u hu=>hone u (by rw[hnews]at hu;exact job hu)
 have hnat:∀j u,news[j]?=some u->cur[i*4+j]?=some u:=fun j u hj=>by
  have hjl:=(List.getElem?_eq_some_iff.1 hj).1
  rw[hnews,joc]at hj
  rw[<- hat _ (by omega)];exact hj
 have hcp1:Hid (∀ty dc sc,(Builtin.copy_ #[232,232] ty #[.slice (some ⟨g,(i+1)*4,none⟩) (n-i) dc,.slice (some ⟨g,i*4,none⟩) (n+1-i) sc]).run prog w.drew=.ok (goInt ((n-i:Nat):Int)) (w.drew.setCells g ((i+1)*4) news)):=fun ty dc sc =>
  qR w.drew _ _ ty 238 i0 g ((i+1)*4) (n-i) dc ⟨g,i*4,none⟩ (n+1-i) sc (n-i) news hu hi0 (by show min (n+1-i) (n-i)=n-i;omega) (by rw[hz1,hnl])
   (fun j u hj=>by rw[jpB];exact(hg.cell _).trans (hnat j u hj))
   (fun j hj=>by show(w.cell? _).isSome=true;rw[hg.cell,jnT (by omega)];rfl) (fun j hj=>hg.frozen _) hn1
 obtain⟨W1,hW1⟩:∃W1,W1=w.drew.setCells g ((i+1)*4) news:=⟨_,rfl⟩
 have C1:ja W1 g 238 (Kh cur ((i+1)*4) news):=by rw[hW1];exact ja.lay news _ (show ja w.drew g _ cur from hg)
 have hsz1:(Kh cur ((i+1)*4) news).size=cap*4:=by rw[qz,hcs]
 have O1:jv (· = g) w W1:=by rw[hW1];exact yW (S:=(· = g)) (b:=g) (.inl rfl) _ _ (jv.refl _ w).drew
 have V1:ja W1 vb 238 ys.toArray:=hvb.only O1 hne
 have hcp2:Hid (∀ty dc,(Builtin.copy_ #[232,232] ty #[.slice (some ⟨g,i*4,none⟩) (n+1-i) dc,.slice (some ⟨vb,0,none⟩) 1 1]).run prog W1=.ok (goInt 1) (W1.setCells g (i*4) ys)):=fun ty dc =>
  qR W1 _ _ ty 238 i0 g (i*4) (n+1-i) dc ⟨vb,0,none⟩ 1 1 1 ys hu hi0 (by show min 1 (n+1-i)=1;omega) (by rw[hz1,hy])
   (fun j u hj=>by
    have ea:(⟨vb,0,none⟩:Addr).add j=⟨vb,j,none⟩:=by unfold Addr.add;split<;>simp_all
    rw[ea,V1.cell j];simpa using hj)
   (fun j hj=>by rw[C1.cell,jnT (by omega)];rfl) (fun j hj=>C1.frozen _) hy1
 have OV:=jnc (fun lb cb off=>jaV w vb g off lb cb cur ys.toArray hne hvb hg (by omega))
 rw[<- hW1]at hcp1
 have HL:=jnc hlen
 have HNW:=jnc hnews
 have HAT:=jnc hat
 have HNL:=jnc hnl
 have HC1:=jnc C1
 have HO1:=jnc O1
 have HCS:=jnc hcs
 have HSZ:=jnc hsz1
 clear hnat hn1 hnl hnews hat htk hg C1 hrow hone hW1 hlen V1 hvb hcs hsz1 O1
 unfold sl
 unfold maxLen at hcm
 have hw1:IntKind.i64.wrap ((i:Int)+1)=(i:Int)+1:=jn1 _ (by omega)
 have hb1:(0:Int)<=(i:Int)+1:=by omega
 have hin:i<=n:=by omega
 have htn:((i:Int)+1).toNat=i+1:=by omega
 have hb2:¬(cap=i+1):=by omega
 have hb3:(i:Int)<=(n:Int)+1:=by omega
 have hb4:¬(cap=i):=by omega
 have hov:=OV.out
 go_enter func211,ntmps211
 go_wp2_with (simp only[hov])
 go_region_law (refine step_copy_runI rfl (.tmp 73) (.tmp 76) 232 232 rfl (.slice (some ⟨g,(i+1)*4,none⟩) (n-i) (cap-(i+1))) (.slice (some ⟨g,i*4,none⟩) (n+1-i) (cap-i)) (by simp[Act.eval,Act.put]) (by simp[Act.eval,Act.put]) (hcp1.out _ _ _) ?_)
 have hq:=fun ty=>hcp2.out ty (cap-i)
 go_wp2_with fail
 go_ret
 obtain⟨W2,hW2⟩:∃W2,W2=W1.setCells g (i*4) ys:=⟨_,rfl⟩
 have C2:ja W2 g 238 (Kh (Kh cur ((i+1)*4) news) (i*4) ys):=by rw[hW2];exact ja.lay _ _ HC1.out
 refine⟨.slice (some ⟨g,0,none⟩) (n+1) cap,rfl,?_,?_,.inl rfl⟩
 ·rw[<- hW2]
  have hll:(xs.take (i*4)++(ys++xs.drop (i*4))).length=(n+1)*4:=by rw[jnf,jnf,jnk,jnr,HL.out,hy];omega
  refine⟨hll,.inr ⟨g,cap,_,rfl,hlo,C2,hroom,by unfold maxLen;omega,by rw[qz,HSZ.out],?_⟩⟩
  apply joG
  intro j
  rw[jnS]
  split
  ·rename_i hj
   rw[joQ,xG _ _ _ _ (by rw[HSZ.out,hy];omega),hy]
   split
   ·rename_i h2
    rw[jnz (by rw[jnk,HL.out];omega),jnk,HL.out,jnJ (by omega)]
    congr 1;omega
   rename_i h2
   rw[xG _ _ _ _ (by rw[HNL.out,HCS.out];omega),HNL.out]
   split
   ·rename_i h3
    rw[jnz (by rw[jnk,HL.out];omega),jnk,HL.out,jnz (by omega),hy,HNW.out,joc,joc]
    congr 1;omega
   rename_i h3
   rw[jnJ (by rw[jnk,HL.out];omega),jnS,if_pos (by omega),HAT.out j (by omega)]
  rename_i hj
  rw[jnY (by omega)]
 refine(yW (S:=(· = g)) (b:=g) (.inl rfl) _ _ HO1.out).mono (fun r _ e => ?_)
 rw[e];rfl
theorem yS(b:Nat):∀(vs:List Value) (o:Nat) (W W':World),W.heap=W'.heap->(W.setCells b o vs).heap=(W'.setCells b o vs).heap
 | [],_,_,_,h=>h
 | v::r,o,W,W',h=>yS b r (o+1) (W.setCell ⟨b,o,none⟩ v) (W'.setCell ⟨b,o,none⟩ v) (by unfold World.setCell;simp only[h])
theorem Wl(b:Nat):∀(vs:List Value) (o:Nat) (W:World),(W.setCells b o vs).os=W.os
 | [],_,_=>rfl
 | v::r,o,W=>(Wl b r (o+1) (W.setCell ⟨b,o,none⟩ v)).trans rfl
theorem ZM(b:Nat):∀(vs:List Value) (o:Nat) (W:World),(W.setCells b o vs).tape=W.tape
 | [],_,_=>rfl
 | v::r,o,W=>(ZM b r (o+1) (W.setCell ⟨b,o,none⟩ v)).trans rfl
theorem xD(b:Nat):∀(vs:List Value) (o:Nat) (W:World),(W.setCells b o vs).output=W.output
 | [],_,_=>rfl
 | v::r,o,W=>(xD b r (o+1) (W.setCell ⟨b,o,none⟩ v)).trans rfl
theorem vp(Z:Array Value)(k:Nat):(Builtin.zeroCells Z k).size=k*Z.size:=by simp[Builtin.zeroCells]
theorem ja2(lo g n cap i vb:Nat)(xs ys:List Value)(w:World)(hrow:w.ownsRow lo 238 4 (sl g n cap) n xs)(hone:∀u∈xs,u.oneCell'=true)(hi:i<n)(hn:n<=1000000)(hroom:cap<n+1)(hlow:lo<=w.heap.size)(hy:ys.length=4)(hvb:ja w vb 238 ys.toArray)(hy1:∀u∈ys,u.oneCell'=true):
  Calls prog 211 #[sl g n cap,.int .i64 (i:Nat),sl vb 1 1] w fun e w'=>jlj lo (sl g n cap) n i xs ys w e w':=by
 obtain⟨i0,hi0,hz0,hz1,hz2⟩:=info_parts xJ
 have hlen:=hrow.1
 obtain⟨cur,hlo,hg,hle,hcm,hcs,htk⟩:∃cur,lo<=g/\ja w g 238 cur/\n<=cap/\cap<=maxLen/\cur.size=cap*4/\cur.toList.take (n*4)=xs:=by
  rcases hrow.2 with ⟨q,_⟩|⟨g',cap',cur,q,a,b,c,d,e,f⟩
  ·cases q
  cases q;exact⟨cur,a,b,c,d,e,f⟩
 obtain rfl:cap=n:=by omega
 have hat:∀j,j<cap*4->xs[j]?=cur[j]?:=fun j hj=>by rw[<- htk,jnS,if_pos hj];simp
 have hu:prog.underlying 232=some (.slice 238):=underlying232
 have hgw:=hg.lt
 obtain⟨Z,hZ⟩:∃Z:Array Value,Z=(Value.agg #[.int .i64 0,.string ⟨#[]⟩,.slice none 0 0,.int .i64 0]).cells:=⟨_,rfl⟩
 have hZs:Z.size=4:=by rw[hZ];rfl
 obtain⟨G,hG⟩:∃G,G=grownCap w (cap+1) cap 238:=⟨_,rfl⟩
 obtain⟨ROW,hROW⟩:∃ROW:Array Value,ROW=(xs.take (i*4)).toArray++Builtin.zeroCells Z (cap+1-i)++Builtin.zeroCells Z (G-(cap+1)):=⟨_,rfl⟩
 have hGn:cap+1<=G:=by rw[hG];exact grownCap_ge w _ _ _
 have hG63:G<=9223372036854775807:=by
  have:=grownCap_le_maxLen w (cap+1) cap 238 (by unfold maxLen;omega)
  rw[<- hG]at this
  unfold maxLen at this
  omega
 have hrz:Hid (∀ty,(Builtin.append_ #[232,3] ty #[.slice (some ⟨g,0,none⟩) i cap,.int .i64 ((cap:Int)+1-(i:Int))]).run prog w=.ok (.slice (some ⟨w.heap.size,0,none⟩) (cap+1) G) (w.drew.alloc (.cells ROW 238))):=fun ty=>by
  have hold:(Builtin.firstCells i0.size i (.slice (some ⟨g,0,none⟩) i cap)).run prog w.drew=.ok (xs.take (i*4)).toArray w.drew :=
   run_firstCells_some w.drew i0.size i ⟨g,0,none⟩ i cap (xs.take (i*4)) (by rw[jnk,hlen,hz1];omega) (fun j v hj=>by
    have ea:(⟨g,0,none⟩:Addr).add j=⟨g,j,none⟩:=by unfold Addr.add;split<;>simp_all
    rw[jnS]at hj
    split at hj
    ·rename_i h2
     rw[ea]
     show w.cell? _=_
     rw[hg.cell,<- hat j (by omega)];exact hj
    cases hj)
  have h:=Lib.run_append_grow_zeros w 232 3 ty 238 i0 _ .i64 .i64 hu underlying3 hi0 hz0 (some ⟨g,0,none⟩) i cap (xs.take (i*4)) hold (cap+1-i) (by omega) (by omega) (by omega) (by omega) (by rw[hz2];omega) (by rw[hz2,show i+(cap+1-i)=cap+1 by omega];exact growslice_fits (by omega) (by omega))
  rw[show i+(cap+1-i)=cap+1 by omega,<- hG,<- hZ,<- hROW]at h
  rw[show(cap:Int)+1-(i:Int)=((cap+1-i:Nat):Int) by omega]
  exact h
 have hRs:ROW.size=G*4:=by
  rw[hROW,jo3,jo3,vp,vp,hZs,jnV,jnk,hlen]
  omega
 have hRat:∀j,j<i*4->ROW[j]?=xs[j]?:=fun j hj=>by
  rw[hROW,Array.append_assoc,Array.getElem?_append_left (by rw[jnV,jnk,hlen];omega),jnl,jnS,if_pos hj]
 obtain⟨news,hnews⟩:∃news,news=xs.drop (i*4):=⟨_,rfl⟩
 have hnl:news.length=(cap-i)*4:=by rw[hnews,jnr,hlen];omega
 have hn1:∀u∈news,u.oneCell'=true:=fun u hu=>hone u (by rw[hnews]at hu;exact job hu)
 have hnat:∀j u,news[j]?=some u->cur[i*4+j]?=some u:=fun j u hj=>by
  have hjl:=(List.getElem?_eq_some_iff.1 hj).1
  rw[hnews,joc]at hj
  rw[<- hat _ (by omega)];exact hj
 obtain⟨W1,hW1⟩:∃W1,W1=w.drew.alloc (.cells ROW 238):=⟨_,rfl⟩
 have C1:ja W1 w.heap.size 238 ROW:=by rw[hW1];exact ja.new w.drew _ _
 have G1:ja W1 g 238 cur:=by rw[hW1];exact(show ja w.drew g _ cur from hg).alloc _
 have V1:ja W1 vb 238 ys.toArray:=by rw[hW1];exact(show ja w.drew vb _ _ from hvb).alloc _
 have hgN:g≠w.heap.size:=by omega
 have hcpA:Hid (∀(W:World),W.heap=W1.heap->∀ty dc,(Builtin.copy_ #[232,232] ty #[.slice (some ⟨w.heap.size,i*4,none⟩) (cap+1-i) dc,.slice (some ⟨vb,0,none⟩) 1 1]).run prog W=.ok (goInt 1) (W.setCells w.heap.size (i*4) ys)):=fun W hW ty dc =>
  have CW:ja W w.heap.size 238 ROW:=by show W.heap[_]?=_;rw[hW];exact C1
  have VW:ja W vb 238 ys.toArray:=by show W.heap[_]?=_;rw[hW];exact V1
  qR W _ _ ty 238 i0 w.heap.size (i*4) (cap+1-i) dc ⟨vb,0,none⟩ 1 1 1 ys hu hi0 (by show min 1 (cap+1-i)=1;omega) (by rw[hz1,hy])
   (fun j u hj=>by
    have ea:(⟨vb,0,none⟩:Addr).add j=⟨vb,j,none⟩:=by unfold Addr.add;split<;>simp_all
    rw[ea,VW.cell j];simpa using hj)
   (fun j hj=>by rw[CW.cell,jnT (by omega)];rfl) (fun j hj=>CW.frozen _) hy1
 obtain⟨W2,hW2⟩:∃W2,W2=W1.setCells w.heap.size (i*4) ys:=⟨_,rfl⟩
 have C2:ja W2 w.heap.size 238 (Kh ROW (i*4) ys):=by rw[hW2];exact ja.lay ys _ C1
 have O2:jv (· = w.heap.size) W1 W2:=by rw[hW2];exact yW (S:=(· = w.heap.size)) (b:=w.heap.size) (.inl rfl) _ _ (jv.refl _ _)
 have G2:ja W2 g 238 cur:=G1.only O2 hgN
 have hs2:(Kh ROW (i*4) ys).size=G*4:=by rw[qz,hRs]
 have hcpB:Hid (∀(W:World),W.heap=W2.heap->∀ty dc sc,(Builtin.copy_ #[232,232] ty #[.slice (some ⟨w.heap.size,(i+1)*4,none⟩) (cap-i) dc,.slice (some ⟨g,i*4,none⟩) (cap-i) sc]).run prog W=.ok (goInt ((cap-i:Nat):Int)) (W.setCells w.heap.size ((i+1)*4) news)):=fun W hW ty dc sc =>
  have CW:ja W w.heap.size 238 (Kh ROW (i*4) ys):=by show W.heap[_]?=_;rw[hW];exact C2
  have GW:ja W g 238 cur:=by show W.heap[_]?=_;rw[hW];exact G2
  qR W _ _ ty 238 i0 w.heap.size ((i+1)*4) (cap-i) dc ⟨g,i*4,none⟩ (cap-i) sc (cap-i) news hu hi0 (by show min (cap-i) (cap-i)=cap-i;omega) (by rw[hz1,hnl])
   (fun j u hj=>by rw[jpB];exact(GW.cell _).trans (hnat j u hj))
   (fun j hj=>by rw[CW.cell,jnT (by omega)];rfl) (fun j hj=>CW.frozen _) hn1
 have FIN:Hid (∀(W':World),W'.os=w.os->W'.tape=w.tape->W'.output=w.output->W'.heap=(W2.setCells w.heap.size ((i+1)*4) news).heap->jlj lo (sl g cap cap) cap i xs ys w (.returned (.slice (some ⟨w.heap.size,0,none⟩) (cap+1) G)) W'):=by
  intro W' e1 e2 e3 e4
  have C3:ja W' w.heap.size 238 (Kh (Kh ROW (i*4) ys) ((i+1)*4) news):=by show W'.heap[_]?=_;rw[e4];exact ja.lay news _ C2
  have O3:jv (· = w.heap.size) W1 (W2.setCells w.heap.size ((i+1)*4) news):=yW (S:=(· = w.heap.size)) (b:=w.heap.size) (.inl rfl) _ _ O2
  refine⟨_,rfl,?_,⟨e1,e2,e3,?_,?_⟩,.inr rfl⟩
  ·have hll:(xs.take (i*4)++(ys++xs.drop (i*4))).length=(cap+1)*4:=by rw[jnf,jnf,jnk,jnr,hlen,hy];omega
   refine⟨hll,.inr ⟨w.heap.size,G,_,rfl,hlow,C3,hGn,by unfold maxLen;omega,by rw[qz,hs2],?_⟩⟩
   apply joG
   intro j
   rw[jnS]
   split
   ·rename_i hj
    rw[joQ,xG _ _ _ _ (by rw[hs2,hnl];omega),hnl]
    split
    ·rename_i h2
     rw[jnz (by rw[jnk,hlen];omega),jnk,hlen,jnz (by omega),hy,hnews,joc,joc]
     congr 1;omega
    rename_i h2
    rw[xG _ _ _ _ (by rw[hRs,hy];omega),hy]
    split
    ·rename_i h3
     rw[jnz (by rw[jnk,hlen];omega),jnk,hlen,jnJ (by omega)]
     congr 1;omega
    rename_i h3
    rw[jnJ (by rw[jnk,hlen];omega),jnS,if_pos (by omega),hRat j (by omega)]
   rename_i hj
   rw[jnY (by omega)]
  ·have:=O3.size
   rw[e4]
   have h1:W1.heap.size=w.heap.size+1:=by rw[hW1];show(w.drew.alloc _).heap.size=_;rw[jnB];rfl
   omega
  intro r hr _
  have h1:W1.heap.size=w.heap.size+1:=by rw[hW1];show(w.drew.alloc _).heap.size=_;rw[jnB];rfl
  rw[e4,O3.same r (by omega) (by omega),hW1]
  exact jov w.drew _ r hr
 have HW1:=jnc hW1
 have HW2:=jnc hW2
 clear hnat hn1 hnl hnews hat htk hg C1 hrow hone hW1 hlen V1 hvb hcs G1 C2 O2 G2 hs2 hRs hRat hROW hZ hZs hG hW2
 unfold sl
 unfold maxLen at hcm
 have hw1:IntKind.i64.wrap ((i:Int)+1)=(i:Int)+1:=jn1 _ (by omega)
 have hb1:(0:Int)<=(i:Int)+1:=by omega
 have htn:((i:Int)+1).toNat=i+1:=by omega
 have hb3:(i:Int)<=(cap:Int):=by omega
 have hGi:¬(G=i):=by omega
 have hGim:¬(G=i+1):=by omega
 have hci:¬(cap=i):=by omega
 go_enter func211,ntmps211
 have hA1:((w.alloc (.cells ROW 238)).drew).heap=W1.heap:=by rw[HW1.out];rfl
 have hqA:=fun ty=>hcpA.out _ hA1 ty (G-i)
 have hB1:(((w.alloc (.cells ROW 238)).drew.setCells w.heap.size (i*4) ys).drew).heap=W2.heap:=by
  rw[HW2.out]
  exact yS _ _ _ _ _ hA1
 go_wp2_with (at_builtin;refine Lib.wpList_append_run _ rfl _ _ _ _ rfl _ _ rfl rfl _ _ (hrz.out _) ?_)
 go_region_law (refine step_copy_runI rfl (.tmp 50) (.tmp 53) 232 232 rfl (.slice (some ⟨w.heap.size,(i+1)*4,none⟩) (cap-i) (G-(i+1))) (.slice (some ⟨g,i*4,none⟩) (cap-i) (cap-i)) (by simp[Act.eval,Act.put]) (by simp[Act.eval,Act.put]) (hcpB.out _ hB1 3 _ _) ?_)
 go_wp2_with fail
 go_ret
 exact FIN.out _ (by rw[Wl];show(((w.alloc (.cells ROW 238)).drew.setCells w.heap.size (i*4) ys)).os=_;rw[Wl];rfl) (by rw[ZM];show(((w.alloc (.cells ROW 238)).drew.setCells w.heap.size (i*4) ys)).tape=_;rw[ZM];rfl) (by rw[xD];show(((w.alloc (.cells ROW 238)).drew.setCells w.heap.size (i*4) ys)).output=_;rw[xD];rfl) (yS _ _ _ _ _ hB1)
theorem ja4(lo:Nat)(v:Value)(n i vb:Nat)(xs ys:List Value)(w:World)(hrow:w.ownsRow lo 238 4 v n xs)(hone:∀u∈xs,u.oneCell'=true)(hi:i<=n)(hn:n<=1000000)(hlow:lo<=w.heap.size)(hy:ys.length=4)(hvb:ja w vb 238 ys.toArray)(hne:v.ownBlock≠some vb)(hy1:∀u∈ys,u.oneCell'=true):
  Calls prog 211 #[v,.int .i64 (i:Nat),sl vb 1 1] w fun e w'=>jlj lo v n i xs ys w e w':=by
 rcases jnK i n with h|h
 ·obtain⟨g,cap,rfl⟩:=joD hrow (by omega)
  rcases jnK cap (n+1) with h2|h2
  ·exact ja2 lo g n cap i vb xs ys w hrow hone h hn h2 hlow hy hvb hy1
  exact Gr lo g n cap i vb xs ys w hrow hone h hn h2 hy hvb (fun e=>hne (by rw[e];rfl)) hy1
 obtain rfl:i=n:=by omega
 exact jdq lo v i vb xs ys w hrow hn hlow hy hvb hy1
end
section
attribute [local go_sem] jnn jT
theorem Xj.only{w w':World}{v:Value}{fs:List Fld}{S:Nat->Prop}(h:Xj w v fs)(g:jv S w w')(hs:fs≠[]->∀b,v.ownBlock=some b->¬S b):Xj w' v fs:=by
 obtain⟨A,cap,hv,hle,hc⟩:=h
 refine⟨A,cap,hv,hle,fun i s hi => ?_⟩
 obtain⟨b,off,hA,hlt,c0,c1⟩:=hc i s hi
 have hb:w'.heap[b]?=w.heap[b]?:=g.same b hlt (hs (fun e=>by rw[e]at hi;simp at hi) b (by rw[hv,hA];rfl))
 exact⟨b,off,hA,jnw hlt g.size,(jok (w:=w) (a:=⟨b,off+i*2,none⟩) hb).trans c0,(jok (w:=w) (a:=⟨b,off+i*2+1,none⟩) hb).trans c1⟩
theorem ZK.only{w w':World}{v:Value}{fs:List Fld}{S:Nat->Prop}(h:ZK w v fs)(g:jv S w w')(hs:fs≠[]->∀b,v.ownBlock=some b->¬S b):ZK w' v fs:=⟨h.1.only g hs,h.2⟩
theorem Xj.lt{w:World}{v:Value}{fs:List Fld}(h:Xj w v fs)(hne:fs≠[]):∀b,v.ownBlock=some b->b<w.heap.size:=by
 obtain⟨A,cap,hv,hle,hc⟩:=h
 intro b hb
 cases fs with
 | nil=>exact absurd rfl hne
 | cons f r =>
 obtain⟨b',off,hA,hlt,_⟩:=hc 0 f rfl
 rw[hv,hA]at hb
 cases hb;exact hlt
structure LA(w:World)(lb:Nat)(ev:Value)(ps:List Pr)(nx:Int):Prop where
 lr:LR w lb ev ps nx
 apart:∀p∈ps,p.1.1.fields≠[]->∀b,p.2.ownBlock=some b->b≠lb/\ev.ownBlock≠some b
theorem LR.row_ne{w:World}{lb:Nat}{ev:Value}{ps:List Pr}{nx:Int}(h:LR w lb ev ps nx):ev.ownBlock≠some lb:=by
 intro e
 rcases h.ents.row.2 with ⟨q,_⟩|⟨g,cap,cur,q,_,hg,_⟩
 ·rw[q]at e;cases e
 rw[q]at e
 have:g=lb:=jng e
 subst this
 have:=hg.symm.trans h.head
 simp at this
theorem LA.below{w w':World}{lb:Nat}{ev:Value}{ps:List Pr}{nx:Int}{n:Nat}(h:LA w lb ev ps nx)(hb:Below n w w')(hn:w.heap.size<=n):LA w' lb ev ps nx:=⟨h.lr.below hb hn,h.apart⟩
def jj1(it:It)(nx:Int):Int:=if it.kind=3 then nx else 0
def jj3(it:It)(nx:Int):Int:=if it.kind=3 then nx+1 else nx
theorem jeU{fn:Func}{p:Tmp}(h:fn.results=#[.cell p 238])(tmps:Array Value)(w:World)(b:Nat)(cur:Array Value)(hp:tmps.getD p undef=.pointer (some ⟨b,0,none⟩))
  (hc:ja w b 238 cur) (hz:cur.size=4):(results fn tmps).run prog w=.ok (.agg cur) w:=by
 have L:=run_loadVar_row (P:=prog) w b 238 238 cur (0,0) _ hc underlying238 rfl (by rw[hz];kernel_rfl)
 rw[yT h,hp]
 show(loadVar _ _).run _ _=_
 exact L
theorem jm0(c0 c1 c2 c3 v0 v1 v2 v3:Value):((((#[c0,c1,c2,c3].setIfInBounds 0 v0).setIfInBounds 1 v1).setIfInBounds 2 v2).setIfInBounds 3 v3)=#[v0,v1,v2,v3]:=by
 simp[List.setIfInBounds_toArray,List.set]
theorem Ku(it:It)(fa:Option Addr)(fn fc lb:Nat)(ev:Value)(nx:Int)(w:World)(hc:ja w lb 234 #[ev,.int .i64 (nx-1)])(hn : -1000000<=nx/\nx<=1000000):
  Calls prog 210 #[ptr lb,.agg #[.int .i64 it.kind,.string (B it.raw),.slice fa fn fc]] w fun e w'=>e=.returned (.agg #[.int .i64 it.kind,.string (B it.raw),.slice fa fn fc,.int .i64 (jj1 it nx)])/\ja w' lb 234 #[ev,.int .i64 (jj3 it nx-1)]/\jv (· = lb) w w':=by
 obtain⟨kd,raw,fs⟩:=it
 unfold jj1 jj3
 dsimp only
 generalize B raw=rw_ at *
 have hll:=hc.lt
 have BX:=jnc ((ja.new w 236 #[.int .i64 kd,.string rw_,.slice fa fn fc]).alloc (.cells #[.int .i64 0,.string ⟨#[]⟩,.slice none 0 0,.int .i64 0] 238))
 have BR:=jnc (ja.new (w.alloc (.cells #[.int .i64 kd,.string rw_,.slice fa fn fc] 236)) 238 #[.int .i64 0,.string ⟨#[]⟩,.slice none 0 0,.int .i64 0])
 have HC:=jnc ((hc.alloc (.cells #[.int .i64 kd,.string rw_,.slice fa fn fc] 236)).alloc (.cells #[.int .i64 0,.string ⟨#[]⟩,.slice none 0 0,.int .i64 0] 238))
 have O0:=jnc ((((jv.refl (· = lb) w).alloc (.cells #[.int .i64 kd,.string rw_,.slice fa fn fc] 236))).alloc (.cells #[.int .i64 0,.string ⟨#[]⟩,.slice none 0 0,.int .i64 0] 238))
 by_cases hk:kd=3
 ·subst hk
  rw[if_pos rfl,if_pos rfl]
  have c1:w.cell? ⟨lb,1,none⟩=some (.int .i64 (nx-1)):=hc.cell 1
  have f1:=hc.frozen 1
  have hw:IntKind.i64.wrap (nx-1+1)=nx:=by rw[show nx-1+1=nx by omega];exact jn1 _ (by omega)
  have hw2:nx-1+1=nx:=by omega
  have HC0:=jnc hc
  clear hc
  unfold ptr
  go_enter func210,ntmps210
  go_wp2_with fail
  obtain⟨w2,hw2⟩:∃w2,w2=((w.setCell ⟨lb,1,none⟩ (.int .i64 nx)).alloc (.cells #[.int .i64 3,.string rw_,.slice fa fn fc] 236)).alloc (.cells #[.int .i64 0,.string ⟨#[]⟩,.slice none 0 0,.int .i64 0] 238):=⟨_,rfl⟩
  have CL:ja w2 lb 234 #[ev,.int .i64 nx]:=by
   have:=(((HC0.out.set 1 (.int .i64 nx)).alloc (.cells #[.int .i64 3,.string rw_,.slice fa fn fc] 236)).alloc (.cells #[.int .i64 0,.string ⟨#[]⟩,.slice none 0 0,.int .i64 0] 238))
   rw[hw2]
   simpa [List.setIfInBounds_toArray,List.set]using this
  have CI:ja w2 w.heap.size 236 #[.int .i64 3,.string rw_,.slice fa fn fc]:=by
   have:=(ja.new (w.setCell ⟨lb,1,none⟩ (.int .i64 nx)) 236 #[.int .i64 3,.string rw_,.slice fa fn fc]).alloc (.cells #[.int .i64 0,.string ⟨#[]⟩,.slice none 0 0,.int .i64 0] 238)
   rw[hw2]
   simpa [World.setCell]using this
  have CR:ja w2 (w.heap.size+1) 238 #[.int .i64 0,.string ⟨#[]⟩,.slice none 0 0,.int .i64 0]:=by
   have:=ja.new ((w.setCell ⟨lb,1,none⟩ (.int .i64 nx)).alloc (.cells #[.int .i64 3,.string rw_,.slice fa fn fc] 236)) 238 #[.int .i64 0,.string ⟨#[]⟩,.slice none 0 0,.int .i64 0]
   rw[hw2]
   rw[jnB]at this
   simpa [World.setCell]using this
  have O2:jv (· = lb) w w2:=by rw[hw2];exact(((jv.refl (· = lb) w).cellS 1 _).alloc _).alloc _
  rw[<- hw2]
  clear hw2 c1 f1
  have g1:w2.cell? ⟨lb,1,none⟩=some (.int .i64 nx):=CL.cell 1
  have i0:w2.cell? ⟨w.heap.size,0,none⟩=some (.int .i64 3):=CI.cell 0
  have i1:w2.cell? ⟨w.heap.size,1,none⟩=some (.string rw_):=CI.cell 1
  have i2:w2.cell? ⟨w.heap.size,2,none⟩=some (.slice fa fn fc):=CI.cell 2
  have r0:w2.cell? ⟨w.heap.size+1,0,none⟩=some (.int .i64 0):=CR.cell 0
  have r1:w2.cell? ⟨w.heap.size+1,1,none⟩=some (.string ⟨#[]⟩):=CR.cell 1
  have r2:w2.cell? ⟨w.heap.size+1,2,none⟩=some (.slice none 0 0):=CR.cell 2
  have r3:w2.cell? ⟨w.heap.size+1,3,none⟩=some (.int .i64 0):=CR.cell 3
  have s0:=CR.frozen 0
  have s1:=CR.frozen 1
  have s2:=CR.frozen 2
  have s3:=CR.frozen 3
  have HCL:=jnc CL
  have HCR:=jnc CR
  have HO2:=jnc O2
  clear CL CI CR O2
  go_region_law (skip)
  all_goals go_wp2_with fail
  all_goals
   have RE:=(((HCR.out.drew.set 0 (.int .i64 3)).set 1 (.string rw_)).set 2 (.slice fa fn fc)).set 3 (.int .i64 nx)
   rw[jm0]at RE
   refine bodyPost_ret (jeU rfl _ _ (w.heap.size+1) _ rfl RE rfl) rfl ?_
   refine⟨rfl,?_,?_⟩
   ·have:=((((HCL.out.drew.other (p:=⟨w.heap.size+1,0,none⟩) (by show lb≠w.heap.size+1;omega) (.int .i64 3)).other (p:=⟨w.heap.size+1,1,none⟩) (by show lb≠w.heap.size+1;omega) (.string rw_)).other (p:=⟨w.heap.size+1,2,none⟩) (by show lb≠w.heap.size+1;omega) (.slice fa fn fc)).other (p:=⟨w.heap.size+1,3,none⟩) (by show lb≠w.heap.size+1;omega) (.int .i64 nx))
    rw[show nx+1-1=nx by omega]
    exact this
   exact((((HO2.out.drew.setCell (p:=⟨w.heap.size+1,0,none⟩) (.inr (by show w.heap.size<=w.heap.size+1;omega)) _).setCell (p:=⟨w.heap.size+1,1,none⟩) (.inr (by show w.heap.size<=w.heap.size+1;omega)) _).setCell (p:=⟨w.heap.size+1,2,none⟩) (.inr (by show w.heap.size<=w.heap.size+1;omega)) _).setCell (p:=⟨w.heap.size+1,3,none⟩) (.inr (by show w.heap.size<=w.heap.size+1;omega)) _)
 rw[if_neg hk,if_neg hk]
 have hk':((kd:Int)==3)=false:=beq_eq_false_iff_ne.2 hk
 have HC0:=jnc hc
 clear hc
 unfold ptr
 go_enter func210,ntmps210
 go_wp2_with fail
 have RE:=ja.new (w.alloc (.cells #[.int .i64 kd,.string rw_,.slice fa fn fc] 236)) 238 #[.int .i64 kd,.string rw_,.slice fa fn fc,.int .i64 0]
 rw[jnB]at RE
 refine bodyPost_ret (jeU rfl _ _ (w.heap.size+1) _ rfl RE rfl) rfl ?_
 exact⟨rfl,(HC0.out.alloc _).alloc _,((jv.refl (· = lb) w).alloc _).alloc _⟩
end
theorem je6{w w':World}{t:List UInt8}{e:Ending}{a n:Nat}(h:ZJ w t e w')(hp:jE t=.error (a,n)):Below w.heap.size w w'/\∃v,e=.returned (.tuple #[.slice none 0 0,v])/\jr w.heap.size w' v a n:=by
 obtain⟨h1,h2⟩:=h
 rw[hp]at h2
 exact⟨h1,h2⟩
theorem jbX{w w':World}{t:List UInt8}{e:Ending}{its:List It}(h:ZJ w t e w')(hp:jE t=.ok its):Below w.heap.size w w'/\∃v,e=.returned (.tuple #[v,.nilIface])/\Its w' v its/\jmd w' v its:=by
 obtain⟨h1,h2⟩:=h
 rw[hp]at h2
 exact⟨h1,h2⟩
theorem Its.empty(w:World)(A:Option Addr)(cap:Nat):Its w (.slice A 0 cap) []:=⟨A,cap,rfl,jnt _,fun i it h=>by simp at h⟩
section
attribute [local go_sem] jnn jT
def OfR(w:World)(t:List UInt8)(e:Ending)(w':World):Prop :=
 Below w.heap.size w w'/\match jE t with
  | .error (a,n)=>∃u,e=.returned (.tuple #[.pointer none,u])/\jr w.heap.size w' u a n
  | .ok its=>∃lb ev ps,e=.returned (.tuple #[ptr lb,.nilIface])/\w.heap.size<=lb/\(∀b,ev.ownBlock=some b->w.heap.size<=b)/\LA w' lb ev ps (qE its).next/\ps.map Prod.fst=(qE its).es
theorem OfR.no{w w':World}{t:List UInt8}{e:Ending}{a n:Nat}(h:OfR w t e w')(hp:jE t=.error (a,n)):Below w.heap.size w w'/\∃u,e=.returned (.tuple #[.pointer none,u])/\jr w.heap.size w' u a n:=by
 obtain⟨h1,h2⟩:=h
 rw[hp]at h2
 exact⟨h1,h2⟩
theorem OfR.yes{w w':World}{t:List UInt8}{e:Ending}{its:List It}(h:OfR w t e w')(hp:jE t=.ok its):Below w.heap.size w w'/\∃lb ev ps,e=.returned (.tuple #[ptr lb,.nilIface])/\w.heap.size<=lb/\(∀b,ev.ownBlock=some b->w.heap.size<=b)/\LA w' lb ev ps (qE its).next/\ps.map Prod.fst=(qE its).es:=by
 obtain⟨h1,h2⟩:=h
 rw[hp]at h2
 exact⟨h1,h2⟩
structure jcK(w wr:World)(lb:Nat)(ev:Value)(ps:List Pr)(nx:Int):Prop where
 head:ja wr lb 234 #[ev,.int .i64 (nx-1)]
 row:wr.ownsRow w.heap.size 238 4 ev ps.length (jj ps)
 each:∀p∈ps,ZK w p.2 p.1.1.fields
 below:Below w.heap.size w wr
 lb:w.heap.size<=lb
theorem jcK.la{w wr:World}{lb:Nat}{ev:Value}{ps:List Pr}{nx:Int}(h:jcK w wr lb ev ps nx):LA wr lb ev ps nx :=
 ⟨⟨h.head,⟨zk h.row (jnt _),fun p hp=>(h.each p hp).below h.below (jnd _)⟩⟩,fun p hp hne b hb=>by
  have h1:=(h.each p hp).1.lt hne b hb
  refine⟨by have:=h.lb;omega,fun e => ?_⟩
  have:=(h.row.lt b e).1
  omega⟩
theorem jcK.ne{w wr:World}{lb:Nat}{ev:Value}{ps:List Pr}{nx:Int}(h:jcK w wr lb ev ps nx):ev.ownBlock≠some lb:=h.la.lr.row_ne
theorem jcK.alloc{w wr:World}{lb:Nat}{ev:Value}{ps:List Pr}{nx:Int}(h:jcK w wr lb ev ps nx)(o:Obj):jcK w (wr.alloc o) lb ev ps nx :=
 ⟨h.head.alloc o,h.row.alloc o,h.each,h.below.alloc h.below.size o,h.lb⟩
theorem jcK.snoc{w wa w5 w6:World}{lb:Nat}{ev v':Value}{ps:List Pr}{nx nx':Int}{p:Pr}(h:jcK w wa lb ev ps nx)(h5:ja w5 lb 234 #[ev,.int .i64 (nx'-1)])(o5:jv (· = lb) wa w5)(hp:ZK w p.2 p.1.1.fields)
  (ho:w6.ownsRow 0 238 4 v' (ps.length+1) (jj ps++zF p)) (h6:ja w6 lb 234 #[ev,.int .i64 (nx'-1)]) (hk:v'.ownBlock=ev.ownBlock\/∃k,v'.ownBlock=some k/\w5.heap.size<=k/\k<w6.heap.size) (o6:jv (fun r=>some r=ev.ownBlock) w5 w6) :
  jcK w (w6.setCell ⟨lb,0,none⟩ v') lb v' (ps++[p]) nx':=by
 have hne:v'.ownBlock≠some lb:=by
  intro e
  rcases hk with hk|⟨k,hk,h1,_⟩
  ·rw[hk]at e;exact h.ne e
  rw[hk]at e
  have:k=lb:=jng e
  have:=h5.lt
  omega
 have hz:=h.below.size
 have hz5:=o5.size
 have hrow:w6.ownsRow w.heap.size 238 4 v' (ps.length+1) (jj ps++zF p):=by
  rcases ho.2 with ⟨q,_⟩|⟨g2,cap2,cur2,q,_,rest⟩
  ·exact⟨ho.1,.inl ⟨q,by omega⟩⟩
  refine⟨ho.1,.inr ⟨g2,cap2,cur2,q,?_,rest⟩⟩
  rcases hk with hk|⟨k,hk,h1,_⟩
  ·exact(h.row.lt g2 (by rw[<- hk,q];rfl)).1
  rw[q]at hk
  have:g2=k:=jng hk
  omega
 refine⟨?_,?_,?_,?_,h.lb⟩
 ·have:=h6.set 0 v'
  simpa [List.setIfInBounds_toArray,List.set]using this
 ·rw[jnf,Zx]
  exact jK hrow hne _
 ·intro q hq
  rcases List.mem_append.1 hq with hq|hq
  ·exact h.each q hq
  rw[List.mem_singleton.1 hq];exact hp
 have b5:Below w.heap.size w w5:=h.below.trans (o5.to_below hz (fun r hr e=>by have:=h.lb;omega))
 have b6:Below w.heap.size w5 w6:=o6.to_below (by omega) (fun r hr e=>by
  have:=(h.row.lt r e.symm).1
  omega)
 exact(b5.trans b6).setCell (p:=⟨lb,0,none⟩) h.lb _
theorem jlD(s:ByteArray)(hs:s.size<=60000)(w:World):Calls prog 200 #[.string s] w fun e w'=>OfR w s.data.toList e w':=by
 obtain⟨i0,hi,hz0,hz1,hz2⟩:=info_parts xJ
 have PA:=jnc (Yk s hs w)
 cases hp:jE s.data.toList with
 | error an =>
  obtain⟨a,n⟩:=an
  unfold OfR
  rw[hp]
  dsimp only
  have HP:=jnc hp
  clear hp
  go_enter func200,ntmps200
  go_wp2_with fail
  refine PA.out.mono ?_
  rintro e w1 hpd
  obtain⟨b1,u,rfl,hf⟩:=je6 hpd HP.out
  obtain⟨q,hq,rfl,hqc⟩:=id hf
  go_wp2_with fail
  go_ret2
  exact⟨b1,_,rfl,hf⟩
 | ok its =>
 unfold OfR
 rw[hp]
 dsimp only
 have HP:=jnc hp
 have hlen:its.length<=60000:=by
  have h1:=(Je hp).2.1
  rw[<- jnu]at h1
  omega
 clear hp
 go_enter func200,ntmps200
 go_wp2_with fail
 refine PA.out.mono ?_
 rintro e w1 hpd
 obtain⟨b1,v,rfl,hits,hnil⟩:=jbX hpd HP.out
 have hz:=b1.size
 obtain⟨A,cap,rfl,hle,hcs⟩:=id hits
 have HI:=jnc hits
 have HN:=jnc hnil
 have HC:=jnc hcs
 have B1:=jnc b1
 clear hits hnil hcs b1 hpd PA
 go_wp2_with fail
 have acc0:jcK w1 (w1.alloc (.cells #[.slice none 0 0,.int .i64 0] 234)) w1.heap.size (.slice none 0 0) [] 1 :=
  ⟨ja.new _ _ _,⟨rfl,.inl ⟨rfl,rfl⟩⟩,(fun p h=>by cases h),(jne _ _).alloc (jnd _) _,jnd _⟩
 go_loopw [21] (fun i wr=>∃(k:Nat) (ev:Value) (ps:List Pr),k<=its.length/\i=.int .i64 k/\jcK w1 wr w1.heap.size ev ps (jX 1 (its.take k))/\ps.map Prod.fst=qj 1 (its.take k)) (fun i _=>its.length-(intOf i).toNat)
 case atStart=>exact⟨0,_,[],jnt _,rfl,acc0,rfl⟩
 case round =>
 obtain⟨k,ev,ps,hk,rfl,hacc,hps⟩:=hrel
 by_cases hlt:k<its.length
 ·obtain⟨it,hit⟩:∃it,its[k]?=some it:=⟨_,jnh hlt⟩
  obtain⟨b,off,fv,e0,hbb,c0,c1,c2,hfl⟩:=HC.out k it hit
  cases e0
  obtain⟨fa,fc,rfl,_,_⟩:=id hfl
  have hfr:ZK w1 (.slice fa it.fields.length fc) it.fields:=⟨hfl,fun n c e=>by
   cases e
   exact HN.out k b off _ _ _ _ rfl hlt c2⟩
  have hb:=hacc.below
  replace c0:=(hb.cell (p:=⟨b,off+k*3,none⟩) hbb).trans c0
  replace c1:=(hb.cell (p:=⟨b,off+k*3+1,none⟩) hbb).trans c1
  replace c2:=(hb.cell (p:=⟨b,off+k*3+1+1,none⟩) hbb).trans c2
  have hkl:ps.length=k:=by
   have:=congrArg List.length hps
   rw[jnI,Vo,jnk]at this
   omega
  subst hkl
  have hnx:=Zu 1 (its.take ps.length)
  rw[jnk]at hnx
  have FS:=jnc (YL 1 (its.take ps.length) it)
  have TK:=jnc (show its.take (ps.length+1)=its.take ps.length++[it] by rw[jnW,hit];rfl)
  have ACC:=jnc hacc
  have HPS:=jnc hps
  obtain⟨ea,ec,rfl,hec⟩:=jg hacc.row
  generalize hnx0:jX 1 (its.take ps.length)=nx at *
  have hnb : -1000000<=nx/\nx<=1000000:=⟨by omega,by omega⟩
  clear hacc hps hit hfl hnx0
  go_wp2_with fail
  obtain⟨wa,hwa⟩:∃wa,wa=wr.alloc (.cells #[.int .i64 it.kind,.string (B it.raw),.slice fa it.fields.length fc] 236):=⟨_,rfl⟩
  have CI:ja wa wr.heap.size 236 #[.int .i64 it.kind,.string (B it.raw),.slice fa it.fields.length fc]:=by rw[hwa];exact ja.new _ _ _
  have ACA:=jnc (show jcK w1 wa w1.heap.size (.slice ea ps.length ec) ps nx by rw[hwa];exact ACC.out.alloc _)
  have hza:wa.heap.size=wr.heap.size+1:=by rw[hwa];simp
  rw[<- hwa]
  clear hwa c0 c1 c2
  have g0:wa.cell? ⟨w1.heap.size,0,none⟩=some (.slice ea ps.length ec):=ACA.out.head.cell 0
  have i0':wa.cell? ⟨wr.heap.size,0,none⟩=some (.int .i64 it.kind):=CI.cell 0
  have i1':wa.cell? ⟨wr.heap.size,1,none⟩=some (.string (B it.raw)):=CI.cell 1
  have i2':wa.cell? ⟨wr.heap.size,2,none⟩=some (.slice fa it.fields.length fc):=CI.cell 2
  have EN:=jnc (Ku it fa it.fields.length fc w1.heap.size (.slice ea ps.length ec) nx wa.drew ACA.out.head.drew hnb)
  have HO:=jnc (show wa.drew.ownsRow 0 238 4 (.slice ea ps.length ec) ps.length (jj ps) from zk ACA.out.row (jnt _))
  have HNE:=jnc ACA.out.ne
  clear CI
  go_region_law (first
   | (go_simp;go_at_call 210;refine EN.out.mono ?_;rintro e w5 ⟨rfl,hc5,ho5⟩;have hcl5:w5.cell? ⟨w1.heap.size,0,none⟩=some (.slice ea ps.length ec):=hc5.cell 0;have hcl6:∀o,(w5.alloc o).cell? ⟨w1.heap.size,0,none⟩=some (.slice ea ps.length ec):=fun o=>(hc5.alloc o).cell 0;have ho5':=jnc ho5;have hr5:=jnc (jN HO.out ho5 (fun b hb e=>HNE.out (by rw[hb];exact congrArg some e))))
   | (refine jP rfl (.tmp 29) (.tmp 33) 232 rfl 238 i0 _ 4 56 underlying232 hi hz0 hz1 hz2 rfl (by decide) (.slice ea ps.length ec) ps.length (jj ps) (by simp[Act.eval]) (by exact hr5.out.alloc _) ⟨w5.heap.size,0,none⟩ 1 1 [.int .i64 it.kind,.string (B it.raw),.slice fa it.fields.length fc,.int .i64 (jj1 it nx)] (by simp[Act.eval]) rfl (jS w5 238 [.int .i64 it.kind,.string (B it.raw),.slice fa it.fields.length fc,.int .i64 (jj1 it nx)]) (by intro u hu;simp at hu;rcases hu with rfl | rfl | rfl | rfl<;>rfl) (by unfold maxLen;omega) (by omega) ?_;intro v' w' ho hgr hbk;obtain⟨⟨g',cap',rfl⟩,hg',hbx,hkk,hon⟩:=qu hc5 hr5.out HNE.out ((jne _ w5).alloc (jnd _) _) ho hgr hbk;have k0:w'.cell? ⟨w1.heap.size,0,none⟩=some (.slice ea ps.length ec):=hg'.cell 0;have kf0:=hg'.frozen 0))
  all_goals go_wp2_with fail
  all_goals
   have acc2:=(show jcK w1 wa.drew w1.heap.size (.slice ea ps.length ec) ps nx from⟨ACA.out.head,ACA.out.row,ACA.out.each,ACA.out.below.drew,ACA.out.lb⟩).snoc (p:=((it,jj1 it nx),.slice fa it.fields.length fc)) hc5 ho5'.out hfr ho hg' hkk hon
   go_roundw
   case rel =>
    refine⟨ps.length+1,.slice (some ⟨g',0,none⟩) (ps.length+1) cap',ps++[((it,jj1 it nx),.slice fa it.fields.length fc)],hlt,by go_num,?_,?_⟩
    ·rw[TK.out,FS.out.2];exact acc2
    rw[TK.out,FS.out.1,jol,HPS.out];rfl
   case measure=>simp[intOf];omega
 obtain rfl:k=its.length:=by omega
 rw[jnP]at hacc hps
 have hla:=hacc.la
 have B2:=jnc (B1.out.trans (hacc.below.mono hz))
 have hrow:=hacc.row
 clear HC HI HN
 go_wp2_with fail
 go_ret2
 exact⟨B2.out,_,ev,ps,rfl,hz,fun b hb=>jns hz (hrow.lt b hb).1,hla,hps⟩
end
end Go.Proofs.YtpibhbjmcmfnmaaGreatDoor
