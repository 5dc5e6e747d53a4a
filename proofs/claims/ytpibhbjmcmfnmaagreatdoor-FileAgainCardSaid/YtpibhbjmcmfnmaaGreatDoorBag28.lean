/- Texts put together:GF,GJ,GM,EX,GO,FLG. -/
import Derived.Test.YtpibhbjmcmfnmaaGreatDoorBag27
set_option linter.unusedVariables false
set_option maxRecDepth 100000
set_option maxHeartbeats 16000000
namespace Go.Proofs.YtpibhbjmcmfnmaaGreatDoor
open Go.RowKit Go.Shelf Tryz
namespace Rp
open Bk
theorem jar:∀(eds:List Ed),eds.length<=(js eds).length
 | []=>jnt _
 | ed::r=>by
  have ih:=jar r
  have e:js (ed::r)=edT ed++js r:=by unfold js zG edT jn;rw[jnA,jnO]
  have h1:1<=(edT ed).length:=by unfold edT jf8 jn;rw[jnA];simp;omega
  rw[e,jnf,jni];omega
theorem Uq:∀ls:List (List UInt8),(jn ls).length<=(jn (ls.map JI)).length
 | []=>jnd _
 | l::r=>by
  have ih:=Uq r
  have e1:jn (l::r)=(l++[10])++jn r:=by unfold jn;rw[jnA]
  have e2:jn ((l::r).map JI)=(JI l++[10])++jn (r.map JI):=by unfold jn;rw[jnH,jnA]
  rw[e1,e2];simp only[JI,jnf,jni];omega
theorem jlX:∀{eds:List Ed} {ed:Ed},ed∈eds->(edT ed).length<=(js eds).length
 | [],_,h=>by cases h
 | a::r,ed,h=>by
  have e:js (a::r)=edT a++js r:=by unfold js zG edT jn;rw[jnA,jnO]
  rw[e,jnf]
  rcases List.mem_cons.1 h with rfl|h
  ·omega
  have:=jlX h;omega
theorem jaf{b:List UInt8}(h:Dc b=true):(Qg b).length<=51/\Xk (Qg b)/\Xg (Qg b)/\(Qg b).length<=b.length:=by
 unfold Dc at h
 unfold Qg
 cases hd:jdW b with
 | none=>rw[hd]at h;cases h
 | some eds =>
 obtain⟨h1,h2⟩:=jfV hd
 obtain⟨h5,_,_,h4⟩:=WL.1 hd
 refine⟨jns h1 (by decide),h2,fun ed hm => ?_,?_⟩
 ·have a1:(edT ed).length<=(js eds).length:=jlX hm
  have a2:(zb ed.fields).length<=(edT ed).length:=by
   rw[jba]
   have:=Uq (jC ed.fields)
   have e:edT ed=(zU ed.kind ed.id++[10])++jn ((jC ed.fields).map JI):=by unfold edT jf8 jn;rw[jnA]
   rw[e,jnf];omega
  have:=(h2 ed hm).len
  rw[h4]at a1
  exact⟨by omega,by omega⟩
 show eds.length<=b.length
 have:=jar eds
 rw[h4]at this;exact this
theorem jkz(b:List UInt8):b.length<=(Fr.fullR b).length:=by
 unfold Fr.fullR Fr.recR
 rw[jnf,jni,jnf];omega
def zM(bds:List (List UInt8)):List (List Ed):=bds.map Qg
theorem ZF(bds:List (List UInt8)):(zM bds).length=bds.length:=jnI _
theorem jcB:∀(bds:List (List UInt8)),(∀b∈bds,Dc b=true)->Jc (zM bds)<=(bds.flatMap Fr.fullR).length
 | [],_=>jnt _
 | b::r,h=>by
  have ih:=jcB r (fun x hx=>h x (jnm _ hx))
  have h1:=(jaf (h b jno)).2.2.2
  have h2:=jkz b
  have e:Jc (zM (b::r))=(Qg b).length+Jc (zM r):=rfl
  rw[e,jnA,jnf];omega
theorem jgx{bds:List (List UInt8)}(h:∀b∈bds,Dc b=true):jjq (zM bds):=fun x hx=>by
 obtain⟨b,hb,rfl⟩:=List.mem_map.1 hx
 obtain⟨h1,h2,h3,_⟩:=jaf (h b hb)
 exact⟨h1,h2,h3⟩
theorem jk1{lo:Nat}{w:World}{bv:Value}{bds:List (List UInt8)}{us:List Value}(h:KJ lo w bv bds us):BtV w bv (zM bds):=by
 obtain⟨A,c,rfl,hle⟩:=jg h.row
 refine⟨A,c,by rw[ZF],by rw[ZF];exact hle,fun i b hi => ?_⟩
 unfold zM at hi
 rw[jnF]at hi
 cases hb:bds[i]? with
 | none=>rw[hb]at hi;cases hi
 | some x =>
 rw[hb]at hi
 obtain rfl:Qg x=b:=jng hi
 have hlt:=(List.getElem?_eq_some_iff.1 hb).1
 obtain⟨u,hu⟩:∃u,us[i]?=some u:=⟨_,jnh (by rw[h.len];exact hlt)⟩
 obtain⟨g,off,e,hg,hc⟩:=jl7 h.row hu hlt
 obtain⟨fvs,ho⟩:=h.each i x u hb hu
 exact⟨g,off,u,e,hg,hc,ho.edv⟩
theorem ZO{t base tail:List UInt8}{n:Nat}{bds:List (List UInt8)}(h:qL Dc t n base bds tail):jjq (zM bds)/\base.length+Jc (zM bds)<=t.length/\bds.length<=t.length:=by
 have hd:∀b∈bds,Dc b=true:=fun b hb=>(h.recd.good b hb).2
 have h1:=jcB bds hd
 have h2:=h.parts.len
 have h3:=Ua bds
 unfold jo at h2
 exact⟨jgx hd,by omega,by omega⟩
end Rp
namespace Rp
open Bk
attribute [local go_sem] jnn
def Uf(w w':World)(s:List UInt8)(bs:List (List Ed))(p u:Value):Prop:=Below w.heap.size w w' /\
  ((∃a n,jE s=.error (a,n)/\p=.pointer none/\jr w.heap.size w' u a n) \/
   (∃its i,jE s=.ok its/\xm (qE its) bs i/\p=.pointer none/\jr w.heap.size w' u i 10) \/
   (∃its k lb ev ps,jE s=.ok its/\qS (qE its) bs=some k/\p=ptr lb/\u=.nilIface/\qb w.heap.size w' lb ev ps k (s.length+Jc bs)))
theorem jan{lo lo':Nat}{w:World}{lb:Nat}{ev:Value}{ps:List Pr}{l:LS}{m:Nat}(h:qb lo w lb ev ps l m)(hl:lo'<=lo):qb lo' w lb ev ps l m :=
 ⟨h.la,h.es,h.ok,h.sz,jns hl h.lb0,fun b e=>jns hl (h.ev0 b e),h.len,h.nx⟩
theorem Uf.low{w w1 w':World}{s:List UInt8}{bs:List (List Ed)}{p u:Value}(h:Uf w1 w' s bs p u)(hb:Below w.heap.size w w1):Uf w w' s bs p u:=by
 obtain⟨b,h⟩:=h
 have hz:=hb.size
 refine⟨hb.trans (b.mono hz),?_⟩
 rcases h with ⟨a,n,h1,h2,h3⟩|⟨its,i,h1,h2,h3,h4⟩|⟨its,k,lb,ev,ps,h1,h2,h3,h4,h5⟩
 ·exact .inl ⟨a,n,h1,h2,h3.mono hz⟩
 ·exact .inr (.inl ⟨its,i,h1,h2,h3,h4.mono hz⟩)
 exact .inr (.inr ⟨its,k,lb,ev,ps,h1,h2,h3,h4,jan h5 hz⟩)
theorem Uf.form{w w':World}{s:List UInt8}{bs:List (List Ed)}{p u:Value}(h:Uf w w' s bs p u):(∃q:Option Addr,p=.pointer q)/\(u=.nilIface\/∃q,u=.iface 133 (.pointer (some ⟨q,0,none⟩))):=by
 obtain⟨_,⟨a,n,_,rfl,q,_,rfl,_⟩|⟨its,i,_,_,rfl,q,_,rfl,_⟩|⟨its,k,lb,ev,ps,_,_,rfl,rfl,_⟩⟩:=h
 ·exact⟨⟨_,rfl⟩,.inr ⟨q,rfl⟩⟩
 ·exact⟨⟨_,rfl⟩,.inr ⟨q,rfl⟩⟩
 exact⟨⟨_,rfl⟩,.inl rfl⟩
theorem jcH.beh{w w':World}{s:List UInt8}{bs:List (List Ed)}{e:Ending}(h:jcH w w' s bs e):∃(p:Value) (n:Int) (a:Option Addr) (m c:Nat) (u:Value),e=.returned (.tuple #[.agg #[p,.int .i64 n,.slice a m c],u])/\Uf w w' s bs p u:=by
 obtain⟨b,⟨a,n,u,h1,rfl,h3⟩|⟨its,i,u,h1,h2,rfl,h4⟩|⟨its,k,lb,ev,ps,gv,us,h1,h2,rfl,h5,h6⟩⟩:=h
 ·exact⟨_,_,_,_,_,_,rfl,b,.inl ⟨a,n,h1,rfl,h3⟩⟩
 ·exact⟨_,_,_,_,_,_,rfl,b,.inr (.inl ⟨its,i,h1,h2,rfl,h4⟩)⟩
 obtain⟨ga,gc,rfl,_⟩:=jg h6.row
 exact⟨_,_,_,_,_,_,rfl,b,.inr (.inr ⟨its,k,lb,ev,ps,h1,h2,rfl,rfl,h5⟩)⟩
theorem Uf.only{w w1 w' w'':World}{s:List UInt8}{bs:List (List Ed)}{p u:Value}{b:Nat}{T:TypeId}{cur:Array Value}(h:Uf w1 w' s bs p u)(o:jv (· = b) w' w'')(hc:ja w' b T cur)(hn:∀x∈cur,∀s,x ≠ .string s)(hT:T≠135)(hT2:T≠234)(hT3:238≠T)(hb:Below w.heap.size w w1)(hw:w.heap.size<=b):Uf w w'' s bs p u:=by
 obtain⟨b1,h⟩:=h.low hb
 refine⟨b1.trans (o.to_below b1.size (fun r hr e=>by omega)),?_⟩
 have FA:∀{a n:Nat},jr w.heap.size w' u a n->jr w.heap.size w'' u a n:=fun hf=>by
  obtain⟨q,h1,h2,h3⟩:=hf
  refine⟨q,h1,h2,h3.only o (fun e => ?_)⟩
  subst e
  have e2:=hc.symm.trans h3
  injection e2 with e3
  injection e3 with _ e4
  exact hT e4
 rcases h with ⟨a,n,h1,h2,h3⟩|⟨its,i,h1,h2,h3,h4⟩|⟨its,k,lb,ev,ps,h1,h2,h3,h4,h5⟩
 ·exact .inl ⟨a,n,h1,h2,FA h3⟩
 ·exact .inr (.inl ⟨its,i,h1,h2,h3,FA h4⟩)
 refine .inr (.inr ⟨its,k,lb,ev,ps,h1,h2,h3,h4,h5.only o ?_⟩)
 rintro r (rfl|h|h|⟨p,hp,hne,h⟩|⟨p,hp,_⟩) e
 ·subst e
  have e2:=hc.symm.trans h5.la.lr.head
  injection e2 with e3
  injection e3 with _ e4
  exact hT2 e4
 ·exact jB h5.la.lr.ents.row hc hT3 (by rw[h,e])
 ·cases h
 ·exact jfS (h5.la.lr.ents.each p hp).1 hne (by rw[h,e]) hc hn
 cases hp
theorem Uf.grow{w w' w'':World}{s:List UInt8}{bs:List (List Ed)}{p u:Value}(h:Uf w w' s bs p u)(hb:Below w'.heap.size w' w''):Uf w w'' s bs p u:=by
 obtain⟨b,h⟩:=h
 have FA:∀{a n:Nat},jr w.heap.size w' u a n->jr w.heap.size w'' u a n:=fun hf=>by
  obtain⟨q,h1,h2,h3⟩:=hf
  exact⟨q,h1,h2,je h3 hb h3.lt⟩
 refine⟨b.trans (hb.mono b.size),?_⟩
 rcases h with ⟨a,n,h1,h2,h3⟩|⟨its,i,h1,h2,h3,h4⟩|⟨its,k,lb,ev,ps,h1,h2,h3,h4,h5⟩
 ·exact .inl ⟨a,n,h1,h2,FA h3⟩
 ·exact .inr (.inl ⟨its,i,h1,h2,h3,FA h4⟩)
 exact .inr (.inr ⟨its,k,lb,ev,ps,h1,h2,h3,h4,h5.below hb (jnd _)⟩)
theorem jm5{w w1 W w5:World}{s:List UInt8}{bs:List (List Ed)}{p u:Value}{o:Obj}(hb:Below w.heap.size w w1)(hW:Below w1.heap.size w1 W)(h:Uf W w5 s bs p u):Uf w (w5.alloc o) s bs p u :=
 (h.low (hb.trans (hW.mono hb.size))).grow ((jne _ _).alloc (jnd _) _)
theorem jmV{w w1 W w5:World}{s:List UInt8}{bs:List (List Ed)}{p u i v:Value}(hb:Below w.heap.size w w1)(hW:Below w1.heap.size w1 W)(h:Uf W w5 s bs p u)(hc:ja w5 w1.heap.size 228 #[.pointer none,.int .i64 0,.slice none 0 0]):
  Uf w (((w5.setCell ⟨w1.heap.size,0,none⟩ p).setCell ⟨w1.heap.size,1,none⟩ i).setCell ⟨w1.heap.size,2,none⟩ v) s bs p u/\ja (((w5.setCell ⟨w1.heap.size,0,none⟩ p).setCell ⟨w1.heap.size,1,none⟩ i).setCell ⟨w1.heap.size,2,none⟩ v) w1.heap.size 228 #[p,i,v]:=by
 obtain⟨h1,h2⟩:=jmg hc p i v
 exact⟨h.only h2 hc (by intro x hx s;simp at hx;rcases hx with rfl | rfl | rfl<;>exact fun h=>by cases h) (by decide) (by decide) (by decide) (hb.trans (hW.mono hb.size)) hb.size,h1⟩
theorem jd7(gen:Int)(s:List UInt8)(bs:List (List Ed))(A:Option Addr)(c:Nat)(ea:Option Addr)(en ec:Nat)(tl:ByteArray)(n:Nat)(hn:n<=bs.length)(w:World)(hs:s.length+Jc bs<=5000)(hl:bs.length<=100000)(hv:BtV w (.slice A bs.length c) bs)(hb:jjq bs)(hg:ErrT w):
  Calls prog 113 #[jd5 gen s A bs.length c ea en ec tl,.int .i64 (n:Nat)] w fun e w'=>∃p u,e=.returned (.tuple #[p,u])/\Uf w w' s (bs.take n) p u:=by
 obtain⟨w1,hw1⟩:∃z,w.alloc (.cells #[.int .i64 gen,.string (B s),.slice A bs.length c,.slice ea en ec,.string tl] 73)=z:=⟨_,rfl⟩
 have b1:Below w.heap.size w w1:=by rw[<- hw1];exact(jne _ w).alloc (jnd _) _
 have C1:ja w1 w.heap.size 73 #[.int .i64 gen,.string (B s),.slice A bs.length c,.slice ea en ec,.string tl]:=by rw[<- hw1];exact ja.new _ _ _
 have hcap:bs.length<=c:=by
  obtain⟨_,_,e',hc,_⟩:=hv
  injection e' with _ _ e3
  omega
 have hst:=Ut bs n
 have PA:Hid (∀W,Below w1.heap.size w1 W->Calls prog 154 #[.string (B s),.slice A n c] W fun e w'=>jcH W w' s (bs.take n) e):=fun W hW=>by
  have hB:=b1.trans (hW.mono b1.size)
  exact Wg s (bs.take n) _ W (by omega) (by rw[jnk];omega) (BtV.take (hv.below hB (jnd _)) hn) (hb.take n) (hg.below hB (jnd _))
 have d1:decide (((bs.length:Nat):Int)<(n:Int))=false:=by simp;omega
 have q1:¬((n:Int)<0):=by omega
 have q2:¬((bs.length:Int)<(n:Int)):=by omega
 have q3:(n:Int)<=(c:Int):=by omega
 have k1:=C1.cell 1
 have k2:=C1.cell 2
 simp only[jnl,jnp,jnj]at k1 k2
 have HB1:=jnc b1
 have HW1:=jnc hw1
 have HC1:=jnc C1
 clear hv hb hg b1 C1 hw1 hst
 unfold jd5
 go_enter func113,ntmps113
 go_upto_region 3 with fail
 rw[HW1.out]
 have DR:Hid (Below w1.heap.size w1 w1.drew):=(jne _ _).drew
 have AR:Hid (Below w1.heap.size w1 (w1.alloc (.cells #[.pointer none,.int .i64 0,.slice none 0 0] 228)).drew):=((jne _ _).alloc (jnd _) _).drew
 have ARC:=jnc (show ja (w1.alloc (.cells #[.pointer none,.int .i64 0,.slice none 0 0] 228)).drew w1.heap.size 228 #[.pointer none,.int .i64 0,.slice none 0 0] from(ja.new _ _ _).drew)
 have k1':∀o,(w1.alloc o).cell? ⟨w.heap.size,1,none⟩=some (.string (B s)):=fun o=>((HC1.out.alloc o).cell 1).trans rfl
 have k2':∀o,(w1.alloc o).cell? ⟨w.heap.size,2,none⟩=some (.slice A bs.length c):=fun o=>((HC1.out.alloc o).cell 2).trans rfl
 go_cut [6,7] (fun c d wx=>∃pb q i v,c=.pointer (some ⟨pb,0,none⟩)/\Uf w wx s (bs.take n) (.pointer q) d/\ja wx pb 228 #[.pointer q,i,v])
 case first =>
  go_region_law (go_simp;go_at_call 154;first
   | (refine(PA.out _ DR.out).mono ?_;rintro e w5 h5;obtain⟨p5,nx,a5,m5,c5,u5,rfl,hB⟩:=h5.beh;obtain⟨⟨q5,rfl⟩,_⟩:=hB.form;have H5:=jnc hB;clear h5 hB)
   | (refine(PA.out _ AR.out).mono ?_;rintro e w5 h5;obtain⟨p5,nx,a5,m5,c5,u5,rfl,hB⟩:=h5.beh;obtain⟨⟨q5,rfl⟩,_⟩:=hB.form;have kk:=je ARC.out hB.1 ARC.out.lt;have t0:=kk.cell 0;have t1:=kk.cell 1;have t2:=kk.cell 2;have tf0:=kk.frozen 0;have tf1:=kk.frozen 1;have tf2:=kk.frozen 2;simp only[jnl,jnp,jnj]at t0 t1 t2;have HK:=jnc kk;have H5:=jnc hB;clear h5 hB kk))
  all_goals (try go_wp2_with fail)
  all_goals go_meet
  all_goals first
   | exact⟨_,_,_,_,rfl,jm5 HB1.out DR.out H5.out,ja.new _ _ _⟩
   | exact⟨_,_,_,_,rfl,(jmV HB1.out AR.out H5.out HK.out).1,(jmV HB1.out AR.out H5.out HK.out).2⟩
 case rest =>
 obtain⟨pb,q,i,v,rfl,hB,hC⟩:=hcut
 have c0:=hC.cell 0
 simp only[jnl,jnp]at c0
 have HB:=jnc hB
 clear hB hC
 go_wp2_with fail
 go_ret2
 exact⟨_,_,rfl,HB.out⟩
theorem jhD(gen:Int)(s:List UInt8)(bs:List (List Ed))(A:Option Addr)(c:Nat)(ea:Option Addr)(en ec:Nat)(tl:ByteArray)(w:World)(hs:s.length+Jc bs<=5000)(hl:bs.length<=100000)(hv:BtV w (.slice A bs.length c) bs)(hb:jjq bs)(hg:ErrT w):
  Calls prog 82 #[jd5 gen s A bs.length c ea en ec tl] w fun e w'=>∃p u,e=.returned (.tuple #[p,u])/\Uf w w' s bs p u:=by
 obtain⟨w1,hw1⟩:∃z,w.alloc (.cells #[.int .i64 gen,.string (B s),.slice A bs.length c,.slice ea en ec,.string tl] 73)=z:=⟨_,rfl⟩
 have b1:Below w.heap.size w w1:=by rw[<- hw1];exact(jne _ w).alloc (jnd _) _
 have C1:ja w1 w.heap.size 73 #[.int .i64 gen,.string (B s),.slice A bs.length c,.slice ea en ec,.string tl]:=by rw[<- hw1];exact ja.new _ _ _
 have BE:=jd7 gen s bs A c ea en ec tl bs.length (jnd _) w1 hs hl (hv.below b1 (jnd _)) hb (hg.below b1 (jnd _))
 rw[jnP]at BE
 unfold jd5 at BE
 have HBE:=jnc BE
 have k0:=C1.cell 0
 have k1:=C1.cell 1
 have k2:=C1.cell 2
 have k3:=C1.cell 3
 have k4:=C1.cell 4
 simp only[jnl,jnp,jnj]at k0 k1 k2 k3 k4
 have HB1:=jnc b1
 have HW1:=jnc hw1
 clear hv hb hg b1 C1 hw1 BE
 unfold jd5
 go_enter func82,ntmps82
 go_wp2_with fail
 rw[HW1.out]
 refine HBE.out.mono ?_
 rintro e w2 ⟨p,u,rfl,h2⟩
 have H2:=jnc (h2.low HB1.out)
 clear h2 HBE
 go_wp2_with fail
 go_ret2
 exact⟨_,_,rfl,H2.out⟩
theorem jc6{fn:Func}{p u z:Tmp}{ty:TypeId}(h:fn.results=#[.cell p ty,.tmp u,.tmp z])(tmps:Array Value)(P:Program)(w:World):
  (results fn tmps).run P w=((asAddr (tmps.getD p undef)).run P w).andThen fun a w₁=>((loadVar ty a).run P w₁).andThen fun v w₂=>.ok (.tuple #[v,tmps.getD u undef,tmps.getD z undef]) w₂:=by
 simp only[results,h]
 simp[Sem.run_bind,Result.andThen]
theorem jeV{fn:Func}{p u z:Tmp}(h:fn.results=#[.cell p 73,.tmp u,.tmp z])(tmps:Array Value)(w:World)(b:Nat)(cur:Array Value)(hp:tmps.getD p undef=.pointer (some ⟨b,0,none⟩))
  (hc:ja w b 73 cur) (hz:cur.size=5):(results fn tmps).run prog w=.ok (.tuple #[.agg cur,tmps.getD u undef,tmps.getD z undef]) w:=by
 have L:=run_loadVar_row (P:=prog) w b 73 73 cur (0,0) _ hc underlying73 rfl (by rw[hz];kernel_rfl)
 rw[jc6 h,hp]
 show((loadVar _ _).run _ _).andThen _=_
 rw[L];rfl
def jbv(t:List UInt8)(a k:Nat):Prop:=jek t a k\/∃n base bds tail its,qL Dc t n base bds tail/\jE base=.ok its/\xm (qE its) (zM bds) a/\k=10
theorem jbv.not{t:List UInt8}{a k n:Nat}{base tail:List UInt8}{bds:List (List UInt8)}{its:List It}{l:LS}(h:jbv t a k)(s:qL Dc t n base bds tail)(hp:jE base=.ok its)(hl:qS (qE its) (zM bds)=some l):False:=by
 rcases h with h|⟨_,_,_,_,its',s',h2,h3,rfl⟩
 ·exact h.not s
 obtain⟨_,rfl,rfl,_⟩:=s.same s'
 rw[hp]at h2
 injection h2 with e
 subst e
 exact h3.not hl
def jeh(w w':World)(t:List UInt8)(e:Ending):Prop:=Below w.heap.size w w' /\
  ((∃a k u,jbv t a k/\e=.returned (.tuple #[jaG,.pointer none,u])/\jr w.heap.size w' u a k) \/
   (∃n base bds tail v its k lb ev ps,qL Dc t n base bds tail/\jE base=.ok its/\qS (qE its) (zM bds)=some k/\e=.returned (.tuple #[v,ptr lb,.nilIface])/\xv w.heap.size w' v n base bds tail/\qb w.heap.size w' lb ev ps k (base.length+Jc (zM bds))))
theorem xv.low{lo lo':Nat}{w:World}{v:Value}{n:Nat}{base tail:List UInt8}{bds:List (List UInt8)}(h:xv lo w v n base bds tail)(hl:lo'<=lo):xv lo' w v n base bds tail:=by
 obtain⟨bv,ev,us,h1,h2,h3⟩:=h.is
 refine⟨bv,ev,us,h1,⟨zk h2.row hl,fun i b u e1 e2 => ?_⟩,zk h3 hl⟩
 obtain⟨fvs,ho⟩:=h2.each i b u e1 e2
 exact⟨fvs,zk ho.row hl,ho.len,fun j ed fv h1 h2=>zk (ho.each j ed fv h1 h2) hl⟩
theorem xv.box{lo:Nat}{w w':World}{v:Value}{n:Nat}{base tail:List UInt8}{bds:List (List UInt8)}{b:Nat}{T:TypeId}{cur:Array Value}(h:xv lo w v n base bds tail)(hc:ja w b T cur)(o:jv (· = b) w w')(t0:22≠T)(t1:63≠T)(t2:155≠T)(t3:3≠T):xv lo w' v n base bds tail:=by
 obtain⟨bv,ev,us,h1,h2,h3⟩:=h.is
 exact⟨bv,ev,us,h1,h2.box hc t0 t1 t2 o,jN h3 o (fun r e q=>jB h3 hc t3 (by rw[e,q]))⟩
theorem jkC{w:World}{v:Value}{fs:List Fld}{b:Nat}{T:TypeId}{cur:Array Value}(h:Xj w v fs)(hne:fs≠[])(hb:v.ownBlock=some b)(hc:ja w b T cur)(hn:∀(j:Nat) (x y:ByteArray),cur[j]?=some (.string x)->cur[j+1]?≠some (.string y)):False:=by
 obtain⟨A,cap,rfl,hle,hcs⟩:=h
 obtain⟨f,hf⟩:∃f,fs[0]?=some f:=by
  cases fs with
  | nil=>exact absurd rfl hne
  | cons a r=>exact⟨a,rfl⟩
 obtain⟨b',off,rfl,_,c0,c1⟩:=hcs 0 f hf
 have e:b'=b:=by cases hb;rfl
 subst e
 rw[Nat.zero_mul,jo4,hc.cell off]at c0
 rw[Nat.zero_mul,jo4,hc.cell (off+1)]at c1
 exact hn off _ _ c0 c1
theorem jiQ(n:Int)(x y:ByteArray)(a b:Option Addr)(an ac bn bc:Nat):∀(j:Nat) (u v:ByteArray),(#[.int .i64 n,.string x,.slice a an ac,.slice b bn bc,.string y]:Array Value)[j]?=some (.string u)->(#[.int .i64 n,.string x,.slice a an ac,.slice b bn bc,.string y]:Array Value)[j+1]?≠some (.string v):=by
 intro j u v h1 h2
 match j with
 | 0=>simp at h1
 | 1=>simp at h2
 | 2=>simp at h1
 | 3=>simp at h1
 | 4=>simp at h2
 | j+5=>simp at h1
theorem KO(t:List UInt8)(ht:t.length<=100000)(hbs:(vn (t.drop (hl (Hd.genP t)))).length<=60000)(hsum:∀n base bds tail,qL Dc t n base bds tail->base.length+Jc (zM bds)<=5000)(w:World)(hT:QX w):
  Calls prog 44 #[.string (B t)] w fun e w'=>jeh w w' t e:=by
 obtain⟨w0,hw0⟩:∃z,w.alloc (.cells #[.int .i64 0,.string ⟨#[]⟩,.slice none 0 0,.slice none 0 0,.string ⟨#[]⟩] 73)=z:=⟨_,rfl⟩
 have hb0:Below w.heap.size w w0:=by rw[<- hw0];exact(jne _ w).alloc (jnd _) _
 have hz0:w0.heap.size=w.heap.size+1:=by rw[<- hw0];simp
 have C0:ja w0 w.heap.size 73 #[.int .i64 0,.string ⟨#[]⟩,.slice none 0 0,.slice none 0 0,.string ⟨#[]⟩]:=by rw[<- hw0];exact ja.new _ _ _
 have TB:Hid (∀W,Below w.heap.size w W->QX W):=fun W hW=>hT.below hW (jnd _)
 have RD:=jnc (QW t ht hbs w0 (TB.out w0 hb0))
 have HB0:=jnc hb0
 have HC0:=jnc C0
 have HW0:=jnc hw0
 have HZ0:=jnc hz0
 have HSUM:=jnc hsum
 clear hT hb0 C0 hw0 hz0 hbs hsum
 go_enter func44,ntmps44
 go_wp2_with fail
 rw[HW0.out]
 refine RD.out.mono ?_
 rintro e w1 hr
 obtain⟨b1,h1⟩:=hr.two
 have B1:=jnc (HB0.out.trans (b1.mono HB0.out.size))
 have hl01:=HB0.out.size
 have C1:=jnc (je HC0.out b1 HC0.out.lt)
 have hs01:=b1.size
 clear RD hr b1
 rcases h1 with ⟨a,k,u,hbad,rfl,hf⟩|⟨n,base,bds,tail,v,hS,rfl,hBR⟩
 ·obtain⟨q,hq,rfl,hqc⟩:=hf
  obtain⟨w2,hw2⟩:∃z,w1.alloc (.cells #[.int .i64 0,.string ⟨#[]⟩,.slice none 0 0,.slice none 0 0,.string ⟨#[]⟩] 73)=z:=⟨_,rfl⟩
  have b12:Below w1.heap.size w1 w2:=by rw[<- hw2];exact(jne _ _).alloc (jnd _) _
  have C2:=je C1.out b12 C1.out.lt
  obtain⟨P2,o2⟩:=jjV C2 (.int .i64 0) (.string ⟨#[]⟩) (.slice none 0 0) (.slice none 0 0) (.string ⟨#[]⟩)
  have B2:=B1.out.trans (b12.mono B1.out.size)
  have BF:=jnc (B2.trans (o2.to_below B2.size (fun r hr e=>by omega)))
  have HP2:=jnc P2
  have HF:=jnc (show jr w.heap.size _ (.iface 133 (.pointer (some ⟨q,0,none⟩))) a k from⟨q,by omega,rfl,(je hqc b12 hqc.lt).only o2 (fun e=>by have:=HZ0.out;omega)⟩)
  have HBAD:=jnc hbad
  have c0:=C2.cell 0
  have c1:=C2.cell 1
  have c2:=C2.cell 2
  have c3:=C2.cell 3
  have c4:=C2.cell 4
  have f0:=C2.frozen 0
  have f1:=C2.frozen 1
  have f2:=C2.frozen 2
  have f3:=C2.frozen 3
  have f4:=C2.frozen 4
  simp only[jnl,jnp,jnj]at c0 c1 c2 c3 c4
  have HW2:=jnc hw2
  rw[<- hw2]at c0 c1 c2 c3 c4 f0 f1 f2 f3 f4
  have eZ:jaG=.agg #[.int .i64 0,.string ⟨#[]⟩,.slice none 0 0,.slice none 0 0,.string ⟨#[]⟩]:=rfl
  rw[eZ]
  clear hqc hbad b12 C2 P2 o2 B2 hw2
  go_wp2_with fail
  rw[HW2.out]
  refine bodyPost_ret (jeV rfl _ _ w.heap.size _ rfl HP2.out rfl) rfl ?_
  exact⟨BF.out,.inl ⟨a,k,_,.inl HBAD.out,rfl,HF.out⟩⟩
 have BR2:=hBR
 obtain⟨bv,ev,us,rfl,hBt,hEv⟩:=hBR.is
 obtain⟨ba,bc,rfl,_⟩:=jg hBt.row
 obtain⟨ea,ec,rfl,_⟩:=jg hEv
 obtain⟨its,hp⟩:=hS.parse
 obtain⟨sb1,sb2,sb3⟩:=ZO hS
 unfold Ql at *
 obtain⟨w2,hw2⟩:∃z,w1.alloc (.cells #[.int .i64 (n:Int),.string (B base),.slice ba bds.length bc,.slice ea bds.length ec,.string (B tail)] 73)=z:=⟨_,rfl⟩
 obtain⟨b12,C2⟩:=jjm hw2
 have B2:=jnc (B1.out.trans (b12.mono B1.out.size))
 have OF:=jhD (n:Int) base (zM bds) ba bc ea bds.length ec (B tail) w2 (HSUM.out _ _ _ _ hS) (by rw[ZF];omega) (by rw[ZF];exact(jk1 hBt).below b12 (jnd _)) sb1 (TB.out w2 B2.out).tabs.err
 rw[ZF]at OF
 unfold jd5 at OF
 have HOF:=jnc OF
 have HC2:=jnc C2
 have HCR2:=jnc (je C1.out b12 C1.out.lt)
 have HBR:=jnc (xv.low (BR2.below b12) hl01)
 have HW2:=jnc hw2
 have HS:=jnc hS
 have HP:=jnc hp
 have hlt2:=C2.lt
 clear BR2 hBR hBt hEv b12 C2 hw2 OF hS hp sb1 sb2
 go_wp2_with fail
 rw[HW2.out]
 refine HOF.out.mono ?_
 rintro e w3 ⟨p,u,rfl,h3⟩
 have hb3:=h3.1
 have B3:=jnc (B2.out.trans (hb3.mono B2.out.size))
 have C3:=je HC2.out hb3 hlt2
 have CR3:=je HCR2.out hb3 HCR2.out.lt
 have BR3:=HBR.out.below hb3
 obtain⟨hpf,huf⟩:=h3.form
 have H3:=jnc h3
 have l0:=CR3.cell 0
 have l1:=CR3.cell 1
 have l2:=CR3.cell 2
 have l3:=CR3.cell 3
 have l4:=CR3.cell 4
 have f0:=CR3.frozen 0
 have f1:=CR3.frozen 1
 have f2:=CR3.frozen 2
 have f3:=CR3.frozen 3
 have f4:=CR3.frozen 4
 have c0:=C3.cell 0
 have c1:=C3.cell 1
 have c2:=C3.cell 2
 have c3:=C3.cell 3
 have c4:=C3.cell 4
 simp only[jnl,jnp,jnj]at l0 l1 l2 l3 l4 c0 c1 c2 c3 c4
 have h12:=B2.out.size
 have hzz:=HZ0.out
 rcases h3 with ⟨_,⟨a,m,hpe,_⟩|⟨its',i,hpe,hrf,rfl,hfa⟩|⟨its',k,lb,ev3,ps3,hpe,hpl,rfl,rfl,hCY⟩⟩
 ·rw[HP.out]at hpe;cases hpe
 ·rw[HP.out]at hpe
  injection hpe with e1
  subst e1
  obtain⟨q,hq,rfl,hqc⟩:=hfa
  obtain⟨P3,o3⟩:=jjV CR3 (.int .i64 0) (.string ⟨#[]⟩) (.slice none 0 0) (.slice none 0 0) (.string ⟨#[]⟩)
  have BF:=jnc (B3.out.trans (o3.to_below B3.out.size (fun r hr e=>by omega)))
  have HP3:=jnc P3
  have HF:=jnc (show jr w.heap.size _ (.iface 133 (.pointer (some ⟨q,0,none⟩))) i 10 from⟨q,by omega,rfl,hqc.only o3 (fun e=>by omega)⟩)
  have HRF:=jnc hrf
  clear hb3 C3 CR3 BR3 H3 hrf hqc P3 o3 HOF hpf huf
  go_wp2_with fail
  refine bodyPost_ret (jeV rfl _ _ w.heap.size _ rfl HP3.out rfl) rfl ?_
  exact⟨BF.out,.inl ⟨i,10,_,.inr ⟨_,_,_,_,its,HS.out,HP.out,HRF.out,rfl⟩,rfl,HF.out⟩⟩
 rw[HP.out]at hpe
 injection hpe with e1
 subst e1
 obtain⟨P3,o3⟩:=jjV CR3 (.int .i64 (n:Int)) (.string (B base)) (.slice ba bds.length bc) (.slice ea bds.length ec) (.string (B tail))
 have BF:=jnc (B3.out.trans (o3.to_below B3.out.size (fun r hr e=>by omega)))
 have HP3:=jnc P3
 have HBR3:=jnc (xv.box BR3 CR3 o3 (by decide) (by decide) (by decide) (by decide))
 have HC3:=jnc (jan (hCY.only o3 (S0:=w2.heap.size) (by
  rintro r (rfl|h|h|⟨p,hp,hne,h⟩|⟨p,hp,_⟩) e
  ·have:=hCY.lb0;omega
  ·have:=hCY.ev0 r h;omega
  ·cases h
  ·exact jkC (hCY.la.lr.ents.each p hp).1 hne (by rw[h,e]) CR3 (jiQ _ _ _ _ _ _ _ _ _)
  cases hp)) h12)
 have HPL:=jnc hpl
 clear hb3 C3 CR3 BR3 H3 hpl hCY P3 o3 HOF hpf huf
 unfold ptr at *
 go_wp2_with fail
 refine bodyPost_ret (jeV rfl _ _ w.heap.size _ rfl HP3.out rfl) rfl ?_
 exact⟨BF.out,.inr ⟨n,base,bds,tail,_,its,k,lb,ev3,ps3,HS.out,HP.out,HPL.out,rfl,HBR3.out,HC3.out⟩⟩
end Rp
section
attribute [local go_sem] jnn
end
namespace Rp
open Bk
attribute [local go_sem] jnn
def jiv:List UInt8:=[65,58,32,49,10]
def exE:List Ed:=[⟨2,1,[]⟩]
def jmB:List It:=[⟨3,[65,58,32,49,10],[([65],[49])]⟩]
theorem Qf:jE jiv=.ok jmB:=by kernel_rfl
theorem jdK:qL Dc jiv 0 jiv [] [] :=
 ⟨Hd.gen_short (by decide),⟨_,Qf⟩,by kernel_rfl,⟨rfl,fun b h=>by cases h⟩,Wi⟩
theorem jkG:(js exE).length=10:=by kernel_rfl
theorem jkI:(vS exE).2=0:=by decide
theorem jkH{w:World}{b:Nat}(h:ja w b 63 #[.int .i64 2,.int .i64 1,.slice none 0 0]):EdV w (.slice (some ⟨b,0,none⟩) 1 1) exE:=by
 refine⟨_,1,rfl,jnd _,fun i ed hi => ?_⟩
 match i with
 | 0 =>
  obtain rfl:(⟨2,1,[]⟩:Ed)=ed:=jng hi
  exact⟨b,0,.slice none 0 0,rfl,h.lt,(h.cell 0).trans rfl,(h.cell 1).trans rfl,(h.cell 2).trans rfl,⟨none,0,rfl,jnd _,fun i f h=>by simp at h⟩,fun n c e=>by cases e;rfl⟩
 | i+1=>simp[exE]at hi
theorem jeh.yes{w w':World}{t base tail:List UInt8}{n:Nat}{bds:List (List UInt8)}{its:List It}{k:LS}{e:Ending}(h:jeh w w' t e)(s:qL Dc t n base bds tail)(hp:jE base=.ok its)(hl:qS (qE its) (zM bds)=some k):
  Below w.heap.size w w'/\∃v lb ev ps,e=.returned (.tuple #[v,ptr lb,.nilIface])/\xv w.heap.size w' v n base bds tail/\qb w.heap.size w' lb ev ps k (base.length+Jc (zM bds)):=by
 obtain⟨hb,h⟩:=h
 refine⟨hb,?_⟩
 rcases h with ⟨a,m,u,hbad,_⟩|⟨n',base',bds',tail',v,its',k',lb,ev,ps,s',hp',hl',rfl,h1,h2⟩
 ·exact(hbad.not s hp hl).elim
 obtain⟨rfl,rfl,rfl,rfl⟩:=s.same s'
 rw[hp]at hp'
 injection hp' with e1
 subst e1
 rw[hl]at hl'
 injection hl' with e2
 subst e2
 exact⟨v,lb,ev,ps,rfl,h1,h2⟩
end Rp
namespace Kn
section
variable {Q:Exit->Act->World->Prop} {ops:Array Oper} {V:List Value} {a0:Act} {w0:World} {o:Oper} {v:Value}
theorem sliceK{x y:Operand}{s:ByteArray}{j:Nat}(h:yj ops V o=some true)(ho:o.op=Op.slice 9 x none (some y) none)(hx:qw ops V a0 o x=some (.string s))(hy:qw ops V a0 o y=some (.int .i64 (j:Nat)))(hj:j<=s.size)(hv:v=.string (s.extract 0 j)):yA prog Q ops V a0 w0 o v:=by
 subst hv
 have h1:(j:Int)<=(s.size:Int):=by omega
 exact ji6 h fun ρ w _ ev=>by simp only[execOp,ho];simp[go_sem,ev _ _ hx,ev _ _ hy,Result.andThen,h1]
theorem func1K{x:Operand}{fn:Fn}{u:Value}(h:yj ops V o=some true)(ho:o.op=Op.makeFunc fn #[] #[x])(hx:qw ops V a0 o x=some u)(hv:v=.func fn #[] #[u]):yA prog Q ops V a0 w0 o v:=by
 subst hv
 exact ji6 h fun ρ w _ ev=>by simp only[execOp,ho];simp[go_sem,ev _ _ hx]
theorem func2K{x y:Operand}{fn:Fn}{u z:Value}(h:yj ops V o=some true)(ho:o.op=Op.makeFunc fn #[] #[x,y])(hx:qw ops V a0 o x=some u)(hy:qw ops V a0 o y=some z)(hv:v=.func fn #[] #[u,z]):yA prog Q ops V a0 w0 o v:=by
 subst hv
 exact ji6 h fun ρ w _ ev=>by simp only[execOp,ho];simp[go_sem,ev _ _ hx,ev _ _ hy]
end
theorem mo_acts2{o:Oper}{a:Act}{w:World}{K:Act->World->Prop}{Q:Exit->Act->World->Prop}{x y:Operand}{f g:Fn}{cs rs ds ss:Array Value}(ho:o.op=Op.buildSlice 121 2 #[(0,x),(1,y)])(hx:a.eval x=.func f cs rs)(hy:a.eval y=.func g ds ss)
  (hK:K (a.put o.dst (.slice (some ⟨w.heap.size,0,none⟩) 2 2)) (w.alloc (.cells #[.func f cs rs,.func g ds ss] 78))):Oper.wp prog o a w K Q:=by
 have e:(execOp a.eval o).run prog w=.ok (.value (.slice (some ⟨w.heap.size,0,none⟩) 2 2)) (w.alloc (.cells #[.func f cs rs,.func g ds ss] 78)):=by
  simp only[execOp,ho]
  rw[show(Array.map (fun(p:Nat×Operand)=>match p with | (i,x)=>(i,a.eval x)) #[((0:Nat),x),((1:Nat),y)])=#[((0:Nat),Value.func f cs rs),((1:Nat),Value.func g ds ss)] from by rw[<- hx,<- hy];simp]
  kernel_rfl
 unfold Oper.wp
 rw[e];exact hK
theorem mo_acts1{o:Oper}{a:Act}{w:World}{K:Act->World->Prop}{Q:Exit->Act->World->Prop}{x:Operand}{f:Fn}{cs rs:Array Value}(ho:o.op=Op.buildSlice 121 1 #[(0,x)])(hx:a.eval x=.func f cs rs)
  (hK:K (a.put o.dst (.slice (some ⟨w.heap.size,0,none⟩) 1 1)) (w.alloc (.cells #[.func f cs rs] 78))):Oper.wp prog o a w K Q:=by
 have e:(execOp a.eval o).run prog w=.ok (.value (.slice (some ⟨w.heap.size,0,none⟩) 1 1)) (w.alloc (.cells #[.func f cs rs] 78)):=by
  simp only[execOp,ho]
  rw[show(Array.map (fun(p:Nat×Operand)=>match p with | (i,x)=>(i,a.eval x)) #[((0:Nat),x)])=#[((0:Nat),Value.func f cs rs)] from by rw[<- hx];simp]
  kernel_rfl
 unfold Oper.wp
 rw[e];exact hK
end Kn
namespace Vf
open Go.Maps Bk Rp
structure Kq(L q:Nat)(w w':World):Prop where
 bel:Below L w w'
 rest:∀(b:Nat) (c:Array Value) (t:TypeId) (fr:Nat×Nat),b≠q->w.heap[b]?=some (Obj.cells c t fr)->jgZ t->w'.heap[b]?=w.heap[b]?
theorem jO.kq{L:Nat}{w w':World}(h:jO L w w')(q:Nat):Kq L q w w':=⟨h.bel,fun b c t fr _ ho hn=>h.rest b c t fr ho hn⟩
theorem Kq.trans{L q:Nat}{w w1 w2:World}(h:Kq L q w w1)(g:Kq L q w1 w2):Kq L q w w2 :=
 ⟨h.bel.trans g.bel,fun b c t fr hb ho hn=>by
  have h1:=h.rest b c t fr hb ho hn
  exact(g.rest b c t fr hb (h1.trans ho) hn).trans h1⟩
theorem Vj{b:Nat}(w:World)(i:Nat)(u:Value):jv (· = b) w (w.setCell ⟨b,i,none⟩ u):=(jv.refl (· = b) w).cellS i u
theorem Kq.set{L q:Nat}{w:World}(hL:L<=q)(hw:L<=w.heap.size)(i:Nat)(u:Value):Kq L q w (w.setCell ⟨q,i,none⟩ u) :=
 ⟨(Vj w i u).to_below hw (fun r hr e=>by omega),fun b c t fr hb ho _=>(Vj w i u).same b (Array.getElem?_eq_some_iff.1 ho).1 hb⟩
theorem jD.set{L q p:Nat}{w:World}{D:ji}{cur:Array Value}(h:jD L w p D)(hc:ja w q 69 cur)(i:Nat)(u:Value):jD L (w.setCell ⟨q,i,none⟩ u) p D:=by
 obtain⟨T,⟨V,hV⟩,h2,h3⟩:=h.trim
 have hq:T q=0:=h3 q cur _ (0,0) hc (by decide)
 exact⟨T,⟨V,hV.same (fun b hb=>(Vj w i u).same b (hV.low b hb) (fun e=>hb (by rw[e];exact hq))) (Vj (b:=q) w i u).size⟩,h2⟩
theorem vB.set{q p:Nat}{z t t':ByteArray}{w:World}(h:vB w q p z t):vB (w.setCell ⟨q,2,none⟩ (.string t')) q p z t':=ja.set h 2 (.string t')
theorem XS{L n p:Nat}{w:World}{D:ji}(hd:jD L w p D)(hf:zJ n D)(hn:n<=300000)(z:ByteArray)(hz:z.size<=1000000):∀W,Below w.heap.size w W ->
  Calls prog 26 #[.pointer (some ⟨p,0,none⟩),.string z] W fun e w'=>e=.returned (.tuple #[.string (yx D z).1,qm (yx D z).2])/\Below W.heap.size W w':=fun W hW=>jjT (hd.below hW) hf hn z hz
attribute [local go_sem] jT
theorem jmw{L n q p bx bi k:Nat}{D:ji}{z t0:ByteArray}{w:World}(hL:L<=w.heap.size)(h:vB w q p z t0)(hb:ja w bx 33 #[.pointer (some ⟨q,0,none⟩)])(hi:ja w bi 3 #[.int .i64 (k:Nat)])(hk:k<=1000000)(hd:jD L w p D)(hf:zJ n D)(hn:n<=300000)(hz:z.size<=1000000)(h0:(WU D z k).2=0):
  Calls prog 71 #[.pointer (some ⟨bx,0,none⟩),.pointer (some ⟨bi,0,none⟩)] w fun e w'=>e=.returned .nilIface/\jD L w' p (WU D z k).1/\jO L w w':=by
 have RD:=fun W (hW:Below w.heap.size w W)=>jm4 (hd.below hW) (jns hL hW.size) hf (by omega) z hz k hk
 simp only[h0,jT]at RD
 replace RD:=jnc RD
 have BX:Hid (∀W,Below w.heap.size w W->W.cell? ⟨bx,0,none⟩=some (.pointer (some ⟨q,0,none⟩))):=fun W hW=>(jd hb hW hb.lt).cell 0
 have C0:Hid (∀W,Below w.heap.size w W->W.cell? ⟨q,0,none⟩=some (.pointer (some ⟨p,0,none⟩))):=fun W hW=>(jd h hW h.lt).cell 0
 have C1:Hid (∀W,Below w.heap.size w W->W.cell? ⟨q,1,none⟩=some (.string z)):=fun W hW=>(jd h hW h.lt).cell 1
 have CI:Hid (∀W,Below w.heap.size w W->W.cell? ⟨bi,0,none⟩=some (.int .i64 (k:Nat))):=fun W hW=>(jd hi hW hi.lt).cell 0
 have HLL:=jnc hL
 clear hL h hb hd hf h0 hi
 go_enter func71,ntmps71
 go_upto_region 1 with fail
 refine wp_region_any (by kernel_rfl) ?_
 refine Kn.wpAny_known_tail 11 2 [(3,.pointer (some ⟨q,0,none⟩)),(4,.pointer (some ⟨q,0,none⟩)),(5,.pointer (some ⟨q,0,none⟩)),(6,.pointer (some ⟨q,0,none⟩)),(7,.pointer (some ⟨p,0,none⟩)),(8,.pointer (some ⟨q,0,none⟩)),(9,.pointer (some ⟨q,0,none⟩)),(10,.pointer (some ⟨q,0,none⟩)),(11,.pointer (some ⟨q,1,none⟩)),(12,.string z),(13,.int .i64 (k:Nat))] (by kernel_rfl) (by decide) rfl (by kernel_rfl) (by kernel_rfl) (by kernel_rfl) (by kernel_rfl) (by kernel_rfl) ?st ?hQ
 case st =>
  repeat (refine And.intro (by first
   | exact Kn.loadK (T:=33) (b:=bx) (i:=0) (by kernel_rfl) rfl (by kernel_rfl) (fun W hw=>by simp[go_sem,BX.out W (yk hw)])
   | exact Kn.fieldK (b:=q) (i:=0) (j:=0) (by kernel_rfl) rfl (by kernel_rfl) rfl (fun w=>by simp[go_sem])
   | exact Kn.fieldK (b:=q) (i:=0) (j:=1) (by kernel_rfl) rfl (by kernel_rfl) rfl (fun w=>by simp[go_sem])
   | exact Kn.nilK (by kernel_rfl) rfl (by kernel_rfl)
   | exact Kn.loadK (T:=31) (b:=q) (i:=0) (by kernel_rfl) rfl (by kernel_rfl) (fun w hw=>by simp[go_sem,C0.out w (yk hw)])
   | exact Kn.loadK (T:=9) (b:=q) (i:=1) (by kernel_rfl) rfl (by kernel_rfl) (fun w hw=>by simp[go_sem,C1.out w (yk hw)])
   | exact Kn.loadK (T:=3) (b:=bi) (i:=0) (by kernel_rfl) rfl (by kernel_rfl) (fun w hw=>by simp[go_sem,CI.out w (yk hw)])
   | exact Kn.stepA (by kernel_rfl) (by kernel_rfl)) ?_)
  exact trivial
 case hQ =>
 intro w1 b1
 replace b1:=yk b1
 have R1:=jnc (RD.out w1 b1)
 have B1:=jnc b1
 clear b1 RD
 simp only[List.foldl,jnq,jnM,jnN,joh,jop]
 go_wp2_with fail
 refine R1.out.mono ?_
 rintro e w2 ⟨rfl,h1,h2⟩
 have H:=jnc (And.intro h1 h2)
 clear h1 h2 R1
 go_wp2_with fail
 go_ret
 exact⟨rfl,H.out.1,(jO.of_below B1.out HLL.out).trans H.out.2⟩
theorem jmv{L n q p bx:Nat}{D:ji}{z t0:ByteArray}{w:World}(hL:L<=w.heap.size)(h:vB w q p z t0)(hb:ja w bx 33 #[.pointer (some ⟨q,0,none⟩)])(hd:jD L w p D)(hf:zJ n D)(hn:n<=300000)(hz:z.size<=1000000)(h0:(qx D z).2=0):
  Calls prog 73 #[.pointer (some ⟨bx,0,none⟩)] w fun e w'=>e=.returned .nilIface/\jD L w' p (qx D z).1/\jO L w w':=by
 have RD:=fun W (hW:Below w.heap.size w W)=>jjB (hd.below hW) (jns hL hW.size) hf (by omega) z hz
 simp only[h0,jT]at RD
 replace RD:=jnc RD
 have BX:Hid (∀W,Below w.heap.size w W->W.cell? ⟨bx,0,none⟩=some (.pointer (some ⟨q,0,none⟩))):=fun W hW=>(jd hb hW hb.lt).cell 0
 have C0:Hid (∀W,Below w.heap.size w W->W.cell? ⟨q,0,none⟩=some (.pointer (some ⟨p,0,none⟩))):=fun W hW=>(jd h hW h.lt).cell 0
 have C1:Hid (∀W,Below w.heap.size w W->W.cell? ⟨q,1,none⟩=some (.string z)):=fun W hW=>(jd h hW h.lt).cell 1
 have HLL:=jnc hL
 clear hL h hb hd hf h0
 go_enter func73,ntmps73
 go_upto_region 1 with fail
 refine wp_region_any (by kernel_rfl) ?_
 refine Kn.wpAny_known_tail 10 2 [(2,.pointer (some ⟨q,0,none⟩)),(3,.pointer (some ⟨q,0,none⟩)),(4,.pointer (some ⟨q,0,none⟩)),(5,.pointer (some ⟨q,0,none⟩)),(6,.pointer (some ⟨p,0,none⟩)),(7,.pointer (some ⟨q,0,none⟩)),(8,.pointer (some ⟨q,0,none⟩)),(9,.pointer (some ⟨q,0,none⟩)),(10,.pointer (some ⟨q,1,none⟩)),(11,.string z)] (by kernel_rfl) (by decide) rfl (by kernel_rfl) (by kernel_rfl) (by kernel_rfl) (by kernel_rfl) (by kernel_rfl) ?st ?hQ
 case st =>
  repeat (refine And.intro (by first
   | exact Kn.loadK (T:=33) (b:=bx) (i:=0) (by kernel_rfl) rfl (by kernel_rfl) (fun W hw=>by simp[go_sem,BX.out W (yk hw)])
   | exact Kn.fieldK (b:=q) (i:=0) (j:=0) (by kernel_rfl) rfl (by kernel_rfl) rfl (fun w=>by simp[go_sem])
   | exact Kn.fieldK (b:=q) (i:=0) (j:=1) (by kernel_rfl) rfl (by kernel_rfl) rfl (fun w=>by simp[go_sem])
   | exact Kn.nilK (by kernel_rfl) rfl (by kernel_rfl)
   | exact Kn.loadK (T:=31) (b:=q) (i:=0) (by kernel_rfl) rfl (by kernel_rfl) (fun w hw=>by simp[go_sem,C0.out w (yk hw)])
   | exact Kn.loadK (T:=9) (b:=q) (i:=1) (by kernel_rfl) rfl (by kernel_rfl) (fun w hw=>by simp[go_sem,C1.out w (yk hw)])
   | exact Kn.stepA (by kernel_rfl) (by kernel_rfl)) ?_)
  exact trivial
 case hQ =>
 intro w1 b1
 replace b1:=yk b1
 have R1:=jnc (RD.out w1 b1)
 have B1:=jnc b1
 clear b1 RD
 simp only[List.foldl,jnq,jnM,jnN,joh,jop]
 go_wp2_with fail
 refine R1.out.mono ?_
 rintro e w2 ⟨rfl,h1,h2⟩
 have H:=jnc (And.intro h1 h2)
 clear h1 h2 R1
 go_wp2_with fail
 go_ret
 exact⟨rfl,H.out.1,(jO.of_below B1.out HLL.out).trans H.out.2⟩
theorem jeI{D:ji}{z:ByteArray}{t:List UInt8}(h:Uj D)(hz:zy z=true)(hr:yx D z=(B t,0)):vP D (zP D z []).1=t.length:=by
 unfold yx at hr
 rw[if_neg (by rw[h.gone];decide)]at hr
 split at hr
 ·rename_i hne
  exact absurd (congrArg Prod.snd hr) hne
 have h1:=congrArg (fun x=>x.1.data.toList) hr
 dsimp only at h1
 rw[ju]at h1
 unfold vP
 cases hf:D.files[(zP D z []).1]? with
 | none=>rw[hf]at h1;rw[<- h1];unfold vu;rw[hf];rfl
 | some f=>rw[hf]at h1;rw[<- h1];unfold vu;rw[hf]
theorem jj9{L n q p m:Nat}{D:ji}{z t0:ByteArray}{t base tail:List UInt8}{bds:List (List UInt8)}{its:List It}{k:LS}{w:World}(hL:L<=w.heap.size)(hq:L<=q)
  (h:vB w q p z t0) (hd:jD L w p D) (hf:zJ n D) (hn:n<=200000) (hc:Uj D) (hz:zy z=true) (hsaw:Xl D z=true) (hr:yx D z=(B t,0))
  (hS:qL Dc t m base bds tail) (hp:jE base=.ok its) (hk:qS (qE its) (zM bds)=some k) (ht:t.length<=100000) (hbs:(vn (t.drop (hl (Hd.genP t)))).length<=60000) (hsum:base.length+Jc (zM bds)<=5000) (hT:∀W,Below L w W->QX W) :
  Calls prog 35 #[.pointer (some ⟨q,0,none⟩)] w fun e w'=>e=.returned .nilIface/\jD L w' p (if tail=[] then D else ZW D z (jo m base bds))/\vB w' q p z (B (t.take (jo m base bds)))/\Kq L q w w':=by
 obtain⟨DE,hDE⟩:∃x,x=(if tail=[] then D else ZW D z (jo m base bds)):=⟨_,rfl⟩
 rw[<- hDE]
 have HDE:=jnc hDE
 clear hDE
 have hzs:=xL hz
 have RD:=fun W (hW:Below w.heap.size w W)=>XS hd hf (by omega) z (by omega) W hW
 rw[hr]at RD
 replace RD:=jnc RD
 obtain⟨w1,hw1⟩:∃x,w.alloc (.cells #[.pointer (some ⟨q,0,none⟩)] 33)=x:=⟨_,rfl⟩
 have b1:Below w.heap.size w w1:=by rw[<- hw1];exact(jne _ w).alloc (jnd _) _
 have P1:ja w1 w.heap.size 33 #[.pointer (some ⟨q,0,none⟩)]:=by rw[<- hw1];exact ja.new _ _ _
 have BX:Hid (∀W,Below w1.heap.size w1 W->W.cell? ⟨w.heap.size,0,none⟩=some (.pointer (some ⟨q,0,none⟩))):=fun W hW=>(jd P1 hW P1.lt).cell 0
 have F1:=jd h b1 h.lt
 have C0:Hid (∀W,Below w1.heap.size w1 W->W.cell? ⟨q,0,none⟩=some (.pointer (some ⟨p,0,none⟩))):=fun W hW=>(jd F1 hW F1.lt).cell 0
 have C1:Hid (∀W,Below w1.heap.size w1 W->W.cell? ⟨q,1,none⟩=some (.string z)):=fun W hW=>(jd F1 hW F1.lt).cell 1
 have B1:=jnc b1
 have HW1:=jnc hw1
 have HP1:=jnc P1
 have HF1:=jnc F1
 have HD:=jnc hd
 have HFI:=jnc hf
 have HC:=jnc hc
 have HTT:=jnc hT
 have HLL:=jnc hL
 have HSS:=jnc hS
 have HSZ:=jnc (jeI hc hz hr)
 clear h hd hf hc hr b1 hw1 P1 F1 hT hL
 go_enter func35,ntmps35
 go_upto_region 1 with fail
 rw[HW1.out]
 refine wp_region_any (by kernel_rfl) ?_
 refine Kn.wpAny_known [(9,.pointer (some ⟨q,0,none⟩)),(10,.pointer (some ⟨q,0,none⟩)),(11,.pointer (some ⟨q,0,none⟩)),(12,.pointer (some ⟨q,0,none⟩)),(13,.pointer (some ⟨p,0,none⟩)),(14,.pointer (some ⟨q,0,none⟩)),(15,.pointer (some ⟨q,0,none⟩)),(16,.pointer (some ⟨q,0,none⟩)),(17,.pointer (some ⟨q,1,none⟩)),(18,.string z),(19,.tuple #[.string (B t),.nilIface]),(8,.tuple #[.string (B t),.nilIface]),(20,.string (B t)),(21,.nilIface),(3,.string (B t)),(4,.nilIface)] (by kernel_rfl) (by kernel_rfl) ?st ?hQ
 case st =>
  repeat (refine And.intro (by first
   | exact Kn.loadK (T:=33) (b:=w.heap.size) (i:=0) (by kernel_rfl) rfl (by kernel_rfl) (fun W hw=>by simp[go_sem,BX.out W (yk hw)])
   | exact Kn.fieldK (b:=q) (i:=0) (j:=0) (by kernel_rfl) rfl (by kernel_rfl) rfl (fun w=>by simp[go_sem])
   | exact Kn.fieldK (b:=q) (i:=0) (j:=1) (by kernel_rfl) rfl (by kernel_rfl) rfl (fun w=>by simp[go_sem])
   | exact Kn.nilK (by kernel_rfl) rfl (by kernel_rfl)
   | exact Kn.loadK (T:=31) (b:=q) (i:=0) (by kernel_rfl) rfl (by kernel_rfl) (fun w hw=>by simp[go_sem,C0.out w (yk hw)])
   | exact Kn.loadK (T:=9) (b:=q) (i:=1) (by kernel_rfl) rfl (by kernel_rfl) (fun w hw=>by simp[go_sem,C1.out w (yk hw)])
   | exact Kn.call2K (u:=.pointer (some ⟨p,0,none⟩)) (z:=.string z) (by kernel_rfl) rfl (by kernel_rfl) (by kernel_rfl) (enters_of func26 (by kernel_rfl) rfl) (fun W hW=>RD.out W (B1.out.trans ((yk hW).mono B1.out.size)))
   | exact Kn.extK (vs:=#[.string (B t),.nilIface]) (by kernel_rfl) rfl (by kernel_rfl) rfl
   | exact Kn.stepA (by kernel_rfl) (by kernel_rfl)) ?_)
  exact trivial
 case hQ =>
 intro w2 b2
 replace b2:=yk b2
 have B2:=jnc (B1.out.trans (b2.mono B1.out.size))
 have TX:=jnc (KO t ht hbs (fun n' base' bds' tail' hS'=>by obtain⟨rfl,rfl,rfl,rfl⟩:=hS'.same HSS.out;exact hsum) w2 (HTT.out w2 (B2.out.mono HLL.out)))
 have bx2:=BX.out w2 b2
 have HB2:=jnc b2
 clear b2 RD
 simp only[List.foldl,jnq,jnM,jnN]
 go_wp2_with fail
 refine TX.out.mono ?_
 rintro e w3 h3
 obtain⟨b3,v,lb,ev,ps,rfl,hBR,hC⟩:=h3.yes HSS.out hp hk
 have BR3:=hBR
 obtain⟨bv,ev',us,rfl,hBt,hEv⟩:=hBR.is
 obtain⟨ba,bc,rfl,_⟩:=jg hBt.row
 obtain⟨ea,ec,rfl,_⟩:=jg hEv
 unfold Ql ptr at *
 obtain⟨w4,hw4⟩:∃z,w3.alloc (.cells #[.int .i64 m,.string (B base),.slice ba bds.length bc,.slice ea bds.length ec,.string (B tail)] 73)=z:=⟨_,rfl⟩
 have b34:Below w3.heap.size w3 w4:=by rw[<- hw4];exact(jne _ _).alloc (jnd _) _
 have K4:ja w4 w3.heap.size 73 #[.int .i64 m,.string (B base),.slice ba bds.length bc,.slice ea bds.length ec,.string (B tail)]:=by rw[<- hw4];exact ja.new _ _ _
 have b4:=b3.trans (b34.mono b3.size)
 have B4:=jnc (B2.out.trans (b4.mono B2.out.size))
 have B14:=jnc (HB2.out.trans (b4.mono HB2.out.size))
 have hwz:jo m base bds<=t.length:=by have:=HSS.out.parts.len;omega
 have WH:=jnc (Vv (BR3.below b34) (by omega) (HTT.out w4 (B4.out.mono HLL.out)))
 unfold Ql at WH
 have HK4:=jnc K4
 have c0:=K4.cell 0
 have c1:=K4.cell 1
 have c2:=K4.cell 2
 have c3:=K4.cell 3
 have c4:=K4.cell 4
 have HW4:=jnc hw4
 rw[<- hw4]at c0 c1 c2 c3 c4
 clear h3 hBR hBt hEv b3 hC hw4 b34 TX BR3 b4 K4
 go_wp2_with fail
 rw[HW4.out]
 refine WH.out.mono ?_
 rintro e w5 ⟨rfl,b5⟩
 obtain⟨w6,hw6⟩:∃x,w5.alloc (.cells #[.int .i64 (jo m base bds:Nat)] 3)=x:=⟨_,rfl⟩
 have b56:Below w5.heap.size w5 w6:=by rw[<- hw6];exact(jne _ _).alloc (jnd _) _
 have I6:ja w6 w5.heap.size 3 #[.int .i64 (jo m base bds:Nat)]:=by rw[<- hw6];exact ja.new _ _ _
 have b46:=b5.trans (b56.mono b5.size)
 have B6:=jnc (B4.out.trans (b46.mono B4.out.size))
 have hw16:Below w1.heap.size w1 w6:=B14.out.trans (b46.mono B14.out.size)
 have x6:=BX.out w6 hw16
 have k4:w6.cell? ⟨w3.heap.size,4,none⟩=some (.string (B tail)):=(jd HK4.out b46 HK4.out.lt).cell 4
 have i6:=I6.cell 0
 have F6:=jnc (jd HF1.out hw16 HF1.out.lt)
 have D6:=jnc (HD.out.below B6.out)
 have HI6:=jnc I6
 have HX6:=jnc hw16
 have HW6:=jnc hw6
 rw[<- hw6]at x6 k4 i6
 clear b5 b56 I6 b46 hw16 hw6 WH bx2 c0 c1 c2 c3 c4
 by_cases htl:tail=[]
 ·subst htl
  have et:t.take (jo m base bds)=t:=jnD (by have:=HSS.out.parts.len;simp at this;omega)
  have BC:=jnc (Qm (q:=q) (t:=B t) (acts:=.slice none 0 0) (R:=fun w'=>w'=w6) rfl ((jkN w6).mono fun e w' ⟨he,hw⟩=>⟨he,by rw[<- hw];exact F6.out,hw.symm⟩))
  have et0:(B []).toList.isEmpty=true:=by kernel_rfl
  go_wp2_with fail
  rw[HW6.out]
  refine BC.out.mono ?_
  rintro e w7 ⟨rfl,w8,rfl,hc8,rfl⟩
  go_wp2_with fail
  go_ret
  have eD:DE=D:=by have:=HDE.out;simpa using this
  rw[eD,et]
  exact⟨rfl,D6.out.set F6.out 2 _,vB.set F6.out,(jO.of_below B6.out HLL.out).kq q |>.trans (Kq.set hq (jns HLL.out B6.out.size) 2 _)⟩
 have htn:(B tail).toList.isEmpty=false:=by
  rw[jn0,ju]
  cases tail with
  | nil=>exact absurd rfl htl
  | cons a r=>rfl
 go_upto_region 10 with fail
 rw[HW6.out]
 refine wp_region_any (by kernel_rfl) ?_
 refine Kn.wpAny_some_tail 7 2 [(42,.val (.pointer (some ⟨q,0,none⟩))),(43,.val (.string (B t))),(44,.val (.int .i64 (jo m base bds:Nat))),(45,.val (.string (B (t.take (jo m base bds))))),(46,.val (.func (.func 71) #[] #[.pointer (some ⟨w.heap.size,0,none⟩),.pointer (some ⟨w5.heap.size,0,none⟩)])),(47,.val (.func (.func 73) #[] #[.pointer (some ⟨w.heap.size,0,none⟩)])),
  (48,.pr fun v W=>∃b,v=.slice (some ⟨b,0,none⟩) 2 2/\ja W b 78 #[.func (.func 71) #[] #[.pointer (some ⟨w.heap.size,0,none⟩),.pointer (some ⟨w5.heap.size,0,none⟩)],.func (.func 73) #[] #[.pointer (some ⟨w.heap.size,0,none⟩)]])] (by kernel_rfl) (by decide) rfl (by kernel_rfl) (by kernel_rfl) (by kernel_rfl) (by kernel_rfl) (by kernel_rfl) ⟨fun v x y hb h=>by obtain⟨b,e,h1⟩:=h;exact⟨b,e,jd h1 hb h1.lt⟩,trivial⟩ ?st ?hQ
 case st =>
  have bsz:(B t).size=t.length:=jm t
  have bex:(B t).extract 0 (jo m base bds)=B (t.take (jo m base bds)):=by rw[jf5];simp
  iterate 6 (refine And.intro ⟨(by first
   | exact Kn.loadK (T:=33) (b:=w.heap.size) (i:=0) (by kernel_rfl) rfl (by kernel_rfl) (fun W hw=>by simp[go_sem,BX.out W (HX6.out.trans ((yk hw).mono HX6.out.size))])
   | exact Kn.loadK (T:=3) (b:=w5.heap.size) (i:=0) (by kernel_rfl) rfl (by kernel_rfl) (fun W hw=>by simp[go_sem,((jd HI6.out (yk hw) HI6.out.lt).cell 0)])
   | exact Kn.sliceK (s:=B t) (j:=jo m base bds) (by kernel_rfl) rfl (by kernel_rfl) (by kernel_rfl) (by omega) (by rw[bex])
   | exact Kn.func2K (u:=.pointer (some ⟨w.heap.size,0,none⟩)) (z:=.pointer (some ⟨w5.heap.size,0,none⟩)) (by kernel_rfl) rfl (by kernel_rfl) (by kernel_rfl) rfl
   | exact Kn.func1K (u:=.pointer (some ⟨w.heap.size,0,none⟩)) (by kernel_rfl) rfl (by kernel_rfl) rfl
   | exact Kn.stepA (by kernel_rfl) (by kernel_rfl)),by kernel_rfl⟩ ?_)
  refine And.intro ⟨rfl,fun a W K hW dep _ hK => ?_⟩ trivial
  obtain⟨u,e1,e2⟩:=dep ⟨4,.data⟩ (by simp) rfl 46 rfl
  obtain⟨u',e3,e4⟩:=dep ⟨5,.data⟩ (by simp) rfl 47 rfl
  have e2':u=.func (.func 71) #[] #[.pointer (some ⟨w.heap.size,0,none⟩),.pointer (some ⟨w5.heap.size,0,none⟩)]:=e2
  have e4':u'=.func (.func 73) #[] #[.pointer (some ⟨w.heap.size,0,none⟩)]:=e4
  subst e2' e4'
  exact Kn.mo_acts2 rfl (evT e1) (evT e3) (hK _ _ ((jne _ _).alloc (jnd _) _) ⟨_,rfl,ja.new _ _ _⟩)
 case hQ =>
 rintro f w7 ⟨⟨b,hfb,hcb⟩,_⟩ b7
 replace b7:=yk b7
 simp only[Kn.fin,List.foldl,jnq,jnM,jnN,joh,jop]
 have hfb':f 6=_:=hfb
 rw[hfb']
 have D7:=D6.out.below b7
 have F7:=jd F6.out b7 F6.out.lt
 have hb17:=HX6.out.trans (b7.mono HX6.out.size)
 have P7:=jd HP1.out hb17 HP1.out.lt
 have I7:=jd HI6.out b7 HI6.out.lt
 have B7:=jnc (B6.out.trans (b7.mono B6.out.size))
 have hL7:L<=w7.heap.size:=jns HLL.out B7.out.size
 have CU:=jl1 HC.out hz hsaw (jo m base bds) (by rw[HSZ.out];exact hwz)
 have SY:=jjA CU.2.1 hz CU.2.2
 have FC:zJ (n+2) (WU D z (jo m base bds)).1:=WS HFI.out z _
 have DD:=doD [(71,#[],#[.pointer (some ⟨w.heap.size,0,none⟩),.pointer (some ⟨w5.heap.size,0,none⟩)]),(73,#[],#[.pointer (some ⟨w.heap.size,0,none⟩)])] (fun i=>if i=0 then D else if i=1 then (WU D z (jo m base bds)).1 else ZW D z (jo m base bds)) (by show 2<=1000;omega) hcb D7
  (fun x hx=>by
   rcases List.mem_cons.1 hx with rfl|hx
   ·exact enters_of func71 (by kernel_rfl) rfl
   obtain rfl:=List.mem_singleton.1 hx
   exact enters_of func73 (by kernel_rfl) rfl)
  (fun i x W hx hd hk=>by
   have hLW:L<=W.heap.size:=jns hL7 hk.bel.size
   match i with
   | 0 =>
    obtain rfl:=jng hx
    exact jmw hLW (hk.cells F7 (by decide)) (hk.cells P7 (by decide)) (hk.cells I7 (by decide)) (by omega) hd HFI.out (by omega) (by omega) CU.1
   | 1 =>
    obtain rfl:=jng hx
    replace hd:jD L W p (WU D z (jo m base bds)).1:=hd
    exact jmv hLW (hk.cells F7 (by decide)) (hk.cells P7 (by decide)) hd FC (by omega) (by omega) SY.1
   | i+2=>simp at hx)
 have BC:=jnc (Qm (q:=q) (t:=B (t.take (jo m base bds))) (R:=fun w'=>jD L w' p (ZW D z (jo m base bds))/\jO L w7 w') rfl (DD.mono fun e w' ⟨he,h1,h2⟩=>⟨he,h2.cells F7 (by decide),h1,h2⟩))
 clear D7 F7 hb17 P7 I7 CU SY FC DD hcb b7
 go_wp2_with fail
 refine BC.out.mono ?_
 rintro e w8 ⟨rfl,w9,⟨h1,h2⟩,h3,rfl⟩
 have H:=jnc (show jD L (w9.setCell ⟨q,2,none⟩ (.string (B (t.take (jo m base bds))))) p (ZW D z (jo m base bds))/\vB (w9.setCell ⟨q,2,none⟩ (.string (B (t.take (jo m base bds))))) q p z (B (t.take (jo m base bds)))/\Kq L q w (w9.setCell ⟨q,2,none⟩ (.string (B (t.take (jo m base bds))))) from
  ⟨h1.set h3 2 _,vB.set h3,(((jO.of_below B7.out HLL.out).trans h2).kq q).trans (Kq.set hq (jns hL7 h2.bel.size) 2 _)⟩)
 clear h1 h2 h3 BC
 go_wp2_with fail
 go_ret
 have eD:DE=ZW D z (jo m base bds):=HDE.out.trans (if_neg htl)
 rw[eD]
 exact⟨rfl,H.out⟩
end Vf
end Go.Proofs.YtpibhbjmcmfnmaaGreatDoor
