/- Texts put together:GF,GJ,GM,EX,GO,FLG,FLH,FLI. -/
import Derived.Test.YtpibhbjmcmfnmaaGreatDoorBfn26
set_option linter.unusedVariables false
set_option maxRecDepth 100000
set_option maxHeartbeats 16000000
namespace Go.Proofs.YtpibhbjmcmfnmaaGreatDoor
open Go.RowKit Go.Shelf Tryz
namespace Rp
open Bk
theorem Un:∀(eds:List Ed),eds.length<=(jp eds).length
 | []=>jmo _
 | ed::r=>by
  have ih:=Un r
  have e:jp (ed::r)=edT ed++jp r:=by unfold jp zu edT jl;rw[jmt,jmL]
  have h1:1<=(edT ed).length:=by unfold edT jeR jl;rw[jmt];simp;omega
  rw[e,jmb,jme];omega
theorem KS:∀ls:List (List UInt8),(jl ls).length<=(jl (ls.map Jj)).length
 | []=>jma _
 | l::r=>by
  have ih:=KS r
  have e1:jl (l::r)=(l++[10])++jl r:=by unfold jl;rw[jmt]
  have e2:jl ((l::r).map Jj)=(Jj l++[10])++jl (r.map Jj):=by unfold jl;rw[jmD,jmt]
  rw[e1,e2];simp only[Jj,jmb,jme];omega
theorem jkq:∀{eds:List Ed} {ed:Ed},ed∈eds->(edT ed).length<=(jp eds).length
 | [],_,h=>by cases h
 | a::r,ed,h=>by
  have e:jp (a::r)=edT a++jp r:=by unfold jp zu edT jl;rw[jmt,jmL]
  rw[e,jmb]
  rcases List.mem_cons.1 h with rfl|h
  ·omega
  have:=jkq h;omega
theorem Ue{b:List UInt8}(h:Dc b=true):(Zz b).length<=51/\Yx (Zz b)/\XD (Zz b)/\(Zz b).length<=b.length:=by
 unfold Dc at h
 unfold Zz
 cases hd:jcK b with
 | none=>rw[hd]at h;cases h
 | some eds =>
 obtain⟨h1,h2⟩:=jeH hd
 obtain⟨h5,_,_,h4⟩:=Ks.1 hd
 refine⟨jmy h1 (by decide),h2,fun ed hm => ?_,?_⟩
 ·have a1:(edT ed).length<=(jp eds).length:=jkq hm
  have a2:(jU ed.fields).length<=(edT ed).length:=by
   rw[GG]
   have:=KS (jz ed.fields)
   have e:edT ed=(zM ed.kind ed.id++[10])++jl ((jz ed.fields).map Jj):=by unfold edT jeR jl;rw[jmt]
   rw[e,jmb];omega
  have:=(h2 ed hm).len
  rw[h4]at a1
  exact⟨by omega,by omega⟩
 show eds.length<=b.length
 have:=Un eds
 rw[h4]at this;exact this
theorem jiO(b:List UInt8):b.length<=(Fr.fullR b).length:=by
 unfold Fr.fullR Fr.recR
 rw[jmb,jme,jmb];omega
def vh(bds:List (List UInt8)):List (List Ed):=bds.map Zz
theorem Zf(bds:List (List UInt8)):(vh bds).length=bds.length:=jmE _
theorem jbs:∀(bds:List (List UInt8)),(∀b∈bds,Dc b=true)->JE (vh bds)<=(bds.flatMap Fr.fullR).length
 | [],_=>jmo _
 | b::r,h=>by
  have ih:=jbs r (fun x hx=>h x (jmj _ hx))
  have h1:=(Ue (h b jml)).2.2.2
  have h2:=jiO b
  have e:JE (vh (b::r))=(Zz b).length+JE (vh r):=rfl
  rw[e,jmt,jmb];omega
theorem jfe{bds:List (List UInt8)}(h:∀b∈bds,Dc b=true):jhT (vh bds):=fun x hx=>by
 obtain⟨b,hb,rfl⟩:=List.mem_map.1 hx
 obtain⟨h1,h2,h3,_⟩:=Ue (h b hb)
 exact⟨h1,h2,h3⟩
theorem jjc{lo:Nat}{w:World}{bv:Value}{bds:List (List UInt8)}{us:List Value}(h:XE lo w bv bds us):BtV w bv (vh bds):=by
 obtain⟨A,c,rfl,hle⟩:=jf h.row
 refine⟨A,c,by rw[Zf],by rw[Zf];exact hle,fun i b hi => ?_⟩
 unfold vh at hi
 rw[jmC]at hi
 cases hb:bds[i]? with
 | none=>rw[hb]at hi;cases hi
 | some x =>
 rw[hb]at hi
 obtain rfl:Zz x=b:=jmf hi
 have hlt:=(List.getElem?_eq_some_iff.1 hb).1
 obtain⟨u,hu⟩:∃u,us[i]?=some u:=⟨_,jmd (by rw[h.len];exact hlt)⟩
 obtain⟨g,off,e,hg,hc⟩:=jkz h.row hu hlt
 obtain⟨fvs,ho⟩:=h.each i x u hb hu
 exact⟨g,off,u,e,hg,hc,ho.edv⟩
theorem jbP{t base tail:List UInt8}{n:Nat}{bds:List (List UInt8)}(h:yO Dc t n base bds tail):jhT (vh bds)/\base.length+JE (vh bds)<=t.length/\bds.length<=t.length:=by
 have hd:∀b∈bds,Dc b=true:=fun b hb=>(h.recd.good b hb).2
 have h1:=jbs bds hd
 have h2:=h.parts.len
 have h3:=KB bds
 unfold zG at h2
 exact⟨jfe hd,by omega,by omega⟩
end Rp
namespace Rp
open Bk
attribute [local go_sem] jmk
def KG(w w':World)(s:List UInt8)(bs:List (List Ed))(p u:Value):Prop:=Below w.heap.size w w' /\
  ((∃a n,jI s=.error (a,n)/\p=.pointer none/\jn w.heap.size w' u a n) \/
   (∃its i,jI s=.ok its/\yP (vd its) bs i/\p=.pointer none/\jn w.heap.size w' u i 10) \/
   (∃its k lb ev ps,jI s=.ok its/\vu (vd its) bs=some k/\p=ptr lb/\u=.nilIface/\zP w.heap.size w' lb ev ps k (s.length+JE bs)))
theorem Uk{lo lo':Nat}{w:World}{lb:Nat}{ev:Value}{ps:List Pr}{l:LS}{m:Nat}(h:zP lo w lb ev ps l m)(hl:lo'<=lo):zP lo' w lb ev ps l m :=
 ⟨h.la,h.es,h.ok,h.sz,jmy hl h.lb0,fun b e=>jmy hl (h.ev0 b e),h.len,h.nx⟩
theorem KG.low{w w1 w':World}{s:List UInt8}{bs:List (List Ed)}{p u:Value}(h:KG w1 w' s bs p u)(hb:Below w.heap.size w w1):KG w w' s bs p u:=by
 obtain⟨b,h⟩:=h
 have hz:=hb.size
 refine⟨hb.trans (b.mono hz),?_⟩
 rcases h with ⟨a,n,h1,h2,h3⟩|⟨its,i,h1,h2,h3,h4⟩|⟨its,k,lb,ev,ps,h1,h2,h3,h4,h5⟩
 ·exact .inl ⟨a,n,h1,h2,h3.mono hz⟩
 ·exact .inr (.inl ⟨its,i,h1,h2,h3,h4.mono hz⟩)
 exact .inr (.inr ⟨its,k,lb,ev,ps,h1,h2,h3,h4,Uk h5 hz⟩)
theorem KG.form{w w':World}{s:List UInt8}{bs:List (List Ed)}{p u:Value}(h:KG w w' s bs p u):(∃q:Option Addr,p=.pointer q)/\(u=.nilIface\/∃q,u=.iface 133 (.pointer (some ⟨q,0,none⟩))):=by
 obtain⟨_,⟨a,n,_,rfl,q,_,rfl,_⟩|⟨its,i,_,_,rfl,q,_,rfl,_⟩|⟨its,k,lb,ev,ps,_,_,rfl,rfl,_⟩⟩:=h
 ·exact⟨⟨_,rfl⟩,.inr ⟨q,rfl⟩⟩
 ·exact⟨⟨_,rfl⟩,.inr ⟨q,rfl⟩⟩
 exact⟨⟨_,rfl⟩,.inl rfl⟩
theorem jby.beh{w w':World}{s:List UInt8}{bs:List (List Ed)}{e:Ending}(h:jby w w' s bs e):∃(p:Value) (n:Int) (a:Option Addr) (m c:Nat) (u:Value),e=.returned (.tuple #[.agg #[p,.int .i64 n,.slice a m c],u])/\KG w w' s bs p u:=by
 obtain⟨b,⟨a,n,u,h1,rfl,h3⟩|⟨its,i,u,h1,h2,rfl,h4⟩|⟨its,k,lb,ev,ps,gv,us,h1,h2,rfl,h5,h6⟩⟩:=h
 ·exact⟨_,_,_,_,_,_,rfl,b,.inl ⟨a,n,h1,rfl,h3⟩⟩
 ·exact⟨_,_,_,_,_,_,rfl,b,.inr (.inl ⟨its,i,h1,h2,rfl,h4⟩)⟩
 obtain⟨ga,gc,rfl,_⟩:=jf h6.row
 exact⟨_,_,_,_,_,_,rfl,b,.inr (.inr ⟨its,k,lb,ev,ps,h1,h2,rfl,rfl,h5⟩)⟩
theorem KG.only{w w1 w' w'':World}{s:List UInt8}{bs:List (List Ed)}{p u:Value}{b:Nat}{T:TypeId}{cur:Array Value}(h:KG w1 w' s bs p u)(o:jt (· = b) w' w'')(hc:ja w' b T cur)(hn:∀x∈cur,∀s,x ≠ .string s)(hT:T≠135)(hT2:T≠234)(hT3:238≠T)(hb:Below w.heap.size w w1)(hw:w.heap.size<=b):KG w w'' s bs p u:=by
 obtain⟨b1,h⟩:=h.low hb
 refine⟨b1.trans (o.to_below b1.size (fun r hr e=>by omega)),?_⟩
 have FA:∀{a n:Nat},jn w.heap.size w' u a n->jn w.heap.size w'' u a n:=fun hf=>by
  obtain⟨q,h1,h2,h3⟩:=hf
  refine⟨q,h1,h2,h3.only o (fun e => ?_)⟩
  subst e
  have e2:=hc.symm.trans h3
  injection e2 with e3
  injection e3 with _ e4
  exact hT e4
 rcases h with ⟨a,n,h1,h2,h3⟩|⟨its,i,h1,h2,h3,h4⟩|⟨its,k,lb,ev,ps,h1,h2,h3,h4,h5⟩
 ·exact .inl ⟨a,n,h1,h2,FA h3⟩
 ·exact .inr (.inl ⟨its,i,h1,h2,h3,FA h4⟩)
 refine .inr (.inr ⟨its,k,lb,ev,ps,h1,h2,h3,h4,h5.only o ?_⟩)
 rintro r (rfl|h|h|⟨p,hp,hne,h⟩|⟨p,hp,_⟩) e
 ·subst e
  have e2:=hc.symm.trans h5.la.lr.head
  injection e2 with e3
  injection e3 with _ e4
  exact hT2 e4
 ·exact jy h5.la.lr.ents.row hc hT3 (by rw[h,e])
 ·cases h
 ·exact jeE (h5.la.lr.ents.each p hp).1 hne (by rw[h,e]) hc hn
 cases hp
theorem KG.grow{w w' w'':World}{s:List UInt8}{bs:List (List Ed)}{p u:Value}(h:KG w w' s bs p u)(hb:Below w'.heap.size w' w''):KG w w'' s bs p u:=by
 obtain⟨b,h⟩:=h
 have FA:∀{a n:Nat},jn w.heap.size w' u a n->jn w.heap.size w'' u a n:=fun hf=>by
  obtain⟨q,h1,h2,h3⟩:=hf
  exact⟨q,h1,h2,jd h3 hb h3.lt⟩
 refine⟨b.trans (hb.mono b.size),?_⟩
 rcases h with ⟨a,n,h1,h2,h3⟩|⟨its,i,h1,h2,h3,h4⟩|⟨its,k,lb,ev,ps,h1,h2,h3,h4,h5⟩
 ·exact .inl ⟨a,n,h1,h2,FA h3⟩
 ·exact .inr (.inl ⟨its,i,h1,h2,h3,FA h4⟩)
 exact .inr (.inr ⟨its,k,lb,ev,ps,h1,h2,h3,h4,h5.below hb (jma _)⟩)
theorem jlZ{w w1 W w5:World}{s:List UInt8}{bs:List (List Ed)}{p u:Value}{o:Obj}(hb:Below w.heap.size w w1)(hW:Below w1.heap.size w1 W)(h:KG W w5 s bs p u):KG w (w5.alloc o) s bs p u :=
 (h.low (hb.trans (hW.mono hb.size))).grow ((jmc _ _).alloc (jma _) _)
theorem jlI{w w1 W w5:World}{s:List UInt8}{bs:List (List Ed)}{p u i v:Value}(hb:Below w.heap.size w w1)(hW:Below w1.heap.size w1 W)(h:KG W w5 s bs p u)(hc:ja w5 w1.heap.size 228 #[.pointer none,.int .i64 0,.slice none 0 0]):
  KG w (((w5.setCell ⟨w1.heap.size,0,none⟩ p).setCell ⟨w1.heap.size,1,none⟩ i).setCell ⟨w1.heap.size,2,none⟩ v) s bs p u/\ja (((w5.setCell ⟨w1.heap.size,0,none⟩ p).setCell ⟨w1.heap.size,1,none⟩ i).setCell ⟨w1.heap.size,2,none⟩ v) w1.heap.size 228 #[p,i,v]:=by
 obtain⟨h1,h2⟩:=jkL hc p i v
 exact⟨h.only h2 hc (by intro x hx s;simp at hx;rcases hx with rfl | rfl | rfl<;>exact fun h=>by cases h) (by decide) (by decide) (by decide) (hb.trans (hW.mono hb.size)) hb.size,h1⟩
theorem jcV(gen:Int)(s:List UInt8)(bs:List (List Ed))(A:Option Addr)(c:Nat)(ea:Option Addr)(en ec:Nat)(tl:ByteArray)(n:Nat)(hn:n<=bs.length)(w:World)(hs:s.length+JE bs<=5000)(hl:bs.length<=100000)(hv:BtV w (.slice A bs.length c) bs)(hb:jhT bs)(hg:ErrT w):
  Calls prog 113 #[jcT gen s A bs.length c ea en ec tl,.int .i64 (n:Nat)] w fun e w'=>∃p u,e=.returned (.tuple #[p,u])/\KG w w' s (bs.take n) p u:=by
 obtain⟨w1,hw1⟩:∃z,w.alloc (.cells #[.int .i64 gen,.string (B s),.slice A bs.length c,.slice ea en ec,.string tl] 73)=z:=⟨_,rfl⟩
 have b1:Below w.heap.size w w1:=by rw[<- hw1];exact(jmc _ w).alloc (jma _) _
 have C1:ja w1 w.heap.size 73 #[.int .i64 gen,.string (B s),.slice A bs.length c,.slice ea en ec,.string tl]:=by rw[<- hw1];exact ja.new _ _ _
 have hcap:bs.length<=c:=by
  obtain⟨_,_,e',hc,_⟩:=hv
  injection e' with _ _ e3
  omega
 have hst:=KV bs n
 have PA:Hid (∀W,Below w1.heap.size w1 W->Calls prog 154 #[.string (B s),.slice A n c] W fun e w'=>jby W w' s (bs.take n) e):=fun W hW=>by
  have hB:=b1.trans (hW.mono b1.size)
  exact XW s (bs.take n) _ W (by omega) (by rw[jmi];omega) (BtV.take (hv.below hB (jma _)) hn) (hb.take n) (hg.below hB (jma _))
 have d1:decide (((bs.length:Nat):Int)<(n:Int))=false:=by simp;omega
 have q1:¬((n:Int)<0):=by omega
 have q2:¬((bs.length:Int)<(n:Int)):=by omega
 have q3:(n:Int)<=(c:Int):=by omega
 have k1:=C1.cell 1
 have k2:=C1.cell 2
 simp only[jmh,jmm,jmg]at k1 k2
 have HB1:=jl9 b1
 have HW1:=jl9 hw1
 have HC1:=jl9 C1
 clear hv hb hg b1 C1 hw1 hst
 unfold jcT
 go_enter func113,ntmps113
 go_upto_region 3 with fail
 rw[HW1.out]
 have DR:Hid (Below w1.heap.size w1 w1.drew):=(jmc _ _).drew
 have AR:Hid (Below w1.heap.size w1 (w1.alloc (.cells #[.pointer none,.int .i64 0,.slice none 0 0] 228)).drew):=((jmc _ _).alloc (jma _) _).drew
 have ARC:=jl9 (show ja (w1.alloc (.cells #[.pointer none,.int .i64 0,.slice none 0 0] 228)).drew w1.heap.size 228 #[.pointer none,.int .i64 0,.slice none 0 0] from(ja.new _ _ _).drew)
 have k1':∀o,(w1.alloc o).cell? ⟨w.heap.size,1,none⟩=some (.string (B s)):=fun o=>((HC1.out.alloc o).cell 1).trans rfl
 have k2':∀o,(w1.alloc o).cell? ⟨w.heap.size,2,none⟩=some (.slice A bs.length c):=fun o=>((HC1.out.alloc o).cell 2).trans rfl
 go_cut [6,7] (fun c d wx=>∃pb q i v,c=.pointer (some ⟨pb,0,none⟩)/\KG w wx s (bs.take n) (.pointer q) d/\ja wx pb 228 #[.pointer q,i,v])
 case first =>
  go_region_law (go_simp;go_at_call 154;first
   | (refine(PA.out _ DR.out).mono ?_;rintro e w5 h5;obtain⟨p5,nx,a5,m5,c5,u5,rfl,hB⟩:=h5.beh;obtain⟨⟨q5,rfl⟩,_⟩:=hB.form;have H5:=jl9 hB;clear h5 hB)
   | (refine(PA.out _ AR.out).mono ?_;rintro e w5 h5;obtain⟨p5,nx,a5,m5,c5,u5,rfl,hB⟩:=h5.beh;obtain⟨⟨q5,rfl⟩,_⟩:=hB.form;have kk:=jd ARC.out hB.1 ARC.out.lt;have t0:=kk.cell 0;have t1:=kk.cell 1;have t2:=kk.cell 2;have tf0:=kk.frozen 0;have tf1:=kk.frozen 1;have tf2:=kk.frozen 2;simp only[jmh,jmm,jmg]at t0 t1 t2;have HK:=jl9 kk;have H5:=jl9 hB;clear h5 hB kk))
  all_goals (try go_wp2_with fail)
  all_goals go_meet
  all_goals first
   | exact⟨_,_,_,_,rfl,jlZ HB1.out DR.out H5.out,ja.new _ _ _⟩
   | exact⟨_,_,_,_,rfl,(jlI HB1.out AR.out H5.out HK.out).1,(jlI HB1.out AR.out H5.out HK.out).2⟩
 case rest =>
 obtain⟨pb,q,i,v,rfl,hB,hC⟩:=hcut
 have c0:=hC.cell 0
 simp only[jmh,jmm]at c0
 have HB:=jl9 hB
 clear hB hC
 go_wp2_with fail
 go_ret2
 exact⟨_,_,rfl,HB.out⟩
theorem jgi(gen:Int)(s:List UInt8)(bs:List (List Ed))(A:Option Addr)(c:Nat)(ea:Option Addr)(en ec:Nat)(tl:ByteArray)(w:World)(hs:s.length+JE bs<=5000)(hl:bs.length<=100000)(hv:BtV w (.slice A bs.length c) bs)(hb:jhT bs)(hg:ErrT w):
  Calls prog 82 #[jcT gen s A bs.length c ea en ec tl] w fun e w'=>∃p u,e=.returned (.tuple #[p,u])/\KG w w' s bs p u:=by
 obtain⟨w1,hw1⟩:∃z,w.alloc (.cells #[.int .i64 gen,.string (B s),.slice A bs.length c,.slice ea en ec,.string tl] 73)=z:=⟨_,rfl⟩
 have b1:Below w.heap.size w w1:=by rw[<- hw1];exact(jmc _ w).alloc (jma _) _
 have C1:ja w1 w.heap.size 73 #[.int .i64 gen,.string (B s),.slice A bs.length c,.slice ea en ec,.string tl]:=by rw[<- hw1];exact ja.new _ _ _
 have BE:=jcV gen s bs A c ea en ec tl bs.length (jma _) w1 hs hl (hv.below b1 (jma _)) hb (hg.below b1 (jma _))
 rw[jmJ]at BE
 unfold jcT at BE
 have HBE:=jl9 BE
 have k0:=C1.cell 0
 have k1:=C1.cell 1
 have k2:=C1.cell 2
 have k3:=C1.cell 3
 have k4:=C1.cell 4
 simp only[jmh,jmm,jmg]at k0 k1 k2 k3 k4
 have HB1:=jl9 b1
 have HW1:=jl9 hw1
 clear hv hb hg b1 C1 hw1 BE
 unfold jcT
 go_enter func82,ntmps82
 go_wp2_with fail
 rw[HW1.out]
 refine HBE.out.mono ?_
 rintro e w2 ⟨p,u,rfl,h2⟩
 have H2:=jl9 (h2.low HB1.out)
 clear h2 HBE
 go_wp2_with fail
 go_ret2
 exact⟨_,_,rfl,H2.out⟩
theorem jbX{fn:Func}{p u z:Tmp}{ty:TypeId}(h:fn.results=#[.cell p ty,.tmp u,.tmp z])(tmps:Array Value)(P:Program)(w:World):
  (results fn tmps).run P w=((asAddr (tmps.getD p undef)).run P w).andThen fun a w₁=>((loadVar ty a).run P w₁).andThen fun v w₂=>.ok (.tuple #[v,tmps.getD u undef,tmps.getD z undef]) w₂:=by
 simp only[results,h]
 simp[Sem.run_bind,Result.andThen]
theorem jdH{fn:Func}{p u z:Tmp}(h:fn.results=#[.cell p 73,.tmp u,.tmp z])(tmps:Array Value)(w:World)(b:Nat)(cur:Array Value)(hp:tmps.getD p undef=.pointer (some ⟨b,0,none⟩))
  (hc:ja w b 73 cur) (hz:cur.size=5):(results fn tmps).run prog w=.ok (.tuple #[.agg cur,tmps.getD u undef,tmps.getD z undef]) w:=by
 have L:=run_loadVar_row (P:=prog) w b 73 73 cur (0,0) _ hc underlying73 rfl (by rw[hz];kernel_rfl)
 rw[jbX h,hp]
 show((loadVar _ _).run _ _).andThen _=_
 rw[L];rfl
def jan(t:List UInt8)(a k:Nat):Prop:=jc8 t a k\/∃n base bds tail its,yO Dc t n base bds tail/\jI base=.ok its/\yP (vd its) (vh bds) a/\k=10
theorem jan.not{t:List UInt8}{a k n:Nat}{base tail:List UInt8}{bds:List (List UInt8)}{its:List It}{l:LS}(h:jan t a k)(s:yO Dc t n base bds tail)(hp:jI base=.ok its)(hl:vu (vd its) (vh bds)=some l):False:=by
 rcases h with h|⟨_,_,_,_,its',s',h2,h3,rfl⟩
 ·exact h.not s
 obtain⟨_,rfl,rfl,_⟩:=s.same s'
 rw[hp]at h2
 injection h2 with e
 subst e
 exact h3.not hl
def jc4(w w':World)(t:List UInt8)(e:Ending):Prop:=Below w.heap.size w w' /\
  ((∃a k u,jan t a k/\e=.returned (.tuple #[jbA,.pointer none,u])/\jn w.heap.size w' u a k) \/
   (∃n base bds tail v its k lb ev ps,yO Dc t n base bds tail/\jI base=.ok its/\vu (vd its) (vh bds)=some k/\e=.returned (.tuple #[v,ptr lb,.nilIface])/\yX w.heap.size w' v n base bds tail/\zP w.heap.size w' lb ev ps k (base.length+JE (vh bds))))
theorem yX.low{lo lo':Nat}{w:World}{v:Value}{n:Nat}{base tail:List UInt8}{bds:List (List UInt8)}(h:yX lo w v n base bds tail)(hl:lo'<=lo):yX lo' w v n base bds tail:=by
 obtain⟨bv,ev,us,h1,h2,h3⟩:=h.is
 refine⟨bv,ev,us,h1,⟨ze h2.row hl,fun i b u e1 e2 => ?_⟩,ze h3 hl⟩
 obtain⟨fvs,ho⟩:=h2.each i b u e1 e2
 exact⟨fvs,ze ho.row hl,ho.len,fun j ed fv h1 h2=>ze (ho.each j ed fv h1 h2) hl⟩
theorem yX.box{lo:Nat}{w w':World}{v:Value}{n:Nat}{base tail:List UInt8}{bds:List (List UInt8)}{b:Nat}{T:TypeId}{cur:Array Value}(h:yX lo w v n base bds tail)(hc:ja w b T cur)(o:jt (· = b) w w')(t0:22≠T)(t1:63≠T)(t2:155≠T)(t3:3≠T):yX lo w' v n base bds tail:=by
 obtain⟨bv,ev,us,h1,h2,h3⟩:=h.is
 exact⟨bv,ev,us,h1,h2.box hc t0 t1 t2 o,jH h3 o (fun r e q=>jy h3 hc t3 (by rw[e,q]))⟩
theorem jiR{w:World}{v:Value}{fs:List Fld}{b:Nat}{T:TypeId}{cur:Array Value}(h:Yo w v fs)(hne:fs≠[])(hb:v.ownBlock=some b)(hc:ja w b T cur)(hn:∀(j:Nat) (x y:ByteArray),cur[j]?=some (.string x)->cur[j+1]?≠some (.string y)):False:=by
 obtain⟨A,cap,rfl,hle,hcs⟩:=h
 obtain⟨f,hf⟩:∃f,fs[0]?=some f:=by
  cases fs with
  | nil=>exact absurd rfl hne
  | cons a r=>exact⟨a,rfl⟩
 obtain⟨b',off,rfl,_,c0,c1⟩:=hcs 0 f hf
 have e:b'=b:=by cases hb;rfl
 subst e
 rw[Nat.zero_mul,jnW,hc.cell off]at c0
 rw[Nat.zero_mul,jnW,hc.cell (off+1)]at c1
 exact hn off _ _ c0 c1
theorem jhk(n:Int)(x y:ByteArray)(a b:Option Addr)(an ac bn bc:Nat):∀(j:Nat) (u v:ByteArray),(#[.int .i64 n,.string x,.slice a an ac,.slice b bn bc,.string y]:Array Value)[j]?=some (.string u)->(#[.int .i64 n,.string x,.slice a an ac,.slice b bn bc,.string y]:Array Value)[j+1]?≠some (.string v):=by
 intro j u v h1 h2
 match j with
 | 0=>simp at h1
 | 1=>simp at h2
 | 2=>simp at h1
 | 3=>simp at h1
 | 4=>simp at h2
 | j+5=>simp at h1
theorem jkI(t:List UInt8)(ht:t.length<=100000)(hbs:(yN (t.drop (hl (Hd.genP t)))).length<=60000)(hsum:∀n base bds tail,yO Dc t n base bds tail->base.length+JE (vh bds)<=5000)(w:World)(hT:jbx w):
  Calls prog 44 #[.string (B t)] w fun e w'=>jc4 w w' t e:=by
 obtain⟨w0,hw0⟩:∃z,w.alloc (.cells #[.int .i64 0,.string ⟨#[]⟩,.slice none 0 0,.slice none 0 0,.string ⟨#[]⟩] 73)=z:=⟨_,rfl⟩
 have hb0:Below w.heap.size w w0:=by rw[<- hw0];exact(jmc _ w).alloc (jma _) _
 have hz0:w0.heap.size=w.heap.size+1:=by rw[<- hw0];simp
 have C0:ja w0 w.heap.size 73 #[.int .i64 0,.string ⟨#[]⟩,.slice none 0 0,.slice none 0 0,.string ⟨#[]⟩]:=by rw[<- hw0];exact ja.new _ _ _
 have TB:Hid (∀W,Below w.heap.size w W->jbx W):=fun W hW=>hT.below hW (jma _)
 have RD:=jl9 (Qf t ht hbs w0 (TB.out w0 hb0))
 have HB0:=jl9 hb0
 have HC0:=jl9 C0
 have HW0:=jl9 hw0
 have HZ0:=jl9 hz0
 have HSUM:=jl9 hsum
 clear hT hb0 C0 hw0 hz0 hbs hsum
 go_enter func44,ntmps44
 go_wp2_with fail
 rw[HW0.out]
 refine RD.out.mono ?_
 rintro e w1 hr
 obtain⟨b1,h1⟩:=hr.two
 have B1:=jl9 (HB0.out.trans (b1.mono HB0.out.size))
 have hl01:=HB0.out.size
 have C1:=jl9 (jd HC0.out b1 HC0.out.lt)
 have hs01:=b1.size
 clear RD hr b1
 rcases h1 with ⟨a,k,u,hbad,rfl,hf⟩|⟨n,base,bds,tail,v,hS,rfl,hBR⟩
 ·obtain⟨q,hq,rfl,hqc⟩:=hf
  obtain⟨w2,hw2⟩:∃z,w1.alloc (.cells #[.int .i64 0,.string ⟨#[]⟩,.slice none 0 0,.slice none 0 0,.string ⟨#[]⟩] 73)=z:=⟨_,rfl⟩
  have b12:Below w1.heap.size w1 w2:=by rw[<- hw2];exact(jmc _ _).alloc (jma _) _
  have C2:=jd C1.out b12 C1.out.lt
  obtain⟨P2,o2⟩:=jij C2 (.int .i64 0) (.string ⟨#[]⟩) (.slice none 0 0) (.slice none 0 0) (.string ⟨#[]⟩)
  have B2:=B1.out.trans (b12.mono B1.out.size)
  have BF:=jl9 (B2.trans (o2.to_below B2.size (fun r hr e=>by omega)))
  have HP2:=jl9 P2
  have HF:=jl9 (show jn w.heap.size _ (.iface 133 (.pointer (some ⟨q,0,none⟩))) a k from⟨q,by omega,rfl,(jd hqc b12 hqc.lt).only o2 (fun e=>by have:=HZ0.out;omega)⟩)
  have HBAD:=jl9 hbad
  have c0:=C2.cell 0
  have c1:=C2.cell 1
  have c2:=C2.cell 2
  have c3:=C2.cell 3
  have c4:=C2.cell 4
  have f0:=C2.frozen 0
  have f1:=C2.frozen 1
  have f2:=C2.frozen 2
  have f3:=C2.frozen 3
  have f4:=C2.frozen 4
  simp only[jmh,jmm,jmg]at c0 c1 c2 c3 c4
  have HW2:=jl9 hw2
  rw[<- hw2]at c0 c1 c2 c3 c4 f0 f1 f2 f3 f4
  have eZ:jbA=.agg #[.int .i64 0,.string ⟨#[]⟩,.slice none 0 0,.slice none 0 0,.string ⟨#[]⟩]:=rfl
  rw[eZ]
  clear hqc hbad b12 C2 P2 o2 B2 hw2
  go_wp2_with fail
  rw[HW2.out]
  refine bodyPost_ret (jdH rfl _ _ w.heap.size _ rfl HP2.out rfl) rfl ?_
  exact⟨BF.out,.inl ⟨a,k,_,.inl HBAD.out,rfl,HF.out⟩⟩
 have BR2:=hBR
 obtain⟨bv,ev,us,rfl,hBt,hEv⟩:=hBR.is
 obtain⟨ba,bc,rfl,_⟩:=jf hBt.row
 obtain⟨ea,ec,rfl,_⟩:=jf hEv
 obtain⟨its,hp⟩:=hS.parse
 obtain⟨sb1,sb2,sb3⟩:=jbP hS
 unfold KA at *
 obtain⟨w2,hw2⟩:∃z,w1.alloc (.cells #[.int .i64 (n:Int),.string (B base),.slice ba bds.length bc,.slice ea bds.length ec,.string (B tail)] 73)=z:=⟨_,rfl⟩
 obtain⟨b12,C2⟩:=jhP hw2
 have B2:=jl9 (B1.out.trans (b12.mono B1.out.size))
 have OF:=jgi (n:Int) base (vh bds) ba bc ea bds.length ec (B tail) w2 (HSUM.out _ _ _ _ hS) (by rw[Zf];omega) (by rw[Zf];exact(jjc hBt).below b12 (jma _)) sb1 (TB.out w2 B2.out).tabs.err
 rw[Zf]at OF
 unfold jcT at OF
 have HOF:=jl9 OF
 have HC2:=jl9 C2
 have HCR2:=jl9 (jd C1.out b12 C1.out.lt)
 have HBR:=jl9 (yX.low (BR2.below b12) hl01)
 have HW2:=jl9 hw2
 have HS:=jl9 hS
 have HP:=jl9 hp
 have hlt2:=C2.lt
 clear BR2 hBR hBt hEv b12 C2 hw2 OF hS hp sb1 sb2
 go_wp2_with fail
 rw[HW2.out]
 refine HOF.out.mono ?_
 rintro e w3 ⟨p,u,rfl,h3⟩
 have hb3:=h3.1
 have B3:=jl9 (B2.out.trans (hb3.mono B2.out.size))
 have C3:=jd HC2.out hb3 hlt2
 have CR3:=jd HCR2.out hb3 HCR2.out.lt
 have BR3:=HBR.out.below hb3
 obtain⟨hpf,huf⟩:=h3.form
 have H3:=jl9 h3
 have l0:=CR3.cell 0
 have l1:=CR3.cell 1
 have l2:=CR3.cell 2
 have l3:=CR3.cell 3
 have l4:=CR3.cell 4
 have f0:=CR3.frozen 0
 have f1:=CR3.frozen 1
 have f2:=CR3.frozen 2
 have f3:=CR3.frozen 3
 have f4:=CR3.frozen 4
 have c0:=C3.cell 0
 have c1:=C3.cell 1
 have c2:=C3.cell 2
 have c3:=C3.cell 3
 have c4:=C3.cell 4
 simp only[jmh,jmm,jmg]at l0 l1 l2 l3 l4 c0 c1 c2 c3 c4
 have h12:=B2.out.size
 have hzz:=HZ0.out
 rcases h3 with ⟨_,⟨a,m,hpe,_⟩|⟨its',i,hpe,hrf,rfl,hfa⟩|⟨its',k,lb,ev3,ps3,hpe,hpl,rfl,rfl,hCY⟩⟩
 ·rw[HP.out]at hpe;cases hpe
 ·rw[HP.out]at hpe
  injection hpe with e1
  subst e1
  obtain⟨q,hq,rfl,hqc⟩:=hfa
  obtain⟨P3,o3⟩:=jij CR3 (.int .i64 0) (.string ⟨#[]⟩) (.slice none 0 0) (.slice none 0 0) (.string ⟨#[]⟩)
  have BF:=jl9 (B3.out.trans (o3.to_below B3.out.size (fun r hr e=>by omega)))
  have HP3:=jl9 P3
  have HF:=jl9 (show jn w.heap.size _ (.iface 133 (.pointer (some ⟨q,0,none⟩))) i 10 from⟨q,by omega,rfl,hqc.only o3 (fun e=>by omega)⟩)
  have HRF:=jl9 hrf
  clear hb3 C3 CR3 BR3 H3 hrf hqc P3 o3 HOF hpf huf
  go_wp2_with fail
  refine bodyPost_ret (jdH rfl _ _ w.heap.size _ rfl HP3.out rfl) rfl ?_
  exact⟨BF.out,.inl ⟨i,10,_,.inr ⟨_,_,_,_,its,HS.out,HP.out,HRF.out,rfl⟩,rfl,HF.out⟩⟩
 rw[HP.out]at hpe
 injection hpe with e1
 subst e1
 obtain⟨P3,o3⟩:=jij CR3 (.int .i64 (n:Int)) (.string (B base)) (.slice ba bds.length bc) (.slice ea bds.length ec) (.string (B tail))
 have BF:=jl9 (B3.out.trans (o3.to_below B3.out.size (fun r hr e=>by omega)))
 have HP3:=jl9 P3
 have HBR3:=jl9 (yX.box BR3 CR3 o3 (by decide) (by decide) (by decide) (by decide))
 have HC3:=jl9 (Uk (hCY.only o3 (S0:=w2.heap.size) (by
  rintro r (rfl|h|h|⟨p,hp,hne,h⟩|⟨p,hp,_⟩) e
  ·have:=hCY.lb0;omega
  ·have:=hCY.ev0 r h;omega
  ·cases h
  ·exact jiR (hCY.la.lr.ents.each p hp).1 hne (by rw[h,e]) CR3 (jhk _ _ _ _ _ _ _ _ _)
  cases hp)) h12)
 have HPL:=jl9 hpl
 clear hb3 C3 CR3 BR3 H3 hpl hCY P3 o3 HOF hpf huf
 unfold ptr at *
 go_wp2_with fail
 refine bodyPost_ret (jdH rfl _ _ w.heap.size _ rfl HP3.out rfl) rfl ?_
 exact⟨BF.out,.inr ⟨n,base,bds,tail,_,its,k,lb,ev3,ps3,HS.out,HP.out,HPL.out,rfl,HBR3.out,HC3.out⟩⟩
end Rp
section
attribute [local go_sem] jmk
end
namespace Rp
open Bk
attribute [local go_sem] jmk
def jkW:List UInt8:=[65,58,32,49,10]
def exE:List Ed:=[⟨2,1,[]⟩]
def jlh:List It:=[⟨3,[65,58,32,49,10],[([65],[49])]⟩]
theorem jcy:jI jkW=.ok jlh:=by kernel_rfl
theorem jjw:yO Dc jkW 0 jkW [] [] :=
 ⟨Hd.gen_short (by decide),⟨_,jcy⟩,by kernel_rfl,⟨rfl,fun b h=>by cases h⟩,jaN⟩
theorem jli:(jp exE).length=10:=by kernel_rfl
theorem jlk:(vG exE).2=0:=by decide
theorem jlj{w:World}{b:Nat}(h:ja w b 63 #[.int .i64 2,.int .i64 1,.slice none 0 0]):EdV w (.slice (some ⟨b,0,none⟩) 1 1) exE:=by
 refine⟨_,1,rfl,jma _,fun i ed hi => ?_⟩
 match i with
 | 0 =>
  obtain rfl:(⟨2,1,[]⟩:Ed)=ed:=jmf hi
  exact⟨b,0,.slice none 0 0,rfl,h.lt,(h.cell 0).trans rfl,(h.cell 1).trans rfl,(h.cell 2).trans rfl,⟨none,0,rfl,jma _,fun i f h=>by simp at h⟩,fun n c e=>by cases e;rfl⟩
 | i+1=>simp[exE]at hi
theorem jc4.yes{w w':World}{t base tail:List UInt8}{n:Nat}{bds:List (List UInt8)}{its:List It}{k:LS}{e:Ending}(h:jc4 w w' t e)(s:yO Dc t n base bds tail)(hp:jI base=.ok its)(hl:vu (vd its) (vh bds)=some k):
  Below w.heap.size w w'/\∃v lb ev ps,e=.returned (.tuple #[v,ptr lb,.nilIface])/\yX w.heap.size w' v n base bds tail/\zP w.heap.size w' lb ev ps k (base.length+JE (vh bds)):=by
 obtain⟨hb,h⟩:=h
 refine⟨hb,?_⟩
 rcases h with ⟨a,m,u,hbad,_⟩|⟨n',base',bds',tail',v,its',k',lb,ev,ps,s',hp',hl',rfl,h1,h2⟩
 ·exact(hbad.not s hp hl).elim
 obtain⟨rfl,rfl,rfl,rfl⟩:=s.same s'
 rw[hp]at hp'
 injection hp' with e1
 subst e1
 rw[hl]at hl'
 injection hl' with e2
 subst e2
 exact⟨v,lb,ev,ps,rfl,h1,h2⟩
end Rp
namespace Kn
section
variable {Q:Exit->Act->World->Prop} {ops:Array Oper} {V:List Value} {a0:Act} {w0:World} {o:Oper} {v:Value}
theorem jlA{x y:Operand}{s:ByteArray}{j:Nat}(h:yS ops V o=some true)(ho:o.op=Op.slice 9 x none (some y) none)(hx:qY ops V a0 o x=some (.string s))(hy:qY ops V a0 o y=some (.int .i64 (j:Nat)))(hj:j<=s.size)(hv:v=.string (s.extract 0 j)):xE prog Q ops V a0 w0 o v:=by
 subst hv
 have h1:(j:Int)<=(s.size:Int):=by omega
 exact jhz h fun ρ w _ ev=>by simp only[execOp,ho];simp[go_sem,ev _ _ hx,ev _ _ hy,Result.andThen,h1]
theorem jlF{x:Operand}{fn:Fn}{u:Value}(h:yS ops V o=some true)(ho:o.op=Op.makeFunc fn #[] #[x])(hx:qY ops V a0 o x=some u)(hv:v=.func fn #[] #[u]):xE prog Q ops V a0 w0 o v:=by
 subst hv
 exact jhz h fun ρ w _ ev=>by simp only[execOp,ho];simp[go_sem,ev _ _ hx]
theorem jlE{x y:Operand}{fn:Fn}{u z:Value}(h:yS ops V o=some true)(ho:o.op=Op.makeFunc fn #[] #[x,y])(hx:qY ops V a0 o x=some u)(hy:qY ops V a0 o y=some z)(hv:v=.func fn #[] #[u,z]):xE prog Q ops V a0 w0 o v:=by
 subst hv
 exact jhz h fun ρ w _ ev=>by simp only[execOp,ho];simp[go_sem,ev _ _ hx,ev _ _ hy]
end
theorem jkS{o:Oper}{a:Act}{w:World}{K:Act->World->Prop}{Q:Exit->Act->World->Prop}{x y:Operand}{f g:Fn}{cs rs ds ss:Array Value}(ho:o.op=Op.buildSlice 121 2 #[(0,x),(1,y)])(hx:a.eval x=.func f cs rs)(hy:a.eval y=.func g ds ss)
  (hK:K (a.put o.dst (.slice (some ⟨w.heap.size,0,none⟩) 2 2)) (w.alloc (.cells #[.func f cs rs,.func g ds ss] 78))):Oper.wp prog o a w K Q:=by
 have e:(execOp a.eval o).run prog w=.ok (.value (.slice (some ⟨w.heap.size,0,none⟩) 2 2)) (w.alloc (.cells #[.func f cs rs,.func g ds ss] 78)):=by
  simp only[execOp,ho]
  rw[show(Array.map (fun(p:Nat×Operand)=>match p with | (i,x)=>(i,a.eval x)) #[((0:Nat),x),((1:Nat),y)])=#[((0:Nat),Value.func f cs rs),((1:Nat),Value.func g ds ss)] from by rw[<- hx,<- hy];simp]
  kernel_rfl
 unfold Oper.wp
 rw[e];exact hK
theorem jkT{o:Oper}{a:Act}{w:World}{K:Act->World->Prop}{Q:Exit->Act->World->Prop}{x:Operand}{f:Fn}{cs rs:Array Value}(ho:o.op=Op.buildSlice 121 1 #[(0,x)])(hx:a.eval x=.func f cs rs)
  (hK:K (a.put o.dst (.slice (some ⟨w.heap.size,0,none⟩) 1 1)) (w.alloc (.cells #[.func f cs rs] 78))):Oper.wp prog o a w K Q:=by
 have e:(execOp a.eval o).run prog w=.ok (.value (.slice (some ⟨w.heap.size,0,none⟩) 1 1)) (w.alloc (.cells #[.func f cs rs] 78)):=by
  simp only[execOp,ho]
  rw[show(Array.map (fun(p:Nat×Operand)=>match p with | (i,x)=>(i,a.eval x)) #[((0:Nat),x)])=#[((0:Nat),Value.func f cs rs)] from by rw[<- hx];simp]
  kernel_rfl
 unfold Oper.wp
 rw[e];exact hK
end Kn
namespace Vf
open Go.Maps Bk Rp
structure Kq(L q:Nat)(w w':World):Prop where
 bel:Below L w w'
 rest:∀(b:Nat) (c:Array Value) (t:TypeId) (fr:Nat×Nat),b≠q->w.heap[b]?=some (Obj.cells c t fr)->jfF t->w'.heap[b]?=w.heap[b]?
theorem zC.kq{L:Nat}{w w':World}(h:zC L w w')(q:Nat):Kq L q w w':=⟨h.bel,fun b c t fr _ ho hn=>h.rest b c t fr ho hn⟩
theorem Kq.trans{L q:Nat}{w w1 w2:World}(h:Kq L q w w1)(g:Kq L q w1 w2):Kq L q w w2 :=
 ⟨h.bel.trans g.bel,fun b c t fr hb ho hn=>by
  have h1:=h.rest b c t fr hb ho hn
  exact(g.rest b c t fr hb (h1.trans ho) hn).trans h1⟩
theorem Qu{b:Nat}(w:World)(i:Nat)(u:Value):jt (· = b) w (w.setCell ⟨b,i,none⟩ u):=(jt.refl (· = b) w).cellS i u
theorem Kq.set{L q:Nat}{w:World}(hL:L<=q)(hw:L<=w.heap.size)(i:Nat)(u:Value):Kq L q w (w.setCell ⟨q,i,none⟩ u) :=
 ⟨(Qu w i u).to_below hw (fun r hr e=>by omega),fun b c t fr hb ho _=>(Qu w i u).same b (Array.getElem?_eq_some_iff.1 ho).1 hb⟩
theorem zk.set{L q p:Nat}{w:World}{D:jk}{cur:Array Value}(h:zk L w p D)(hc:ja w q 69 cur)(i:Nat)(u:Value):zk L (w.setCell ⟨q,i,none⟩ u) p D:=by
 obtain⟨T,⟨V,hV⟩,h2,h3⟩:=h.trim
 have hq:T q=0:=h3 q cur _ (0,0) hc (by decide)
 exact⟨T,⟨V,hV.same (fun b hb=>(Qu w i u).same b (hV.low b hb) (fun e=>hb (by rw[e];exact hq))) (Qu (b:=q) w i u).size⟩,h2⟩
theorem KF.set{q p:Nat}{z t t':ByteArray}{w:World}(h:KF w q p z t):KF (w.setCell ⟨q,2,none⟩ (.string t')) q p z t':=ja.set h 2 (.string t')
theorem jjp{L n p:Nat}{w:World}{D:jk}(hd:zk L w p D)(hf:zX n D)(hn:n<=300000)(z:ByteArray)(hz:z.size<=1000000):∀W,Below w.heap.size w W ->
  Calls prog 26 #[.pointer (some ⟨p,0,none⟩),.string z] W fun e w'=>e=.returned (.tuple #[.string (JK D z).1,qi (JK D z).2])/\Below W.heap.size W w':=fun W hW=>jjT (hd.below hW) hf hn z hz
attribute [local go_sem] jW
theorem jlT{L n q p bx bi k:Nat}{D:jk}{z t0:ByteArray}{w:World}(hL:L<=w.heap.size)(h:KF w q p z t0)(hb:ja w bx 33 #[.pointer (some ⟨q,0,none⟩)])(hi:ja w bi 3 #[.int .i64 (k:Nat)])(hk:k<=1000000)(hd:zk L w p D)(hf:zX n D)(hn:n<=300000)(hz:z.size<=1000000)(h0:(jbl D z k).2=0):
  Calls prog 71 #[.pointer (some ⟨bx,0,none⟩),.pointer (some ⟨bi,0,none⟩)] w fun e w'=>e=.returned .nilIface/\zk L w' p (jbl D z k).1/\zC L w w':=by
 have RD:=fun W (hW:Below w.heap.size w W)=>jlX (hd.below hW) (jmy hL hW.size) hf (by omega) z hz k hk
 simp only[h0,jW]at RD
 replace RD:=jl9 RD
 have BX:Hid (∀W,Below w.heap.size w W->W.cell? ⟨bx,0,none⟩=some (.pointer (some ⟨q,0,none⟩))):=fun W hW=>(jO hb hW hb.lt).cell 0
 have C0:Hid (∀W,Below w.heap.size w W->W.cell? ⟨q,0,none⟩=some (.pointer (some ⟨p,0,none⟩))):=fun W hW=>(jO h hW h.lt).cell 0
 have C1:Hid (∀W,Below w.heap.size w W->W.cell? ⟨q,1,none⟩=some (.string z)):=fun W hW=>(jO h hW h.lt).cell 1
 have CI:Hid (∀W,Below w.heap.size w W->W.cell? ⟨bi,0,none⟩=some (.int .i64 (k:Nat))):=fun W hW=>(jO hi hW hi.lt).cell 0
 have HLL:=jl9 hL
 clear hL h hb hd hf h0 hi
 go_enter func71,ntmps71
 go_upto_region 1 with fail
 refine wp_region_any (by kernel_rfl) ?_
 refine Kn.wpAny_known_tail 11 2 [(3,.pointer (some ⟨q,0,none⟩)),(4,.pointer (some ⟨q,0,none⟩)),(5,.pointer (some ⟨q,0,none⟩)),(6,.pointer (some ⟨q,0,none⟩)),(7,.pointer (some ⟨p,0,none⟩)),(8,.pointer (some ⟨q,0,none⟩)),(9,.pointer (some ⟨q,0,none⟩)),(10,.pointer (some ⟨q,0,none⟩)),(11,.pointer (some ⟨q,1,none⟩)),(12,.string z),(13,.int .i64 (k:Nat))] (by kernel_rfl) (by decide) rfl (by kernel_rfl) (by kernel_rfl) (by kernel_rfl) (by kernel_rfl) (by kernel_rfl) ?st ?hQ
 case st =>
  repeat (refine And.intro (by first
   | exact Kn.loadK (T:=33) (b:=bx) (i:=0) (by kernel_rfl) rfl (by kernel_rfl) (fun W hw=>by simp[go_sem,BX.out W (jat hw)])
   | exact Kn.fieldK (b:=q) (i:=0) (j:=0) (by kernel_rfl) rfl (by kernel_rfl) rfl (fun w=>by simp[go_sem])
   | exact Kn.fieldK (b:=q) (i:=0) (j:=1) (by kernel_rfl) rfl (by kernel_rfl) rfl (fun w=>by simp[go_sem])
   | exact Kn.nilK (by kernel_rfl) rfl (by kernel_rfl)
   | exact Kn.loadK (T:=31) (b:=q) (i:=0) (by kernel_rfl) rfl (by kernel_rfl) (fun w hw=>by simp[go_sem,C0.out w (jat hw)])
   | exact Kn.loadK (T:=9) (b:=q) (i:=1) (by kernel_rfl) rfl (by kernel_rfl) (fun w hw=>by simp[go_sem,C1.out w (jat hw)])
   | exact Kn.loadK (T:=3) (b:=bi) (i:=0) (by kernel_rfl) rfl (by kernel_rfl) (fun w hw=>by simp[go_sem,CI.out w (jat hw)])
   | exact Kn.stepA (by kernel_rfl) (by kernel_rfl)) ?_)
  exact trivial
 case hQ =>
 intro w1 b1
 replace b1:=jat b1
 have R1:=jl9 (RD.out w1 b1)
 have B1:=jl9 b1
 clear b1 RD
 simp only[List.foldl,jms,jm2,jm3,jnR,jnX]
 go_wp2_with fail
 refine R1.out.mono ?_
 rintro e w2 ⟨rfl,h1,h2⟩
 have H:=jl9 (And.intro h1 h2)
 clear h1 h2 R1
 go_wp2_with fail
 go_ret
 exact⟨rfl,H.out.1,(zC.of_below B1.out HLL.out).trans H.out.2⟩
theorem jlS{L n q p bx:Nat}{D:jk}{z t0:ByteArray}{w:World}(hL:L<=w.heap.size)(h:KF w q p z t0)(hb:ja w bx 33 #[.pointer (some ⟨q,0,none⟩)])(hd:zk L w p D)(hf:zX n D)(hn:n<=300000)(hz:z.size<=1000000)(h0:(yb D z).2=0):
  Calls prog 73 #[.pointer (some ⟨bx,0,none⟩)] w fun e w'=>e=.returned .nilIface/\zk L w' p (yb D z).1/\zC L w w':=by
 have RD:=fun W (hW:Below w.heap.size w W)=>jh2 (hd.below hW) (jmy hL hW.size) hf (by omega) z hz
 simp only[h0,jW]at RD
 replace RD:=jl9 RD
 have BX:Hid (∀W,Below w.heap.size w W->W.cell? ⟨bx,0,none⟩=some (.pointer (some ⟨q,0,none⟩))):=fun W hW=>(jO hb hW hb.lt).cell 0
 have C0:Hid (∀W,Below w.heap.size w W->W.cell? ⟨q,0,none⟩=some (.pointer (some ⟨p,0,none⟩))):=fun W hW=>(jO h hW h.lt).cell 0
 have C1:Hid (∀W,Below w.heap.size w W->W.cell? ⟨q,1,none⟩=some (.string z)):=fun W hW=>(jO h hW h.lt).cell 1
 have HLL:=jl9 hL
 clear hL h hb hd hf h0
 go_enter func73,ntmps73
 go_upto_region 1 with fail
 refine wp_region_any (by kernel_rfl) ?_
 refine Kn.wpAny_known_tail 10 2 [(2,.pointer (some ⟨q,0,none⟩)),(3,.pointer (some ⟨q,0,none⟩)),(4,.pointer (some ⟨q,0,none⟩)),(5,.pointer (some ⟨q,0,none⟩)),(6,.pointer (some ⟨p,0,none⟩)),(7,.pointer (some ⟨q,0,none⟩)),(8,.pointer (some ⟨q,0,none⟩)),(9,.pointer (some ⟨q,0,none⟩)),(10,.pointer (some ⟨q,1,none⟩)),(11,.string z)] (by kernel_rfl) (by decide) rfl (by kernel_rfl) (by kernel_rfl) (by kernel_rfl) (by kernel_rfl) (by kernel_rfl) ?st ?hQ
 case st =>
  repeat (refine And.intro (by first
   | exact Kn.loadK (T:=33) (b:=bx) (i:=0) (by kernel_rfl) rfl (by kernel_rfl) (fun W hw=>by simp[go_sem,BX.out W (jat hw)])
   | exact Kn.fieldK (b:=q) (i:=0) (j:=0) (by kernel_rfl) rfl (by kernel_rfl) rfl (fun w=>by simp[go_sem])
   | exact Kn.fieldK (b:=q) (i:=0) (j:=1) (by kernel_rfl) rfl (by kernel_rfl) rfl (fun w=>by simp[go_sem])
   | exact Kn.nilK (by kernel_rfl) rfl (by kernel_rfl)
   | exact Kn.loadK (T:=31) (b:=q) (i:=0) (by kernel_rfl) rfl (by kernel_rfl) (fun w hw=>by simp[go_sem,C0.out w (jat hw)])
   | exact Kn.loadK (T:=9) (b:=q) (i:=1) (by kernel_rfl) rfl (by kernel_rfl) (fun w hw=>by simp[go_sem,C1.out w (jat hw)])
   | exact Kn.stepA (by kernel_rfl) (by kernel_rfl)) ?_)
  exact trivial
 case hQ =>
 intro w1 b1
 replace b1:=jat b1
 have R1:=jl9 (RD.out w1 b1)
 have B1:=jl9 b1
 clear b1 RD
 simp only[List.foldl,jms,jm2,jm3,jnR,jnX]
 go_wp2_with fail
 refine R1.out.mono ?_
 rintro e w2 ⟨rfl,h1,h2⟩
 have H:=jl9 (And.intro h1 h2)
 clear h1 h2 R1
 go_wp2_with fail
 go_ret
 exact⟨rfl,H.out.1,(zC.of_below B1.out HLL.out).trans H.out.2⟩
theorem jjO{D:jk}{z:ByteArray}{t:List UInt8}(h:jc7 D)(hz:zv z=true)(hr:JK D z=(B t,0)):vS D (zU D z []).1=t.length:=by
 unfold JK at hr
 rw[if_neg (by rw[h.gone];decide)]at hr
 split at hr
 ·rename_i hne
  exact absurd (congrArg Prod.snd hr) hne
 have h1:=congrArg (fun x=>x.1.data.toList) hr
 dsimp only at h1
 rw[ju]at h1
 unfold vS
 cases hf:D.files[(zU D z []).1]? with
 | none=>rw[hf]at h1;rw[<- h1];unfold qW;rw[hf];rfl
 | some f=>rw[hf]at h1;rw[<- h1];unfold qW;rw[hf]
end Vf
namespace Kn
theorem jl8{Q:Exit->Act->World->Prop}{ops:Array Oper}{V:List Value}{a0:Act}{w0:World}{o:Oper}{v:Value}{x:Operand}{fn:Fn}{u:Value}(h:yS ops V o=some true)(ho:o.op=Op.makeFunc fn #[x] #[])(hx:qY ops V a0 o x=some u)(hv:v=.func fn #[u] #[]):xE prog Q ops V a0 w0 o v:=by
 subst hv
 exact jhz h fun ρ w _ ev=>by simp only[execOp,ho];simp[go_sem,ev _ _ hx]
end Kn
namespace Vf
open Go.Maps Bk Rp
attribute [local go_sem] jW xW
theorem je3(r:Int)(z:ByteArray):(jL (jV r) z).2=(if zv z then 0 else 1):=by
 cases hg:zv z with
 | true=>exact(Ya (D:=jV r) ⟨rfl,rfl⟩ hg rfl).1
 | false =>
 have e:zw (jV r).gone [z]=1:=by unfold zw;simp[hg]
 unfold jL
 rw[if_pos (by rw[e];decide)]
 exact e
theorem jcq(z:ByteArray)(w:World):Calls prog 22 #[.string z] w fun e w'=>e=.returned (.bool (Vq z))/\Below w.heap.size w w':=by
 have N0:=jl9 (jdZ 0 w (by decide))
 by_cases hz:z.size<=16
 ·have hz':(z.size:Int)<=16:=by omega
  have G:Vq z=zv z:=by unfold Vq;rw[decide_eq_true hz];rfl
  rw[G]
  cases hg:zv z with
  | true =>
   have CR:Hid (∀W p L,zk L W p (jV 0)->L<=W.heap.size->Calls prog 28 #[.pointer (some ⟨p,0,none⟩),.string z] W fun e w'=>e=.returned .nilIface/\zC L W w'):=fun W p L hd hL=>by
    have h:=Kw (n:=0) hd hL (xM 0 (by decide) (by decide)) (by omega) z (by omega)
    rw[je3 0,hg]at h
    exact h.mono fun e w' ⟨h1,_,h3⟩=>⟨h1,h3⟩
   go_enter func22,ntmps22
   go_wp2_with fail
   refine N0.out.mono ?_
   rintro e w1 ⟨rfl,h1,b1,hs⟩
   have C:=jl9 (CR.out w1 w.heap.size w.heap.size ⟨_,h1,fun b hb=>by split at hb<;>omega⟩ b1.size)
   have B1:=jl9 b1
   clear h1 b1 N0 CR
   go_wp2_with fail
   refine C.out.mono ?_
   rintro e w2 ⟨rfl,hk⟩
   have B2:=jl9 (B1.out.trans hk.bel)
   clear hk
   go_wp2_with fail
   go_ret
   exact⟨rfl,B2.out⟩
  | false =>
  have CR:Hid (∀W p L,zk L W p (jV 0)->L<=W.heap.size->Calls prog 28 #[.pointer (some ⟨p,0,none⟩),.string z] W fun e w'=>e=.returned (qi 1)/\zC L W w'):=fun W p L hd hL=>by
   have h:=Kw (n:=0) hd hL (xM 0 (by decide) (by decide)) (by omega) z (by omega)
   rw[je3 0,hg]at h
   exact h.mono fun e w' ⟨h1,_,h3⟩=>⟨h1,h3⟩
  go_enter func22,ntmps22
  go_wp2_with fail
  refine N0.out.mono ?_
  rintro e w1 ⟨rfl,h1,b1,hs⟩
  have C:=jl9 (CR.out w1 w.heap.size w.heap.size ⟨_,h1,fun b hb=>by split at hb<;>omega⟩ b1.size)
  have B1:=jl9 b1
  clear h1 b1 N0 CR
  go_wp2_with fail
  refine C.out.mono ?_
  rintro e w2 ⟨rfl,hk⟩
  have B2:=jl9 (B1.out.trans hk.bel)
  clear hk
  go_wp2_with fail
  go_ret
  exact⟨rfl,B2.out⟩
 have hz':¬(z.size:Int)<=16:=by omega
 have G:Vq z=false:=by unfold Vq;rw[decide_eq_false hz];rfl
 rw[G]
 go_enter func22,ntmps22
 go_wp2_with fail
 refine N0.out.mono ?_
 rintro e w1 ⟨rfl,h1,b1,hs⟩
 have B1:=jl9 b1
 clear h1 b1 N0
 go_wp2_with fail
 go_ret
 exact⟨rfl,B1.out⟩
def jfr(L q p:Nat)(z:ByteArray)(D D1 DE:jk)(tx:List UInt8)(w0:World)(i:Nat)(W:World):Prop :=
 if i<=1 then zk L W p D/\zC L w0 W else if i=2 then zk L W p D1/\zC L w0 W else zk L W p DE/\KF W q p z (B tx)/\Kq L q w0 W
theorem jfr.kq{L q p i:Nat}{z:ByteArray}{D D1 DE:jk}{tx:List UInt8}{w0 W:World}(h:jfr L q p z D D1 DE tx w0 i W):Kq L q w0 W:=by
 unfold jfr at h
 split at h
 ·exact h.2.kq q
 split at h
 ·exact h.2.kq q
 exact h.2.2
theorem Kq.cells{L q:Nat}{w w':World}(h:Kq L q w w'){b:Nat}{t:TypeId}{cur:Array Value}(hc:ja w b t cur)(ht:jfF t)(hb:b≠q):ja w' b t cur:=(h.rest b cur t (0,0) hb hc ht).trans hc
end Vf
namespace Kn
section
variable {Q:Exit->Act->World->Prop} {ops:Array Oper} {V:List Value} {a0:Act} {w0:World} {o:Oper} {v:Value}
theorem jlU{x y:Operand}{s:ByteArray}{j:Nat}(h:yS ops V o=some true)(ho:o.op=Op.slice 9 x (some y) none none)(hx:qY ops V a0 o x=some (.string s))(hy:qY ops V a0 o y=some (.int .i64 (j:Nat)))(hj:j<=s.size)(hv:v=.string (s.extract j s.size)):xE prog Q ops V a0 w0 o v:=by
 subst hv
 have h1:(j:Int)<=(s.size:Int):=by omega
 exact jhz h fun ρ w _ ev=>by simp only[execOp,ho];simp[go_sem,ev _ _ hx,ev _ _ hy,Result.andThen,h1]
theorem jl6{x:Operand}{s:ByteArray}(h:yS ops V o=some true)(ho:o.op=Op.call {callee:=Callee.builtin Builtin.len,args:=#[x],argTypes:=#[9]})(hx:qY ops V a0 o x=some (.string s))(hv:v=.int .i64 s.size):xE prog Q ops V a0 w0 o v:=by
 subst hv
 exact jhz h fun ρ w _ ev=>by simp only[execOp,ho];simp[go_sem,ev _ _ hx]
end
end Kn
namespace Vf
open Go.Maps Bk Rp
attribute [local go_sem] jW xW
def jlC(a b c:Nat):Value:=.func (.func 79) #[] #[.pointer (some ⟨a,0,none⟩),.pointer (some ⟨b,0,none⟩),.pointer (some ⟨c,0,none⟩)]
structure jfE(w:World)(p a b c:Nat)(z r:ByteArray):Prop where
 pl:ja w a 67 #[.pointer (some ⟨p,0,none⟩),.string z]
 nm:ja w b 9 #[.string z]
 tx:ja w c 9 #[.string r]
theorem jfE.below{w w':World}{p a b c:Nat}{z r:ByteArray}(h:jfE w p a b c z r)(hb:Below w.heap.size w w'):jfE w' p a b c z r:=⟨jO h.pl hb h.pl.lt,jO h.nm hb h.nm.lt,jO h.tx hb h.tx.lt⟩
theorem jfE.keeps{L:Nat}{w w':World}{p a b c:Nat}{z r:ByteArray}(h:jfE w p a b c z r)(hk:zC L w w'):jfE w' p a b c z r:=⟨hk.cells h.pl (by decide),hk.cells h.nm (by decide),hk.cells h.tx (by decide)⟩
theorem jk8(p:Nat)(z r:ByteArray)(w:World):Calls prog 41 #[JL p z,.string z,.string r] w fun e w'=>∃a b c,e=.returned (jlC a b c)/\jfE w' p a b c z r/\Below w.heap.size w w':=by
 obtain⟨w1,hw1⟩:∃x,w.alloc (.cells #[.pointer (some ⟨p,0,none⟩),.string z] 67)=x:=⟨_,rfl⟩
 obtain⟨w2,hw2⟩:∃x,w1.alloc (.cells #[.string z] 9)=x:=⟨_,rfl⟩
 obtain⟨w3,hw3⟩:∃x,w2.alloc (.cells #[.string r] 9)=x:=⟨_,rfl⟩
 have b1:Below w.heap.size w w1:=by rw[<- hw1];exact(jmc _ _).alloc (jma _) _
 have b2:Below w1.heap.size w1 w2:=by rw[<- hw2];exact(jmc _ _).alloc (jma _) _
 have b3:Below w2.heap.size w2 w3:=by rw[<- hw3];exact(jmc _ _).alloc (jma _) _
 have P1:ja w1 w.heap.size 67 #[.pointer (some ⟨p,0,none⟩),.string z]:=by rw[<- hw1];exact ja.new _ _ _
 have P2:ja w2 w1.heap.size 9 #[.string z]:=by rw[<- hw2];exact ja.new _ _ _
 have P3:ja w3 w2.heap.size 9 #[.string r]:=by rw[<- hw3];exact ja.new _ _ _
 have b23:=b2.trans (b3.mono b2.size)
 have R:=show jfE w3 p w.heap.size w1.heap.size w2.heap.size z r/\Below w.heap.size w w3 from⟨⟨jO P1 b23 P1.lt,jO P2 b3 P2.lt,P3⟩,b1.trans (b23.mono b1.size)⟩
 have e1:w1.heap.size=w.heap.size+1:=by rw[<- hw1];simp
 have e2:w2.heap.size=w.heap.size+1+1:=by rw[<- hw2,<- e1];simp
 rw[e2,e1]at R
 replace R:=jl9 R
 have H1:=jl9 hw1
 have H2:=jl9 hw2
 have H3:=jl9 hw3
 clear b1 b2 b3 P1 P2 P3 b23 hw1 hw2 hw3
 unfold JL jlC
 go_enter func41,ntmps41
 go_wp2_with fail
 rw[H1.out,H2.out,H3.out]
 go_ret
 exact⟨_,_,_,rfl,R.out⟩
theorem jlR{L n p a b c:Nat}{w:World}{D:jk}{z r:ByteArray}(h:zk L w p D)(hL:L<=w.heap.size)(hf:zX n D)(hn:n<=300000)(hz:z.size<=1000000)(hr:r.size<=1000)(hP:jfE w p a b c z r)(h0:(qx D z r).2=0):
  Calls prog 80 #[.pointer (some ⟨a,0,none⟩),.pointer (some ⟨b,0,none⟩),.pointer (some ⟨c,0,none⟩)] w fun e w'=>e=.returned .nilIface/\zk L w' p (qx D z r).1/\zC L w w':=by
 have K:=jht h hL hf hn z r hz hr
 rw[h0,jW]at K
 replace K:=jl9 K
 have c0:=hP.pl.cell 0
 have c1:=hP.nm.cell 0
 have c2:=hP.tx.cell 0
 clear h hf hP h0
 go_enter func80,ntmps80
 go_wp2_with fail
 refine K.out.mono ?_
 rintro e w1 ⟨rfl,h1,h2⟩
 go_wp2_with fail
 go_ret
 exact⟨rfl,h1,h2⟩
theorem jlQ{L n p a b c:Nat}{w:World}{D:jk}{z r:ByteArray}(h:zk L w p D)(hL:L<=w.heap.size)(hf:zX n D)(hn:n<=300000)(hz:z.size<=1000000)(hP:jfE w p a b c z r)(h0:(yb D z).2=0):
  Calls prog 81 #[.pointer (some ⟨a,0,none⟩),.pointer (some ⟨b,0,none⟩)] w fun e w'=>e=.returned .nilIface/\zk L w' p (yb D z).1/\zC L w w':=by
 have K:=jh2 h hL hf (by omega) z hz
 rw[h0,jW]at K
 replace K:=jl9 K
 have c0:=hP.pl.cell 0
 have c1:=hP.nm.cell 0
 clear h hf hP h0
 go_enter func81,ntmps81
 go_wp2_with fail
 refine K.out.mono ?_
 rintro e w1 ⟨rfl,h1,h2⟩
 go_wp2_with fail
 go_ret
 exact⟨rfl,h1,h2⟩
end Vf
end Go.Proofs.YtpibhbjmcmfnmaaGreatDoor
