/- Texts put together:AJ,EN,EV,AK,AL,SC. -/
import Derived.Test.YtpibhbjmcmfnmaaGreatDoorBfn24
set_option linter.unusedVariables false
set_option maxRecDepth 100000
set_option maxHeartbeats 16000000
namespace Go.Proofs.YtpibhbjmcmfnmaaGreatDoor
open Go.RowKit Go.Shelf Tryz
section
attribute [local go_sem] jmk
theorem xp{N:Nat}{w w':World}(h:Below N w w'){p:Addr}(hp:N<=p.block)(k:Nat):Below N w (w'.freeze p k):=by
 unfold World.freeze
 by_cases hk:k=0
 ·rw[if_pos hk];exact h
 rw[if_neg hk]
 refine⟨h.os,h.tape,h.output,?_,fun j hj => ?_⟩
 ·simp;exact h.size
 simp only[jn1]
 rw[if_neg (by omega)]
 exact h.block j hj
theorem Jt(w:World)(e:TypeId)(s:ByteArray):Below w.heap.size w (Lib.bytesWorld w e s):=by
 unfold Lib.bytesWorld
 exact xp ((jmc _ w).drew.alloc (jma _) _) (jma _) _
theorem atoi_any(l:List UInt8)(hl:l.length<=1000000)(w:World)(ht:Tabs w):
  Calls prog 138 #[.string (B l)] w fun e w'=>(∃T q,e=.returned (.tuple #[.int .i64 (qH l),.nilIface])\/e=.returned (.tuple #[.int .i64 (qH l),.iface T q]))/\Below w.heap.size w w':=by
 cases h:Lib.atoiAll l with
 | ok v =>
  refine(Tryz.strconv_Atoi_ok (B l) (by rw[jq];omega) v (by rw[ju];exact h) w).mono ?_
  rintro e w' ⟨rfl,hw⟩
  refine⟨⟨0,undef,.inl (by unfold qH;rw[h])⟩,?_⟩
  rcases hw with rfl|⟨t,rfl⟩
  ·exact jmc _ _
  exact Jt _ _ _
 | range =>
  obtain⟨tp,p,hv⟩:=ht.ran
  refine(Tryz.strconv_Atoi_range_var (B l) (by rw[jq];omega) (by rw[ju];exact h) tp p w hv).mono ?_
  rintro e w' ⟨N,rfl,_,_,hb⟩
  exact⟨⟨_,_,.inr (by unfold qH;rw[h,ju])⟩,hb⟩
 | _ =>
 obtain⟨tp,p,hv⟩:=ht.syn
 refine(Tryz.strconv_Atoi_syntax_var (B l) (by rw[jq];omega) (by rw[ju];exact h) tp p w hv).mono ?_
 rintro e w' ⟨N,rfl,_,_,hb⟩
 exact⟨⟨_,_,.inr (by unfold qH;rw[h])⟩,hb⟩
theorem XR{fn:Func}{p:Tmp}{ty:TypeId}(h:fn.results=#[.cell p ty])(tmps:Array Value)(P:Program)(w:World):
  (results fn tmps).run P w=((asAddr (tmps.getD p undef)).run P w).andThen fun a w₁=>(loadVar ty a).run P w₁:=by
 simp only[results,h]
 simp[Sem.run_bind,Result.andThen]
theorem jf3{fn:Func}{p:Tmp}(h:fn.results=#[.cell p 63])(tmps:Array Value)(w:World)(b:Nat)(cur:Array Value)(hp:tmps.getD p undef=.pointer (some ⟨b,0,none⟩))
  (hc:ja w b 63 cur) (hz:cur.size=3):(results fn tmps).run prog w=.ok (.agg cur) w:=by
 have L:=run_loadVar_row (P:=prog) w b 63 63 cur (0,0) _ hc underlying63 rfl (by rw[hz];kernel_rfl)
 rw[XR h,hp]
 show(loadVar _ _).run _ _=_
 exact L
theorem jhY(l p:List UInt8):(Lib.trimPrefix l p).length<=l.length:=by
 unfold Lib.trimPrefix
 split
 ·rw[jmn];omega
 exact jma _
theorem jaB(l:List UInt8)(p:UInt8->Bool):(l.takeWhile p).length<=l.length:=(List.takeWhile_sublist p).length_le
def jhr(lo:Nat)(t:List UInt8)(v:Value)(w:World):Prop:=∃u,v=.agg #[.int .i64 (qJ t).kind,.int .i64 (qJ t).id,u]/\w.ownsRow lo 155 2 u (qJ t).fields.length (jG (qJ t).fields)
theorem Us(t:List UInt8)(ht:t.length<=60000)(w:World)(hT:Tabs w):
  Calls prog 153 #[.string (B t)] w fun e w'=>∃v,e=.returned v/\jhr w.heap.size t v w'/\Below w.heap.size w w':=by
 obtain⟨wa,hwa⟩:∃wa,wa=w.alloc (.cells #[.int .i64 0,.int .i64 0,.slice none 0 0] 63):=⟨_,rfl⟩
 have hba:Below w.heap.size w wa:=by rw[hwa];exact(jmc _ w).alloc (jma _) _
 have hza:wa.heap.size=w.heap.size+1:=by rw[hwa];simp
 have CX:=jl9 (show ja wa w.heap.size 63 #[.int .i64 0,.int .i64 0,.slice none 0 0] by rw[hwa];exact ja.new _ _ _)
 have HBA:=jl9 hba
 have l1:(yT t).length<=60000:=by have:=jaB t (· != 10);unfold yT;omega
 have l2:=jhY (yT t) [32]
 have l3:(Vd t).length<=60000:=by have:=jaB (Lib.trimPrefix (yT t) [32]) (· != 32);unfold Vd;omega
 have l4:(jgY t).length<=60000:=by unfold jgY;rw[jmn];omega
 have l5:(XS t).length<=60000:=by unfold XS;rw[jmn];omega
 have C1:=jl9 (jbj t 10 (by omega) wa)
 rw[show t.takeWhile (· != 10)=yT t from rfl,show t.drop ((yT t).length+1)=XS t from rfl]at C1
 have TP:=jl9 (fun W=>Tryz.strings_TrimPrefix (B (yT t)) ⟨#[32]⟩ W)
 rw[ju,show(⟨#[32]⟩:ByteArray).data.toList=[32] from rfl]at TP
 rw[show(⟨(Lib.trimPrefix (yT t) [32]).toArray⟩:ByteArray)=B (Lib.trimPrefix (yT t) [32]) from rfl]at TP
 have C2:=jl9 (fun W=>jbj (Lib.trimPrefix (yT t) [32]) 32 (by omega) W)
 rw[show(Lib.trimPrefix (yT t) [32]).takeWhile (· != 32)=Vd t from rfl,show(Lib.trimPrefix (yT t) [32]).drop ((Vd t).length+1)=jgY t from rfl]at C2
 have AT:=jl9 (fun W (hW:Below w.heap.size w W)=>atoi_any (jgY t) (by omega) W (hT.below hW (jma _)))
 have KN:=jl9 (fun W=>jfn (Vd t) W)
 have UF:=jl9 (fun W=>jah (XS t) l5 W)
 have SD:Hid (qJ t=⟨xV (Vd t),qH (jgY t),qt (XS t)⟩):=rfl
 generalize yT t=la at *
 generalize B (Lib.trimPrefix la [32])=tl at *
 generalize XS t=re at *
 generalize Vd t=na at *
 generalize jgY t=fi at *
 clear hba hT l1 l2 l3 l4 l5
 subst hwa
 go_enter func153,ntmps153
 go_wp2_with fail
 refine C1.out.mono ?_
 rintro e w1 ⟨⟨b1,rfl⟩,h1⟩
 have HB1:=jl9 (HBA.out.trans (h1.mono HBA.out.size))
 have K1:=jl9 (jd CX.out h1 (by rw[hza];omega))
 have z1:=h1.size
 rw[hza]at z1
 have TP1:=jl9 (TP.out w1)
 clear C1 h1 TP CX
 go_wp2_with fail
 refine TP1.out.mono ?_
 rintro e w2 ⟨rfl,rfl⟩
 have C22:=jl9 (C2.out w2)
 clear TP1 C2
 go_wp2_with fail
 refine C22.out.mono ?_
 rintro e w3 ⟨⟨b3,rfl⟩,h3⟩
 have HB3:=jl9 (HB1.out.trans (h3.mono HB1.out.size))
 have K3:=jl9 (jd K1.out h3 (by omega))
 have z3:=h3.size
 have AT3:=jl9 (AT.out w3 HB3.out)
 clear C22 h3 K1 AT
 go_wp2_with fail
 refine AT3.out.mono ?_
 rintro e w4 ⟨⟨T,q,hq⟩,h4⟩
 have HB4:=jl9 (HB3.out.trans (h4.mono HB3.out.size))
 have K4:=jl9 (jd K3.out h4 (by omega))
 have z4:=h4.size
 have KN4:=jl9 (KN.out w4)
 clear AT3 h4 K3 KN
 rcases hq with rfl|rfl
 all_goals
  go_wp2_with fail
  refine KN4.out.mono ?_
  rintro e w5 ⟨rfl,h5⟩
  have HB5:=jl9 (HB4.out.trans (h5.mono HB4.out.size))
  have K5:=jl9 (jd K4.out h5 (by omega))
  have z5:=h5.size
  have UF5:=jl9 (UF.out w5)
  clear KN4 h5 K4 UF
  go_wp2_with fail
  refine UF5.out.mono ?_
  rintro e w6 ⟨u,rfl,hu,h6⟩
  have HB6:=jl9 (HB5.out.trans (h6.mono HB5.out.size))
  have K6:=jd K5.out h6 (by omega)
  obtain⟨ua,uc,rfl,_⟩:=jf hu
  have hlow:∀k,(Value.slice ua (qt re).length uc).ownBlock=some k->w.heap.size<k:=fun k hk=>by have:=(hu.lt k hk).1;omega
  have k0:=K6.cell 0
  have k1:=K6.cell 1
  have k2:=K6.cell 2
  have f0:=K6.frozen 0
  have f1:=K6.frozen 1
  have f2:=K6.frozen 2
  have R7:=jl9 (((K6.set 0 (.int .i64 (xV na))).set 1 (.int .i64 (qH fi))).set 2 (.slice ua (qt re).length uc))
  have HU:=jl9 (ze (base':=w.heap.size) hu (by omega))
  have HL:=jl9 hlow
  clear UF5 h6 K5 hu K6 hlow
  go_wp2_with fail
  refine bodyPost_ret (jf3 rfl _ _ w.heap.size _ rfl R7.out rfl) rfl ?_
  refine⟨_,rfl,?_,((HB6.out.setCell (p:=⟨w.heap.size,0,none⟩) (jma _) _).setCell (p:=⟨w.heap.size,1,none⟩) (jma _) _).setCell (p:=⟨w.heap.size,2,none⟩) (jma _) _⟩
  rw[show jhr w.heap.size t=fun v w'=>∃u,v=.agg #[.int .i64 (qJ t).kind,.int .i64 (qJ t).id,u]/\w'.ownsRow w.heap.size 155 2 u (qJ t).fields.length (jG (qJ t).fields) from rfl,SD.out]
  have hn:∀p:Addr,p.block=w.heap.size->∀k,(Value.slice ua (qt re).length uc).ownBlock=some k->k≠p.block:=fun p hp k hk=>by have:=HL.out k hk;omega
  exact⟨_,rfl,jF (p:=⟨w.heap.size,2,none⟩) (jF (p:=⟨w.heap.size,1,none⟩) (jF (p:=⟨w.heap.size,0,none⟩) HU.out (fun e=>by have:=HL.out _ e;simp at this) _) (fun e=>by have:=HL.out _ e;simp at this) _) (fun e=>by have:=HL.out _ e;simp at this) _⟩
end
section
attribute [local go_sem] jmk
def Km:List Ed->List Value->List Value
 | ed::r,fv::q=>.int .i64 ed.kind :: .int .i64 ed.id::fv::Km r q
 | _,_=>[]
theorem Xu:∀(l:List Ed) (vs:List Value) (ed:Ed) (v:Value),vs.length=l.length->Km (l++[ed]) (vs++[v])=Km l vs++[.int .i64 ed.kind,.int .i64 ed.id,v]
 | [],[],ed,v,_=>rfl
 | a::l,b::vs,ed,v,h=>by
  show _::_::_::Km (l++[ed]) (vs++[v])=_
  rw[Xu l vs ed v (by simpa using h)];rfl
 | [],_::_,_,_,h=>by simp at h
 | _::_,[],_,_,h=>by simp at h
theorem jbc:∀(l:List Ed) (vs:List Value) (i:Nat) (ed:Ed) (v:Value),l[i]?=some ed->vs[i]?=some v->(Km l vs)[i*3]?=some (.int .i64 ed.kind)/\(Km l vs)[i*3+1]?=some (.int .i64 ed.id)/\(Km l vs)[i*3+1+1]?=some v
 | [],_,i,_,_,h,_=>by simp at h
 | _::_,[],i,_,_,_,h=>by simp at h
 | a::l,b::vs,0,ed,v,h1,h2=>by simp at h1 h2;subst h1 h2;exact⟨rfl,rfl,rfl⟩
 | a::l,b::vs,i+1,ed,v,h1,h2=>by
  obtain⟨x,y,z⟩:=jbc l vs i ed v (by simpa using h1) (by simpa using h2)
  rw[show(i+1)*3=i*3+3 by omega]
  exact⟨x,y,z⟩
structure ZI(lo:Nat)(w:World)(v:Value)(eds:List Ed)(fvs:List Value):Prop where
 row:w.ownsRow lo 63 3 v eds.length (Km eds fvs)
 len:fvs.length=eds.length
 each:∀(i:Nat) ed fv,eds[i]?=some ed->fvs[i]?=some fv->w.ownsRow lo 155 2 fv ed.fields.length (jG ed.fields)
theorem ZI.below{lo:Nat}{w w':World}{v:Value}{eds:List Ed}{fvs:List Value}{N:Nat}(h:ZI lo w v eds fvs)(hb:Below N w w')(hN:w.heap.size<=N):ZI lo w' v eds fvs :=
 ⟨zy h.row hb hN,h.len,fun i ed fv h1 h2=>zy (h.each i ed fv h1 h2) hb hN⟩
theorem ZI.edv{lo:Nat}{w:World}{v:Value}{eds:List Ed}{fvs:List Value}(h:ZI lo w v eds fvs):EdV w v eds:=by
 by_cases h0:eds=[]
 ·subst h0
  obtain⟨A,c,rfl,hle⟩:=jf h.row
  exact⟨A,c,rfl,hle,fun i ed hi=>by simp at hi⟩
 have hn:eds.length≠0:=fun e=>h0 (List.length_eq_zero_iff.1 e)
 have hrow:=h.row
 obtain⟨g,cap,hug⟩:=jnv hrow (by omega)
 have hle:eds.length<=cap:=by
  obtain⟨A,c,e,hle⟩:=jf h.row
  rw[hug]at e;cases e;exact hle
 rw[hug]at hrow
 refine⟨_,cap,hug,hle,fun i ed hi => ?_⟩
 have hil:=(List.getElem?_eq_some_iff.1 hi).1
 obtain⟨fv,hfv⟩:∃fv,fvs[i]?=some fv:=⟨_,jmd (by rw[h.len];exact hil)⟩
 obtain⟨a0,a1,a2⟩:=jbc eds fvs i ed fv hi hfv
 refine⟨g,0,fv,rfl,(hrow.lt g rfl).2,?_,?_,?_,Zl.own (h.each i ed fv hi hfv)⟩
 ·rw[jmP,jmG hrow (i*3) (by omega),a0]
 ·rw[jmP,jmG hrow (i*3+1) (by omega),a1]
 rw[jmP,jmG hrow (i*3+1+1) (by omega),a2]
theorem jeq:(prog.info? 63).map (fun i=>(i.zero,i.size,i.bytes))=some (some (.agg #[.int .i64 0,.int .i64 0,.slice none 0 0]),3,40):=by kernel_rfl
def XK(t:List UInt8)(st:List Ed×Nat)(x:Ln):List Ed×Nat:=if st.2<x.at_/\Lib.hasPrefix x.text [32,32]=false then (st.1++[qJ ((t.drop st.2).take (x.at_-st.2))],x.at_) else st
def vL(t:List UInt8)(xs:List Ln):List Ed×Nat:=xs.foldl (XK t) ([],0)
theorem YU(t:List UInt8)(xs:List Ln)(x:Ln):vL t (xs++[x])=XK t (vL t xs) x:=by unfold vL;rw[joi];rfl
theorem Jl(t:List UInt8):∀(xs:List Ln) (acc:List Ed) (b:Nat),(xs.foldl (XK t) (acc,b)).1++[qJ (t.drop (xs.foldl (XK t) (acc,b)).2)]=acc++(zL t b xs).map qJ
 | [],acc,b=>rfl
 | x::r,acc,b=>by
  rw[List.foldl_cons,zL]
  by_cases h:b<x.at_/\Lib.hasPrefix x.text [32,32]=false
  ·rw[show XK t (acc,b) x=(acc++[qJ ((t.drop b).take (x.at_-b))],x.at_) from if_pos h,Jl t r,if_pos h,jmD];simp
  rw[show XK t (acc,b) x=(acc,b) from if_neg h,Jl t r,if_neg h]
theorem jaM(t:List UInt8):yz t=(vL t (je t)).1++[qJ (t.drop (vL t (je t)).2)]:=by
 unfold yz vL
 rw[Jl];rfl
theorem YT(t:List UInt8)(k:Nat):((vL t ((je t).take k)).2<=(((je t).take k).flatMap Ln.bytes).length)/\(vL t ((je t).take k)).1.length<=k:=by
 induction k with
 | zero=>exact⟨jma _,jma _⟩
 | succ k ih =>
 rw[jmO]
 cases h:(je t)[k]? with
 | none=>simp only[Option.toList,jmT];omega
 | some x =>
 obtain⟨hk,e⟩:=List.getElem?_eq_some_iff.1 h
 have hat:=(vD t ((je t).take k) x ((je t).drop (k+1)) (by conv=>lhs;rw[<- jmQ k (je t),jnn hk,e])).2
 show(vL t (_++[x])).2<=_/\(vL t (_++[x])).1.length<=_
 rw[YU]
 have hb:((((je t).take k++[x])).flatMap Ln.bytes).length=(((je t).take k).flatMap Ln.bytes).length+x.bytes.length:=by rw[jmL,jmb];simp
 show(XK t _ x).2<=(((je t).take k++[x]).flatMap Ln.bytes).length/\_
 rw[hb]
 unfold XK
 split
 ·refine⟨by show x.at_<=_;omega,?_⟩
  show(_++[_]).length<=_
  rw[jmb];simp only[jme,jmB];omega
 exact⟨by omega,by omega⟩
theorem jf7{t:List UInt8}{pre post:List Ln}{x:Ln}(h:je t=pre++x::post):(vL t pre).2<=x.at_/\x.at_<=t.length/\(vL t pre).1.length<=t.length:=by
 have e:pre=(je t).take pre.length:=by rw[h];simp
 have h1:=YT t pre.length
 rw[<- e]at h1
 have h2:=(vD t pre x post h).2
 have h3:=congrArg List.length (zg t)
 rw[h,jmL,jmb]at h3
 have h4:=qU t
 rw[h,jmb,jme]at h4
 exact⟨by omega,by omega,by omega⟩
theorem Wn(t:List UInt8):(vL t (je t)).2<=t.length/\(vL t (je t)).1.length<=t.length:=by
 have h1:=YT t (je t).length
 rw[jmJ,zg]at h1
 have:=qU t
 exact⟨h1.1,by omega⟩
theorem jkj(t:List UInt8)(i j:Nat):(B t).extract i j=B ((t.drop i).take (j-i)):=by
 apply jns
 simp[B,ByteArray.data_extract,List.extract_eq_take_drop]
theorem ZI.turned{lo B k:Nat}{W W':World}{v:Value}{eds:List Ed}{fvs:List Value}(h:ZI lo W v eds fvs)(ht:jY B k W W')(hlo:B+k<=lo):ZI lo W' v eds fvs :=
 ⟨ht.row h.row (fun b e=>.inr (by have:=(h.row.lt b e).1;omega)),h.len,fun i ed fv h1 h2=>ht.row (h.each i ed fv h1 h2) (fun b e=>.inr (by have:=((h.each i ed fv h1 h2).lt b e).1;omega))⟩
theorem ZI.set{lo:Nat}{W:World}{v:Value}{eds:List Ed}{fvs:List Value}(h:ZI lo W v eds fvs){p:Addr}(hp:p.block<lo)(u:Value):ZI lo (W.setCell p u) v eds fvs :=
 ⟨jF h.row (fun e=>by have:=(h.row.lt _ e).1;omega) _,h.len,fun i ed fv h1 h2=>jF (h.each i ed fv h1 h2) (fun e=>by have:=((h.each i ed fv h1 h2).lt _ e).1;omega) _⟩
theorem ZI.snoc{lo:Nat}{w2 w3:World}{v v' x:Value}{eds:List Ed}{fvs:List Value}{ed:Ed}(h:ZI lo w2 v eds fvs)(hx:w2.ownsRow lo 155 2 x ed.fields.length (jG ed.fields))
  (own3:w3.ownsRow lo 63 3 v' (eds.length+1) (Km eds fvs++[.int .i64 ed.kind,.int .i64 ed.id,x])) (grow3:w2.grownBy w3 v.ownBlock):ZI lo w3 v' (eds++[ed]) (fvs++[x]):=by
 have hty:∀(fx:Value) (n:Nat) (xs:List Value),w2.ownsRow lo 155 2 fx n xs->w3.ownsRow lo 155 2 fx n xs:=fun fx n xs hx =>
  jm hx (fun r e=>grow3.block r (hx.lt r e).2 (fun q=>qf h.row hx (by decide) r q.symm e))
 refine⟨by rw[Xu _ _ _ _ h.len,jmb];exact own3,by rw[jmb,jmb,h.len];rfl,fun i y fx h1 h2 => ?_⟩
 rcases jmF i eds.length with q|q
 ·rw[jmI q]at h1
  rw[jmI (by rw[h.len];exact q)]at h2
  exact hty _ _ _ (h.each i y fx h1 h2)
 rw[jmr q]at h1
 rw[jmr (by rw[h.len];exact q),h.len]at h2
 rcases hq:i-eds.length with _|j
 ·rw[hq]at h1 h2
  simp at h1 h2
  subst h1 h2
  exact hty _ _ _ hx
 rw[hq]at h1;simp at h1
theorem jih{W:World}{lo sz n b:Nat}{T U:TypeId}{v:Value}{xs:List Value}{cur:Array Value}(h:W.ownsRow lo T sz v n xs)(hc:ja W b U cur)(ht:T≠U):v.ownBlock≠some b:=by
 intro e
 rcases h.2 with ⟨rfl,_⟩|⟨g,cap,cur',rfl,_,hg,_⟩
 ·cases e
 have:g=b:=jmf e
 subst this
 have h2:=hg.symm.trans hc
 injection h2 with h2
 injection h2 with _ h2 _
 exact ht h2
def jc6(w:World)(t:List UInt8)(st:List Ed×Nat)(W:World):Prop :=
 ∃u fvs,Boxed W w.heap.size 9 (.string (B t))/\Boxed W (w.heap.size+1) 22 u/\Boxed W (w.heap.size+2) 3 (.int .i64 (st.2:Nat))/\ZI (w.heap.size+9) W u st.1 fvs/\Below w.heap.size w W
theorem jc6.turned{w:World}{t:List UInt8}{st:List Ed×Nat}{W W':World}{k:Nat}(h:jc6 w t st W)(ht:jY (w.heap.size+4) k W W')(hk:k<=5):jc6 w t st W':=by
 obtain⟨u,fvs,h1,h2,h3,h4,h5⟩:=h
 exact⟨u,fvs,ht.box h1 (.inl (by omega)),ht.box h2 (.inl (by omega)),ht.box h3 (.inl (by omega)),h4.turned ht (by omega),h5.trans (ht.below (by omega) h5.size)⟩
theorem jc6.alloc{w:World}{t:List UInt8}{st:List Ed×Nat}{W:World}(h:jc6 w t st W)(o:Obj):jc6 w t st (W.alloc o):=by
 obtain⟨u,fvs,h1,h2,h3,h4,h5⟩:=h
 exact⟨u,fvs,h1.alloc _,h2.alloc _,h3.alloc _,h4.below ((jmc _ W).alloc (jma _) _) (jma _),h5.alloc h5.size _⟩
theorem read_any(t:List UInt8)(ht:t.length<=50000)(w:World)(hT:Tabs w):
  Calls prog 112 #[.string (B t)] w fun e w'=>∃u fvs,e=.returned u/\ZI w.heap.size w' u (yz t) fvs/\Below w.heap.size w w':=by
 obtain⟨xs,hxs⟩:∃xs,je t=xs:=⟨_,rfl⟩
 have HXS:=jl9 hxs
 have HT:=jl9 hT
 have RA:Hid (∀pre x post,xs=pre++x::post->(vL t pre).2<=x.at_/\x.at_<=t.length/\(vL t pre).1.length<=t.length):=fun pre x post h=>jf7 (hxs.trans h)
 clear hxs hT
 refine callsIn_wide (n:=9).1 ?_
 refine callsIn_of_wp_marks func112 rfl trivial ?_ rfl
 simp only[ntmps112,jmN,jme,jmB,Nat.reduceAdd,Nat.reduceSub,jmW,jmX,jm5,jm0,jmS,jmu]
 gi_wp2_with fail
 refine⟨trivial,(callsIn_wide.2 (yj (B t) _)).mono ?_⟩
 rintro e w3 ⟨rfl,rfl⟩
 gi_wp2_with fail
 obtain⟨w1,hw1⟩:∃w1,w1=((((w.alloc (.cells #[.string (B t)] 9)).alloc (.cells #[.slice none 0 0] 22)).alloc (.cells #[.int .i64 0] 3)).alloc (.cells #[.string (B t)] 9)):=⟨_,rfl⟩
 have hz:w1.heap.size=w.heap.size+4:=by rw[hw1];simp
 have k3:Boxed w1 (w.heap.size+3) 9 (.string (B t)):=by
  rw[hw1]
  have:=jnr (((w.alloc (.cells #[.string (B t)] 9)).alloc (.cells #[.slice none 0 0] 22)).alloc (.cells #[.int .i64 0] 3)) 9 (.string (B t))
  simpa using this
 have init:jc6 w t ([],0) w1:=by
  rw[hw1]
  refine jc6.alloc ⟨.slice none 0 0,[],((jnr w _ _).alloc _).alloc _,(xC w _ _ _).alloc _,ZD w _ _ _ _,⟨⟨rfl,.inl ⟨rfl,rfl⟩⟩,rfl,fun i ed fv h1 _=>by simp at h1⟩,(((jmc _ w).alloc (jma _) _).alloc (by simp) _).alloc (by simp;omega) _⟩ _
 rw[<- hw1]
 clear hw1
 have HH:=qL (B t) (w.heap.size+3) w1 k3 (by rw[jq];omega)
 rw[ju,HXS.out]at HH
 refine vC (gf:=139) (lb:=#[.pointer (some ⟨w.heap.size+3,0,none⟩)]) rfl (enters_of func139 (by kernel_rfl) rfl) HH (fun _=>rfl)
  (fun pre W=>jc6 w t (vL t pre) W) (fun _ _ _=>False) (by rw[hz];intro pre W W' h ht;exact h.turned ht (by omega)) (fun _ _ _ _ hs _=>hs) init
  (fun a pre x a' W=>∃Bx,w.heap.size+9<=Bx/\a'={tmps:=(a.tmps.setIfInBounds 8 (.agg (qP x))).setIfInBounds 5 (.pointer (some ⟨Bx,0,none⟩)),defers:=[]}/\ja W Bx 164 (qP x)/\jc6 w t (vL t pre) W)
  ?hM ?assign ?body ?done ?stop
 case hM =>
  rw[hz]
  rintro a pre x a' _ W W' ⟨Bx,h1,h2,h3,h4⟩ ht
  exact⟨Bx,h1,h2,(ht.same Bx h3.lt (.inr (by omega))).trans h3,h4.turned (ht.sub (jma _) (by omega)) (jma 5)⟩
 case assign =>
  rw[hz]
  intro l pre x post W hx hsz hi
  clear hx
  dsimp only[qP]
  gi_wp2
  exact⟨(vz.refl _ _ W).alloc hsz _,W.heap.size,by omega,rfl,ja.new _ _ _,hi.alloc _⟩
 case body =>
  rw[hz]
  rintro l pre x post a' W hx hsz ⟨Bx,hB,rfl,hc,u,fvs,h1,h2,h3,h4,h5⟩
  obtain⟨r1,r2,r3⟩:=RA.out pre x post hx
  have SN:=jl9 (YU t pre x)
  clear hx RA
  obtain⟨⟨acc,beg⟩,hst⟩:∃st,vL t pre=st:=⟨_,rfl⟩
  rw[hst]at r1 r3 h3 h4 SN
  dsimp only at r1 r3 h3 h4
  simp only[jms,jm2,jm3,qP]at hc ⊢
  have p1:W.cell? ⟨Bx,1,none⟩=some (.int .i64 x.at_):=hc.cell 1
  have p2:W.cell? ⟨Bx,2,none⟩=some (.string ⟨x.text.toArray⟩):=hc.cell 2
  have p3:=h3.cell
  have HI:Hid (jc6 w t (acc,beg) W):=⟨u,fvs,h1,h2,h3,h4,h5⟩
  refine wpIn_block (wpIn_seq ?_)
  by_cases hcd:beg<x.at_/\Lib.hasPrefix x.text [32,32]=false
  ·obtain⟨hlt,hp⟩:=hcd
   have q:¬(x.at_:Int)<=(beg:Int):=by omega
   refine wpIn_mono (Q:=fun e a' w'=>e=.normal/\w'=W/\∃y9 y10 y11 y12 y13 y14 y15 y16 y17,a'={tmps:=#[.string (B t),.pointer (some ⟨w.heap.size,0,none⟩),.slice none 0 0,.pointer (some ⟨w.heap.size+1,0,none⟩),.pointer (some ⟨w.heap.size+1+1,0,none⟩),.pointer (some ⟨Bx,0,none⟩),.string (B t),.func (.func 139) #[] #[.pointer (some ⟨w.heap.size+1+1+1,0,none⟩)],.agg #[.int .i64 x.no,.int .i64 x.at_,.string ⟨x.text.toArray⟩,.bool x.ended],y9,y10,y11,y12,y13,y14,y15,y16,y17,.bool true,undef,undef,undef,undef,undef,undef,undef,undef,undef,undef,undef,undef,undef,undef,undef,undef,undef,undef],defers:=[]}) ?first ?rest
   case first =>
    clear HI SN h1 h2 h3 h4 h5
    gi_wp2_with fail
    refine⟨trivial,((callsIn_wide.2 (Tryz.strings_HasPrefix ⟨x.text.toArray⟩ ⟨#[32,32]⟩ W)).inRound l).mono ?_⟩
    rintro e V ⟨rfl,rfl⟩
    rw[show Lib.hasPrefix (⟨x.text.toArray⟩:ByteArray).data.toList (⟨#[32,32]⟩:ByteArray).data.toList=Lib.hasPrefix x.text [32,32] from rfl,hp]
    gi_wp2_with fail
    all_goals exact⟨rfl,rfl,_,_,_,_,_,_,_,_,_,rfl⟩
   case rest =>
   rintro e a' w' ⟨rfl,hw',y9,y10,y11,y12,y13,y14,y15,y16,y17,rfl⟩
   subst hw'
   change Code.wpIn _ _ _ _ _ _ _
   refine wpIn_cond_true rfl (wpIn_seq (QL (by decide +kernel) (by rintro⟨a,w,h⟩;exact h) (by kernel_rfl) ?_))
   have hcbx:=hc.lt
   obtain⟨ua,uc,rfl,_⟩:=jf h4.row
   have hS:∀V,Below w'.drew.heap.size w'.drew V->V.cell? ⟨w.heap.size+1,0,none⟩=some (.slice ua acc.length uc)/\V.cell? ⟨w.heap.size,0,none⟩=some (.string (B t))/\V.cell? ⟨w.heap.size+1+1,0,none⟩=some (.int .i64 (beg:Nat))/\V.cell? ⟨Bx,1,none⟩=some (.int .i64 (x.at_:Nat)):=fun V hV=>by
    have hV':Below w'.heap.size w' V:=(jmc w'.heap.size w').drew.trans hV
    exact⟨(hV'.cell (p:=⟨w.heap.size+1,0,none⟩) (by show w.heap.size+1<_;omega)).trans h2.cell,(hV'.cell (p:=⟨w.heap.size,0,none⟩) (by show w.heap.size<_;omega)).trans h1.cell,(hV'.cell (p:=⟨w.heap.size+1+1,0,none⟩) (by show w.heap.size+1+1<_;omega)).trans h3.cell,(hV'.cell (p:=⟨Bx,1,none⟩) hcbx).trans p1⟩
   obtain⟨pc,hpc⟩:∃pc,pc=(t.drop beg).take (x.at_-beg):=⟨_,rfl⟩
   have hpl:pc.length<=60000:=by rw[hpc,jmi,jmn];omega
   have SN1:Hid (vL t (pre++[x])=(acc++[qJ pc],x.at_)):=by
    show _=_
    rw[SN.out,hpc];exact if_pos ⟨hlt,hp⟩
   obtain⟨i0,hi,hz0,hz1,hz2⟩:=info_parts jeq
   refine jb1 _ w'.drew (w.heap.size+1) w.heap.size (w.heap.size+1+1) Bx (w.heap.size+9) (.slice ua acc.length uc) (B t) beg x.at_ (jhr (w.heap.size+9) pc) _ rfl rfl rfl rfl rfl hS hsz ⟨r1,by rw[jq];exact r2⟩ ?pm ?pf ?pC ?pQ
   case pm =>
    rintro v x y hb ⟨u,e,h⟩
    exact⟨u,e,zy h hb (jma _)⟩
   case pf =>
    rintro v w ⟨u,rfl,h⟩
    obtain⟨A,c,rfl,_⟩:=jf h
    exact⟨_,_,_,_,_,rfl⟩
   case pC =>
    intro V hV
    have hV':Below w'.heap.size w' V:=(jmc w'.heap.size w').drew.trans hV
    rw[jkj,<- hpc]
    refine(Us pc hpl V (HT.out.below (h5.trans (hV'.mono h5.size)) (jma _))).mono ?_
    rintro e w2 ⟨v,rfl,⟨u,e,h⟩,hb⟩
    exact⟨v,rfl,⟨u,e,ze h (jmy hsz hV'.size)⟩,hb⟩
   case pQ =>
   intro y0 y1 y2 y3 y4 y5 y6 y7 w2 hb2 hy0 hy7
   subst hy0
   obtain⟨b9,u9,cs9,rfl,⟨ux,rfl,hux⟩,hlo9,hcs,hcb⟩:=hy7
   injection hcs with hcs
   subst hcs
   have hB2:Below w'.heap.size w' w2:=(jmc w'.heap.size w').drew.trans hb2
   have hO2:=h4.below hB2 (jma _)
   obtain⟨xa,xc,rfl,_⟩:=jf hux
   have HV:Hid (∀(i:Nat) (u:Value),[Value.int .i64 (qJ pc).kind,.int .i64 (qJ pc).id,.slice xa (qJ pc).fields.length xc][i]?=some u->w2.cell? ((⟨b9,0,none⟩:Addr).add i)=some u):=fun i u h=>by
    have ea:(⟨b9,0,none⟩:Addr).add i=⟨b9,i,none⟩:=by unfold Addr.add;split<;>simp_all
    rw[ea,hcb.cell i];simpa using h
   have k1:Boxed w2 w.heap.size 9 (.string (B t)):=(hB2.block _ h1.lt).trans h1
   have k2:Boxed w2 (w.heap.size+1) 22 (.slice ua acc.length uc):=(hB2.block _ h2.lt).trans h2
   have k3':Boxed w2 (w.heap.size+1+1) 3 (.int .i64 (beg:Nat)):=(hB2.block _ h3.lt).trans h3
   have kc:=jd hc hB2 hcbx
   have hz2':=hB2.size
   have HR:=jl9 hO2.row
   have HO2:=jl9 hO2
   have HUX:=jl9 hux
   have HB2:=jl9 hB2
   have K:=jl9 (And.intro k1 (And.intro k2 (And.intro k3' kc)))
   have H5:=jl9 h5
   have hal:acc.length<=50000:=by omega
   clear hcb hb2 hB2 hO2 hux k1 k2 k3' kc h1 h2 h3 h4 h5 hS HI p1 p2 p3 hc SN hpc hpl
   generalize hfl:(qJ pc).fields.length=fl at *
   simp only[List.foldl,jms,jm2,jm3]
   go_wp2_with (at_builtin;refine jQ rfl _ _ 22 rfl (w.heap.size+9) 63 i0 _ 3 40 underlying22 hi hz0 hz1 hz2 rfl (by decide) _ _ _ rfl HR.out ⟨b9,0,none⟩ 1 1 _ rfl rfl HV.out (by intro u hu;simp at hu;rcases hu with rfl | rfl | rfl<;>rfl) (by unfold maxLen;omega) (by omega) (by omega) ?_)
   intro ov' w3 own3 grow3 at3
   have hrow:∀r,(Value.slice ua acc.length uc).ownBlock=some r->w.heap.size+9<=r:=fun r e=>(HR.out.lt r e).1
   obtain⟨k1,k2,k3',kc⟩:=K.out
   have j1:=k1.kept grow3 (fun e=>by have:=hrow _ e.symm;omega)
   have j2:=k2.kept grow3 (fun e=>by have:=hrow _ e.symm;omega)
   have j3:=k3'.kept grow3 (fun e=>by have:=hrow _ e.symm;omega)
   have jc:ja w3 Bx 164 _:=(grow3.block Bx kc.lt (fun e=>jih HR.out kc (by decide) e.symm)).trans kc
   have f2:=j2.cell
   have f2':=j2.frozen
   have OS:=jl9 (HO2.out.snoc (ed:=qJ pc) (by rw[hfl];exact HUX.out) own3 grow3)
   have HG:=jl9 grow3
   have HROW:=jl9 hrow
   have J:=jl9 (And.intro j1 (And.intro j2 (And.intro j3 jc)))
   obtain⟨ova,ovc,rfl,_⟩:=jf own3
   clear own3 grow3 at3 hrow k1 k2 k3' kc j1 j2 j3 jc HO2 HUX HV
   go_wp2_with fail
   change Code.wpIn _ _ _ _ _ _ _
   obtain⟨j1,j2,j3,jc⟩:=J.out
   obtain⟨w4,hw4⟩:∃w4,w4=w3.setCell ⟨w.heap.size+1,0,none⟩ (.slice ova (acc.length+1) ovc):=⟨_,rfl⟩
   have q1:Boxed w4 w.heap.size 9 (.string (B t)):=by rw[hw4];exact j1.other (by omega) _
   have q2:Boxed w4 (w.heap.size+1) 22 (.slice ova (acc.length+1) ovc):=by rw[hw4];exact jnd _ j2
   have q3:Boxed w4 (w.heap.size+1+1) 3 (.int .i64 (beg:Nat)):=by rw[hw4];exact j3.other (by omega) _
   have qc:ja w4 Bx 164 #[.int .i64 x.no,.int .i64 x.at_,.string ⟨x.text.toArray⟩,.bool x.ended]:=by rw[hw4];exact jc.other (p:=⟨w.heap.size+1,0,none⟩) (by show Bx≠w.heap.size+1;omega) _
   have hs4:w4.heap.size=w3.heap.size:=by rw[hw4];simp
   have st4:vz (w.heap.size+4) 5 w' w4:=by
    rw[hw4]
    exact(((vz.refl _ _ _).below HB2.out (by omega)).grown HG.out (by omega) (fun r e=>.inr (by have:=HROW.out r e;omega))).setCell (.inl (by show w.heap.size+1<_;omega)) _
   have own4:=(OS.out).set (p:=⟨w.heap.size+1,0,none⟩) (by show w.heap.size+1<_;omega) (.slice ova (acc.length+1) ovc)
   rw[<- hw4]at own4
   have B4:Below w.heap.size w w4:=by
    rw[hw4]
    exact((H5.out.trans (HB2.out.mono H5.out.size)).grown HG.out (by omega) (fun r e=>by have:=HROW.out r e;omega)).setCell (p:=⟨w.heap.size+1,0,none⟩) (by show w.heap.size<=w.heap.size+1;omega) _
   rw[<- hw4]
   have g1:w4.cell? ⟨Bx,1,none⟩=some (.int .i64 x.at_):=qc.cell 1
   have g2:=q3.cell
   have g2':=q3.frozen
   have FIN:Hid (vz (w.heap.size+4) 5 w' (w4.setCell ⟨w.heap.size+1+1,0,none⟩ (.int .i64 x.at_))/\jc6 w t (vL t (pre++[x])) (w4.setCell ⟨w.heap.size+1+1,0,none⟩ (.int .i64 x.at_))) :=
    ⟨st4.setCell (.inl (by show w.heap.size+1+1<_;omega)) _,by
     rw[SN1.out]
     exact⟨_,_,q1.other (by omega) _,q2.other (by omega) _,jnd _ q3,own4.set (p:=⟨w.heap.size+1+1,0,none⟩) (by show w.heap.size+1+1<_;omega) _,B4.setCell (p:=⟨w.heap.size+1+1,0,none⟩) (by show w.heap.size<=w.heap.size+1+1;omega) _⟩⟩
   clear own4 B4 st4 q1 q2 q3 qc j1 j2 j3 jc J OS HG HROW hw4
   gi_wp2_with fail
   exact FIN.out
  refine wpIn_mono (Q:=fun e a' w'=>e=.normal/\w'=W/\∃y9 y10 y11 y12 y13 y14 y15 y16 y17,a'={tmps:=#[.string (B t),.pointer (some ⟨w.heap.size,0,none⟩),.slice none 0 0,.pointer (some ⟨w.heap.size+1,0,none⟩),.pointer (some ⟨w.heap.size+1+1,0,none⟩),.pointer (some ⟨Bx,0,none⟩),.string (B t),.func (.func 139) #[] #[.pointer (some ⟨w.heap.size+1+1+1,0,none⟩)],.agg #[.int .i64 x.no,.int .i64 x.at_,.string ⟨x.text.toArray⟩,.bool x.ended],y9,y10,y11,y12,y13,y14,y15,y16,y17,.bool false,undef,undef,undef,undef,undef,undef,undef,undef,undef,undef,undef,undef,undef,undef,undef,undef,undef,undef],defers:=[]}) ?first ?rest
  case first =>
   clear HI SN h1 h2 h3 h4 h5
   by_cases hlt:beg<x.at_
   ·have hp:Lib.hasPrefix x.text [32,32]=true:=by
     cases h:Lib.hasPrefix x.text [32,32]with
     | true=>rfl
     | false=>exact absurd ⟨hlt,h⟩ hcd
    have q:¬(x.at_:Int)<=(beg:Int):=by omega
    gi_wp2_with fail
    refine⟨trivial,((callsIn_wide.2 (Tryz.strings_HasPrefix ⟨x.text.toArray⟩ ⟨#[32,32]⟩ W)).inRound l).mono ?_⟩
    rintro e V ⟨rfl,rfl⟩
    rw[show Lib.hasPrefix (⟨x.text.toArray⟩:ByteArray).data.toList (⟨#[32,32]⟩:ByteArray).data.toList=Lib.hasPrefix x.text [32,32] from rfl,hp]
    gi_wp2_with fail
    all_goals exact⟨rfl,rfl,_,_,_,_,_,_,_,_,_,rfl⟩
   gi_wp2_with fail
   refine⟨trivial,?_⟩
   gi_wp2_with fail
   all_goals exact⟨rfl,rfl,_,_,_,_,_,_,_,_,_,rfl⟩
  case rest =>
  rintro e a' w' ⟨rfl,hw',y9,y10,y11,y12,y13,y14,y15,y16,y17,rfl⟩
  subst hw'
  change Code.wpIn _ _ _ _ _ _ _
  refine wpIn_cond_false rfl ?_
  gi_wp2
  refine⟨vz.refl _ _ _,?_⟩
  show jc6 w t (vL t (pre++[x])) w'
  rw[SN.out,show XK t (acc,beg) x=(acc,beg) from if_neg hcd]
  exact HI.out
 case done =>
  rw[hz]
  rintro W ⟨u,fvs,h1,h2,h3,h4,h5⟩ hK
  rename_i Q' K hcont
  refine hcont _ _ ?_
  refine wpIn_seq ?_
  refine wpIn_wide.2 ?_
  refine wp_region_any (by kernel_rfl) ?_
  obtain⟨st,hst⟩:∃st,vL t xs=st:=⟨_,rfl⟩
  have e1:=jaM t
  have e2:=Wn t
  rw[HXS.out,hst]at e1 e2
  rw[hst]at h3 h4
  obtain⟨acc,beg⟩:=st
  dsimp only at h3 h4 e1 e2
  obtain⟨ua,uc,rfl,_⟩:=jf h4.row
  have hkl:w.heap.size+4<W.heap.size:=(Array.getElem?_eq_some_iff.1 hK).1
  have hS:∀V,Below W.drew.heap.size W.drew V->V.cell? ⟨w.heap.size+1,0,none⟩=some (.slice ua acc.length uc)/\V.cell? ⟨w.heap.size,0,none⟩=some (.string (B t))/\V.cell? ⟨w.heap.size+1+1,0,none⟩=some (.int .i64 (beg:Nat))/\True:=fun V hV=>by
   have hV':Below W.heap.size W V:=(jmc W.heap.size W).drew.trans hV
   exact⟨(hV'.cell (p:=⟨w.heap.size+1,0,none⟩) (by show w.heap.size+1<_;omega)).trans h2.cell,(hV'.cell (p:=⟨w.heap.size,0,none⟩) (by show w.heap.size<_;omega)).trans h1.cell,(hV'.cell (p:=⟨w.heap.size+1+1,0,none⟩) (by show w.heap.size+1+1<_;omega)).trans h3.cell,trivial⟩
  obtain⟨pc,hpc⟩:∃pc,pc=t.drop beg:=⟨_,rfl⟩
  have hpl:pc.length<=60000:=by rw[hpc,jmn];omega
  rw[<- hpc]at e1
  obtain⟨i0,hi,hz0,hz1,hz2⟩:=info_parts jeq
  refine jb0 _ W.drew (w.heap.size+1) w.heap.size (w.heap.size+1+1) (w.heap.size+5) (.slice ua acc.length uc) (B t) beg (jhr (w.heap.size+5) pc) _ rfl rfl rfl rfl hS (by show w.heap.size+5<=W.heap.size;omega) (by rw[jq];exact e2.1) ?pm ?pf ?pC ?pQ
  case pm =>
   rintro v x y hb ⟨u,e,h⟩
   exact⟨u,e,zy h hb (jma _)⟩
  case pf =>
   rintro v w ⟨u,rfl,h⟩
   obtain⟨A,c,rfl,_⟩:=jf h
   exact⟨_,_,_,_,_,rfl⟩
  case pC =>
   intro V hV
   have hV':Below W.heap.size W V:=(jmc W.heap.size W).drew.trans hV
   rw[jkj,show(t.drop beg).take ((B t).size-beg)=pc by rw[hpc,jq,jmH (by rw[jmn];omega)]]
   refine(Us pc hpl V (HT.out.below (h5.trans (hV'.mono h5.size)) (jma _))).mono ?_
   rintro e w2 ⟨v,rfl,⟨u,e,h⟩,hb⟩
   exact⟨v,rfl,⟨u,e,ze h (by have:=hV'.size;omega)⟩,hb⟩
  case pQ =>
  intro y0 y1 y2 y3 y4 y5 w2 hb2 hy0 hy5
  subst hy0
  obtain⟨b9,u9,cs9,rfl,⟨ux,rfl,hux⟩,hlo9,hcs,hcb⟩:=hy5
  injection hcs with hcs
  subst hcs
  have hB2:Below W.heap.size W w2:=(jmc W.heap.size W).drew.trans hb2
  have hO2:ZI (w.heap.size+5) w2 (.slice ua acc.length uc) acc fvs:=by
   have h:=h4.below hB2 (jma _)
   exact⟨ze h.row (by omega),h.len,fun i ed fv q1 q2=>ze (h.each i ed fv q1 q2) (by omega)⟩
  obtain⟨xa,xc,rfl,_⟩:=jf hux
  have HV:Hid (∀(i:Nat) (u:Value),[Value.int .i64 (qJ pc).kind,.int .i64 (qJ pc).id,.slice xa (qJ pc).fields.length xc][i]?=some u->w2.cell? ((⟨b9,0,none⟩:Addr).add i)=some u):=fun i u h=>by
   have ea:(⟨b9,0,none⟩:Addr).add i=⟨b9,i,none⟩:=by unfold Addr.add;split<;>simp_all
   rw[ea,hcb.cell i];simpa using h
  have hK2:w2.heap[w.heap.size+4]?=some (Obj.deferred (some [])):=(hB2.block _ hkl).trans hK
  have hz2':=hB2.size
  have HR:=jl9 hO2.row
  have HO2:=jl9 hO2
  have HUX:=jl9 hux
  have HB2:=jl9 (h5.trans (hB2.mono h5.size))
  have hal:acc.length<=50000:=by omega
  clear hcb hb2 hB2 hO2 hux h1 h2 h3 h4 h5 hS hpc hpl
  generalize hfl:(qJ pc).fields.length=fl at *
  simp only[List.foldl,jms,jm2,jm3]
  go_wp2_with (at_builtin;refine jQ rfl _ _ 22 rfl (w.heap.size+5) 63 i0 _ 3 40 underlying22 hi hz0 hz1 hz2 rfl (by decide) _ _ _ rfl HR.out ⟨b9,0,none⟩ 1 1 _ rfl rfl HV.out (by intro u hu;simp at hu;rcases hu with rfl | rfl | rfl<;>rfl) (by unfold maxLen;omega) (by omega) (by omega) ?_)
  intro ov' w3 own3 grow3 at3
  have hrow:∀r,(Value.slice ua acc.length uc).ownBlock=some r->w.heap.size+5<=r:=fun r e=>(HR.out.lt r e).1
  have hK3:w3.heap[w.heap.size+4]?=some (Obj.deferred (some [])):=(grow3.block _ (by omega) (fun e=>by have:=hrow _ e.symm;omega)).trans hK2
  have OS:=HO2.out.snoc (ed:=qJ pc) (by rw[hfl];exact HUX.out) own3 grow3
  rw[<- e1]at OS
  have B3:Below w.heap.size w w3:=HB2.out.grown grow3 HB2.out.size (fun r e=>by have:=hrow r e;omega)
  have pb:=grownBy_putObj' w3 (w.heap.size+4) (.deferred none)
  have kb:Below w.heap.size w3 (w3.putObj (w.heap.size+4) (.deferred none)):=belowK_b (w:=w) (jma _) w3 _ _ _ (by omega) hK3 rfl rfl
  have FIN:Hid (ZI w.heap.size (w3.putObj (w.heap.size+4) (.deferred none)) ov' (yz t) (fvs++[.slice xa fl xc])/\Below w.heap.size w (w3.putObj (w.heap.size+4) (.deferred none))) :=
   ⟨⟨ze (jm OS.row fun b e=>pb.block b (OS.row.lt b e).2 (fun q=>by have:=(OS.row.lt b e).1;have:=jmf q;omega)) (by omega),OS.len,fun i ed fv q1 q2=>ze (jm (OS.each i ed fv q1 q2) fun b e=>pb.block b ((OS.each i ed fv q1 q2).lt b e).2 (fun q=>by have:=((OS.each i ed fv q1 q2).lt b e).1;have:=jmf q;omega)) (by omega)⟩,B3.trans kb⟩
  have hK4:=jl9 hK3
  obtain⟨ova,ovc,rfl,_⟩:=jf own3
  clear own3 grow3 at3 hrow HO2 HUX HV OS B3 pb kb hK3 hK2 hK
  go_wp2_with fail
  change Code.wpIn _ _ _ _ _ _ _
  gi_wp2
  refine⟨by simp,.inl ⟨_,_,rfl,run_takeDeferred hK4.out,?_⟩⟩
  exact⟨_,results_tmp rfl _ _ _,.slice ova (acc.length+1) ovc,_,rfl,FIN.out.1,FIN.out.2⟩
 case stop =>
 intro c pre W _ h _
 exact h.elim
theorem Gc(t:List UInt8):jjk (qt t)/\∀f∈qt t,f.1.length<=32/\f.2.length<=1000:=by
 unfold qt
 cases h:jI (dd [32,32] ((je t).map XN)).1 with
 | error e=>exact⟨⟨by simp,fun f hf=>by cases hf⟩,fun f hf=>by cases hf⟩
 | ok its =>
 obtain⟨_,hil,hif⟩:=xJ h
 have hcnt:=QY h
 rw[<- jaK]at hcnt
 have hrl:=jee (Qs its) 40 (fun r hr=>by
  unfold Qs at hr
  obtain⟨it,h1,rfl⟩:=List.mem_map.1 hr
  exact(hif it (List.mem_filter.1 h1).1).1)
 have each:∀f∈(Qs its).flatten,f.1.length<=32/\f.2.length<=1000:=fun f hf=>by
  obtain⟨r,hr,hfr⟩:=List.mem_flatten.1 hf
  unfold Qs at hr
  obtain⟨it,h1,rfl⟩:=List.mem_map.1 hr
  obtain⟨h2,h3⟩:=List.mem_filter.1 h1
  obtain⟨_,_,h4⟩:=xz (jgf h it h2 (by simpa using h3))
  obtain⟨h5,h6⟩:=Zw _ h4 f hfr
  exact⟨Jk h5,h6⟩
 refine⟨⟨?_,fun f hf => ?_⟩,each⟩
 ·show((Qs its).flatten).length<=_
  rw[Vu];omega
 have:=each f hf;omega
theorem jb3(t:List UInt8):Uy (yz t):=by
 intro ed hed
 obtain⟨p,_,rfl⟩:=List.mem_map.1 hed
 exact(Gc _).1
theorem jf6(t:List UInt8):(yz t).length<=t.length+1:=by
 rw[jaM,jmb]
 have:=(Wn t).2
 simp only[jme,jmB];omega
def jk2(w w':World)(t:List UInt8)(e:Ending):Prop :=
 Below w.heap.size w w'/\((jcK t=none/\e=.returned (.tuple #[.slice none 0 0,.iface 46 (.int .i64 2)]))\/∃eds u fvs,jcK t=some eds/\e=.returned (.tuple #[u,.nilIface])/\ZI w.heap.size w' u eds fvs)
theorem Xv(t:List UInt8)(ht:t.length<=maxLen)(w:World)(hT:Tabs w):
  Calls prog 78 #[.string (B t)] w fun e w'=>jk2 w w' t e:=by
 have bs:=jq t
 by_cases hl:¬t.length<=50000
 ·have NO:Hid (jk2 w w t (.returned (.tuple #[.slice none 0 0,.iface 46 (.int .i64 2)]))):=⟨jmc _ _,.inl ⟨by unfold jcK;rw[if_neg (fun h=>hl h.1)],rfl⟩⟩
  have q:¬((B t).size:Int)<=50000:=by omega
  generalize B t=s at *
  go_enter func78,ntmps78
  go_wp2_with fail
  go_ret2
  exact NO.out
 replace hl:=Classical.not_not.1 hl
 have RD:=jl9 (read_any t hl w hT)
 have q:((B t).size:Int)<=50000:=by omega
 have hrl:=jf6 t
 have RF:=jl9 (jb3 t)
 have RI:=jl9 (jaL t)
 have HT:=jl9 hT
 have YES:Hid (∀W u fvs,ZI w.heap.size W u (yz t) fvs->Below w.heap.size w W->(vG (yz t)).2=0->jp (yz t)=t->jk2 w W t (.returned (.tuple #[u,.nilIface]))):=fun W u fvs ho hb h1 h2 =>
  ⟨hb,.inr ⟨yz t,u,fvs,by unfold jcK;rw[if_pos ⟨hl,h1,h2⟩],rfl,ho⟩⟩
 have NO:Hid (∀W,Below w.heap.size w W->¬((vG (yz t)).2=0/\jp (yz t)=t)->jk2 w W t (.returned (.tuple #[.slice none 0 0,.iface 46 (.int .i64 2)]))):=fun W hb h =>
  ⟨hb,.inl ⟨by unfold jcK;rw[if_neg (fun h2=>h h2.2)],rfl⟩⟩
 clear hT ht bs
 generalize yz t=eds at *
 go_enter func78,ntmps78
 go_wp2_with fail
 refine RD.out.mono ?_
 rintro e w1 ⟨u,fvs,rfl,ho,b1⟩
 have EN:=jl9 (Xt eds u w1 ho.edv (by omega) RF.out RI.out (HT.out.below b1 (jma _)))
 have HO:=jl9 ho
 have B1:=jl9 b1
 obtain⟨ua,uc,rfl,_⟩:=jf ho.row
 clear RD ho b1
 go_wp2_with fail
 refine EN.out.mono ?_
 rintro e w2 ⟨b2,⟨h0,rfl⟩|⟨h0,u',rfl,hz⟩⟩
 ·have B2:=jl9 (B1.out.trans (b2.mono B1.out.size))
  have Z0:=jl9 h0
  have E2:=jhN (jp eds) t
  by_cases hq:jp eds=t
  ·have E3:((B (jp eds)).toList==(B t).toList)=true:=by rw[E2];exact decide_eq_true hq
   have Y:=jl9 (YES.out w2 _ fvs (HO.out.below b2 (jma _)) B2.out Z0.out hq)
   clear EN YES NO b2 h0 HO E2 hq
   generalize B (jp eds)=own at *
   go_wp2_with fail
   go_ret2
   exact Y.out
  have E3:((B (jp eds)).toList==(B t).toList)=false:=by rw[E2];exact decide_eq_false hq
  have E4:¬(B (jp eds)).toList=(B t).toList:=by simpa using E3
  have Y:=jl9 (NO.out w2 B2.out (fun h=>hq h.2))
  clear EN YES NO b2 h0 HO E2 hq
  generalize B (jp eds)=own at *
  go_wp2_with fail
  go_ret2
  exact Y.out
 have B2:=jl9 (B1.out.trans (b2.mono B1.out.size))
 have Y:=jl9 (NO.out w2 B2.out (fun h=>h0 h.1))
 obtain⟨_,⟨rfl,hx⟩|⟨kk,⟨q,_,rfl,_⟩,_,_⟩⟩:=hz
 ·have hpos:0<(vG eds).2:=jnu h0
  rw[jX _ hpos]
  clear EN YES NO b2 h0 HO hx hpos
  generalize ((vG eds).2:Int)=zz at *
  go_wp2_with fail
  go_ret2
  exact Y.out
 clear EN YES NO b2 h0 HO
 go_wp2_with fail
 go_ret2
 exact Y.out
end
namespace Bk
attribute [local go_sem] jmk
structure jbx(w:World):Prop where
 tabs:Tabs w
 max:Hd.MaxL w
theorem jbx.below{w w':World}{N:Nat}(h:jbx w)(hb:Below N w w')(hN:w.heap.size<=N):jbx w':=⟨h.tabs.below hb hN,h.max.below hb hN⟩
theorem jbx.nums{w:World}(h:jbx w):Fr.TabsN w:=⟨h.tabs.pow,h.tabs.syn,h.tabs.ran⟩
theorem jbx.tab{w:World}(h:jbx w):Hd.Tab w:=⟨h.nums,h.max⟩
def Dc(b:List UInt8):Bool:=(jcK b).isSome
def Zz(b:List UInt8):List Ed:=(jcK b).getD []
def jkp(n:Nat):Value:=.int .i64 (n:Int)
def KA(n:Nat)(base:List UInt8)(bv ev:Value)(tail:List UInt8):Value:=.agg #[.int .i64 (n:Int),.string (B base),bv,ev,.string (B tail)]
theorem Jf{lo lo' n sz:Nat}{w w':World}{v u:Value}{eds:List Ed}{fvs xs:List Value}{t:TypeId}(h:ZI lo w v eds fvs)(hu:w.ownsRow lo' t sz u n xs)(t1:t≠63)(t2:t≠155)(o:jt (fun r=>u.ownBlock=some r) w w'):ZI lo w' v eds fvs :=
 ⟨jH h.row o (fun b e q=>qf hu h.row t1 b q e),h.len,fun i ed fv h1 h2=>jH (h.each i ed fv h1 h2) o (fun b e q=>qf hu (h.each i ed fv h1 h2) t2 b q e)⟩
theorem jgg{lo:Nat}{w w':World}{v:Value}{eds:List Ed}{fvs:List Value}{t:TypeId}{b:Nat}{cur:Array Value}(h:ZI lo w v eds fvs)(hc:ja w b t cur)(t1:63≠t)(t2:155≠t)(o:jt (· = b) w w'):ZI lo w' v eds fvs :=
 ⟨jH h.row o (fun r e q=>jy h.row hc t1 (by rw[e,q])),h.len,fun i ed fv h1 h2=>jH (h.each i ed fv h1 h2) o (fun r e q=>jy (h.each i ed fv h1 h2) hc t2 (by rw[e,q]))⟩
structure XE(lo:Nat)(w:World)(bv:Value)(bds:List (List UInt8))(us:List Value):Prop where
 row:w.ownsRow lo 22 1 bv bds.length us
 each:∀(i:Nat) b u,bds[i]?=some b->us[i]?=some u->∃fvs,ZI lo w u (Zz b) fvs
theorem XE.len{lo:Nat}{w:World}{bv:Value}{bds:List (List UInt8)}{us:List Value}(h:XE lo w bv bds us):us.length=bds.length:=by have:=h.row.1;omega
theorem XE.below{lo:Nat}{w w':World}{bv:Value}{bds:List (List UInt8)}{us:List Value}(h:XE lo w bv bds us)(hb:Below w.heap.size w w'):XE lo w' bv bds us :=
 ⟨zy h.row hb (jma _),fun i b u h1 h2=>by
  obtain⟨fvs,ho⟩:=h.each i b u h1 h2
  exact⟨fvs,ho.below hb (jma _)⟩⟩
theorem XE.nil(lo:Nat)(w:World):XE lo w (.slice none 0 0) [] []:=⟨⟨rfl,.inl ⟨rfl,rfl⟩⟩,fun i b u h1 h2=>by simp at h1⟩
theorem XE.box{lo:Nat}{w w':World}{bv:Value}{bds:List (List UInt8)}{us:List Value}{t:TypeId}{b:Nat}{cur:Array Value}(h:XE lo w bv bds us)(hc:ja w b t cur)(t0:22≠t)(t1:63≠t)(t2:155≠t)(o:jt (· = b) w w'):XE lo w' bv bds us :=
 ⟨jH h.row o (fun r e q=>jy h.row hc t0 (by rw[e,q])),fun i x u h1 h2=>by
  obtain⟨fvs,ho⟩:=h.each i x u h1 h2
  exact⟨fvs,jgg ho hc t1 t2 o⟩⟩
theorem XE.beside{lo lo' n sz:Nat}{w w':World}{bv u:Value}{bds:List (List UInt8)}{us xs:List Value}{t:TypeId}(h:XE lo w bv bds us)(hu:w.ownsRow lo' t sz u n xs)(t0:t≠22)(t1:t≠63)(t2:t≠155)(o:jt (fun r=>u.ownBlock=some r) w w'):XE lo w' bv bds us :=
 ⟨jH h.row o (fun b e q=>qf hu h.row t0 b q e),fun i x v h1 h2=>by
  obtain⟨fvs,ho⟩:=h.each i x v h1 h2
  exact⟨fvs,Jf ho hu t1 t2 o⟩⟩
theorem XE.snoc{lo:Nat}{w w':World}{bv bv' u:Value}{bds:List (List UInt8)}{us:List Value}{b:List UInt8}{fvs:List Value}(h:XE lo w bv bds us)(hO:ZI lo w u (Zz b) fvs)(own:w'.ownsRow lo 22 1 bv' (bds.length+1) (us++[u]))(o:jt (fun r=>bv.ownBlock=some r) w w'):XE lo w' bv' (bds++[b]) (us++[u]):=by
 refine⟨by rw[jmb];exact own,fun i x v h1 h2 => ?_⟩
 rw[List.getElem?_append]at h1 h2
 rw[h.len]at h2
 split at h1
 ·rename_i hi
  rw[if_pos hi]at h2
  obtain⟨f,ho⟩:=h.each i x v h1 h2
  exact⟨f,Jf ho h.row (by decide) (by decide) o⟩
 rename_i hi
 rw[if_neg hi]at h2
 rw[List.getElem?_singleton]at h1 h2
 split at h1
 ·rename_i hz
  rw[if_pos hz]at h2
  obtain rfl:=jmf h1
  obtain rfl:=jmf h2
  exact⟨fvs,Jf hO h.row (by decide) (by decide) o⟩
 cases h1
structure yX(lo:Nat)(w:World)(v:Value)(n:Nat)(base:List UInt8)(bds:List (List UInt8))(tail:List UInt8):Prop where
 is:∃bv ev us,v=KA n base bv ev tail/\XE lo w bv bds us/\w.ownsRow lo 3 1 ev bds.length ((qq (hl n+base.length) bds).map jkp)
theorem yX.below{lo:Nat}{w w':World}{v:Value}{n:Nat}{base tail:List UInt8}{bds:List (List UInt8)}(h:yX lo w v n base bds tail)(hb:Below w.heap.size w w'):yX lo w' v n base bds tail:=by
 obtain⟨bv,ev,us,h1,h2,h3⟩:=h.is
 exact⟨bv,ev,us,h1,h2.below hb,zy h3 hb (jma _)⟩
theorem jiH(n:Nat):Hd.lenP n=hl n:=rfl
theorem KK{lo:Nat}{w:World}{v:Value}{n:Nat}{base tail:List UInt8}{bds:List (List UInt8)}(h:yX lo w v n base bds tail)(hs:zG n base bds<=1000000)(ht:jbx w):
  Calls prog 70 #[v] w fun e w'=>e=.returned (.int .i64 (zG n base bds:Nat))/\Below w.heap.size w w':=by
 obtain⟨bv,ev,us,rfl,hB,hE⟩:=h.is
 obtain⟨ba,bc,rfl,_⟩:=jf hB.row
 have hEE:=hE
 obtain⟨ea,ec,rfl,hele⟩:=jf hE
 obtain⟨w1,hw1⟩:∃z,w.alloc (.cells #[.int .i64 (n:Int),.string (B base),.slice ba bds.length bc,.slice ea bds.length ec,.string (B tail)] 73)=z:=⟨_,rfl⟩
 have hb1:Below w.heap.size w w1:=by rw[<- hw1];exact(jmc _ w).alloc (jma _) _
 have C1:ja w1 w.heap.size 73 #[.int .i64 (n:Int),.string (B base),.slice ba bds.length bc,.slice ea bds.length ec,.string (B tail)]:=by rw[<- hw1];exact ja.new _ _ _
 have hE1:=zy hE hb1 (jma _)
 have hsz:(B base).size=base.length:=jq base
 have hwh:zG n base bds=hl n+base.length+(bds.flatMap Fr.fullR).length:=rfl
 have HB1:=jl9 hb1
 have HW1:=jl9 hw1
 unfold KA
 by_cases h0:bds.length=0
 ·have hbn:bds=[]:=List.length_eq_zero_iff.1 h0
  subst hbn
  have hq:hl n+base.length<=1000000:=by simpa [zG]using hs
  have hwq:zG n base []=hl n+base.length:=by simp[zG]
  rw[hwq]
  have HVAL:Hid (Value.int .i64 (IntKind.i64.wrap (((hl n:Nat):Int)+((B base).size:Int)))=.int .i64 ((hl n+base.length:Nat):Int)):=by
   show _=_
   rw[hsz]
   congr 1
   rw[jmU _ (by omega)]
   omega
  have LEN:Hid (∀W,Below w1.heap.size w1 W->Calls prog 97 #[.int .i64 (n:Int)] W fun e w'=>e=.returned (.int .i64 (hl n:Nat))/\Below W.heap.size W w'):=fun W hW=>Hd.lenP_call n W ((ht.below hb1 (jma _)).below hW (jma _)).tab
  have DR:Hid (Below w1.heap.size w1 w1.drew):=(jmc _ _).drew
  have HC:=jl9 C1
  have k0:=C1.cell 0
  have k1:=C1.cell 1
  have k3:=C1.cell 3
  simp only[jmh,jmm,jmg]at k0 k1 k3
  have e0:([]:List (List UInt8)).length=0:=rfl
  simp only[e0]at *
  rw[<- hw1]at k3
  clear h hB hE hEE hE1 ht hb1 C1 hw1 hwh hwq h0
  go_enter func70,ntmps70
  go_wp2_with fail
  rw[HW1.out]
  go_region_law (go_simp;go_at_call 97;refine(LEN.out _ DR.out).mono ?_;rintro e w5 ⟨rfl,hb5⟩;have kk:=jd HC.out (DR.out.trans hb5) HC.out.lt;have t1:=kk.cell 1;simp only[jmh,jmm,jmg]at t1;have HB5:=jl9 (DR.out.trans hb5);clear hb5 kk)
  all_goals go_wp2_with fail
  all_goals
   go_ret
   exact⟨congrArg Ending.returned HVAL.out,HB1.out.trans (HB5.out.mono HB1.out.size)⟩
 have hne:bds≠[]:=fun e=>h0 (by rw[e];rfl)
 obtain⟨g,cap,hug⟩:=jnv hE1 (by omega)
 have hlast:=Kj (hl n+base.length) bds hne
 have hcell:∃g,ea=some ⟨g,0,none⟩/\w1.cell? ⟨g,bds.length-1,none⟩=some (.int .i64 (zG n base bds:Nat)):=by
  have hrow:=hE1
  rw[hug]at hrow
  cases hug
  refine⟨g,rfl,?_⟩
  rw[jmG hrow (bds.length-1) (by omega),jmC,hlast]
  rfl
 obtain⟨g',rfl,hc⟩:=hcell
 have hpos:(0:Int)<(bds.length:Int):=by omega
 have hbl:bds.length<=1000000:=by have:=KB bds;omega
 have hcast:((bds.length:Int)-1)=((bds.length-1:Nat):Int):=by omega
 have hwr:IntKind.i64.wrap ((bds.length:Int)-1)=((bds.length-1:Nat):Int):=by rw[hcast];exact jmU _ (by omega)
 have hin:((bds.length-1:Nat):Int)<(bds.length:Int):=by omega
 have k3:=C1.cell 3
 simp only[jmh,jmm,jmg]at k3
 rw[<- hw1]at k3 hc
 generalize zG n base bds=W at *
 generalize bds.length-1=j at *
 generalize bds.length=m at *
 clear h hB hE hEE hE1 ht hb1 C1 hw1 hwh hlast hcast
 go_enter func70,ntmps70
 go_wp2_with fail
 go_ret
 exact⟨rfl,by rw[HW1.out];exact HB1.out⟩
end Bk
end Go.Proofs.YtpibhbjmcmfnmaaGreatDoor
