/- Texts put together:PX,PY,GD,PZ,TF,FO,TB,TC,FP,FQ,FR,TD,TE,TL. -/
import Derived.Test.YtimfhnfcmhmjcaaGreatDoorBgr7
set_option linter.unusedVariables false
set_option maxRecDepth 100000
set_option maxHeartbeats 16000000
namespace Go.Proofs.YtimfhnfcmhmjcaaGreatDoor
abbrev jjJ:=@Go.WideShapes.add_plain
abbrev jjW:=@Go.World.cells?_some
abbrev jkm:=@List.filter_append
abbrev jkp:=@Go.World.block_lt_of_cell?
abbrev jkC:=@Option.map_some
end Go.Proofs.YtimfhnfcmhmjcaaGreatDoor
namespace Go.Proofs.YtimfhnfcmhmjcaaGreatDoor
open Go.RowKit Go.Shelf
theorem Gw{w:World}{ad:Addr}{fs:List Fld}{cap:Nat}(hc:∀(i:Nat) (f:List UInt8×List UInt8),fs[i]?=some f->∃b off,some ad=some (⟨b,off,none⟩:Addr)/\b<w.heap.size/\w.cell? ⟨b,off+i*2,none⟩=some (.string (B f.1))/\w.cell? ⟨b,off+i*2+1,none⟩=some (.string (B f.2)))(o:Obj):
  ∀(j:Nat) u,(js fs)[j]?=some u->(w.alloc o).cell? (ad.add j)=some u:=by
 intro j u hu
 have hj:j<(js fs).length:=by
  rcases jiK j (js fs).length with q|q
  ·exact q
  rw[jiW q]at hu;cases hu
 rw[yE]at hj
 have hi2:j / 2<fs.length:=by omega
 obtain⟨f,hf⟩:∃f,fs[j / 2]?=some f:=⟨_,jim hi2⟩
 obtain⟨b,off,e,hbb,c0,c1⟩:=hc _ f hf
 obtain⟨a1,a2⟩:=ZW fs _ f hf
 cases e
 rw[jjJ,jjZ _ _ _ (jkA hbb)]
 rcases Nat.mod_two_eq_zero_or_one j with h|h
 ·have ej:j=j / 2*2:=by omega
  rw[<- ej]at a1 c0
  rw[c0,<- hu,a1]
 have ej:j=j / 2*2+1:=by omega
 rw[jjE,<- ej]at c1
 rw[<- ej]at a2
 rw[c1,<- hu,a2]
theorem jg7(w:World):(binOp BinOp.eql 78 (.slice none 0 0) (.slice none 0 0)).run Tryz.prog w=.ok (.bool true) w:=by kernel_rfl
theorem jf7(ad:Addr)(n c:Nat)(w:World):(binOp BinOp.eql 78 (.slice (some ad) n c) (.slice none 0 0)).run Tryz.prog w=.ok (.bool false) w:=by kernel_rfl
attribute [local go_sem] jg7 jf7
theorem vB(fs:List Fld)(v:Value)(w:World)(hs:yH w v fs)(hnil:∀n c,v=.slice none n c->c=0)(hn:fs.length<=1000000):
  Calls Tryz.prog 83 #[v] w fun e w'=>∃v',e=.returned v'/\w'.ownsRow w.heap.size 155 2 v' fs.length (js fs)/\Below w.heap.size w w':=by
 obtain⟨A,cap,rfl,hle,hc⟩:=hs
 obtain⟨i0,hi,hz0,hz1,hz2⟩:=info_parts Kq
 cases A with
 | none =>
  have he:fs=[]:=by
   cases fs with
   | nil=>rfl
   | cons a r=>obtain⟨b,off,e,_⟩:=hc 0 a rfl;cases e
  have hc0:=hnil _ _ rfl
  subst hc0
  subst he
  simp only[jiJ]
  go_enter Tryz.func83,Tryz.ntmps83
  go_wp2_with fail
  go_ret
  exact⟨_,rfl,⟨rfl,.inl ⟨rfl,rfl⟩⟩,jil _ _⟩
 | some ad =>
 have hoN:(w.alloc (.cells #[] 155)).ownsRow w.heap.size 155 2 (.slice (some ⟨w.heap.size,0,none⟩) 0 0) 0 []:=World.ownsRow_lit w #[] 0 (jij _) (by decide) rfl
 have hba:=(jil w.heap.size w).alloc (jij _) (.cells #[] 155)
 have HC:=jii (Gw (cap:=cap) hc (.cells #[] 155))
 have hone:∀u∈js fs,u.oneCell'=true:=by
  intro u hu
  unfold js at hu
  simp at hu
  obtain⟨a,b,_,h|h⟩:=hu<;>subst h<;>rfl
 have HL:=yE fs
 clear hc
 generalize js fs=cf at *
 go_enter Tryz.func83,Tryz.ntmps83
 go_wp2_with (at_builtin;refine wpList_append_own _ rfl _ _ 78 rfl w.heap.size 155 i0 _ 2 32 Tryz.underlying78 hi hz0 hz1 hz2 rfl (by decide) _ 0 [] rfl hoN ad fs.length cap cf rfl HL HC.out hone ?c3 ?c4 ?c5 ?_)
 case c3=>unfold maxLen;omega
 case c4=>omega
 case c5=>simp
 intro v' w3 hown' hgrow _
 have hb3:Below w.heap.size w w3:=hba.grown hgrow (by simp) (fun j ej=>(jjr hoN j ej).1)
 go_wp2_with fail
 go_ret
 exact⟨_,rfl,hown',hb3⟩
def JW(its:List It):List (List Fld):=(its.filter fun it=>it.kind==3).map It.fields
theorem jbh(its:List It)(k:Nat)(it:It)(h:its[k]?=some it):JW (its.take (k+1))=JW (its.take k)++if it.kind=3 then [it.fields] else []:=by
 unfold JW
 rw[jiU,h]
 simp only[Option.toList_some,jkm,jjh]
 congr 1
 by_cases hk:it.kind=3
 ·simp[hk]
 simp[hk]
theorem jdm(its:List It):(JW its).length<=its.length:=by unfold JW;rw[jiQ];exact List.length_filter_le _ _
theorem jdU:(Tryz.prog.info? 78).map (fun i=>(i.zero,i.size,i.bytes))=some (some (.slice none 0 0),1,24):=by kernel_rfl
structure jaL(w wr:World)(v:Value)(vs:List Value)(rs:List (List Fld)):Prop where
 row:wr.ownsRow w.heap.size 78 1 v vs.length vs
 len:vs.length=rs.length
 each:∀(j:Nat) x r,vs[j]?=some x->rs[j]?=some r->wr.ownsRow w.heap.size 155 2 x r.length (js r)
 below:Below w.heap.size w wr
theorem Kc{α:Type}{l:List α}{a x:α}{j:Nat}(h:(l++[a])[j]?=some x):(j<l.length/\l[j]?=some x)\/(j=l.length/\x=a):=by
 rcases jiK j l.length with q|q
 ·rw[jiH q]at h;exact .inl ⟨q,h⟩
 rw[jiE q]at h
 have hz:j-l.length=0:=by
  rcases jkj (j-l.length) with z|z
  ·exact z
  rw[jiW (by simp;omega)]at h;cases h
 rw[hz]at h
 cases h
 exact .inr ⟨by omega,rfl⟩
theorem jaL.start(w:World):jaL w w (.slice none 0 0) [] []:=⟨⟨rfl,.inl ⟨rfl,rfl⟩⟩,rfl,fun j x r h=>by simp at h,jil _ _⟩
theorem jaL.kept{w wr w2:World}{v:Value}{vs:List Value}{rs:List (List Fld)}(h:jaL w wr v vs rs)(hb:Below wr.heap.size wr w2):jaL w w2 v vs rs :=
 ⟨zl h.row hb (jij _),h.len,fun j x r h1 h2=>zl (h.each j x r h1 h2) hb (jij _),h.below.trans (hb.mono h.below.size)⟩
theorem jgJ{W w3:World}{lo:Nat}{v x:Value}{n m:Nat}{xs ys:List Value}(hv:W.ownsRow lo 78 1 v n xs)(hx:W.ownsRow lo 155 2 x m ys)(hg:W.grownBy w3 v.ownBlock):w3.ownsRow lo 155 2 x m ys:=by
 refine jP hx fun b hb=>hg.block b (hx.lt b hb).2 (fun e => ?_)
 rcases hx.2 with ⟨rfl,_⟩|⟨g,cap,cur,rfl,_,hc,_⟩
 ·cases hb
 cases hb
 rcases hv.2 with ⟨rfl,_⟩|⟨g',cap',cur',rfl,_,hc',_⟩
 ·cases e
 have:g=g':=jip e
 subst this
 rw[hc]at hc'
 injection hc' with hc'
 injection hc' with _ h2 _
 exact absurd h2 (by decide)
theorem jaL.snoc{w W w3:World}{v v' x:Value}{vs:List Value}{rs:List (List Fld)}{r:List Fld}(h:jaL w W v vs rs)(hx:W.ownsRow w.heap.size 155 2 x r.length (js r))(ho:w3.ownsRow w.heap.size 78 1 v' (vs.length+1) (vs++[x]))(hg:(W.alloc (.cells #[x] 78)).grownBy w3 v.ownBlock):jaL w w3 v' (vs++[x]) (rs++[r]):=by
 have h':=h.kept ((jil W.heap.size W).alloc (jij _) (.cells #[x] 78))
 have hx':=zl hx ((jil W.heap.size W).alloc (jij _) (.cells #[x] 78)) (jij _)
 refine⟨by rw[jik];exact ho,by simp[h.len],fun j y s hy hs => ?_,h'.below.grown hg h'.below.size (fun k e=>(h.row.lt k e).1)⟩
 rcases Kc hy with ⟨q,hy⟩|⟨q,rfl⟩
 ·rw[jiH (by rw[<- h.len];exact q)]at hs
  exact jgJ h'.row (h'.each j y s hy hs) hg
 rw[q,h.len,jiE (jij _)]at hs
 simp at hs
 subst hs;exact jgJ h'.row hx' hg
theorem je3(W:World)(x:Value)(t:TypeId):∀(j:Nat) u,[x][j]?=some u->(W.alloc (.cells #[x] t)).cell? ((⟨W.heap.size,0,none⟩:Addr).add j)=some u:=jV W t [x]
theorem Zl(its:List It)(v:Value)(w:World)(h:Its w v its)(hnil:je0 w v its)(hn:its.length<=1000000)(hf:∀it∈its,it.fields.length<=1000000):
  Calls Tryz.prog 253 #[v] w fun e w'=>∃u vs,e=.returned u/\jaL w w' u vs (JW its):=by
 obtain⟨i0,hi,hz0,hz1,hz2⟩:=info_parts jdU
 have NI:=jii hnil
 have HF:=jii hf
 obtain⟨A,cap,rfl,hle,hc⟩:=h
 have HC:=jii hc
 clear hc hnil hf
 go_enter Tryz.func253,Tryz.ntmps253
 go_wp2_with fail
 go_loopw [3,8] (fun u i wr=>∃(k:Nat) (vs:List Value),k<=its.length/\i=.int .i64 k/\jaL w wr u vs (JW (its.take k))) (fun _ i _=>its.length-(intOf i).toNat)
 case atStart=>exact⟨0,[],jiD _,rfl,jaL.start w⟩
 case round =>
 obtain⟨k,vs,hk,rfl,hacc⟩:=hrel
 by_cases hlt:k<its.length
 ·obtain⟨it,hit⟩:∃it,its[k]?=some it:=⟨_,jim hlt⟩
  obtain⟨b,off,fv,rfl,hbb,c0,c1,c2,hfl⟩:=HC.out k it hit
  have hb:=hacc.below
  have hlb:=hb.size
  have rl:=jdm (its.take k)
  rw[jiq]at rl
  have hvl:vs.length<=1000000:=by rw[hacc.len];omega
  obtain⟨fa,fc,rfl,_,_⟩:=id hfl
  have hnl:∀n c,Value.slice fa it.fields.length fc=.slice none n c->c=0:=fun n c e=>by
   cases e
   exact NI.out k b off _ _ _ _ rfl hlt c2
  replace c0:=(hb.cell (p:=⟨b,off+k*3,none⟩) hbb).trans c0
  replace c1:=(hb.cell (p:=⟨b,off+k*3+1,none⟩) hbb).trans c1
  replace c2:=(hb.cell (p:=⟨b,off+k*3+1+1,none⟩) hbb).trans c2
  have SN:=jii (jbh its k it hit)
  by_cases hk3:it.kind=3
  ·have hfw:=(hfl.below hb (jij _)).below ((jil wr.heap.size wr).alloc (jij _) (.cells #[.int .i64 it.kind,.string (B it.raw),.slice fa it.fields.length fc] 111)) (jij _)
   have CL:=jii (vB it.fields _ _ hfw hnl (HF.out it (jiA hit)))
   have hba:=(jil wr.heap.size wr).alloc (jij _) (.cells #[.int .i64 it.kind,.string (B it.raw),.slice fa it.fields.length fc] 111)
   have ACC:=jii (hacc.kept hba)
   rw[hk3]at c0 CL ACC
   clear hacc hit hfl HC hfw hba hnl NI HF
   go_wp2_with fail
   refine CL.out.mono ?_
   rintro e w2 ⟨x,rfl,hx,b2⟩
   have acc2:=ACC.out.kept b2
   have hx2:w2.ownsRow w.heap.size 155 2 x it.fields.length (js it.fields):=jC hx (by simp;omega)
   have hrow:=acc2.row
   have ACC2:=jii acc2
   have HX2:=jii hx2
   have hlb2:=acc2.below.size
   obtain⟨xa,xc,hxe,_⟩:=je hx
   subst hxe
   have HV:=jii (je3 w2 (.slice xa it.fields.length xc) 78)
   clear acc2 CL ACC b2 hx hx2
   go_wp2_with (at_builtin;refine wpList_append_own _ rfl _ _ 325 rfl w.heap.size 78 i0 _ 1 24 Tryz.underlying325 hi hz0 hz1 hz2 rfl (by decide) _ _ _ rfl (hrow.alloc _) ⟨w2.heap.size,0,none⟩ 1 1 _ rfl rfl HV.out ?c2 ?c3 ?c4 ?c5 ?_)
   case c2=>intro u hu;simp at hu;subst hu;rfl
   case c3=>unfold maxLen;omega
   case c4=>omega
   case c5=>simp;omega
   intro v' w3 hown' hgrow _
   have hacc3:=ACC2.out.snoc HX2.out hown' hgrow
   obtain⟨g',cap',rfl⟩:=ownsRow_succ hown'
   go_wp2_with fail
   go_roundw
   case rel=>exact⟨k+1,_,hlt,by go_num,by rw[SN.out,if_pos hk3];exact hacc3⟩
   case measure=>simp[intOf];omega
  have hk2:((it.kind:Int)==3)=false:=beq_eq_false_iff_ne.2 (by omega)
  have ACC:=jii (hacc.kept ((jil wr.heap.size wr).alloc (jij _) (.cells #[.int .i64 it.kind,.string (B it.raw),.slice fa it.fields.length fc] 111)))
  clear hacc hit hfl HC hnl NI HF
  go_wp2_with fail
  go_roundw
  case rel=>exact⟨k+1,vs,hlt,by go_num,by rw[SN.out,if_neg hk3,jiO];exact ACC.out⟩
  case measure=>simp[intOf];omega
 obtain rfl:k=its.length:=by omega
 rw[jiL]at hacc
 clear HC NI HF
 go_wp2_with fail
 go_ret
 exact⟨_,vs,rfl,hacc⟩
end Go.Proofs.YtimfhnfcmhmjcaaGreatDoor
namespace Go.Proofs.YtimfhnfcmhmjcaaGreatDoor
open Go.RowKit Go.Shelf
end Go.Proofs.YtimfhnfcmhmjcaaGreatDoor
namespace Go.Proofs.YtimfhnfcmhmjcaaGreatDoor
open Go.RowKit Go.Shelf Go.Maps Go.ChangeShapes Go.Joins Go.WideShapes
theorem jhg{cs:List Value}(h:cs.length=2):∃c0 c1,cs=[c0,c1]:=by
 match cs,h with
 | [c0,c1],_=>exact⟨_,_,rfl⟩
theorem jeQ{H:Type}{enc:TypeId×Value->H}{W:World}{base:Nat}{sp:Nat->Bool}{held:Bool}{fuel:Nat}{cs:List Value}{x:DataW H×List MemPlace}(h:DataW.trod enc Tryz.prog W base sp held fuel 155 cs=some x):
  ∃f:List UInt8×List UInt8,cs=[.string (B f.1),.string (B f.2)]/\f.1.length<=maxLen/\f.2.length<=maxLen:=by
 obtain⟨xs,m,_,_,hl,hxl,hf⟩:=DataW.trod_struct Tryz.underlying155 h
 have hl2:cs.length=2:=hl.trans (by kernel_rfl)
 obtain⟨c0,c1,rfl⟩:=jhg hl2
 have k9:Tryz.prog.cellsOf 9=1:=by kernel_rfl
 have hx:∀i,i<2->∃y,xs[i]?=some y:=fun i hi=>⟨_,jim (by rw[hxl];exact hi)⟩
 obtain⟨y0,e0⟩:=hx 0 (by decide)
 obtain⟨y1,e1⟩:=hx 1 (by decide)
 have q0:DataW.trod enc Tryz.prog W base sp held m 9 (List.take (Tryz.prog.cellsOf 9) [c0,c1])=_:=hf 0 _ rfl
 have q1:DataW.trod enc Tryz.prog W base sp held m 9 (List.take (Tryz.prog.cellsOf 9) [c1])=_:=hf 1 _ rfl
 rw[k9,e0]at q0
 rw[k9,e1]at q1
 obtain⟨s,f0,_,w0⟩:=DataW.trod_string Tryz.underlying9 q0
 obtain⟨t,f1,_,w1⟩:=DataW.trod_string Tryz.underlying9 q1
 simp at f0 f1
 subst f0 f1
 exact⟨(s.data.toList,t.data.toList),by rw[jc4,jc4],by rw[<- jiV];exact w0,by rw[<- jiV];exact w1⟩
theorem jf0{H:Type}{enc:TypeId×Value->H}{W:World}{base:Nat}{sp:Nat->Bool}{held:Bool}{fuel:Nat}{v:Value}{x:DataW H×List MemPlace}(h:DataW.trod enc Tryz.prog W base sp held fuel 78 [v]=some x):
  ∃fs,JL W v fs:=by
 rcases DataW.trod_slice Tryz.underlying78 h with ⟨e,_⟩|⟨a,len,cap,elems,rest,n,_,e,_,_,hl,hm,hlen,hel,_,_⟩
 ·obtain rfl:v=.slice none 0 0:=by simpa using e
  exact⟨[],⟨⟨none,0,rfl,jij _,fun i f h=>by simp at h⟩,fun n c h=>by cases h;rfl,jiD _,fun f hf=>by cases hf⟩⟩
 obtain rfl:v=.slice (some a) len cap:=by simpa using e
 have k2:Tryz.prog.cellsOf 155=2:=by kernel_rfl
 have each:∀i,i<len->∃f:List UInt8×List UInt8,(∃b off,a=⟨b,off,none⟩/\b<W.heap.size/\W.cell? ⟨b,off+i*2,none⟩=some (.string (B f.1))/\W.cell? ⟨b,off+i*2+1,none⟩=some (.string (B f.2)))/\f.1.length<=maxLen/\f.2.length<=maxLen:=by
  intro i hi
  have h1:=hel i hi
  rw[k2,jim (by omega)]at h1
  obtain⟨cs,hc,ht⟩:=Option.bind_eq_some_iff.1 h1
  obtain⟨f,rfl,hf1,hf2⟩:=jeQ ht
  obtain⟨_,_,hat⟩:=jjW hc
  have c0:=hat 0 (by decide)
  have c1:=hat 1 (by decide)
  obtain⟨b,off,spot⟩:=a
  have hspot:spot=none:=by
   have h2:=hel 0 (by omega)
   rw[k2,jim (by omega)]at h2
   obtain⟨cs',hc',ht'⟩:=Option.bind_eq_some_iff.1 h2
   obtain⟨f',rfl,_⟩:=jeQ ht'
   obtain⟨_,hlen',hat'⟩:=jjW hc'
   have:=World.cell?_spot (hat' 0 (by decide))
   simpa [Addr.add]using this
  subst hspot
  rw[jjJ]at c0 c1
  exact⟨f,⟨b,off,rfl,jkp W _ c0,c0,c1⟩,hf1,hf2⟩
 have:∃g:Nat->List UInt8×List UInt8,∀i,i<len->(∃b off,a=⟨b,off,none⟩/\b<W.heap.size/\W.cell? ⟨b,off+i*2,none⟩=some (.string (B (g i).1))/\W.cell? ⟨b,off+i*2+1,none⟩=some (.string (B (g i).2)))/\(g i).1.length<=maxLen/\(g i).2.length<=maxLen:=by
  refine⟨fun i=>if h:i<len then (each i h).choose else ([],[]),fun i hi => ?_⟩
  simp only[dif_pos hi]
  exact(each i hi).choose_spec
 obtain⟨g,hg⟩:=this
 have hll:((List.range len).map g).length=len:=by simp
 refine⟨(List.range len).map g,⟨⟨some a,cap,by rw[hll],by rw[hll];exact hl,fun i f hf => ?_⟩,(fun n c h=>by cases h),by rw[hll];omega,fun f hf => ?_⟩⟩
 ·have hi:i<len:=by
   rcases jiK i len with q|q
   ·exact q
   rw[jiW (by rw[hll];exact q)]at hf;cases hf
  have e:f=g i:=by
   rw[ji9,List.getElem?_range hi]at hf
   exact(jip hf).symm
  subst e
  obtain⟨b,off,ea,hb,c0,c1⟩:=(hg i hi).1
  exact⟨b,off,by rw[ea],hb,c0,c1⟩
 obtain⟨i,hi,rfl⟩:=List.mem_map.1 hf
 exact(hg i (List.mem_range.1 hi)).2
theorem jeX{cs:List Value}(h:cs.length=3):∃c0 c1 c2,cs=[c0,c1,c2]:=by
 match cs,h with
 | [c0,c1,c2],_=>exact⟨_,_,_,rfl⟩
theorem GR {w : World} {base : Nat} {v : Value} {its : List It} {fvs : List Value} (h : w.ownsRow base 111 3 v its.length (jN its fvs)) (hl : fvs.length = its.length) (he : ∀ (j : Nat) it x, its[j]? = some it -> fvs[j]? = some x -> yH w x it.fields) : Its w v its := by
  rcases jjd h with ⟨e, hn⟩ | ⟨g, cap, e⟩
  . have : its = [] := List.length_eq_zero_iff.1 hn
    rw [e, this]
    exact ⟨none, 0, rfl, jij _, fun i it hi => by simp at hi⟩
  refine ⟨some ⟨g, 0, none⟩, cap, e, (by rcases h.2 with ⟨q, _⟩ | ⟨g', cap', cur, q, _, _, q2, _⟩; · rw [e] at q; cases q
                                         rw [e] at q; cases q; exact q2), fun i it hi => ?_⟩
  have hlt : i < its.length := by
    rcases jiK i its.length with q | q
    . exact q
    rw [jiW q] at hi; cases hi
  obtain ⟨fv, hfv⟩ : ∃ fv, fvs[i]? = some fv := ⟨_, jim (by rw [hl]; exact hlt)⟩
  obtain ⟨a0, a1, a2⟩ := qh _ _ i it fv hi hfv
  rw [e] at h
  refine ⟨g, 0, fv, rfl, (jjr h g rfl).2, ?_, ?_, ?_, he i it fv hi hfv⟩
  . rw [jiP, jiG h (i * 3) (by omega)]; exact a0
  . rw [jiP, jiG h (i * 3 + 1) (by omega)]; exact a1
  rw [jiP, jiG h (i * 3 + 1 + 1) (by omega)]; exact a2
structure Qr(w wr:World)(v:Value)(fvs:List Value)(its:List It):Prop where
 row:wr.ownsRow w.heap.size 111 3 v its.length (jN its fvs)
 len:fvs.length=its.length
 each:∀(j:Nat) it x,its[j]?=some it->fvs[j]?=some x->wr.ownsRow w.heap.size 155 2 x it.fields.length (js it.fields)
 below:Below w.heap.size w wr
theorem Qr.its{w wr:World}{v:Value}{fvs:List Value}{its:List It}(h:Qr w wr v fvs its):Its wr v its :=
 GR h.row h.len fun j it x h1 h2=>vR (h.each j it x h1 h2)
theorem Qr.nil{w wr:World}{v:Value}{fvs:List Value}{its:List It}(h:Qr w wr v fvs its):je0 wr v its:=by
 intro i b off n cap m c e hlt hcell
 obtain⟨it,hi⟩:∃it,its[i]?=some it:=⟨_,jim hlt⟩
 obtain⟨fv,hfv⟩:∃fv,fvs[i]?=some fv:=⟨_,jim (by rw[h.len];exact hlt)⟩
 obtain⟨_,_,a2⟩:=qh _ _ i it fv hi hfv
 have hr:=h.row
 rcases jjd hr with ⟨e',hn⟩|⟨g,cap',e'⟩
 ·omega
 rw[e']at e hr
 cases e
 rw[jiP,jiG hr (i*3+1+1) (by omega),a2]at hcell
 cases hcell
 rcases(h.each i it _ hi hfv).2 with ⟨q,_⟩|⟨g',cap',cur,q,_⟩
 ·cases q;rfl
 cases q
theorem Qr.kept{w wr w2:World}{v:Value}{fvs:List Value}{its:List It}(h:Qr w wr v fvs its)(hb:Below wr.heap.size wr w2):Qr w w2 v fvs its :=
 ⟨zl h.row hb (jij _),h.len,fun j it x h1 h2=>zl (h.each j it x h1 h2) hb (jij _),h.below.trans (hb.mono h.below.size)⟩
theorem jgK{W w3:World}{lo:Nat}{v x:Value}{n m:Nat}{xs ys:List Value}(hv:W.ownsRow lo 111 3 v n xs)(hx:W.ownsRow lo 155 2 x m ys)(hg:W.grownBy w3 v.ownBlock):w3.ownsRow lo 155 2 x m ys:=by
 refine jP hx fun b hb=>hg.block b (hx.lt b hb).2 (fun e => ?_)
 rcases hx.2 with ⟨rfl,_⟩|⟨g,cap,cur,rfl,_,hc,_⟩
 ·cases hb
 cases hb
 rcases hv.2 with ⟨rfl,_⟩|⟨g',cap',cur',rfl,_,hc',_⟩
 ·cases e
 have:g=g':=jip e
 subst this
 rw[hc]at hc'
 injection hc' with hc'
 injection hc' with _ h2 _
 exact absurd h2 (by decide)
theorem Qr.snoc{w W w3:World}{v v' x:Value}{fvs:List Value}{its:List It}{it:It}(h:Qr w W v fvs its)(hx:W.ownsRow w.heap.size 155 2 x it.fields.length (js it.fields))(ho:w3.ownsRow w.heap.size 111 3 v' (its.length+1) (jN its fvs++[.int .i64 it.kind,.string (B it.raw),x]))(o:Obj)(hg:(W.alloc o).grownBy w3 v.ownBlock):Qr w w3 v' (fvs++[x]) (its++[it]):=by
 have h':=h.kept ((jil W.heap.size W).alloc (jij _) o)
 have hx':=zl hx ((jil W.heap.size W).alloc (jij _) o) (jij _)
 refine⟨by rw[jik,vd _ _ _ _ h.len];exact ho,by simp[h.len],fun j y s hy hs => ?_,h'.below.grown hg h'.below.size (fun k e=>(h.row.lt k e).1)⟩
 rcases Kc hy with ⟨q,hy⟩|⟨q,rfl⟩
 ·rw[jiH (by rw[h.len];exact q)]at hs
  exact jgK h'.row (h'.each j y s hy hs) hg
 rw[q,<- h.len,jiE (jij _)]at hs
 simp at hs
 subst hs;exact jgK h'.row hx' hg
end Go.Proofs.YtimfhnfcmhmjcaaGreatDoor
namespace Go.Proofs.YtimfhnfcmhmjcaaGreatDoor
open Go.RowKit Go.Shelf
theorem Vs(its:List It)(k:Nat)(it:It)(h:its[k]?=some it):zb (its.take (k+1))=(zb (its.take k)++if Qj false (its.take k)=true/\it.kind≠1 then [⟨1,[10],[]⟩] else [])++[it]:=by
 have e:its.take (k+1)=its.take k++[it]:=by rw[jiU,h];rfl
 unfold zb
 rw[e,yM,jix]
 congr 1
theorem GL(b:Bool)(l:List It)(x:It):Qj b (l++[x])=(x.kind != 1):=by rw[JA];rfl
theorem jdL(its:List It)(k:Nat)(it:It)(h:its[k]?=some it):Qj false (its.take (k+1))=(it.kind != 1):=by
 have e:its.take (k+1)=its.take k++[it]:=by rw[jiU,h];rfl
 rw[e,GL]
theorem Qc:∀(b:Bool) (l:List It),(zG b l).length<=2*l.length
 | b,[]=>by simp[zG]
 | b,x::r=>by
  have ih:=Qc (x.kind != 1) r
  show((if _ then _ else _)++x::zG _ r).length<=_
  rw[jik,jin,jin]
  split
  ·simp only[jky];omega
  simp only[jiJ];omega
theorem XN(its:List It):(zb its).length<=2*its.length:=Qc _ _
theorem Qb:∀(b:Bool) (l:List It),∀x∈zG b l,x∈l\/x=⟨1,[10],[]⟩
 | b,[],x,h=>by simp[zG]at h
 | b,y::r,x,h=>by
  have h':x∈(if b=true/\y.kind≠1 then [(⟨1,[10],[]⟩:It)] else [])++y::zG (y.kind != 1) r:=h
  rcases List.mem_append.1 h' with h'|h'
  ·split at h'
   ·exact .inr (List.mem_singleton.1 h')
   cases h'
  rcases List.mem_cons.1 h' with rfl|h'
  ·exact .inl jis
  rcases Qb _ r x h' with q|q
  ·exact .inl (jir _ q)
  exact .inr q
theorem jcQ{its:List It}{x:It}(h:x∈zb its):x∈its\/x=⟨1,[10],[]⟩:=Qb _ _ _ h
theorem Qr.start(w:World):Qr w w (.slice none 0 0) [] []:=⟨⟨rfl,.inl ⟨rfl,rfl⟩⟩,rfl,fun j it x h=>by simp at h,jil _ _⟩
theorem jaQ(a b:Int)(r s f g:Value)(hr:r.oneCell'=true)(w:World)(n m c d:Nat)(fa ga:Option Addr)(x y:ByteArray)(h1:r=.string x)(h2:s=.string y)(h3:f=.slice fa n c)(h4:g=.slice ga m d):
  Calls Tryz.prog 141 #[.agg #[.int .i64 a,r,f],.agg #[.int .i64 b,s,g]] w fun e w'=>e=.returned (.bool (a != 1&&b != 1))/\Below w.heap.size w w':=by
 subst h1 h2 h3 h4
 have hb:Below w.heap.size w ((w.alloc (.cells #[.int .i64 a,.string x,.slice fa n c] 111)).alloc (.cells #[.int .i64 b,.string y,.slice ga m d] 111)):=((jil _ _).alloc (jij _) _).alloc (by simp) _
 cases ha:(a != 1) with
 | true =>
  cases hb2:(b != 1) <;>
  ·go_enter Tryz.func141,Tryz.ntmps141
   go_wp2_with fail
   go_ret
   exact⟨rfl,hb⟩
 | false =>
 go_enter Tryz.func141,Tryz.ntmps141
 go_wp2_with fail
 go_ret
 exact⟨rfl,hb⟩
end Go.Proofs.YtimfhnfcmhmjcaaGreatDoor
namespace Go.Proofs.YtimfhnfcmhmjcaaGreatDoor
open Go.RowKit Go.Shelf
attribute [local go_sem] zV
theorem WZ(fs:List (List UInt8×List UInt8))(v:Value)(w:World)(hs:yH w v fs)(hn:fs.length<=1000)(hl:∀f∈fs,f.1.length<=100000/\f.2.length<=100000):
  Calls Tryz.prog 90 #[v] w fun e w'=>e=.returned (.tuple #[.string (B (foldT fs)),xl (foldN fs)])/\Below w.heap.size w w':=by
 obtain⟨A,cap,rfl,hle,hc⟩:=hs
 have PC:=jii hc
 clear hc
 have B0:=Bld.new w (w.heap.size+1)
 go_enter Tryz.func90,Tryz.ntmps90
 go_wp2_with fail
 go_loopw [13] (fun i wr=>∃k:Nat,k<=fs.length/\i=.int .i64 k/\foldN fs=foldN (fs.drop k)/\Bld w.heap.size (w.heap.size+1) (jO (fs.take k)) wr/\(jO (fs.take k)).length<=4000*k/\Below w.heap.size w wr) (fun i _=>fs.length-(intOf i).toNat)
 case atStart=>exact⟨0,jiD _,rfl,rfl,B0,jij _,(jil _ _).alloc (jij _) _⟩
 case round =>
 obtain⟨k,hk,rfl,hN,hbl,hle4,hb⟩:=hrel
 by_cases hlt:k<fs.length
 ·obtain⟨f,hf⟩:∃f,fs[k]?=some f:=⟨_,jim hlt⟩
  obtain⟨b,off,rfl,hbb,c0,c1⟩:=PC.out k f hf
  replace c0:=(hb.cell (p:=⟨b,off+k*2,none⟩) hbb).trans c0
  replace c1:=(hb.cell (p:=⟨b,off+k*2+1,none⟩) hbb).trans c1
  obtain⟨hl1,hl2⟩:=hl f (jiA hf)
  have hdrop:fs.drop k=f::fs.drop (k+1):=by
   rw[jjp hlt]
   rw[jim hlt]at hf
   rw[jip hf]
  have htake:fs.take (k+1)=fs.take k++[f]:=by rw[jiU,hf];rfl
  rw[hdrop]at hN
  have NH:=jii hN
  have TH:=jii htake
  have hs1:=hb.size
  have hbs:=hbl.lt
  have HB:=jii (hbl.alloc (.cells #[.string (B f.1),.string (B f.2)] 155))
  have hba:=hb.alloc hs1 (.cells #[.string (B f.1),.string (B f.2)] 155)
  by_cases hck:za f.1 f.2=0
  ·have LG:=fun w=>jbF f.1 f.2 hl1 hl2 w hck
   clear hdrop htake hN hf
   unfold qB at LG
   go_wp2_with fail
   refine(LG _).mono ?_
   rintro e w2 ⟨sv,base,rfl,hown,b2⟩
   have hb2:=hba.trans (b2.mono (by simp;omega))
   have hbl2:=HB.out.kept b2 (jij _)
   have htl:=jaS hck
   have hm1:1<=(jX f.1 f.2).length:=by rw[GC];omega
   have hm2:(jX f.1 f.2).length<=4000:=by rw[xp]at htl;omega
   have G1:Hid (jO (fs.take (k+1))=jO (fs.take k)++jk (jX f.1 f.2)):=by
    show _=_
    rw[TH.out,jag]
   have G2:Hid (foldN fs=foldN (fs.drop (k+1))):=by
    show _=_
    rw[NH.out];show(if za f.1 f.2=0 then foldN (fs.drop (k+1)) else _)=_;rw[if_pos hck]
   clear HB b2 hba LG hbl hb c0 c1 TH NH hck
   obtain⟨g,cap',rfl⟩:=jjy hown (by simp;omega)
   rw[jiQ]at hown ⊢
   generalize jX f.1 f.2=ls at *
   generalize jO (fs.take k)=pre at *
   go_wp2_with fail
   go_loopw [27] (fun i wq=>∃j:Nat,j<=ls.length/\i=.int .i64 j/\Bld w.heap.size (w.heap.size+1) (pre++jk (ls.take j)) wq/\wq.ownsRow base 9 1 (.slice (some ⟨g,0,none⟩) ls.length cap') ls.length ((ls.map B).map Value.string)/\Below w.heap.size w wq) (fun i _=>ls.length-(intOf i).toNat)
   case atStart=>exact⟨0,jiD _,rfl,by simpa [jk]using hbl2,by simpa [JQ]using hown,hb2⟩
   case round =>
   obtain⟨j,hj,rfl,hblj,hownj,hbj⟩:=hrel
   have hsj:=hbj.size
   by_cases hjl:j<ls.length
   ·obtain⟨x,hx⟩:∃x,ls[j]?=some x:=⟨_,jim hjl⟩
    have hcx:=hownj.cellAt j (by omega)
    rw[ji9,ji9,hx]at hcx
    simp only[jkC]at hcx
    have T1:Hid (jk (ls.take (j+1))=(jk (ls.take j)++x)++[10]):=by
     show _=_
     rw[jiU,hx];exact UZ _ _
    have t1:=UY ls (j+1)
    rw[T1.out,jik,jik]at t1
    simp only[jky]at t1
    have hlj:=hblj.lt
    clear hx
    go_wp2_with fail
    refine(xn w.heap.size (w.heap.size+1) _ (B x) wr hblj (by omega) (by omega) (by rw[jm,jik];omega)).mono ?_
    rintro e w5 ⟨rfl,hbl5,hw5⟩
    obtain⟨cs,hcs⟩:=hblj.cells
    have hownS:JQ wr base (.slice (some ⟨g,0,none⟩) ls.length cap') (ls.map B):=by unfold JQ;rw[jiQ];exact hownj
    have hown5:=hownS.wrote hw5 hcs
    have hb5:=hbj.trans (hw5.below (jij _) (by omega) hsj)
    rw[jo]at hbl5
    have hs5:=hb5.size
    have hl5:=hbl5.lt
    clear hw5 hownS hownj hblj hcs hbj hcx
    go_wp2_with fail
    refine(xn w.heap.size (w.heap.size+1) _ ⟨#[10]⟩ w5 hbl5 (by omega) (by omega) (by simp only[jik];show _+1<=_;omega)).mono ?_
    rintro e w6 ⟨rfl,hbl6,hw6⟩
    obtain⟨cs,hcs⟩:=hbl5.cells
    have hown6:=hown5.wrote hw6 hcs
    have hb6:=hb5.trans (hw6.below (jij _) (by omega) hs5)
    clear hw6 hown5 hbl5 hcs hb5
    go_wp2_with fail
    go_roundw
    case rel =>
     refine⟨j+1,hjl,by go_num,?_,?_,hb6⟩
     ·rw[T1.out,<- jix,<- jix];exact hbl6
     unfold JQ at hown6;rw[jiQ]at hown6;exact hown6
    case measure=>simp[intOf];omega
   obtain rfl:j=ls.length:=by omega
   rw[jiL]at hblj
   go_wp2_with fail
   go_roundw
   case rel =>
    refine⟨k+1,hlt,by go_num,G2.out,by rw[G1.out];exact hblj,?_,hbj⟩
    rw[G1.out,jik];omega
   case measure=>simp[intOf];omega
  have LB:=fun w=>jbG f.1 f.2 hl1 hl2 w hck
  have hfn:foldN fs=za f.1 f.2:=by rw[NH.out];unfold foldN;rw[if_neg hck]
  have hft:foldT fs=[]:=by unfold foldT;rw[hfn,if_neg hck]
  rw[jQ _ (jjx hck)]at LB
  have hev:xl (foldN fs)=.iface 54 (.int .i64 (za f.1 f.2:Int)):=by rw[hfn,jQ _ (jjx hck)]
  have FTH:=jii hft
  have FNH:=jii hev
  clear hdrop htake hN hf hfn hft NH hck hev
  generalize za f.1 f.2=cn at *
  unfold qB at LB
  go_wp2_with fail
  refine(LB _).mono ?_
  rintro e w2 ⟨rfl,b2⟩
  have hb2:=hba.trans (b2.mono (by simp;omega))
  clear b2 LB
  go_wp2_with fail
  go_ret2
  exact⟨by rw[FNH.out,FTH.out];rfl,hb2⟩
 obtain rfl:k=fs.length:=by omega
 rw[jiL]at hbl
 rw[jjM]at hN
 have h0:foldN fs=0:=hN
 have hft:foldT fs=jO fs:=by unfold foldT;rw[if_pos h0]
 have FTH:=jii hft
 have FNH:=jii h0
 have hbs:=hbl.lt
 clear hN h0 hft PC hle4
 go_wp2_with fail
 refine(Tryz.Builder_String_any_k w.heap.size w.heap.size _ wr (hbl.library (jij _) (by omega)) (by omega)).mono ?_
 rintro e w5 ⟨rfl,_,b5,_⟩
 go_wp2_with fail
 go_ret2
 exact⟨by rw[FTH.out,FNH.out];rfl,hb.trans b5⟩
end Go.Proofs.YtimfhnfcmhmjcaaGreatDoor
namespace Go.Proofs.YtimfhnfcmhmjcaaGreatDoor
open Go.RowKit Go.Shelf
def Qa:List Fld->Nat
 | []=>0
 | f::r=>if za f.1 f.2=0 then Qa r+1 else 0
def qF(fs:List Fld):Nat:=if fs.length=0 then 2 else if 40<fs.length then 11 else foldN fs
def jgl(fs:List Fld):Prop:=fs.length=0\/40<fs.length\/foldN fs=0
instance (fs:List Fld):Decidable (jgl fs):=by unfold jgl;infer_instance
def ZT(fs:List Fld):Int:=if jgl fs then -9 else (Qa fs:Nat)
def yz(lo:Nat)(w:World)(u:Value)(fs:List Fld):Prop:=if jgl fs then u=xl (qF fs) else jl lo w u (Qa fs) (foldN fs)
theorem Yo(fs:List Fld):qF fs<=11:=by
 unfold qF
 have:=Ua fs
 split
 ·decide
 split
 ·decide
 omega
theorem yy{fs:List Fld}(h:qF fs=0):fs.length≠0/\fs.length<=40/\foldN fs=0:=by
 unfold qF at h
 split at h
 ·cases h
 split at h
 ·cases h
 exact⟨by assumption,by omega,h⟩
theorem yz.zero{lo:Nat}{w:World}{u:Value}{fs:List Fld}(h:yz lo w u fs)(h0:qF fs=0):u=.nilIface:=by
 obtain⟨_,_,c⟩:=yy h0
 unfold yz at h
 rw[if_pos (.inr (.inr c)),h0]at h
 exact h
theorem yz.pos{lo:Nat}{w:World}{u:Value}{fs:List Fld}(h:yz lo w u fs)(h0:qF fs≠0):u=.iface 54 (.int .i64 (qF fs:Nat))\/∃q,u=.iface 91 (.pointer q):=by
 unfold yz at h
 split at h
 ·rw[jQ _ (by omega)]at h;exact .inl h
 obtain⟨q,_,e,_⟩:=h;exact .inr ⟨_,e⟩
theorem yz.below{lo:Nat}{w w':World}{u:Value}{fs:List Fld}{N:Nat}(h:yz lo w u fs)(hb:Below N w w')(hN:w.heap.size<=N):yz lo w' u fs:=by
 unfold yz at h ⊢
 split
 ·rename_i hx;rw[if_pos hx]at h;exact h
 rename_i hx;rw[if_neg hx]at h;exact h.below hb hN
theorem yz.mono{lo lo':Nat}{w:World}{u:Value}{fs:List Fld}(h:yz lo w u fs)(hl:lo'<=lo):yz lo' w u fs:=by
 unfold yz at h ⊢
 split
 ·rename_i hx;rw[if_pos hx]at h;exact h
 rename_i hx;rw[if_neg hx]at h;exact h.mono hl
theorem yz.set{lo:Nat}{w:World}{u:Value}{fs:List Fld}(h:yz lo w u fs)(p:Addr)(hp:p.block<lo)(x:Value):yz lo (w.setCell p x) u fs:=by
 unfold yz at h ⊢
 split
 ·rename_i hx;rw[if_pos hx]at h;exact h
 rename_i hx
 rw[if_neg hx]at h
 obtain⟨q,hq,e,hc⟩:=h
 exact⟨q,hq,e,ja.other hc (by omega) _⟩
attribute [local go_sem] zV
theorem jcy(fs:List Fld)(v:Value)(w:World)(hs:yH w v fs)(hn:fs.length<=1000000)(hl:∀f∈fs,f.1.length<=1000000/\f.2.length<=1000000):
  Calls Tryz.prog 186 #[v] w fun e w'=>∃u,e=.returned u/\Below w.heap.size w w'/\yz w.heap.size w' u fs:=by
 obtain⟨A,cap,rfl,hle,hc⟩:=hs
 have PC:=jii hc
 have HL:=jii hl
 clear hc hl
 by_cases h0:fs.length=0
 ·have FIN:Hid (∀W,yz w.heap.size W (.iface 54 (.int .i64 2)) fs):=by
   intro W
   unfold yz;rw[if_pos (.inl h0)];unfold qF;rw[if_pos h0];rfl
  rw[h0]
  go_enter Tryz.func186,Tryz.ntmps186
  go_wp2_with fail
  go_ret
  exact⟨_,rfl,jil _ _,FIN.out _⟩
 by_cases h40:40<fs.length
 ·have FIN:Hid (∀W,yz w.heap.size W (.iface 54 (.int .i64 11)) fs):=by
   intro W
   unfold yz;rw[if_pos (.inr (.inl h40))];unfold qF;rw[if_neg h0,if_pos h40];rfl
  have c0:((fs.length:Int)==0)=false:=by simp;intro h;exact h0 (by rw[h];rfl)
  go_enter Tryz.func186,Tryz.ntmps186
  go_wp2_with fail
  go_ret
  exact⟨_,rfl,jil _ _,FIN.out _⟩
 have FINZ:Hid (∀W,foldN fs=0->yz w.heap.size W .nilIface fs):=by
  intro W hz
  unfold yz;rw[if_pos (.inr (.inr hz))];unfold qF;rw[if_neg h0,if_neg h40,hz];rfl
 have FINB:Hid (∀(W:World) (k n:Nat),w.heap.size<=W.heap.size->foldN fs=n->n≠0->Qa fs=k->yz w.heap.size (W.alloc (.cells #[.int .i64 (k:Nat),.iface 54 (.int .i64 (n:Nat))] 94)) (.iface 91 (.pointer (some ⟨W.heap.size,0,none⟩))) fs):=by
  intro W k n hW hf hnz hk
  unfold yz
  rw[if_neg (by unfold jgl;rintro(h | h | h)<;>omega),hf,hk,<- jQ n (by omega)]
  exact jl.new W k n _ _ rfl hW
 have c0:((fs.length:Int)==0)=false:=by simp;intro h;exact h0 (by rw[h];rfl)
 go_enter Tryz.func186,Tryz.ntmps186
 go_wp2_with fail
 go_loopw [18] (fun i wr=>∃k:Nat,k<=fs.length/\i=.int .i64 k/\foldN fs=foldN (fs.drop k)/\Qa fs=Qa (fs.drop k)+k/\Below w.heap.size w wr) (fun i _=>fs.length-(intOf i).toNat)
 case atStart=>exact⟨0,jiD _,rfl,rfl,rfl,jil _ _⟩
 case round =>
 obtain⟨k,hk,rfl,hN,hA,hb⟩:=hrel
 by_cases hlt:k<fs.length
 ·obtain⟨f,hf⟩:∃f,fs[k]?=some f:=⟨_,jim hlt⟩
  obtain⟨b,off,rfl,hbb,c0',c1⟩:=PC.out k f hf
  replace c0':=(hb.cell (p:=⟨b,off+k*2,none⟩) hbb).trans c0'
  replace c1:=(hb.cell (p:=⟨b,off+k*2+1,none⟩) hbb).trans c1
  obtain⟨hl1,hl2⟩:=HL.out f (jiA hf)
  have hdrop:fs.drop k=f::fs.drop (k+1):=by
   rw[jjp hlt]
   rw[jim hlt]at hf
   rw[jip hf]
  have hs1:=hb.size
  have hba:=hb.alloc hs1 (.cells #[.string (B f.1),.string (B f.2)] 155)
  have hza:(wr.alloc (.cells #[.string (B f.1),.string (B f.2)] 155)).heap.size=wr.heap.size+1:=by simp
  have CK:=fun W=>xI f.1 f.2 hl1 hl2 W
  unfold qB at CK
  rw[hdrop]at hN hA
  by_cases hck:za f.1 f.2=0
  ·have G1:Hid (foldN fs=foldN (fs.drop (k+1))):=by
    show _=_
    rw[hN];show(if za f.1 f.2=0 then foldN (fs.drop (k+1)) else _)=_;rw[if_pos hck]
   have G2:Hid (Qa fs=Qa (fs.drop (k+1))+(k+1)):=by
    show _=_
    rw[hA];show(if za f.1 f.2=0 then Qa (fs.drop (k+1))+1 else _)+k=_;rw[if_pos hck];omega
   rw[hck]at CK
   clear hdrop hN hA hf hck FINB FINZ PC HL
   go_wp2_with fail
   refine(CK _).mono ?_
   rintro e w2 ⟨rfl,b2⟩
   have hb2:=hba.trans (b2.mono (by omega))
   clear b2 CK
   go_wp2_with fail
   go_roundw
   case rel=>exact⟨k+1,hlt,by go_num,G1.out,G2.out,hb2⟩
   case measure=>simp[intOf];omega
  have hfn:foldN fs=za f.1 f.2:=by rw[hN];unfold foldN;rw[if_neg hck]
  have hbn:Qa fs=k:=by rw[hA];unfold Qa;rw[if_neg hck];omega
  have FIN:=jii (fun W hW=>FINB.out W k (za f.1 f.2) hW hfn hck hbn)
  rw[jQ _ (jjx hck)]at CK
  clear hdrop hN hA hf hck FINB FINZ PC HL hfn hbn
  generalize za f.1 f.2=cn at *
  go_wp2_with fail
  refine(CK _).mono ?_
  rintro e w2 ⟨rfl,b2⟩
  have hb2:=hba.trans (b2.mono (by omega))
  have hz2:=hb2.size
  clear b2 CK
  go_wp2_with fail
  go_ret
  exact⟨_,rfl,hb2.alloc hz2 _,FIN.out w2 hz2⟩
 obtain rfl:k=fs.length:=by omega
 rw[jjM]at hN
 have F0:=jii (fun W=>FINZ.out W hN)
 clear hN hA FINB FINZ PC HL
 go_wp2_with fail
 go_ret
 exact⟨_,rfl,hb,F0.out _⟩
def Ge(fs:List Fld):List UInt8:=if qF fs=0 then jO fs else []
theorem Gf(fs:List Fld)(v:Value)(w:World)(hs:yH w v fs)(hn:fs.length<=1000000)(hl:∀f∈fs,f.1.length<=100000/\f.2.length<=100000):
  Calls Tryz.prog 222 #[v] w fun e w'=>∃u,e=.returned (.tuple #[.string (B (Ge fs)),u])/\Below w.heap.size w w'/\yz w.heap.size w' u fs:=by
 have CK:=jii (jcy fs v w hs hn (fun f hf=>by have:=hl f hf;omega))
 by_cases h0:qF fs=0
 ·obtain⟨a1,a2,a3⟩:=yy h0
  have FO:=jii (fun w' (h:yH w' v fs)=>WZ fs v w' h (by omega) hl)
  rw[a3]at FO
  have T1:Hid (Ge fs=foldT fs):=by
   show _=_
   unfold Ge foldT;rw[if_pos h0,if_pos a3]
  have HS:=jii hs
  obtain⟨A,cap,rfl,hle,_⟩:=id hs
  have H0:=jii h0
  clear hs hl h0 a3
  go_enter Tryz.func222,Tryz.ntmps222
  go_wp2_with fail
  refine CK.out.mono ?_
  rintro e w1 ⟨u,rfl,b1,hu⟩
  obtain rfl:=hu.zero H0.out
  have HU:=jii hu
  have hz1:=b1.size
  have F2:=jii (FO.out w1 (HS.out.below b1 (jij _)))
  clear hu CK FO
  go_wp2_with fail
  refine F2.out.mono ?_
  rintro e w2 ⟨rfl,b2⟩
  have hb2:=b1.trans (b2.mono hz1)
  have HU2:=jii (HU.out.below b2 (jij _))
  clear F2
  go_wp2_with fail
  go_ret2
  exact⟨_,by rw[T1.out];rfl,hb2,HU2.out⟩
 have T1:Hid (Ge fs=[]):=by
  show _=_
  unfold Ge;rw[if_neg h0]
 obtain⟨A,cap,rfl,hle,_⟩:=id hs
 have H0:=jii h0
 clear hs hl h0
 go_enter Tryz.func222,Tryz.ntmps222
 go_wp2_with fail
 refine CK.out.mono ?_
 rintro e w1 ⟨u,rfl,b1,hu⟩
 have hz1:=b1.size
 have hp:=hu.pos H0.out
 have HU:=jii hu
 clear hu CK
 rcases hp with rfl|⟨q,rfl⟩
 all_goals
  go_wp2_with fail
  go_ret2
  exact⟨_,by rw[T1.out];rfl,b1,HU.out⟩
end Go.Proofs.YtimfhnfcmhmjcaaGreatDoor
namespace Go.Proofs.YtimfhnfcmhmjcaaGreatDoor
open Go.RowKit Go.Shelf
theorem jeL{fn:Func}{p u:Tmp}(h:fn.results=#[.cell p 111,.tmp u])(tmps:Array Value)(w:World)(b:Nat)(cur:Array Value)(hp:tmps.getD p undef=.pointer (some ⟨b,0,none⟩))
  (hc:ja w b 111 cur) (hz:cur.size=3):(results fn tmps).run Tryz.prog w=.ok (.tuple #[.agg cur,tmps.getD u undef]) w:=by
 have L:=run_loadVar_row (P:=Tryz.prog) w b 111 111 cur (0,0) _ hc Tryz.underlying111 rfl (by rw[hz];kernel_rfl)
 rw[results_cell_tmp h,hp]
 show((loadVar _ _).run _ _).andThen _=_
 rw[L];rfl
theorem jhD(c0 c1 c2 v0 v1 v2:Value):(((#[c0,c1,c2].setIfInBounds 0 v0).setIfInBounds 1 v1).setIfInBounds 2 v2)=#[v0,v1,v2]:=by
 simp[List.setIfInBounds_toArray,List.set]
def VX(fs:List Fld):Int:=if qF fs=0 then 3 else 0
structure jhU(w:World)(fs:List Fld)(e:Ending)(w':World)(u x:Value):Prop where
 ret:e=.returned (.tuple #[.agg #[.int .i64 (VX fs),.string (B (Ge fs)),x],u])
 below:Below w.heap.size w w'
 chk:yz w.heap.size w' u fs
 own:qF fs=0->w'.ownsRow w.heap.size 155 2 x fs.length (js fs)
 none_:qF fs≠0->x=.slice none 0 0
attribute [local go_sem] zV
theorem WI(fs:List Fld)(v:Value)(w:World)(hs:yH w v fs)(hnil:∀n c,v=.slice none n c->c=0)(hn:fs.length<=1000000)(hl:∀f∈fs,f.1.length<=100000/\f.2.length<=100000):
  Calls Tryz.prog 187 #[v] w fun e w'=>∃u x,jhU w fs e w' u x:=by
 have ST:=jii (fun w' (h:yH w' v fs)=>Gf fs v w' h hn hl)
 have CL:=jii (fun w' (h:yH w' v fs)=>vB fs v w' h hnil hn)
 have HS:=jii hs
 obtain⟨A,cap,rfl,hle,_⟩:=id hs
 have hba:Below w.heap.size w (w.alloc (.cells #[.int .i64 0,.string ⟨#[]⟩,.slice none 0 0] 111)):=(jil _ _).alloc (jij _) _
 have hza:(w.alloc (.cells #[.int .i64 0,.string ⟨#[]⟩,.slice none 0 0] 111)).heap.size=w.heap.size+1:=by simp
 have ST1:=jii (ST.out _ (HS.out.below hba (jij _)))
 have BX:=jii (ja.new w 111 #[.int .i64 0,.string ⟨#[]⟩,.slice none 0 0])
 clear hs hl hnil ST
 go_enter Tryz.func187,Tryz.ntmps187
 go_wp2_with fail
 refine ST1.out.mono ?_
 rintro e w1 ⟨u,rfl,b1,hu⟩
 have R1:=jb BX.out b1 (by omega)
 have hb1:Below w.heap.size w w1:=hba.trans (b1.mono (by omega))
 have hz1:=b1.size
 by_cases h0:qF fs=0
 ·obtain rfl:=hu.zero h0
  have HU:=jii hu
  have CL1:=jii (CL.out w1 (HS.out.below hb1 (jij _)))
  have KI:Hid (VX fs=3):=by show _=_;unfold VX;rw[if_pos h0]
  have H0:=jii h0
  have hzw:=hb1.size
  clear hu h0 CL ST1 b1 BX HS
  generalize hT:Ge fs=T at *
  replace hT:=jii hT
  go_wp2_with fail
  refine CL1.out.mono ?_
  rintro e w2 ⟨x,rfl,hx,b2⟩
  obtain⟨xa,xc,hxe,_⟩:=je hx
  subst hxe
  have R2:=jb R1 b2 (by omega)
  have hb2:=hb1.trans (b2.mono hzw)
  have hz2:=b2.size
  have c0:=R2.cell 0
  have c1:=R2.cell 1
  have c2:=R2.cell 2
  have f0:=R2.frozen 0
  have f1:=R2.frozen 1
  have f2:=R2.frozen 2
  simp only[jiv,jiu,jio]at c0 c1 c2
  have RE:=((R2.set 0 (.int .i64 3)).set 1 (.string (B T))).set 2 (.slice xa fs.length xc)
  rw[jhD]at RE
  have HB:Below w.heap.size w (((w2.setCell ⟨w.heap.size,0,none⟩ (.int .i64 3)).setCell ⟨w.heap.size,1,none⟩ (.string (B T))).setCell ⟨w.heap.size,2,none⟩ (.slice xa fs.length xc)) :=
   ((hb2.setCell (p:=⟨w.heap.size,0,none⟩) (jij _) _).setCell (p:=⟨w.heap.size,1,none⟩) (jij _) _).setCell (p:=⟨w.heap.size,2,none⟩) (jij _) _
  have HX:=jii hx
  have HBH:=jii HB
  have U2:=jii (HU.out.below b2 (jij _))
  clear HU hb2 b2 hb1 CL1 hx HB
  go_wp2_with fail
  refine bodyPost_ret (jeL rfl _ _ w.heap.size _ rfl RE rfl) rfl ?_
  refine⟨_,.slice xa fs.length xc,by rw[KI.out,hT.out],HBH.out,?_,fun _ => ?_,fun h=>absurd H0.out h⟩
  ·have h:=U2.out
   unfold yz at h ⊢
   have hb:jgl fs:=.inr (.inr (yy H0.out).2.2)
   rw[if_pos hb]at h ⊢
   exact h
  have hne:∀k,Value.ownBlock (.slice xa fs.length xc)=some k->k≠w.heap.size:=fun k e=>by have:=(HX.out.lt k e).1;omega
  exact jv (p:=⟨w.heap.size,2,none⟩) (jv (p:=⟨w.heap.size,1,none⟩) (jv (p:=⟨w.heap.size,0,none⟩) (jC HX.out (by omega)) (fun e=>hne _ e rfl) _) (fun e=>hne _ e rfl) _) (fun e=>hne _ e rfl) _
 have hp:=hu.pos h0
 have HU:=jii hu
 have KI:Hid (VX fs=0):=by show _=_;unfold VX;rw[if_neg h0]
 have TI:Hid (Ge fs=[]):=by show _=_;unfold Ge;rw[if_neg h0]
 have H0:=jii h0
 have c0:=R1.cell 0
 have c1:=R1.cell 1
 have c2:=R1.cell 2
 have f0:=R1.frozen 0
 have f1:=R1.frozen 1
 have f2:=R1.frozen 2
 simp only[jiv,jiu,jio]at c0 c1 c2
 have RE:=((R1.set 0 (.int .i64 0)).set 1 (.string ⟨#[]⟩)).set 2 (.slice none 0 0)
 rw[jhD]at RE
 have HB:Below w.heap.size w (((w1.setCell ⟨w.heap.size,0,none⟩ (.int .i64 0)).setCell ⟨w.heap.size,1,none⟩ (.string ⟨#[]⟩)).setCell ⟨w.heap.size,2,none⟩ (.slice none 0 0)) :=
  ((hb1.setCell (p:=⟨w.heap.size,0,none⟩) (jij _) _).setCell (p:=⟨w.heap.size,1,none⟩) (jij _) _).setCell (p:=⟨w.heap.size,2,none⟩) (jij _) _
 have HBH:=jii HB
 clear hu h0 CL ST1 b1 BX HS hb1 HB
 have FIN:Hid (yz w.heap.size (((w1.setCell ⟨w.heap.size,0,none⟩ (.int .i64 0)).setCell ⟨w.heap.size,1,none⟩ (.string ⟨#[]⟩)).setCell ⟨w.heap.size,2,none⟩ (.slice none 0 0)) u fs) :=
  (((HU.out.set ⟨w.heap.size,0,none⟩ (by show w.heap.size<_;omega) _).set ⟨w.heap.size,1,none⟩ (by show w.heap.size<_;omega) _).set ⟨w.heap.size,2,none⟩ (by show w.heap.size<_;omega) _).mono (by omega)
 rcases hp with rfl|⟨q,rfl⟩
 all_goals
  go_wp2_with fail
  refine bodyPost_ret (jeL rfl _ _ w.heap.size _ rfl RE rfl) rfl ?_
  exact⟨_,.slice none 0 0,by rw[KI.out,TI.out];rfl,HBH.out,FIN.out,fun h=>absurd h H0.out,fun _=>rfl⟩
end Go.Proofs.YtimfhnfcmhmjcaaGreatDoor
namespace Go.Proofs.YtimfhnfcmhmjcaaGreatDoor
open Go.RowKit Go.Shelf
end Go.Proofs.YtimfhnfcmhmjcaaGreatDoor
namespace Go.Proofs.YtimfhnfcmhmjcaaGreatDoor
open Go.RowKit Go.Shelf
attribute [local go_sem] zV
end Go.Proofs.YtimfhnfcmhmjcaaGreatDoor
namespace Go.Proofs.YtimfhnfcmhmjcaaGreatDoor
open Go.RowKit Go.Shelf
def jgZ(rs:List (List Fld)):List UInt8:=qZ (rs.map jO)
def jhP(rs:List (List Fld)):Option (List Fld):=rs.find? fun r=>qF r != 0
theorem jcK{rs:List (List Fld)}(h:∀r∈rs,qF r=0):jhP rs=none:=by
 unfold jhP
 rw[List.find?_eq_none]
 intro r hr
 simp[h r hr]
def XO(w:World)(rs:List (List Fld))(e:Ending)(w':World):Prop :=
 Below w.heap.size w w'/\match jhP rs with
  | some r=>∃u,e=.returned (.tuple #[.string (B []),u])/\yz w.heap.size w' u r/\qF r≠0
  | none=>e=.returned (.tuple #[.string (B (jgZ rs)),.nilIface])/\∀r∈rs,qF r=0
theorem XO.yes{w w':World}{rs:List (List Fld)}(h:∀r∈rs,qF r=0)(hb:Below w.heap.size w w'):XO w rs (.returned (.tuple #[.string (B (jgZ rs)),.nilIface])) w' :=
 ⟨hb,by rw[jcK h];exact⟨rfl,h⟩⟩
attribute [local go_sem] zV
end Go.Proofs.YtimfhnfcmhmjcaaGreatDoor
namespace Go.Proofs.YtimfhnfcmhmjcaaGreatDoor
theorem Ga(k v:List UInt8):(jk (jX k v)).length<=k.length+3*v.length+8:=by
 rw[xp];have:=YY k v;omega
theorem Vg:∀(fs:List Fld),VT fs<=6000->(jk (jp fs)).length<=3*VT fs+8*fs.length
 | [],_=>by simp[jp,jk]
 | f::r,h=>by
  have e:VT (f::r)=(min f.1.length 10000+min f.2.length 10000)+VT r:=rfl
  rw[e]at h ⊢
  have ih:=Vg r (by omega)
  have h1:=Ga f.1 f.2
  have e2:jk (jp (f::r))=jk (jX f.1 f.2)++jk (jp r):=by unfold jp;rw[jiy,vj]
  rw[e2,jik,jin]
  omega
def zp(fs:List Fld):It:=⟨3,jO fs,fs⟩
theorem ZL(fs:List Fld):jO fs=jk (jp fs):=by
 unfold jO jp jk
 rw[List.flatMap_assoc]
end Go.Proofs.YtimfhnfcmhmjcaaGreatDoor
