/- Texts put together:UN,UO,UP,UQ,UR,US,UT,NA,TO,NB,NC,NR,EU. -/
import Derived.Test.YtpibhbjmcmfnmaaGreatDoorBag15
set_option linter.unusedVariables false
set_option maxRecDepth 100000
set_option maxHeartbeats 16000000
namespace Go.Proofs.YtpibhbjmcmfnmaaGreatDoor
open Go.RowKit Go.Shelf Tryz
section
attribute [local go_sem] jnn jT
def vV(lo:Nat)(w:World)(u:Value)(a:Int)(n:Nat):Prop:=n<=11/\((u=qm n/\a = -9)\/∃k:Nat,jr lo w u k n/\a=k/\n≠0)
theorem vV.of{lo:Nat}{w:World}{u:Value}{fs:List Fld}(h:Jb lo w u fs):vV lo w u (YW fs) (vG fs):=by
 unfold Jb at h
 unfold YW
 refine⟨WW fs,?_⟩
 split at h
 ·rename_i hb
  rw[if_pos hb];exact .inl ⟨h,rfl⟩
 rename_i hb
 rw[if_neg hb]
 have h2:vG fs=foldN fs:=by
  unfold jk2 at hb
  unfold vG
  rw[if_neg (fun e=>hb (.inl e)),if_neg (fun e=>hb (.inr (.inl e)))]
 refine .inr ⟨_,by rw[h2];exact h,rfl,fun e=>hb (.inr (.inr (by omega)))⟩
theorem vV.none(lo:Nat)(w:World):vV lo w .nilIface (-9) 0:=⟨by decide,.inl ⟨rfl,rfl⟩⟩
theorem vV.err(lo:Nat)(w:World)(n:Nat)(h:n<=11):vV lo w (qm n) (-9) n:=⟨h,.inl ⟨rfl,rfl⟩⟩
theorem vV.below{lo:Nat}{w w':World}{u:Value}{a:Int}{n N:Nat}(h:vV lo w u a n)(hb:Below N w w')(hN:w.heap.size<=N):vV lo w' u a n:=by
 obtain⟨hn,h|⟨k,hf,h⟩⟩:=h
 ·exact⟨hn,.inl h⟩
 exact⟨hn,.inr ⟨k,hf.below hb hN,h⟩⟩
def Zi(k:Option Nat)(l:LS)(fs:List Fld):Did :=
 match k with
 | none=>⟨l,-9,7,0⟩
 | some k=>if vG fs=0 then ⟨⟨KV l.es k (zS fs),l.next⟩,-9,0,0⟩ else ⟨l,YW fs,vG fs,0⟩
def jbk(k:Option Nat)(l:LS):Did :=
 match k with
 | none=>⟨l,-9,7,0⟩
 | some k=>⟨⟨jdX l.es k,l.next⟩,-9,0,0⟩
def yz(k:Option Nat)(full:Bool)(l:LS)(fs:List Fld):Did :=
 match k with
 | none=>⟨l,-9,7,0⟩
 | some k=>if vG fs=0 then (if full=true then ⟨l,-9,11,0⟩ else ⟨⟨jaS l.es k (zS fs,l.next),l.next+1⟩,-9,0,l.next⟩) else ⟨l,YW fs,vG fs,0⟩
theorem UZ{k:Nat}{l:LS}{fs:List Fld}(h:vG fs=0):Zi (some k) l fs=⟨⟨KV l.es k (zS fs),l.next⟩,-9,0,0⟩:=if_pos h
theorem jaR{k:Nat}{l:LS}{fs:List Fld}(h:vG fs≠0):Zi (some k) l fs=⟨l,YW fs,vG fs,0⟩:=if_neg h
theorem jdr{k:Nat}{full:Bool}{l:LS}{fs:List Fld}(h:vG fs≠0):yz (some k) full l fs=⟨l,YW fs,vG fs,0⟩:=if_neg h
theorem Gs{k:Nat}{l:LS}{fs:List Fld}(h:vG fs=0):yz (some k) true l fs=⟨l,-9,11,0⟩:=by unfold yz;dsimp only;rw[if_pos h,if_pos rfl]
theorem ja3{k:Nat}{l:LS}{fs:List Fld}(h:vG fs=0):yz (some k) false l fs=⟨⟨jaS l.es k (zS fs,l.next),l.next+1⟩,-9,0,l.next⟩:=by unfold yz;dsimp only;rw[if_pos h,if_neg (by decide)]
theorem jc9(l:LS)(id:Int)(fs:List Fld):qo l id fs=Zi (vy l.es id) l fs:=rfl
theorem jgf(l:LS)(id:Int):vm l id=jbk (vy l.es id) l:=rfl
theorem jfA(l:LS)(id:Int)(fs:List Fld):qT l id fs=yz (jlg l.es id) (decide (400<=jaE l.es)) l fs:=by
 unfold qT yz
 cases jlg l.es id with
 | none=>rfl
 | some k=>simp
theorem jkD(ps:List Pr)(id:Int):xr ps id=jil (ps.map Prod.fst) id:=by
 unfold xr jil jme jaO
 rw[<- KR (κ:=fun e:En=>e.1.kind) Prod.fst,List.find?_map,Option.map_map]
 rfl
structure WrR(w:World)(lb:Nat)(ev:Value)(ps:List Pr)(d:Did)(u:Value)(w':World)(ev':Value)(ps':List Pr):Prop where
 la:LA w' lb ev' ps' d.ls.next
 es:ps'.map Prod.fst=d.ls.es
 only:jv (fun r=>r=lb\/ev.ownBlock=some r) w w'
 blk:ev'.ownBlock=ev.ownBlock\/∃b,ev'.ownBlock=some b/\w.heap.size<=b
 err:vV w.heap.size w' u d.at_ d.bad
 mem:∀p∈ps',p∈ps\/∀b,p.2.ownBlock=some b->w.heap.size<=b
theorem jhh(ps:List Pr)(k:Nat)(p:Pr)(it:It)(x:Value)(h:ps[k]?=some p):(ps.set k ((it,p.1.2),x)).map Prod.fst=KV (ps.map Prod.fst) k it:=by
 unfold KV
 apply joG
 intro j
 rw[jnF,List.getElem?_set,jpd,jnF]
 by_cases hj:k=j
 ·subst hj
  rw[if_pos rfl,h,if_pos (List.getElem?_eq_some_iff.1 h).1]
  simp
 rw[if_neg hj]
 cases ps[j]? with
 | none=>rfl
 | some y=>simp[hj]
theorem GU(ps:List Pr)(k:Nat)(q:Pr)(h:k<ps.length):jj (ps.set k q)=(jj ps).take (k*4)++(zF q++(jj ps).drop ((k+1)*4)):=by
 rw[List.set_eq_take_append_cons_drop,if_pos h,yh,show jj (q::ps.drop (k+1))=zF q++jj (ps.drop (k+1)) from rfl,vQ,vR]
theorem Zy{w:World}{v:Value}{ps:List Pr}(h:Qt w v ps):∀u∈jj ps,u.oneCell'=true :=
 GV fun p hp=>by obtain⟨A,c,e⟩:=(h.each p hp).form;rw[e];rfl
structure jgQ(fs:List Fld):Prop where
 len:fs.length<=1000
 each:∀f∈fs,f.1.length<=100000/\f.2.length<=100000
theorem jbj(lb:Nat)(ev:Value)(ps:List Pr)(nx id:Int)(w:World)(h:LA w lb ev ps nx)(hps:ps.length<=1000000):
  Calls prog 158 #[ptr lb,.int .i64 id] w fun e w'=>∃u ev' ps',e=.returned u/\WrR w lb ev ps (jbk (xr ps id) ⟨ps.map Prod.fst,nx⟩) u w' ev' ps':=by
 have FD:=jnc (Zv lb ev ps nx id w h.lr hps)
 have H:=jnc h
 clear h
 unfold ptr at *
 cases hf:xr ps id with
 | none =>
  rw[hf]at FD
  unfold QR at FD
  dsimp only at FD
  go_enter func158,ntmps158
  go_wp2_with fail
  refine FD.out.mono ?_
  rintro e w1 ⟨rfl,b1⟩
  go_wp2_with fail
  go_ret
  exact⟨_,ev,ps,rfl,H.out.below b1 (jnd _),rfl,jv.of_below b1 (jnd _),.inl rfl,vV.err _ _ 7 (by decide),fun p hp=>.inl hp⟩
 | some k =>
 obtain⟨p,hp,_,_⟩:=Vp hf
 rw[hf]at FD
 unfold QR at FD
 dsimp only at FD
 have hk:=(List.getElem?_eq_some_iff.1 hp).1
 clear hf hp
 go_enter func158,ntmps158
 go_wp2_with fail
 refine FD.out.mono ?_
 rintro e w1 ⟨rfl,b1⟩
 have H1:=H.out.below b1 (jnd _)
 obtain⟨g,cap,rfl⟩:=joD H1.lr.ents.row (by omega)
 have DL:=jnc (jbm 0 g ps.length cap k (jj ps) w1 H1.lr.ents.row (Zy H1.lr.ents) hk hps)
 have c0:w1.cell? ⟨lb,0,none⟩=some (.slice (some ⟨g,0,none⟩) ps.length cap):=H1.lr.head.cell 0
 have hgl:g≠lb:=fun e=>H1.lr.row_ne (by rw[e];rfl)
 have LH:=jnc H1
 have B1:=jnc b1
 clear FD H1 b1
 unfold sl at DL
 have hwr:IntKind.i64.wrap ((k:Int)+1)=(k:Int)+1:=jn1 _ (by omega)
 go_wp2_with fail
 refine DL.out.mono ?_
 rintro e w2 ⟨rfl,hr2,o2⟩
 have h2:=LH.out.lr.head.only o2 (fun e=>hgl e.symm)
 have d0:w2.cell? ⟨lb,0,none⟩=some (.slice (some ⟨g,0,none⟩) ps.length cap):=h2.cell 0
 have f0:=h2.frozen 0
 have HH2:=jnc h2
 have HR2:=jnc hr2
 have HO2:=jnc o2
 clear DL h2 hr2 o2
 go_wp2_with fail
 go_ret
 have hcm:(jdX (ps.map Prod.fst) k)=(ps.take k++ps.drop (k+1)).map Prod.fst:=by unfold jdX;rw[jol,List.map_take,List.map_drop]
 have hlen:(ps.take k++ps.drop (k+1)).length=ps.length-1:=by rw[jnf,jnk,jnr];omega
 have hmem:∀q∈ps.take k++ps.drop (k+1),q∈ps:=fun q hq=>by
  rcases List.mem_append.1 hq with h|h
  ·exact jog h
  exact job h
 have o3:jv (fun r=>r=lb\/(Value.slice (some ⟨g,0,none⟩) ps.length cap).ownBlock=some r) w1 (w2.setCell ⟨lb,0,none⟩ (.slice (some ⟨g,0,none⟩) (ps.length-1) cap)) :=
  (HO2.out.mono (fun r _ e=>.inr (by rw[e];rfl))).setCell (p:=⟨lb,0,none⟩) (.inl (.inl rfl)) _
 refine⟨_,.slice (some ⟨g,0,none⟩) (ps.length-1) cap,ps.take k++ps.drop (k+1),rfl,⟨⟨?_,⟨?_,?_⟩⟩,?_⟩,hcm.symm,(jv.of_below B1.out (jnd _)).trans o3 (fun r hr e=>e),.inl rfl,vV.none _ _,fun q hq=>.inl (hmem q hq)⟩
 ·have:=HH2.out.set 0 (.slice (some ⟨g,0,none⟩) (ps.length-1) cap)
  show ja _ lb 234 #[_,.int .i64 (nx-1)]
  simpa [List.setIfInBounds_toArray,List.set]using this
 ·rw[hlen,yh,vQ,vR]
  exact jK (p:=⟨lb,0,none⟩) HR2.out (fun e=>hgl (jng e)) _
 ·intro q hq
  refine(LH.out.lr.ents.each q (hmem q hq)).only o3 (fun hne b hb e => ?_)
  obtain⟨a1,a2⟩:=LH.out.apart q (hmem q hq) hne b hb
  rcases e with e|e
  ·exact a1 e
  exact a2 e
 intro q hq hne b hb
 exact LH.out.apart q (hmem q hq) hne b hb
theorem LA.replace{w:World}{lb g cap:Nat}{ps:List Pr}{nx:Int}{k:Nat}{p:Pr}{it:It}{x:Value}(h:LA w lb (.slice (some ⟨g,0,none⟩) ps.length cap) ps nx)(hp:ps[k]?=some p)(hx:ZK w x it.fields)(hxb:it.fields≠[]->∀b,x.ownBlock=some b->b≠lb/\b≠g):
  LA (((w.setCell ⟨g,k*4,none⟩ (.int .i64 it.kind)).setCell ⟨g,k*4+1,none⟩ (.string (B it.raw))).setCell ⟨g,k*4+1+1,none⟩ x) lb (.slice (some ⟨g,0,none⟩) ps.length cap) (ps.set k ((it,p.1.2),x)) nx /\
   jv (· = g) w (((w.setCell ⟨g,k*4,none⟩ (.int .i64 it.kind)).setCell ⟨g,k*4+1,none⟩ (.string (B it.raw))).setCell ⟨g,k*4+1+1,none⟩ x):=by
 have hk:=(List.getElem?_eq_some_iff.1 hp).1
 have hgl:g≠lb:=fun e=>h.lr.row_ne (by rw[e];rfl)
 have o:jv (· = g) w (((w.setCell ⟨g,k*4,none⟩ (.int .i64 it.kind)).setCell ⟨g,k*4+1,none⟩ (.string (B it.raw))).setCell ⟨g,k*4+1+1,none⟩ x) :=
  (((jv.refl (· = g) w).cellS _ _).cellS _ _).cellS _ _
 obtain⟨hl,h2⟩:=h.lr.ents.row
 obtain⟨cur,hg,hle,hcm,hcs,htk⟩:∃cur,ja w g 238 cur/\ps.length<=cap/\cap<=maxLen/\cur.size=cap*4/\cur.toList.take (ps.length*4)=jj ps:=by
  rcases h2 with ⟨q,_⟩|⟨g',cap',cur,q,a,b,c,d,e,f⟩
  ·cases q
  cases q;exact⟨cur,b,c,d,e,f⟩
 have hat:∀j,j<ps.length*4->(jj ps)[j]?=cur[j]?:=fun j hj=>by rw[<- htk,jnS,if_pos hj];simp
 have C3:ja (((w.setCell ⟨g,k*4,none⟩ (.int .i64 it.kind)).setCell ⟨g,k*4+1,none⟩ (.string (B it.raw))).setCell ⟨g,k*4+1+1,none⟩ x) g 238 (Kh cur (k*4) [.int .i64 it.kind,.string (B it.raw),x]) :=
  ja.lay [.int .i64 it.kind,.string (B it.raw),x] (k*4) hg
 have hid:=JM ps k p hp 3 (.int .i64 p.1.2) rfl
 refine⟨⟨⟨h.lr.head.only o (fun e=>hgl e.symm),⟨?_,fun q hq => ?_⟩⟩,fun q hq hne b hb => ?_⟩,o⟩
 ·rw[joO,GU ps k _ hk]
  have hll:((jj ps).take (k*4)++(zF ((it,p.1.2),x)++(jj ps).drop ((k+1)*4))).length=ps.length*4:=by
   rw[jnf,jnf,jnk,jnr,hl]
   show _+(4+_)=_
   omega
  refine⟨hll,.inr ⟨g,cap,_,rfl,jnt _,C3,hle,hcm,by rw[qz,hcs],?_⟩⟩
  apply joG
  intro j
  rw[jnS]
  split
  ·rename_i hj
   rw[joQ,xG _ _ _ _ (by rw[hcs];simp only[jni,jnG];omega)]
   simp only[jni,jnG]
   split
   ·rename_i h3
    rw[jnz (by rw[jnk,hl];omega),jnk,hl,show min (k*4) (ps.length*4)=k*4 by omega,jnJ (by show _<4;omega)]
    rcases(by omega:j-k*4=0\/j-k*4=1\/j-k*4=2) with e|e|e<;>rw[e]<;>rfl
   rename_i h3
   rw[<- hat j hj]
   rcases jnK j (k*4) with h4|h4
   ·rw[jnJ (by rw[jnk,hl];omega),jnS,if_pos h4]
   rw[jnz (by rw[jnk,hl];omega),jnk,hl,show min (k*4) (ps.length*4)=k*4 by omega]
   rcases jnK j (k*4+4) with h5|h5
   ·have e:j=k*4+3:=by omega
    subst e
    rw[show k*4+3-k*4=3 by omega,hid];rfl
   rw[jnz (by show 4<=_;omega),joc]
   show _=(jj ps)[(k+1)*4+(j-k*4-4)]?
   congr 1;omega
  rename_i hj
  rw[jnY (by omega)]
 ·rcases joE hq with hq|rfl
  ·exact(h.lr.ents.each q hq).only o (fun hne b hb e=>(h.apart q hq hne b hb).2 (by rw[e];rfl))
  exact hx.only o (fun hne b hb e=>(hxb hne b hb).2 e)
 rcases joE hq with hq|rfl
 ·exact h.apart q hq hne b hb
 obtain⟨a1,a2⟩:=hxb hne b hb
 exact⟨a1,fun e=>a2 (jng e).symm⟩
theorem UY(lb:Nat)(ev:Value)(ps:List Pr)(nx id:Int)(fs:List Fld)(v:Value)(w:World)(h:LA w lb ev ps nx)(hps:ps.length<=1000000)(hs:ZK w v fs)(hfs:jgQ fs):
  Calls prog 157 #[ptr lb,.int .i64 id,v] w fun e w'=>∃u ev' ps',e=.returned u/\WrR w lb ev ps (Zi (xr ps id) ⟨ps.map Prod.fst,nx⟩ fs) u w' ev' ps':=by
 have FD:=jnc (Zv lb ev ps nx id w h.lr hps)
 have H:=jnc h
 have HS:=jnc hs
 obtain⟨va,vc,rfl⟩:=hs.form
 clear h hs
 unfold ptr at *
 cases hf:xr ps id with
 | none =>
  rw[hf]at FD
  unfold QR at FD
  dsimp only at FD
  go_enter func157,ntmps157
  go_wp2_with fail
  refine FD.out.mono ?_
  rintro e w1 ⟨rfl,b1⟩
  go_wp2_with fail
  go_ret
  exact⟨_,ev,ps,rfl,H.out.below b1 (jnd _),rfl,jv.of_below b1 (jnd _),.inl rfl,vV.err _ _ 7 (by decide),fun p hp=>.inl hp⟩
 | some k =>
 obtain⟨p,hp,_,_⟩:=Vp hf
 rw[hf]at FD
 unfold QR at FD
 dsimp only at FD
 have hk:=(List.getElem?_eq_some_iff.1 hp).1
 have HP:=jnc hp
 clear hf hp
 go_enter func157,ntmps157
 go_wp2_with fail
 refine FD.out.mono ?_
 rintro e w1 ⟨rfl,b1⟩
 have hs1:=HS.out.below b1 (jnd _)
 have IT:=jnc (jb5 fs _ w1 hs1.1 hs1.2 (by have:=hfs.len;omega) hfs.each)
 have B1:=jnc b1
 have hz:=b1.size
 clear FD b1 hs1
 go_wp2_with fail
 refine IT.out.mono ?_
 rintro e w2 ⟨u,x,hR⟩
 have B2:=jnc (B1.out.trans (hR.below.mono hz))
 have CK:=jnc (hR.chk.mono hz)
 obtain rfl:=hR.ret
 by_cases h0:vG fs=0
 ·have hu:=hR.chk.zero h0
  subst hu
  have hx:=jnc (hR.own h0)
  obtain⟨xa,xc,rfl,_⟩:=jg (hR.own h0)
  have hki:Wo fs=3:=if_pos h0
  have hst:jcX fs=zb fs:=if_pos h0
  rw[hki,hst]
  have H2:=H.out.below B2.out (jnd _)
  obtain⟨g,cap,rfl⟩:=joD H2.lr.ents.row (by omega)
  obtain⟨g',cap',pa,pc,e1,hle,hgl2,e2,d0,d1,d2,d3⟩:=H2.lr.ents.here HP.out
  cases e1
  rw[e2]at d2
  have hgw:g<w.heap.size:=(H.out.lr.ents.row.lt g rfl).2
  have c0:w2.cell? ⟨lb,0,none⟩=some (.slice (some ⟨g,0,none⟩) ps.length cap):=H2.lr.head.cell 0
  have LH:=jnc H2
  clear hR IT H2 e2
  go_wp2_with fail
  obtain⟨w3,hw3⟩:∃w3,w3=w2.alloc (.cells #[.int .i64 3,.string (B (zb fs)),.slice xa fs.length xc] 236):=⟨_,rfl⟩
  have L3:=jnc (show LA w3 lb (.slice (some ⟨g,0,none⟩) ps.length cap) ps nx by rw[hw3];exact LH.out.below ((jne _ _).alloc (jnd _) _) (jnd _))
  have CI:ja w3 w2.heap.size 236 #[.int .i64 3,.string (B (zb fs)),.slice xa fs.length xc]:=by rw[hw3];exact ja.new _ _ _
  have X3:=jnc (show w3.ownsRow w1.heap.size 155 2 (.slice xa fs.length xc) fs.length (jM fs) by rw[hw3];exact hx.out.alloc _)
  have B3:=jnc (show Below w.heap.size w w3 by rw[hw3];exact B2.out.alloc B2.out.size _)
  rw[<- hw3]
  clear hw3 c0 d0 d1 d2 d3 LH B2 hx
  obtain⟨g',cap',pa',pc',e1,_,hgl3,e2,d0,d1,d2,d3⟩:=L3.out.lr.ents.here HP.out
  cases e1
  rw[e2]at d2
  obtain⟨cur,hcur⟩:∃cur,ja w3 g 238 cur:=by
   rcases L3.out.lr.ents.row.2 with ⟨q,_⟩|⟨g'',cap'',cur,q,_,c,_⟩
   ·cases q
   cases q;exact⟨cur,c⟩
  have f0:=hcur.frozen (k*4)
  have f1:=hcur.frozen (k*4+1)
  have f2:=hcur.frozen (k*4+1+1)
  have c0:w3.cell? ⟨lb,0,none⟩=some (.slice (some ⟨g,0,none⟩) ps.length cap):=L3.out.lr.head.cell 0
  have i0:w3.cell? ⟨w2.heap.size,0,none⟩=some (.int .i64 3):=CI.cell 0
  have i1:w3.cell? ⟨w2.heap.size,1,none⟩=some (.string (B (zb fs))):=CI.cell 1
  have i2:w3.cell? ⟨w2.heap.size,2,none⟩=some (.slice xa fs.length xc):=CI.cell 2
  clear CI hcur e2
  go_region_law (skip)
  all_goals go_wp2_with fail
  all_goals
   go_ret
   rw[UZ h0]
   have hbl:lb<w.heap.size:=H.out.lr.head.lt
   obtain⟨q1,q2⟩:=(L3.out.below (n:=w3.heap.size) (jne _ w3).drew (jnd _)).replace (it:=zS fs) (x:=.slice xa fs.length xc) HP.out (ZK.own (show w3.drew.ownsRow w1.heap.size 155 2 (.slice xa fs.length xc) fs.length (jM fs) from X3.out)) (fun _ b hb=>by
    have:=(X3.out.lt b hb).1
    exact⟨by omega,by omega⟩)
   refine⟨_,_,_,rfl,q1,?_,(jv.of_below (B3.out.drew) (jnd _)).trans (q2.mono (fun r _ e=>(.inr (by rw[e];rfl):r=lb\/(Value.slice (some ⟨g,0,none⟩) ps.length cap).ownBlock=some r))) (fun r hr e=>e),.inl rfl,?_,fun q hq => ?_⟩
   ·exact jhh ps k p _ _ HP.out
   ·exact vV.none _ _
   rcases joE hq with h|h
   ·exact .inl h
   right;rw[h];intro b hb;have:=(X3.out.lt b hb).1;omega
 have hxn:=hR.none_ h0
 subst hxn
 rcases hR.chk.pos h0 with hu|⟨q,hu⟩
 all_goals
  subst hu
  have hck:=jnc (vV.of (hR.chk.mono hz))
  clear hR IT CK
  go_wp2_with fail
  go_ret
  rw[jaR h0]
  have hba:=B2.out.alloc B2.out.size (.cells #[.int .i64 (Wo fs),.string (B (jcX fs)),.slice none 0 0] 236)
  exact⟨_,ev,ps,rfl,H.out.below hba (jnd _),rfl,jv.of_below hba (jnd _),.inl rfl,hck.out.below ((jne _ _).alloc (jnd _) _) (jnd _),fun p hp=>.inl hp⟩
theorem jky{ps:List Pr}{id:Int}{k:Nat}(h:jgW ps id=some k):k<=ps.length:=by
 unfold jgW at h
 split at h
 ·cases h;omega
 obtain⟨q,hq,rfl⟩:=Option.map_eq_some_iff.1 h
 obtain⟨p,hp,_⟩:=Vp hq
 have:=(List.getElem?_eq_some_iff.1 hp).1
 omega
theorem Kk(fs:List Fld)(nx:Int):jj1 (zS fs) nx=nx/\jj3 (zS fs) nx=nx+1:=⟨rfl,rfl⟩
theorem jaY(lb:Nat)(ev:Value)(ps:List Pr)(nx:Int)(w:World)(h:LR w lb ev ps nx)(hps:ps.length<=1000000):
  Calls prog 209 #[ptr lb] w fun e w'=>e=.returned (.int .i64 ((ZN 0 ps).length:Nat))/\Below w.heap.size w w' :=
 jkf ps ev (some ⟨lb,0,none⟩) w (fun _ hB=>jll.of (h.below hB (jnd _))) hps
theorem jhs(ps:List Pr)(k:Nat)(e:En)(x:Value):(ps.take k++(e,x)::ps.drop k).map Prod.fst=jaS (ps.map Prod.fst) k e:=by
 unfold jaS
 rw[jol,jnH,List.map_take,List.map_drop]
theorem LA.insert{w w1 w2 w':World}{lb:Nat}{ev v':Value}{ps:List Pr}{nx nx':Int}{k:Nat}{q:Pr}{lo:Nat}(h:LA w1 lb ev ps nx)(hb1:Below w.heap.size w w1)(hlb:lb<w.heap.size)(hevb:∀b,ev.ownBlock=some b->b<w.heap.size)(hk:k<=ps.length)
  (h2:ja w2 lb 234 #[ev,.int .i64 (nx'-1)]) (o12:jv (· = lb) w1 w2)
  (hq:ZK w2 q.2 q.1.1.fields) (hqb:q.1.1.fields≠[]->∀b,q.2.ownBlock=some b->w.heap.size<=b/\b<w2.heap.size)
  (hr:w'.ownsRow lo 238 4 v' (ps.length+1) ((jj ps).take (k*4)++(zF q++(jj ps).drop (k*4)))) (ho:jv (fun r=>ev.ownBlock=some r) w2 w') (hbk:v'.ownBlock=ev.ownBlock\/∃b,v'.ownBlock=some b/\w2.heap.size<=b) :
  LA (w'.setCell ⟨lb,0,none⟩ v') lb v' (ps.take k++q::ps.drop k) nx'/\jv (fun r=>r=lb\/ev.ownBlock=some r) w (w'.setCell ⟨lb,0,none⟩ v')/\(v'.ownBlock=ev.ownBlock\/∃b,v'.ownBlock=some b/\w.heap.size<=b):=by
 have hevl:=h.lr.row_ne
 have hz1:=hb1.size
 have hz2:=o12.size
 have hne:v'.ownBlock≠some lb:=by
  rcases hbk with e|⟨b,e,hb⟩
  ·rw[e];exact hevl
  rw[e];intro q;have:b=lb:=jng q;omega
 have o2:jv (fun r=>r=lb\/ev.ownBlock=some r) w1 w':=(o12.mono (fun r _ e=>.inl e)).trans ho (fun r _ e=>.inr e)
 have o3:jv (fun r=>r=lb\/ev.ownBlock=some r) w1 (w'.setCell ⟨lb,0,none⟩ v'):=o2.setCell (p:=⟨lb,0,none⟩) (.inl (.inl rfl)) _
 have hl':ja w' lb 234 #[ev,.int .i64 (nx'-1)]:=h2.only ho hevl
 have hmem:∀y∈ps.take k++q::ps.drop k,y∈ps\/y=q:=fun y hy=>by
  rcases List.mem_append.1 hy with a|a
  ·exact .inl (jog a)
  rcases List.mem_cons.1 a with a|a
  ·exact .inr a
  exact .inl (job a)
 have hqn:q.1.1.fields≠[]->∀b,q.2.ownBlock=some b->b≠lb/\ev.ownBlock≠some b/\v'.ownBlock≠some b:=fun hn b hb=>by
  obtain⟨a1,a2⟩:=hqb hn b hb
  have a3:ev.ownBlock≠some b:=fun e=>by have:=hevb b e;omega
  refine⟨by omega,a3,?_⟩
  rcases hbk with e|⟨b',e,hb'⟩
  ·rw[e];exact a3
  rw[e];intro q;have:b'=b:=jng q;omega
 refine⟨⟨⟨?_,⟨?_,?_⟩⟩,?_⟩,(jv.of_below hb1 (jnd _)).trans o3 (fun r _ e=>e),?_⟩
 ·have:=hl'.set 0 v'
  simpa [List.setIfInBounds_toArray,List.set]using this
 ·have hlen:(ps.take k++q::ps.drop k).length=ps.length+1:=by rw[jnf,jni,jnk,jnr];omega
  rw[hlen,yh,show jj (q::ps.drop k)=zF q++jj (ps.drop k) from rfl,vQ,vR]
  exact jK (p:=⟨lb,0,none⟩) (zk hr (jnt _)) hne _
 ·intro y hy
  rcases hmem y hy with hy|rfl
  ·refine(h.lr.ents.each y hy).only o3 (fun hn b hb e => ?_)
   obtain⟨a1,a2⟩:=h.apart y hy hn b hb
   rcases e with e|e
   ·exact a1 e
   exact a2 e
  refine hq.only ((ho.mono (S':=fun r=>r=lb\/ev.ownBlock=some r) (fun r _ e=>.inr e)).setCell (p:=⟨lb,0,none⟩) (.inl (.inl rfl)) v') (fun hn b hb e => ?_)
  obtain⟨a1,a2,_⟩:=hqn hn b hb
  rcases e with e|e
  ·exact a1 e
  exact a2 e
 ·intro y hy hn b hb
  rcases hmem y hy with hy|rfl
  ·obtain⟨a1,a2⟩:=h.apart y hy hn b hb
   refine⟨a1,?_⟩
   have hb1':=(h.lr.ents.each y hy).1.lt hn b hb
   rcases hbk with e|⟨b',e,hb'⟩
   ·rw[e];exact a2
   rw[e];intro q;have:b'=b:=jng q;omega
  obtain⟨a1,_,a3⟩:=hqn hn b hb
  exact⟨a1,a3⟩
 rcases hbk with e|⟨b,e,hb⟩
 ·exact .inl e
 exact .inr ⟨b,e,by omega⟩
theorem ja1(lb:Nat)(ev:Value)(ps:List Pr)(nx id:Int)(fs:List Fld)(v:Value)(w:World)(h:LA w lb ev ps nx)(hps:ps.length<=10000)(hnx : -1000000<=nx/\nx<=1000000)(hs:ZK w v fs)(hfs:jgQ fs):
  Calls prog 159 #[ptr lb,.int .i64 id,v] w fun e w'=>∃u ev' ps',e=.returned (.tuple #[.int .i64 (yz (jgW ps id) (decide ((ZN 0 ps).length=400)) ⟨ps.map Prod.fst,nx⟩ fs).id,u])/\WrR w lb ev ps (yz (jgW ps id) (decide ((ZN 0 ps).length=400)) ⟨ps.map Prod.fst,nx⟩ fs) u w' ev' ps':=by
 have GP:=jnc (jkx lb ev ps nx id w h.lr (by omega))
 have H:=jnc h
 have HS:=jnc hs
 obtain⟨va,vc,rfl⟩:=hs.form
 clear h hs
 unfold ptr at *
 generalize hfl:decide ((ZN 0 ps).length=400)=full
 have HFL:=jnc hfl
 clear hfl
 cases hf:jgW ps id with
 | none =>
  rw[hf]at GP
  go_enter func159,ntmps159
  go_wp2_with fail
  refine GP.out.mono ?_
  rintro e w1 ⟨⟨k,rfl,_⟩,b1⟩
  dsimp only[Option.isSome]
  go_wp2_with fail
  go_ret2
  exact⟨_,ev,ps,rfl,H.out.below b1 (jnd _),rfl,jv.of_below b1 (jnd _),.inl rfl,vV.err _ _ 7 (by decide),fun p hp=>.inl hp⟩
 | some k =>
 rw[hf]at GP
 have hkl:=jky hf
 clear hf
 go_enter func159,ntmps159
 go_wp2_with fail
 refine GP.out.mono ?_
 rintro e w1 ⟨⟨k',rfl,hk'⟩,b1⟩
 obtain rfl:=hk' k rfl
 dsimp only[Option.isSome]
 have hs1:=HS.out.below b1 (jnd _)
 have IT:=jnc (jb5 fs _ w1 hs1.1 hs1.2 (by have:=hfs.len;omega) hfs.each)
 have B1:=jnc b1
 have hz:=b1.size
 clear GP b1 hs1 hk'
 go_wp2_with fail
 refine IT.out.mono ?_
 rintro e w2 ⟨u,x,hR⟩
 have B2:=jnc (B1.out.trans (hR.below.mono hz))
 have hz2:=hR.below.size
 obtain rfl:=hR.ret
 by_cases h0:vG fs=0
 ·have hu:=hR.chk.zero h0
  subst hu
  have hx:=jnc (hR.own h0)
  obtain⟨xa,xc,rfl,_⟩:=jg (hR.own h0)
  have hki:Wo fs=3:=if_pos h0
  have hst:jcX fs=zb fs:=if_pos h0
  rw[hki,hst]
  clear hR IT
  have hba:=B2.out.alloc B2.out.size (.cells #[.int .i64 3,.string (B (zb fs)),.slice xa fs.length xc] 236)
  have LN:=jnc (jaY lb ev ps nx _ (H.out.lr.below hba (jnd _)) (by omega))
  unfold ptr at LN
  have HBA:=jnc hba
  clear hba
  have hsl:=KS (κ:=fun p:Pr=>p.1.1.kind) 0 ps
  go_wp2_with fail
  refine LN.out.mono ?_
  rintro e w3 ⟨rfl,b3⟩
  have B3:=jnc (HBA.out.trans (b3.mono HBA.out.size))
  have hz3:=b3.size
  rw[jnB]at hz3
  have CI:ja w3 w2.heap.size 236 #[.int .i64 3,.string (B (zb fs)),.slice xa fs.length xc]:=(ja.new w2 _ _).below b3 (by simp)
  have X3:=jnc (vq (hx.out.alloc (.cells #[.int .i64 3,.string (B (zb fs)),.slice xa fs.length xc] 236)) b3 (jnd _))
  by_cases h4:(ZN 0 ps).length=400
  ·obtain rfl:full=true:=by rw[<- HFL.out];exact decide_eq_true h4
   have h4':(((ZN 0 ps).length:Nat):Int)=400:=by omega
   clear b3 LN CI
   rw[h4']
   go_wp2_with fail
   go_ret2
   rw[Gs h0]
   exact⟨_,ev,ps,rfl,H.out.below B3.out (jnd _),rfl,jv.of_below B3.out (jnd _),.inl rfl,vV.err _ _ 11 (by decide),fun p hp=>.inl hp⟩
  obtain rfl:full=false:=by rw[<- HFL.out];exact decide_eq_false h4
  have h4':((((ZN 0 ps).length:Nat):Int)==400)=false:=beq_eq_false_iff_ne.2 (by omega)
  have L3:=jnc (H.out.below B3.out (jnd _))
  have EN:=jnc (Ku (zS fs) xa fs.length xc lb ev nx w3 L3.out.lr.head hnx)
  rw[(Kk fs nx).1,(Kk fs nx).2]at EN
  unfold zS ptr at EN
  dsimp only at EN
  have i0:w3.cell? ⟨w2.heap.size,0,none⟩=some (.int .i64 3):=CI.cell 0
  have i1:w3.cell? ⟨w2.heap.size,1,none⟩=some (.string (B (zb fs))):=CI.cell 1
  have i2:w3.cell? ⟨w2.heap.size,2,none⟩=some (.slice xa fs.length xc):=CI.cell 2
  clear b3 LN CI
  generalize (ZN 0 ps).length=ll at *
  go_wp2_with fail
  refine EN.out.mono ?_
  rintro e w4 ⟨rfl,hc4,o34⟩
  have EO:=jnc (show ∃A n c,ev=.slice A n c from by obtain⟨A,c,e,_⟩:=L3.out.lr.ents.empty;exact⟨A,_,c,e⟩)
  have HC4:=jnc hc4
  have O34:=jnc o34
  clear EN hc4 o34 i0 i1 i2
  go_wp2_with fail
  obtain⟨wa,hwa⟩:∃wa,wa=w4.alloc (.cells #[.int .i64 3,.string (B (zb fs)),.slice xa fs.length xc,.int .i64 nx] 238):=⟨_,rfl⟩
  have L3':=L3.out
  obtain⟨ea,en,ec,rfl⟩:=EO.out
  have hza:wa.heap.size=w4.heap.size+1:=by rw[hwa];simp
  have hz4:=O34.out.size
  have hlb3:=L3'.lr.head.lt
  have CA:ja wa lb 234 #[.slice ea en ec,.int .i64 (nx+1-1)]:=by rw[hwa];exact HC4.out.alloc _
  have CE:ja wa w4.heap.size 238 #[.int .i64 3,.string (B (zb fs)),.slice xa fs.length xc,.int .i64 nx]:=by rw[hwa];exact ja.new _ _ _
  have O3a:jv (· = lb) w3 wa:=by rw[hwa];exact O34.out.alloc _
  have RA:wa.ownsRow 0 238 4 (.slice ea en ec) ps.length (jj ps):=jN L3'.lr.ents.row O3a (fun b hb e=>L3'.lr.row_ne (by rw[hb];exact congrArg some e))
  have XA:=jnc (jN X3.out O3a (fun b hb e=>by
   have h1:=(X3.out.lt b hb).1
   have h2:=H.out.lr.head.lt
   omega))
  rw[<- hwa]
  clear hwa
  have INS:=jnc (ja4 0 (.slice ea en ec) ps.length k' wa.heap.size (jj ps) [.int .i64 3,.string (B (zb fs)),.slice xa fs.length xc,.int .i64 nx] ((wa.alloc (.cells #[.int .i64 3,.string (B (zb fs)),.slice xa fs.length xc,.int .i64 nx] 238)).drew) (show((wa.alloc (.cells #[.int .i64 3,.string (B (zb fs)),.slice xa fs.length xc,.int .i64 nx] 238)).drew).ownsRow 0 238 4 (.slice ea en ec) ps.length (jj ps) from RA.alloc _) (Zy L3'.lr.ents) hkl (by omega) (jnt _) rfl (show ja ((wa.alloc (.cells #[.int .i64 3,.string (B (zb fs)),.slice xa fs.length xc,.int .i64 nx] 238)).drew) wa.heap.size 238 _ from ja.new wa _ _) (fun e=>by have:=(RA.lt _ e).2;omega) (by intro u hu;simp at hu;rcases hu with rfl | rfl | rfl | rfl<;>rfl))
  unfold sl jlj at INS
  have c0:wa.cell? ⟨lb,0,none⟩=some (.slice ea en ec):=CA.cell 0
  have c0a:∀o,(wa.alloc o).cell? ⟨lb,0,none⟩=some (.slice ea en ec):=fun o=>(CA.alloc o).cell 0
  have j0:wa.cell? ⟨w4.heap.size,0,none⟩=some (.int .i64 3):=CE.cell 0
  have j1:wa.cell? ⟨w4.heap.size,1,none⟩=some (.string (B (zb fs))):=CE.cell 1
  have j2:wa.cell? ⟨w4.heap.size,2,none⟩=some (.slice xa fs.length xc):=CE.cell 2
  have j3:wa.cell? ⟨w4.heap.size,3,none⟩=some (.int .i64 nx):=CE.cell 3
  have CAH:=jnc CA
  have CEH:=jnc CE
  have O3H:=jnc O3a
  have hevn:=L3'.lr.row_ne
  have HEN:=jnc hevn
  have HEV:=jnc (show ∀b,(Value.slice ea en ec).ownBlock=some b->b<w.heap.size from fun b hb=>(H.out.lr.ents.row.lt b hb).2)
  have hlbw:=H.out.lr.head.lt
  clear CA CE O3a RA hevn L3' hza
  go_region_law (go_simp;go_at_call 211;refine INS.out.mono ?_;rintro e w6 ⟨v',rfl,hr6,ho6,hbk6⟩;obtain⟨g6,cap6,rfl⟩:=ownsRow_succ hr6;have hc6:=jnc ((CAH.out.alloc _).drew.only ho6 HEN.out);have hce6:=jnc ((CEH.out.alloc _).drew.only ho6 (fun e=>by have:=HEV.out _ e;omega));have k0:w6.cell? ⟨lb,0,none⟩=some (.slice ea en ec):=hc6.out.cell 0;have kf0:=hc6.out.frozen 0;have ho6':=jnc ho6)
  all_goals
   have j6:(w6.setCell ⟨lb,0,none⟩ (.slice (some ⟨g6,0,none⟩) (ps.length+1) cap6)).cell? ⟨w4.heap.size,3,none⟩=some (.int .i64 nx):=(hce6.out.other (p:=⟨lb,0,none⟩) (by show w4.heap.size≠lb;omega) _).cell 3
   go_wp2_with fail
  all_goals
   go_ret2
   rw[ja3 h0]
   have hxq:ZK ((wa.alloc (.cells #[.int .i64 3,.string (B (zb fs)),.slice xa fs.length xc,.int .i64 nx] 238)).drew) (.slice xa fs.length xc) fs:=ZK.own ((show wa.drew.ownsRow w1.heap.size 155 2 (.slice xa fs.length xc) fs.length (jM fs) from XA.out).alloc _)
   have hzaa:((wa.alloc (.cells #[.int .i64 3,.string (B (zb fs)),.slice xa fs.length xc,.int .i64 nx] 238)).drew).heap.size=wa.heap.size+1:=by show(wa.alloc _).heap.size=_;rw[jnB]
   obtain⟨q1,q2,q3⟩:=LA.insert (q:=((zS fs,nx),.slice xa fs.length xc)) (nx':=nx+1) L3.out B3.out hlbw HEV.out hkl ((CAH.out.alloc _).drew) ((O3H.out.alloc _).drew) hxq (fun _ b hb=>⟨by have:=(XA.out.lt b hb).1;omega,by have:=(XA.out.lt b hb).2;omega⟩) hr6 ho6'.out (hbk6.imp (fun h=>h) fun h=>⟨_,h,by omega⟩)
   exact⟨_,_,_,rfl,q1,jhs ps k' (zS fs,nx) _,q2,q3,vV.none _ _,fun q hq=>by
    rcases List.mem_append.1 hq with h|h
    ·exact .inl (jog h)
    rcases List.mem_cons.1 h with h|h
    ·right;rw[h];intro b hb;have:=(XA.out.lt b hb).1;omega
    exact .inl (job h)⟩
 have hxn:=hR.none_ h0
 subst hxn
 rcases hR.chk.pos h0 with hu|⟨q,hu⟩
 all_goals
  subst hu
  have hck:=jnc (vV.of (hR.chk.mono hz))
  clear hR IT
  go_wp2_with fail
  go_ret2
  rw[jdr h0]
  have hba:=B2.out.alloc B2.out.size (.cells #[.int .i64 (Wo fs),.string (B (jcX fs)),.slice none 0 0] 236)
  exact⟨_,ev,ps,rfl,H.out.below hba (jnd _),rfl,jv.of_below hba (jnd _),.inl rfl,hck.out.below ((jne _ _).alloc (jnd _) _) (jnd _),fun p hp=>.inl hp⟩
structure jg0(w wr:World)(lb:Nat)(ev:Value)(ps:List Pr)(nx:Int):Prop where
 head:ja wr lb 234 #[ev,.int .i64 (nx-1)]
 row:wr.ownsRow w.heap.size 238 4 ev ps.length (jj ps)
 each:∀p∈ps,wr.ownsRow w.heap.size 155 2 p.2 p.1.1.fields.length (jM p.1.1.fields)
 below:Below w.heap.size w wr
 lb:w.heap.size<=lb
theorem jB{W:World}{lo n b:Nat}{t u:TypeId}{sz:Nat}{v:Value}{xs:List Value}{cs:Array Value}(h:W.ownsRow lo t sz v n xs)(hc:ja W b u cs)(ht:t≠u):v.ownBlock≠some b:=by
 intro e
 rcases h.2 with ⟨q,_⟩|⟨g,cap,cur,q,_,hg,_⟩
 ·rw[q]at e;cases e
 rw[q]at e
 have:g=b:=jng e
 subst this
 have:=hg.symm.trans hc
 injection this with this
 injection this with _ h2 _
 exact ht h2
theorem qq{W:World}{lo lo' n m:Nat}{t u:TypeId}{sz sz':Nat}{v x:Value}{xs ys:List Value}(h:W.ownsRow lo t sz v n xs)(g:W.ownsRow lo' u sz' x m ys)(ht:t≠u):∀b,v.ownBlock=some b->x.ownBlock≠some b:=by
 intro b hb
 rcases h.2 with ⟨q,_⟩|⟨g',cap,cur,q,_,hg,_⟩
 ·rw[q]at hb;cases hb
 rw[q]at hb
 obtain rfl:g'=b:=jng hb
 exact jB g hg (fun e=>ht e.symm)
theorem jg0.la{w wr:World}{lb:Nat}{ev:Value}{ps:List Pr}{nx:Int}(h:jg0 w wr lb ev ps nx):LA wr lb ev ps nx :=
 ⟨⟨h.head,⟨zk h.row (jnt _),fun p hp=>ZK.own (h.each p hp)⟩⟩,fun p hp _ b hb =>
  ⟨fun e=>jB (h.each p hp) h.head (by decide) (by rw[<- e];exact hb),qq (h.each p hp) h.row (by decide) b hb⟩⟩
theorem jg0.below'{w wr w2:World}{lb:Nat}{ev:Value}{ps:List Pr}{nx:Int}(h:jg0 w wr lb ev ps nx)(hb:Below wr.heap.size wr w2):jg0 w w2 lb ev ps nx :=
 ⟨h.head.below hb h.head.lt,vq h.row hb (jnd _),fun p hp=>vq (h.each p hp) hb (jnd _),h.below.trans (hb.mono h.below.size),h.lb⟩
theorem jg0.snoc{w w5 w6:World}{lb:Nat}{ev v':Value}{ps:List Pr}{nx:Int}{p:Pr}(h:jg0 w w5 lb ev ps nx)(hp:w5.ownsRow w.heap.size 155 2 p.2 p.1.1.fields.length (jM p.1.1.fields))
  (ho:w6.ownsRow 0 238 4 v' (ps.length+1) (jj ps++zF p)) (h6:ja w6 lb 234 #[ev,.int .i64 (nx-1)]) (hk:v'.ownBlock=ev.ownBlock\/∃k,v'.ownBlock=some k/\w5.heap.size<=k/\k<w6.heap.size) (o6:jv (fun r=>some r=ev.ownBlock) w5 w6) :
  jg0 w (w6.setCell ⟨lb,0,none⟩ v') lb v' (ps++[p]) nx:=by
 have hne:v'.ownBlock≠some lb:=jB ho h6 (by decide)
 have hz:=h.below.size
 have hrow:w6.ownsRow w.heap.size 238 4 v' (ps.length+1) (jj ps++zF p):=by
  rcases ho.2 with ⟨q,_⟩|⟨g2,cap2,cur2,q,_,rest⟩
  ·exact⟨ho.1,.inl ⟨q,by omega⟩⟩
  refine⟨ho.1,.inr ⟨g2,cap2,cur2,q,?_,rest⟩⟩
  rcases hk with hk|⟨k,hk,h1,_⟩
  ·exact(h.row.lt g2 (by rw[<- hk,q];rfl)).1
  rw[q]at hk
  have:g2=k:=jng hk
  omega
 have keep:∀{x:Value} {m:Nat} {ys:List Value},w5.ownsRow w.heap.size 155 2 x m ys->(w6.setCell ⟨lb,0,none⟩ v').ownsRow w.heap.size 155 2 x m ys:=fun hx =>
  have h6x:=jN hx o6 (fun b hb e=>qq hx h.row (by decide) b hb e.symm)
  jK (p:=⟨lb,0,none⟩) h6x (jB h6x h6 (by decide)) _
 refine⟨?_,?_,?_,?_,h.lb⟩
 ·have:=h6.set 0 v'
  simpa [List.setIfInBounds_toArray,List.set]using this
 ·rw[jnf,Zx]
  exact jK (p:=⟨lb,0,none⟩) hrow hne _
 ·intro q hq
  rcases List.mem_append.1 hq with hq|hq
  ·exact keep (h.each q hq)
  rw[List.mem_singleton.1 hq];exact keep hp
 have b6:Below w.heap.size w5 w6:=o6.to_below hz (fun r hr e=>by
  have:=(h.row.lt r e.symm).1
  omega)
 exact(h.below.trans b6).setCell (p:=⟨lb,0,none⟩) h.lb _
theorem jgm(lb:Nat)(ev:Value)(ps:List Pr)(nx:Int)(w:World)(h:LA w lb ev ps nx)(ok:jjo ps):
  Calls prog 115 #[ptr lb] w fun e w'=>∃lb' ev' ps',e=.returned (ptr lb')/\LA w' lb' ev' ps' nx/\ps'.map Prod.fst=ps.map Prod.fst/\Below w.heap.size w w'/\w.heap.size<=lb'/\(∀b,ev'.ownBlock=some b->w.heap.size<=b)/\(∀p∈ps',∀b,p.2.ownBlock=some b->w.heap.size<=b):=by
 obtain⟨i0,hi,hz0,hz1,hz2⟩:=info_parts xJ
 obtain⟨A,cap,rfl,hle⟩:=h.lr.ents.empty
 have c0:w.cell? ⟨lb,0,none⟩=some (.slice A ps.length cap):=h.lr.head.cell 0
 have c1:w.cell? ⟨lb,1,none⟩=some (.int .i64 (nx-1)):=h.lr.head.cell 1
 have hll:=h.lr.head.lt
 have H:=jnc h
 have hlen:=ok.len
 have HF:=jnc ok.fields
 have acc0:jg0 w (w.alloc (.cells #[.slice none 0 0,.int .i64 (nx-1)] 234)) w.heap.size (.slice none 0 0) [] nx :=
  ⟨ja.new _ _ _,⟨rfl,.inl ⟨rfl,rfl⟩⟩,(fun p h=>by cases h),(jne _ _).alloc (jnd _) _,jnd _⟩
 have ACC0:=jnc acc0
 clear h ok acc0
 unfold ptr
 go_enter func115,ntmps115
 go_wp2_with fail
 go_loopw [19] (fun i wr=>∃(k:Nat) (ev':Value) (qs:List Pr),k<=ps.length/\i=.int .i64 k/\jg0 w wr w.heap.size ev' qs nx/\qs.map Prod.fst=(ps.take k).map Prod.fst) (fun i _=>ps.length-(intOf i).toNat)
 case atStart=>exact⟨0,_,[],jnt _,rfl,ACC0.out,rfl⟩
 case round =>
 obtain⟨k,ev',qs,hk,rfl,hacc,hqs⟩:=hrel
 by_cases hlt:k<ps.length
 ·obtain⟨p,hp⟩:∃p,ps[k]?=some p:=⟨_,jnh hlt⟩
  have hb:=hacc.below
  have hE:=H.out.lr.ents.below hb (jnd _)
  obtain⟨g,cap',pa,pc,e1,_,hg,e2,d0,d1,d2,d3⟩:=hE.here hp
  cases e1
  have hfr:=hE.each p (jnC hp)
  have hfn:=HF.out p (jnC hp)
  rw[e2]at d2
  have TK:=jnc (show(ps.take (k+1)).map Prod.fst=(ps.take k).map Prod.fst++[p.1] by rw[jnW,hp];simp)
  have hkl:qs.length=k:=by
   have:=congrArg List.length hqs
   rw[jnI,jnI,jnk]at this
   omega
  subst hkl
  have ACC:=jnc hacc
  have HQ:=jnc hqs
  have HFR:=jnc hfr
  have E2:=jnc e2
  obtain⟨ea,ec,rfl,hec⟩:=jg hacc.row
  clear hacc hqs hE hfr hp e2
  go_wp2_with fail
  obtain⟨wa,hwa⟩:∃wa,wa=wr.alloc (.cells #[.int .i64 p.1.1.kind,.string (B p.1.1.raw),.slice pa p.1.1.fields.length pc,.int .i64 p.1.2] 238):=⟨_,rfl⟩
  have hba:=(jne wr.heap.size wr).alloc (jnd _) (.cells #[.int .i64 p.1.1.kind,.string (B p.1.1.raw),.slice pa p.1.1.fields.length pc,.int .i64 p.1.2] 238)
  rw[<- hwa]at hba
  have CE:ja wa wr.heap.size 238 #[.int .i64 p.1.1.kind,.string (B p.1.1.raw),.slice pa p.1.1.fields.length pc,.int .i64 p.1.2]:=by rw[hwa];exact ja.new _ _ _
  have hza:wa.heap.size=wr.heap.size+1:=by rw[hwa];simp
  rw[<- hwa]
  clear hwa d0 d1 d2 d3
  have ACA:=jnc (ACC.out.below' hba)
  have g0:wa.cell? ⟨w.heap.size,0,none⟩=some (.slice ea qs.length ec):=ACA.out.head.cell 0
  have j0:wa.cell? ⟨wr.heap.size,0,none⟩=some (.int .i64 p.1.1.kind):=CE.cell 0
  have j1:wa.cell? ⟨wr.heap.size,1,none⟩=some (.string (B p.1.1.raw)):=CE.cell 1
  have j2:wa.cell? ⟨wr.heap.size,2,none⟩=some (.slice pa p.1.1.fields.length pc):=CE.cell 2
  have j3:wa.cell? ⟨wr.heap.size,3,none⟩=some (.int .i64 p.1.2):=CE.cell 3
  have IT0:=jfy p wa.drew ((HFR.out.below hba (jnd _)).below (jne wa.heap.size wa).drew (jnd _)) hfn
  unfold jgX at IT0
  rw[E2.out]at IT0
  have IT:=jnc IT0
  have CEH:=jnc CE
  have hwz:=ACA.out.below.size
  have ACD:=jnc (ACA.out.below' (w2:=wa.drew) (jne _ _).drew)
  have HNE:=jnc ACA.out.la.lr.row_ne
  clear CE IT0 hza hba
  go_region_law (first
   | (go_simp;go_at_call 156;refine IT.out.mono ?_;rintro e w5 ⟨x,rfl,hx,b5⟩;obtain⟨xa,xc,rfl,_⟩:=jg hx;have acc5:=jnc (ACD.out.below' b5);have hx5:=jnc hx;have ce5:=jnc (CEH.out.drew.below b5 CEH.out.lt);have q0:w5.cell? ⟨w.heap.size,0,none⟩=some (.slice ea qs.length ec):=acc5.out.head.cell 0;have q3:w5.cell? ⟨wr.heap.size,3,none⟩=some (.int .i64 p.1.2):=ce5.out.cell 3;have q0a:∀o,(w5.alloc o).cell? ⟨w.heap.size,0,none⟩=some (.slice ea qs.length ec):=fun o=>(acc5.out.head.alloc o).cell 0;have hr5:=jnc (zk acc5.out.row (jnt _));have hc5:=jnc acc5.out.head;have B5:=jnc b5;clear hx b5)
   | (refine jP rfl (.tmp 27) (.tmp 33) 232 rfl 238 i0 _ 4 56 underlying232 hi hz0 hz1 hz2 rfl (by decide) (.slice ea qs.length ec) qs.length (jj qs) (by simp[Act.eval]) (by exact hr5.out.alloc _) ⟨w5.heap.size,0,none⟩ 1 1 [.int .i64 p.1.1.kind,.string (B p.1.1.raw),.slice xa p.1.1.fields.length xc,.int .i64 p.1.2] (by simp[Act.eval]) rfl (jS w5 238 [.int .i64 p.1.1.kind,.string (B p.1.1.raw),.slice xa p.1.1.fields.length xc,.int .i64 p.1.2]) (by intro u hu;simp at hu;rcases hu with rfl | rfl | rfl | rfl<;>rfl) (by unfold maxLen;omega) (by omega) ?_;intro v' w' ho hgr hbk;obtain⟨⟨g',cap',rfl⟩,hg',hbx,hkk,hon⟩:=qu hc5.out hr5.out HNE.out ((jne _ w5).alloc (jnd _) _) ho hgr hbk;have k0:w'.cell? ⟨w.heap.size,0,none⟩=some (.slice ea qs.length ec):=hg'.cell 0;have kf0:=hg'.frozen 0))
  all_goals go_wp2_with fail
  all_goals
   have acc6:=acc5.out.snoc (p:=(p.1,.slice xa p.1.1.fields.length xc)) (zk hx5.out hwz) ho hg' hkk hon
   go_roundw
   case rel =>
    refine⟨qs.length+1,.slice (some ⟨g',0,none⟩) (qs.length+1) cap',qs++[(p.1,.slice xa p.1.1.fields.length xc)],hlt,by go_num,acc6,?_⟩
    rw[TK.out,jol,HQ.out];rfl
   case measure=>simp[intOf];omega
 obtain rfl:k=ps.length:=by omega
 rw[jnP]at hqs
 have hla:=hacc.la
 have hrow:=hacc.row
 have hb:=hacc.below
 have hea:=hacc.each
 clear H HF ACC0 c0 c1
 go_wp2_with fail
 go_ret
 exact⟨_,ev',qs,rfl,hla,hqs,hb,jnd _,fun b hb=>(hrow.lt b hb).1,fun p hp b hb=>((hea p hp).lt b hb).1⟩
end
structure jgS(w:World)(v:Value)(ps:List Pr):Prop where
 row:w.ownsRow 0 9001 4 v ps.length (jj ps)
 each:∀p∈ps,Xj w p.2 p.1.1.fields
theorem jdL(w:World):jgS w (.slice none 0 0) []:=⟨⟨rfl,.inl ⟨rfl,rfl⟩⟩,fun p h=>by cases h⟩
section
attribute [local go_sem] jnn
end
def Xv(lb:Nat)(ev:Value)(ps:List Pr)(v:Value)(qs:List Pr)(r:Nat):Prop :=
 r=lb\/ev.ownBlock=some r\/v.ownBlock=some r\/(∃p∈ps,p.1.1.fields≠[]/\p.2.ownBlock=some r)\/(∃p∈qs,p.1.1.fields≠[]/\p.2.ownBlock=some r)
structure StR(w:World)(lb:Nat)(ev:Value)(ps:List Pr)(nx:Int)(v:Value)(qs:List Pr):Prop where
 la:LA w lb ev ps nx
 q:jgS w v qs
 va:∀b,v.ownBlock=some b->b≠lb/\ev.ownBlock≠some b
 qa:∀p∈qs,p.1.1.fields≠[]->∀b,p.2.ownBlock=some b->b≠lb/\ev.ownBlock≠some b
theorem jgS.only{w w':World}{v:Value}{ps:List Pr}{S:Nat->Prop}(h:jgS w v ps)(g:jv S w w')(h1:∀b,v.ownBlock=some b->¬S b)(h2:∀p∈ps,p.1.1.fields≠[]->∀b,p.2.ownBlock=some b->¬S b):jgS w' v ps :=
 ⟨jN h.row g h1,fun p hp=>(h.each p hp).only g (fun hne b hb=>h2 p hp hne b hb)⟩
theorem StR.lt{w:World}{lb:Nat}{ev:Value}{ps:List Pr}{nx:Int}{v:Value}{qs:List Pr}(h:StR w lb ev ps nx v qs){r:Nat}(hr:Xv lb ev ps v qs r):r<w.heap.size:=by
 rcases hr with rfl|hr|hr|⟨p,hp,hne,hb⟩|⟨p,hp,hne,hb⟩
 ·exact h.la.lr.head.lt
 ·exact(h.la.lr.ents.row.lt r hr).2
 ·exact(h.q.row.lt r hr).2
 ·exact(h.la.lr.ents.each p hp).1.lt hne r hb
 exact(h.q.each p hp).lt hne r hb
theorem StR.only{w w':World}{lb:Nat}{ev:Value}{ps:List Pr}{nx:Int}{v:Value}{qs:List Pr}{S:Nat->Prop}(h:StR w lb ev ps nx v qs)(g:jv S w w')(hs:∀r,Xv lb ev ps v qs r->¬S r):StR w' lb ev ps nx v qs:=by
 refine⟨⟨⟨h.la.lr.head.only g (hs lb (.inl rfl)),⟨jN h.la.lr.ents.row g (fun b hb=>hs b (.inr (.inl hb))),fun p hp=>(h.la.lr.ents.each p hp).only g (fun hne b hb=>hs b (.inr (.inr (.inr (.inl ⟨p,hp,hne,hb⟩)))))⟩⟩,h.la.apart⟩,?_,h.va,h.qa⟩
 exact h.q.only g (fun b hb=>hs b (.inr (.inr (.inl hb)))) (fun p hp hne b hb=>hs b (.inr (.inr (.inr (.inr ⟨p,hp,hne,hb⟩)))))
section
attribute [local go_sem] jnn
theorem jhd{ps:List Pr}(h:WF (ps.map Prod.fst)):(ZN 0 ps).length=jaE (ps.map Prod.fst):=by
 rw[<- jhQ h]
 unfold jme jaO ZN
 rw[<- KR (κ:=fun e:En=>e.1.kind) Prod.fst,jnI]
theorem jbd{ps:List Pr}(h:WF (ps.map Prod.fst))(id:Int):xr ps id=vy (ps.map Prod.fst) id:=by rw[jkD,jfZ h]
theorem jlP{ps:List Pr}(h:WF (ps.map Prod.fst))(id:Int):jgW ps id=jlg (ps.map Prod.fst) id:=by unfold jgW jlg;rw[jbd h]
theorem jlQ{ps:List Pr}(h:WF (ps.map Prod.fst))(h4:jaE (ps.map Prod.fst)<=400):decide ((ZN 0 ps).length=400)=decide (400<=jaE (ps.map Prod.fst)):=by
 rw[jhd h];exact decide_eq_decide.2 ⟨fun e=>by omega,fun e=>by omega⟩
section
variable {o:Oper} {a:Act} {w:World} {K:Act->World->Prop} {Q:Exit->Act->World->Prop}
end
section
variable {o:Oper} {a:Act} {w:World} {K:Act->World->Prop} {Q:Exit->Act->World->Prop}
end
end
end Go.Proofs.YtpibhbjmcmfnmaaGreatDoor
