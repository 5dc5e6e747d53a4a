/- Texts put together:UN,UO,UP,UQ,UR,US,UT,NA,TO,NB,NC,NR,EU. -/
import Derived.Test.YtpibhbjmcmfnmaaGreatDoorBfn15
set_option linter.unusedVariables false
set_option maxRecDepth 100000
set_option maxHeartbeats 16000000
namespace Go.Proofs.YtpibhbjmcmfnmaaGreatDoor
open Go.RowKit Go.Shelf Tryz
section
attribute [local go_sem] jmk jW
def vB(lo:Nat)(w:World)(u:Value)(a:Int)(n:Nat):Prop:=n<=11/\((u=qi n/\a = -9)\/∃k:Nat,jn lo w u k n/\a=k/\n≠0)
theorem vB.of{lo:Nat}{w:World}{u:Value}{fs:List Fld}(h:xG lo w u fs):vB lo w u (Yc fs) (vn fs):=by
 unfold xG at h
 unfold Yc
 refine⟨Kx fs,?_⟩
 split at h
 ·rename_i hb
  rw[if_pos hb];exact .inl ⟨h,rfl⟩
 rename_i hb
 rw[if_neg hb]
 have h2:vn fs=foldN fs:=by
  unfold jjd at hb
  unfold vn
  rw[if_neg (fun e=>hb (.inl e)),if_neg (fun e=>hb (.inr (.inl e)))]
 refine .inr ⟨_,by rw[h2];exact h,rfl,fun e=>hb (.inr (.inr (by omega)))⟩
theorem vB.none(lo:Nat)(w:World):vB lo w .nilIface (-9) 0:=⟨by decide,.inl ⟨rfl,rfl⟩⟩
theorem vB.err(lo:Nat)(w:World)(n:Nat)(h:n<=11):vB lo w (qi n) (-9) n:=⟨h,.inl ⟨rfl,rfl⟩⟩
theorem vB.below{lo:Nat}{w w':World}{u:Value}{a:Int}{n N:Nat}(h:vB lo w u a n)(hb:Below N w w')(hN:w.heap.size<=N):vB lo w' u a n:=by
 obtain⟨hn,h|⟨k,hf,h⟩⟩:=h
 ·exact⟨hn,.inl h⟩
 exact⟨hn,.inr ⟨k,hf.below hb hN,h⟩⟩
def JI(k:Option Nat)(l:LS)(fs:List Fld):Did :=
 match k with
 | none=>⟨l,-9,7,0⟩
 | some k=>if vn fs=0 then ⟨⟨XM l.es k (zH fs),l.next⟩,-9,0,0⟩ else ⟨l,Yc fs,vn fs,0⟩
def jaa(k:Option Nat)(l:LS):Did :=
 match k with
 | none=>⟨l,-9,7,0⟩
 | some k=>⟨⟨jcL l.es k,l.next⟩,-9,0,0⟩
def ye(k:Option Nat)(full:Bool)(l:LS)(fs:List Fld):Did :=
 match k with
 | none=>⟨l,-9,7,0⟩
 | some k=>if vn fs=0 then (if full=true then ⟨l,-9,11,0⟩ else ⟨⟨Gi l.es k (zH fs,l.next),l.next+1⟩,-9,0,l.next⟩) else ⟨l,Yc fs,vn fs,0⟩
theorem Wh{k:Nat}{l:LS}{fs:List Fld}(h:vn fs=0):JI (some k) l fs=⟨⟨XM l.es k (zH fs),l.next⟩,-9,0,0⟩:=if_pos h
theorem Gh{k:Nat}{l:LS}{fs:List Fld}(h:vn fs≠0):JI (some k) l fs=⟨l,Yc fs,vn fs,0⟩:=if_neg h
theorem jcg{k:Nat}{full:Bool}{l:LS}{fs:List Fld}(h:vn fs≠0):ye (some k) full l fs=⟨l,Yc fs,vn fs,0⟩:=if_neg h
theorem Wy{k:Nat}{l:LS}{fs:List Fld}(h:vn fs=0):ye (some k) true l fs=⟨l,-9,11,0⟩:=by unfold ye;dsimp only;rw[if_pos h,if_pos rfl]
theorem Gu{k:Nat}{l:LS}{fs:List Fld}(h:vn fs=0):ye (some k) false l fs=⟨⟨Gi l.es k (zH fs,l.next),l.next+1⟩,-9,0,l.next⟩:=by unfold ye;dsimp only;rw[if_pos h,if_neg (by decide)]
theorem jbZ(l:LS)(id:Int)(fs:List Fld):qe l id fs=JI (ve l.es id) l fs:=rfl
theorem jeZ(l:LS)(id:Int):qQ l id=jaa (ve l.es id) l:=rfl
theorem jen(l:LS)(id:Int)(fs:List Fld):qD l id fs=ye (jjs l.es id) (decide (400<=UV l.es)) l fs:=by
 unfold qD ye
 cases jjs l.es id with
 | none=>rfl
 | some k=>simp
theorem jiS(ps:List Pr)(id:Int):yV ps id=jgT (ps.map Prod.fst) id:=by
 unfold yV jgT jkJ Ge
 rw[<- XI (κ:=fun e:En=>e.1.kind) Prod.fst,List.find?_map,Option.map_map]
 rfl
structure WrR(w:World)(lb:Nat)(ev:Value)(ps:List Pr)(d:Did)(u:Value)(w':World)(ev':Value)(ps':List Pr):Prop where
 la:LA w' lb ev' ps' d.ls.next
 es:ps'.map Prod.fst=d.ls.es
 only:jt (fun r=>r=lb\/ev.ownBlock=some r) w w'
 blk:ev'.ownBlock=ev.ownBlock\/∃b,ev'.ownBlock=some b/\w.heap.size<=b
 err:vB w.heap.size w' u d.at_ d.bad
 mem:∀p∈ps',p∈ps\/∀b,p.2.ownBlock=some b->w.heap.size<=b
theorem jfX(ps:List Pr)(k:Nat)(p:Pr)(it:It)(x:Value)(h:ps[k]?=some p):(ps.set k ((it,p.1.2),x)).map Prod.fst=XM (ps.map Prod.fst) k it:=by
 unfold XM
 apply jnA
 intro j
 rw[jmC,List.getElem?_set,jn4,jmC]
 by_cases hj:k=j
 ·subst hj
  rw[if_pos rfl,h,if_pos (List.getElem?_eq_some_iff.1 h).1]
  simp
 rw[if_neg hj]
 cases ps[j]? with
 | none=>rfl
 | some y=>simp[hj]
theorem WW(ps:List Pr)(k:Nat)(q:Pr)(h:k<ps.length):jh (ps.set k q)=(jh ps).take (k*4)++(zt q++(jh ps).drop ((k+1)*4)):=by
 rw[List.set_eq_take_append_cons_drop,if_pos h,vO,show jh (q::ps.drop (k+1))=zt q++jh (ps.drop (k+1)) from rfl,vx,vy]
theorem Za{w:World}{v:Value}{ps:List Pr}(h:ZK w v ps):∀u∈jh ps,u.oneCell'=true :=
 WX fun p hp=>by obtain⟨A,c,e⟩:=(h.each p hp).form;rw[e];rfl
structure jft(fs:List Fld):Prop where
 len:fs.length<=1000
 each:∀f∈fs,f.1.length<=100000/\f.2.length<=100000
theorem GZ(lb:Nat)(ev:Value)(ps:List Pr)(nx id:Int)(w:World)(h:LA w lb ev ps nx)(hps:ps.length<=1000000):
  Calls prog 158 #[ptr lb,.int .i64 id] w fun e w'=>∃u ev' ps',e=.returned u/\WrR w lb ev ps (jaa (yV ps id) ⟨ps.map Prod.fst,nx⟩) u w' ev' ps':=by
 have FD:=jl9 (JX lb ev ps nx id w h.lr hps)
 have H:=jl9 h
 clear h
 unfold ptr at *
 cases hf:yV ps id with
 | none =>
  rw[hf]at FD
  unfold Qa at FD
  dsimp only at FD
  go_enter func158,ntmps158
  go_wp2_with fail
  refine FD.out.mono ?_
  rintro e w1 ⟨rfl,b1⟩
  go_wp2_with fail
  go_ret
  exact⟨_,ev,ps,rfl,H.out.below b1 (jma _),rfl,jt.of_below b1 (jma _),.inl rfl,vB.err _ _ 7 (by decide),fun p hp=>.inl hp⟩
 | some k =>
 obtain⟨p,hp,_,_⟩:=Qz hf
 rw[hf]at FD
 unfold Qa at FD
 dsimp only at FD
 have hk:=(List.getElem?_eq_some_iff.1 hp).1
 clear hf hp
 go_enter func158,ntmps158
 go_wp2_with fail
 refine FD.out.mono ?_
 rintro e w1 ⟨rfl,b1⟩
 have H1:=H.out.below b1 (jma _)
 obtain⟨g,cap,rfl⟩:=jnv H1.lr.ents.row (by omega)
 have DL:=jl9 (jac 0 g ps.length cap k (jh ps) w1 H1.lr.ents.row (Za H1.lr.ents) hk hps)
 have c0:w1.cell? ⟨lb,0,none⟩=some (.slice (some ⟨g,0,none⟩) ps.length cap):=H1.lr.head.cell 0
 have hgl:g≠lb:=fun e=>H1.lr.row_ne (by rw[e];rfl)
 have LH:=jl9 H1
 have B1:=jl9 b1
 clear FD H1 b1
 unfold sl at DL
 have hwr:IntKind.i64.wrap ((k:Int)+1)=(k:Int)+1:=jmU _ (by omega)
 go_wp2_with fail
 refine DL.out.mono ?_
 rintro e w2 ⟨rfl,hr2,o2⟩
 have h2:=LH.out.lr.head.only o2 (fun e=>hgl e.symm)
 have d0:w2.cell? ⟨lb,0,none⟩=some (.slice (some ⟨g,0,none⟩) ps.length cap):=h2.cell 0
 have f0:=h2.frozen 0
 have HH2:=jl9 h2
 have HR2:=jl9 hr2
 have HO2:=jl9 o2
 clear DL h2 hr2 o2
 go_wp2_with fail
 go_ret
 have hcm:(jcL (ps.map Prod.fst) k)=(ps.take k++ps.drop (k+1)).map Prod.fst:=by unfold jcL;rw[jnh,List.map_take,List.map_drop]
 have hlen:(ps.take k++ps.drop (k+1)).length=ps.length-1:=by rw[jmb,jmi,jmn];omega
 have hmem:∀q∈ps.take k++ps.drop (k+1),q∈ps:=fun q hq=>by
  rcases List.mem_append.1 hq with h|h
  ·exact jng h
  exact jm6 h
 have o3:jt (fun r=>r=lb\/(Value.slice (some ⟨g,0,none⟩) ps.length cap).ownBlock=some r) w1 (w2.setCell ⟨lb,0,none⟩ (.slice (some ⟨g,0,none⟩) (ps.length-1) cap)) :=
  (HO2.out.mono (fun r _ e=>.inr (by rw[e];rfl))).setCell (p:=⟨lb,0,none⟩) (.inl (.inl rfl)) _
 refine⟨_,.slice (some ⟨g,0,none⟩) (ps.length-1) cap,ps.take k++ps.drop (k+1),rfl,⟨⟨?_,⟨?_,?_⟩⟩,?_⟩,hcm.symm,(jt.of_below B1.out (jma _)).trans o3 (fun r hr e=>e),.inl rfl,vB.none _ _,fun q hq=>.inl (hmem q hq)⟩
 ·have:=HH2.out.set 0 (.slice (some ⟨g,0,none⟩) (ps.length-1) cap)
  show ja _ lb 234 #[_,.int .i64 (nx-1)]
  simpa [List.setIfInBounds_toArray,List.set]using this
 ·rw[hlen,vO,vx,vy]
  exact jF (p:=⟨lb,0,none⟩) HR2.out (fun e=>hgl (jmf e)) _
 ·intro q hq
  refine(LH.out.lr.ents.each q (hmem q hq)).only o3 (fun hne b hb e => ?_)
  obtain⟨a1,a2⟩:=LH.out.apart q (hmem q hq) hne b hb
  rcases e with e|e
  ·exact a1 e
  exact a2 e
 intro q hq hne b hb
 exact LH.out.apart q (hmem q hq) hne b hb
theorem LA.replace{w:World}{lb g cap:Nat}{ps:List Pr}{nx:Int}{k:Nat}{p:Pr}{it:It}{x:Value}(h:LA w lb (.slice (some ⟨g,0,none⟩) ps.length cap) ps nx)(hp:ps[k]?=some p)(hx:Zl w x it.fields)(hxb:it.fields≠[]->∀b,x.ownBlock=some b->b≠lb/\b≠g):
  LA (((w.setCell ⟨g,k*4,none⟩ (.int .i64 it.kind)).setCell ⟨g,k*4+1,none⟩ (.string (B it.raw))).setCell ⟨g,k*4+1+1,none⟩ x) lb (.slice (some ⟨g,0,none⟩) ps.length cap) (ps.set k ((it,p.1.2),x)) nx /\
   jt (· = g) w (((w.setCell ⟨g,k*4,none⟩ (.int .i64 it.kind)).setCell ⟨g,k*4+1,none⟩ (.string (B it.raw))).setCell ⟨g,k*4+1+1,none⟩ x):=by
 have hk:=(List.getElem?_eq_some_iff.1 hp).1
 have hgl:g≠lb:=fun e=>h.lr.row_ne (by rw[e];rfl)
 have o:jt (· = g) w (((w.setCell ⟨g,k*4,none⟩ (.int .i64 it.kind)).setCell ⟨g,k*4+1,none⟩ (.string (B it.raw))).setCell ⟨g,k*4+1+1,none⟩ x) :=
  (((jt.refl (· = g) w).cellS _ _).cellS _ _).cellS _ _
 obtain⟨hl,h2⟩:=h.lr.ents.row
 obtain⟨cur,hg,hle,hcm,hcs,htk⟩:∃cur,ja w g 238 cur/\ps.length<=cap/\cap<=maxLen/\cur.size=cap*4/\cur.toList.take (ps.length*4)=jh ps:=by
  rcases h2 with ⟨q,_⟩|⟨g',cap',cur,q,a,b,c,d,e,f⟩
  ·cases q
  cases q;exact⟨cur,b,c,d,e,f⟩
 have hat:∀j,j<ps.length*4->(jh ps)[j]?=cur[j]?:=fun j hj=>by rw[<- htk,jmK,if_pos hj];simp
 have C3:ja (((w.setCell ⟨g,k*4,none⟩ (.int .i64 it.kind)).setCell ⟨g,k*4+1,none⟩ (.string (B it.raw))).setCell ⟨g,k*4+1+1,none⟩ x) g 238 (Xj cur (k*4) [.int .i64 it.kind,.string (B it.raw),x]) :=
  ja.lay [.int .i64 it.kind,.string (B it.raw),x] (k*4) hg
 have hid:=Jm ps k p hp 3 (.int .i64 p.1.2) rfl
 refine⟨⟨⟨h.lr.head.only o (fun e=>hgl e.symm),⟨?_,fun q hq => ?_⟩⟩,fun q hq hne b hb => ?_⟩,o⟩
 ·rw[jnI,WW ps k _ hk]
  have hll:((jh ps).take (k*4)++(zt ((it,p.1.2),x)++(jh ps).drop ((k+1)*4))).length=ps.length*4:=by
   rw[jmb,jmb,jmi,jmn,hl]
   show _+(4+_)=_
   omega
  refine⟨hll,.inr ⟨g,cap,_,rfl,jmo _,C3,hle,hcm,by rw[qn,hcs],?_⟩⟩
  apply jnA
  intro j
  rw[jmK]
  split
  ·rename_i hj
   rw[jnK,xi _ _ _ _ (by rw[hcs];simp only[jme,jmB];omega)]
   simp only[jme,jmB]
   split
   ·rename_i h3
    rw[jmr (by rw[jmi,hl];omega),jmi,hl,show min (k*4) (ps.length*4)=k*4 by omega,jmI (by show _<4;omega)]
    rcases(by omega:j-k*4=0\/j-k*4=1\/j-k*4=2) with e|e|e<;>rw[e]<;>rfl
   rename_i h3
   rw[<- hat j hj]
   rcases jmF j (k*4) with h4|h4
   ·rw[jmI (by rw[jmi,hl];omega),jmK,if_pos h4]
   rw[jmr (by rw[jmi,hl];omega),jmi,hl,show min (k*4) (ps.length*4)=k*4 by omega]
   rcases jmF j (k*4+4) with h5|h5
   ·have e:j=k*4+3:=by omega
    subst e
    rw[show k*4+3-k*4=3 by omega,hid];rfl
   rw[jmr (by show 4<=_;omega),jm7]
   show _=(jh ps)[(k+1)*4+(j-k*4-4)]?
   congr 1;omega
  rename_i hj
  rw[jmZ (by omega)]
 ·rcases jnw hq with hq|rfl
  ·exact(h.lr.ents.each q hq).only o (fun hne b hb e=>(h.apart q hq hne b hb).2 (by rw[e];rfl))
  exact hx.only o (fun hne b hb e=>(hxb hne b hb).2 e)
 rcases jnw hq with hq|rfl
 ·exact h.apart q hq hne b hb
 obtain⟨a1,a2⟩:=hxb hne b hb
 exact⟨a1,fun e=>a2 (jmf e).symm⟩
theorem Wg(lb:Nat)(ev:Value)(ps:List Pr)(nx id:Int)(fs:List Fld)(v:Value)(w:World)(h:LA w lb ev ps nx)(hps:ps.length<=1000000)(hs:Zl w v fs)(hfs:jft fs):
  Calls prog 157 #[ptr lb,.int .i64 id,v] w fun e w'=>∃u ev' ps',e=.returned u/\WrR w lb ev ps (JI (yV ps id) ⟨ps.map Prod.fst,nx⟩ fs) u w' ev' ps':=by
 have FD:=jl9 (JX lb ev ps nx id w h.lr hps)
 have H:=jl9 h
 have HS:=jl9 hs
 obtain⟨va,vc,rfl⟩:=hs.form
 clear h hs
 unfold ptr at *
 cases hf:yV ps id with
 | none =>
  rw[hf]at FD
  unfold Qa at FD
  dsimp only at FD
  go_enter func157,ntmps157
  go_wp2_with fail
  refine FD.out.mono ?_
  rintro e w1 ⟨rfl,b1⟩
  go_wp2_with fail
  go_ret
  exact⟨_,ev,ps,rfl,H.out.below b1 (jma _),rfl,jt.of_below b1 (jma _),.inl rfl,vB.err _ _ 7 (by decide),fun p hp=>.inl hp⟩
 | some k =>
 obtain⟨p,hp,_,_⟩:=Qz hf
 rw[hf]at FD
 unfold Qa at FD
 dsimp only at FD
 have hk:=(List.getElem?_eq_some_iff.1 hp).1
 have HP:=jl9 hp
 clear hf hp
 go_enter func157,ntmps157
 go_wp2_with fail
 refine FD.out.mono ?_
 rintro e w1 ⟨rfl,b1⟩
 have hs1:=HS.out.below b1 (jma _)
 have IT:=jl9 (jaV fs _ w1 hs1.1 hs1.2 (by have:=hfs.len;omega) hfs.each)
 have B1:=jl9 b1
 have hz:=b1.size
 clear FD b1 hs1
 go_wp2_with fail
 refine IT.out.mono ?_
 rintro e w2 ⟨u,x,hR⟩
 have B2:=jl9 (B1.out.trans (hR.below.mono hz))
 have CK:=jl9 (hR.chk.mono hz)
 obtain rfl:=hR.ret
 by_cases h0:vn fs=0
 ·have hu:=hR.chk.zero h0
  subst hu
  have hx:=jl9 (hR.own h0)
  obtain⟨xa,xc,rfl,_⟩:=jf (hR.own h0)
  have hki:Kc fs=3:=if_pos h0
  have hst:jbM fs=jU fs:=if_pos h0
  rw[hki,hst]
  have H2:=H.out.below B2.out (jma _)
  obtain⟨g,cap,rfl⟩:=jnv H2.lr.ents.row (by omega)
  obtain⟨g',cap',pa,pc,e1,hle,hgl2,e2,d0,d1,d2,d3⟩:=H2.lr.ents.here HP.out
  cases e1
  rw[e2]at d2
  have hgw:g<w.heap.size:=(H.out.lr.ents.row.lt g rfl).2
  have c0:w2.cell? ⟨lb,0,none⟩=some (.slice (some ⟨g,0,none⟩) ps.length cap):=H2.lr.head.cell 0
  have LH:=jl9 H2
  clear hR IT H2 e2
  go_wp2_with fail
  obtain⟨w3,hw3⟩:∃w3,w3=w2.alloc (.cells #[.int .i64 3,.string (B (jU fs)),.slice xa fs.length xc] 236):=⟨_,rfl⟩
  have L3:=jl9 (show LA w3 lb (.slice (some ⟨g,0,none⟩) ps.length cap) ps nx by rw[hw3];exact LH.out.below ((jmc _ _).alloc (jma _) _) (jma _))
  have CI:ja w3 w2.heap.size 236 #[.int .i64 3,.string (B (jU fs)),.slice xa fs.length xc]:=by rw[hw3];exact ja.new _ _ _
  have X3:=jl9 (show w3.ownsRow w1.heap.size 155 2 (.slice xa fs.length xc) fs.length (jG fs) by rw[hw3];exact hx.out.alloc _)
  have B3:=jl9 (show Below w.heap.size w w3 by rw[hw3];exact B2.out.alloc B2.out.size _)
  rw[<- hw3]
  clear hw3 c0 d0 d1 d2 d3 LH B2 hx
  obtain⟨g',cap',pa',pc',e1,_,hgl3,e2,d0,d1,d2,d3⟩:=L3.out.lr.ents.here HP.out
  cases e1
  rw[e2]at d2
  obtain⟨cur,hcur⟩:∃cur,ja w3 g 238 cur:=by
   rcases L3.out.lr.ents.row.2 with ⟨q,_⟩|⟨g'',cap'',cur,q,_,c,_⟩
   ·cases q
   cases q;exact⟨cur,c⟩
  have f0:=hcur.frozen (k*4)
  have f1:=hcur.frozen (k*4+1)
  have f2:=hcur.frozen (k*4+1+1)
  have c0:w3.cell? ⟨lb,0,none⟩=some (.slice (some ⟨g,0,none⟩) ps.length cap):=L3.out.lr.head.cell 0
  have i0:w3.cell? ⟨w2.heap.size,0,none⟩=some (.int .i64 3):=CI.cell 0
  have i1:w3.cell? ⟨w2.heap.size,1,none⟩=some (.string (B (jU fs))):=CI.cell 1
  have i2:w3.cell? ⟨w2.heap.size,2,none⟩=some (.slice xa fs.length xc):=CI.cell 2
  clear CI hcur e2
  go_region_law (skip)
  all_goals go_wp2_with fail
  all_goals
   go_ret
   rw[Wh h0]
   have hbl:lb<w.heap.size:=H.out.lr.head.lt
   obtain⟨q1,q2⟩:=(L3.out.below (n:=w3.heap.size) (jmc _ w3).drew (jma _)).replace (it:=zH fs) (x:=.slice xa fs.length xc) HP.out (Zl.own (show w3.drew.ownsRow w1.heap.size 155 2 (.slice xa fs.length xc) fs.length (jG fs) from X3.out)) (fun _ b hb=>by
    have:=(X3.out.lt b hb).1
    exact⟨by omega,by omega⟩)
   refine⟨_,_,_,rfl,q1,?_,(jt.of_below (B3.out.drew) (jma _)).trans (q2.mono (fun r _ e=>(.inr (by rw[e];rfl):r=lb\/(Value.slice (some ⟨g,0,none⟩) ps.length cap).ownBlock=some r))) (fun r hr e=>e),.inl rfl,?_,fun q hq => ?_⟩
   ·exact jfX ps k p _ _ HP.out
   ·exact vB.none _ _
   rcases jnw hq with h|h
   ·exact .inl h
   right;rw[h];intro b hb;have:=(X3.out.lt b hb).1;omega
 have hxn:=hR.none_ h0
 subst hxn
 rcases hR.chk.pos h0 with hu|⟨q,hu⟩
 all_goals
  subst hu
  have hck:=jl9 (vB.of (hR.chk.mono hz))
  clear hR IT CK
  go_wp2_with fail
  go_ret
  rw[Gh h0]
  have hba:=B2.out.alloc B2.out.size (.cells #[.int .i64 (Kc fs),.string (B (jbM fs)),.slice none 0 0] 236)
  exact⟨_,ev,ps,rfl,H.out.below hba (jma _),rfl,jt.of_below hba (jma _),.inl rfl,hck.out.below ((jmc _ _).alloc (jma _) _) (jma _),fun p hp=>.inl hp⟩
theorem jiN{ps:List Pr}{id:Int}{k:Nat}(h:jfz ps id=some k):k<=ps.length:=by
 unfold jfz at h
 split at h
 ·cases h;omega
 obtain⟨q,hq,rfl⟩:=Option.map_eq_some_iff.1 h
 obtain⟨p,hp,_⟩:=Qz hq
 have:=(List.getElem?_eq_some_iff.1 hp).1
 omega
theorem Xm(fs:List Fld)(nx:Int):jin (zH fs) nx=nx/\jip (zH fs) nx=nx+1:=⟨rfl,rfl⟩
theorem Gp(lb:Nat)(ev:Value)(ps:List Pr)(nx:Int)(w:World)(h:LR w lb ev ps nx)(hps:ps.length<=1000000):
  Calls prog 209 #[ptr lb] w fun e w'=>e=.returned (.int .i64 ((Zn 0 ps).length:Nat))/\Below w.heap.size w w' :=
 jix ps ev (some ⟨lb,0,none⟩) w (fun _ hB=>jjD.of (h.below hB (jma _))) hps
theorem jf9(ps:List Pr)(k:Nat)(e:En)(x:Value):(ps.take k++(e,x)::ps.drop k).map Prod.fst=Gi (ps.map Prod.fst) k e:=by
 unfold Gi
 rw[jnh,jmD,List.map_take,List.map_drop]
theorem LA.insert{w w1 w2 w':World}{lb:Nat}{ev v':Value}{ps:List Pr}{nx nx':Int}{k:Nat}{q:Pr}{lo:Nat}(h:LA w1 lb ev ps nx)(hb1:Below w.heap.size w w1)(hlb:lb<w.heap.size)(hevb:∀b,ev.ownBlock=some b->b<w.heap.size)(hk:k<=ps.length)
  (h2:ja w2 lb 234 #[ev,.int .i64 (nx'-1)]) (o12:jt (· = lb) w1 w2)
  (hq:Zl w2 q.2 q.1.1.fields) (hqb:q.1.1.fields≠[]->∀b,q.2.ownBlock=some b->w.heap.size<=b/\b<w2.heap.size)
  (hr:w'.ownsRow lo 238 4 v' (ps.length+1) ((jh ps).take (k*4)++(zt q++(jh ps).drop (k*4)))) (ho:jt (fun r=>ev.ownBlock=some r) w2 w') (hbk:v'.ownBlock=ev.ownBlock\/∃b,v'.ownBlock=some b/\w2.heap.size<=b) :
  LA (w'.setCell ⟨lb,0,none⟩ v') lb v' (ps.take k++q::ps.drop k) nx'/\jt (fun r=>r=lb\/ev.ownBlock=some r) w (w'.setCell ⟨lb,0,none⟩ v')/\(v'.ownBlock=ev.ownBlock\/∃b,v'.ownBlock=some b/\w.heap.size<=b):=by
 have hevl:=h.lr.row_ne
 have hz1:=hb1.size
 have hz2:=o12.size
 have hne:v'.ownBlock≠some lb:=by
  rcases hbk with e|⟨b,e,hb⟩
  ·rw[e];exact hevl
  rw[e];intro q;have:b=lb:=jmf q;omega
 have o2:jt (fun r=>r=lb\/ev.ownBlock=some r) w1 w':=(o12.mono (fun r _ e=>.inl e)).trans ho (fun r _ e=>.inr e)
 have o3:jt (fun r=>r=lb\/ev.ownBlock=some r) w1 (w'.setCell ⟨lb,0,none⟩ v'):=o2.setCell (p:=⟨lb,0,none⟩) (.inl (.inl rfl)) _
 have hl':ja w' lb 234 #[ev,.int .i64 (nx'-1)]:=h2.only ho hevl
 have hmem:∀y∈ps.take k++q::ps.drop k,y∈ps\/y=q:=fun y hy=>by
  rcases List.mem_append.1 hy with a|a
  ·exact .inl (jng a)
  rcases List.mem_cons.1 a with a|a
  ·exact .inr a
  exact .inl (jm6 a)
 have hqn:q.1.1.fields≠[]->∀b,q.2.ownBlock=some b->b≠lb/\ev.ownBlock≠some b/\v'.ownBlock≠some b:=fun hn b hb=>by
  obtain⟨a1,a2⟩:=hqb hn b hb
  have a3:ev.ownBlock≠some b:=fun e=>by have:=hevb b e;omega
  refine⟨by omega,a3,?_⟩
  rcases hbk with e|⟨b',e,hb'⟩
  ·rw[e];exact a3
  rw[e];intro q;have:b'=b:=jmf q;omega
 refine⟨⟨⟨?_,⟨?_,?_⟩⟩,?_⟩,(jt.of_below hb1 (jma _)).trans o3 (fun r _ e=>e),?_⟩
 ·have:=hl'.set 0 v'
  simpa [List.setIfInBounds_toArray,List.set]using this
 ·have hlen:(ps.take k++q::ps.drop k).length=ps.length+1:=by rw[jmb,jme,jmi,jmn];omega
  rw[hlen,vO,show jh (q::ps.drop k)=zt q++jh (ps.drop k) from rfl,vx,vy]
  exact jF (p:=⟨lb,0,none⟩) (ze hr (jmo _)) hne _
 ·intro y hy
  rcases hmem y hy with hy|rfl
  ·refine(h.lr.ents.each y hy).only o3 (fun hn b hb e => ?_)
   obtain⟨a1,a2⟩:=h.apart y hy hn b hb
   rcases e with e|e
   ·exact a1 e
   exact a2 e
  refine hq.only ((ho.mono (S':=fun r=>r=lb\/ev.ownBlock=some r) (fun r _ e=>.inr e)).setCell (p:=⟨lb,0,none⟩) (.inl (.inl rfl)) v') (fun hn b hb e => ?_)
  obtain⟨a1,a2,_⟩:=hqn hn b hb
  rcases e with e|e
  ·exact a1 e
  exact a2 e
 ·intro y hy hn b hb
  rcases hmem y hy with hy|rfl
  ·obtain⟨a1,a2⟩:=h.apart y hy hn b hb
   refine⟨a1,?_⟩
   have hb1':=(h.lr.ents.each y hy).1.lt hn b hb
   rcases hbk with e|⟨b',e,hb'⟩
   ·rw[e];exact a2
   rw[e];intro q;have:b'=b:=jmf q;omega
  obtain⟨a1,_,a3⟩:=hqn hn b hb
  exact⟨a1,a3⟩
 rcases hbk with e|⟨b,e,hb⟩
 ·exact .inl e
 exact .inr ⟨b,e,by omega⟩
theorem Gs(lb:Nat)(ev:Value)(ps:List Pr)(nx id:Int)(fs:List Fld)(v:Value)(w:World)(h:LA w lb ev ps nx)(hps:ps.length<=10000)(hnx : -1000000<=nx/\nx<=1000000)(hs:Zl w v fs)(hfs:jft fs):
  Calls prog 159 #[ptr lb,.int .i64 id,v] w fun e w'=>∃u ev' ps',e=.returned (.tuple #[.int .i64 (ye (jfz ps id) (decide ((Zn 0 ps).length=400)) ⟨ps.map Prod.fst,nx⟩ fs).id,u])/\WrR w lb ev ps (ye (jfz ps id) (decide ((Zn 0 ps).length=400)) ⟨ps.map Prod.fst,nx⟩ fs) u w' ev' ps':=by
 have GP:=jl9 (jiM lb ev ps nx id w h.lr (by omega))
 have H:=jl9 h
 have HS:=jl9 hs
 obtain⟨va,vc,rfl⟩:=hs.form
 clear h hs
 unfold ptr at *
 generalize hfl:decide ((Zn 0 ps).length=400)=full
 have HFL:=jl9 hfl
 clear hfl
 cases hf:jfz ps id with
 | none =>
  rw[hf]at GP
  go_enter func159,ntmps159
  go_wp2_with fail
  refine GP.out.mono ?_
  rintro e w1 ⟨⟨k,rfl,_⟩,b1⟩
  dsimp only[Option.isSome]
  go_wp2_with fail
  go_ret2
  exact⟨_,ev,ps,rfl,H.out.below b1 (jma _),rfl,jt.of_below b1 (jma _),.inl rfl,vB.err _ _ 7 (by decide),fun p hp=>.inl hp⟩
 | some k =>
 rw[hf]at GP
 have hkl:=jiN hf
 clear hf
 go_enter func159,ntmps159
 go_wp2_with fail
 refine GP.out.mono ?_
 rintro e w1 ⟨⟨k',rfl,hk'⟩,b1⟩
 obtain rfl:=hk' k rfl
 dsimp only[Option.isSome]
 have hs1:=HS.out.below b1 (jma _)
 have IT:=jl9 (jaV fs _ w1 hs1.1 hs1.2 (by have:=hfs.len;omega) hfs.each)
 have B1:=jl9 b1
 have hz:=b1.size
 clear GP b1 hs1 hk'
 go_wp2_with fail
 refine IT.out.mono ?_
 rintro e w2 ⟨u,x,hR⟩
 have B2:=jl9 (B1.out.trans (hR.below.mono hz))
 have hz2:=hR.below.size
 obtain rfl:=hR.ret
 by_cases h0:vn fs=0
 ·have hu:=hR.chk.zero h0
  subst hu
  have hx:=jl9 (hR.own h0)
  obtain⟨xa,xc,rfl,_⟩:=jf (hR.own h0)
  have hki:Kc fs=3:=if_pos h0
  have hst:jbM fs=jU fs:=if_pos h0
  rw[hki,hst]
  clear hR IT
  have hba:=B2.out.alloc B2.out.size (.cells #[.int .i64 3,.string (B (jU fs)),.slice xa fs.length xc] 236)
  have LN:=jl9 (Gp lb ev ps nx _ (H.out.lr.below hba (jma _)) (by omega))
  unfold ptr at LN
  have HBA:=jl9 hba
  clear hba
  have hsl:=XJ (κ:=fun p:Pr=>p.1.1.kind) 0 ps
  go_wp2_with fail
  refine LN.out.mono ?_
  rintro e w3 ⟨rfl,b3⟩
  have B3:=jl9 (HBA.out.trans (b3.mono HBA.out.size))
  have hz3:=b3.size
  rw[jmw]at hz3
  have CI:ja w3 w2.heap.size 236 #[.int .i64 3,.string (B (jU fs)),.slice xa fs.length xc]:=(ja.new w2 _ _).below b3 (by simp)
  have X3:=jl9 (qT (hx.out.alloc (.cells #[.int .i64 3,.string (B (jU fs)),.slice xa fs.length xc] 236)) b3 (jma _))
  by_cases h4:(Zn 0 ps).length=400
  ·obtain rfl:full=true:=by rw[<- HFL.out];exact decide_eq_true h4
   have h4':(((Zn 0 ps).length:Nat):Int)=400:=by omega
   clear b3 LN CI
   rw[h4']
   go_wp2_with fail
   go_ret2
   rw[Wy h0]
   exact⟨_,ev,ps,rfl,H.out.below B3.out (jma _),rfl,jt.of_below B3.out (jma _),.inl rfl,vB.err _ _ 11 (by decide),fun p hp=>.inl hp⟩
  obtain rfl:full=false:=by rw[<- HFL.out];exact decide_eq_false h4
  have h4':((((Zn 0 ps).length:Nat):Int)==400)=false:=beq_eq_false_iff_ne.2 (by omega)
  have L3:=jl9 (H.out.below B3.out (jma _))
  have EN:=jl9 (Xs (zH fs) xa fs.length xc lb ev nx w3 L3.out.lr.head hnx)
  rw[(Xm fs nx).1,(Xm fs nx).2]at EN
  unfold zH ptr at EN
  dsimp only at EN
  have i0:w3.cell? ⟨w2.heap.size,0,none⟩=some (.int .i64 3):=CI.cell 0
  have i1:w3.cell? ⟨w2.heap.size,1,none⟩=some (.string (B (jU fs))):=CI.cell 1
  have i2:w3.cell? ⟨w2.heap.size,2,none⟩=some (.slice xa fs.length xc):=CI.cell 2
  clear b3 LN CI
  generalize (Zn 0 ps).length=ll at *
  go_wp2_with fail
  refine EN.out.mono ?_
  rintro e w4 ⟨rfl,hc4,o34⟩
  have EO:=jl9 (show ∃A n c,ev=.slice A n c from by obtain⟨A,c,e,_⟩:=L3.out.lr.ents.empty;exact⟨A,_,c,e⟩)
  have HC4:=jl9 hc4
  have O34:=jl9 o34
  clear EN hc4 o34 i0 i1 i2
  go_wp2_with fail
  obtain⟨wa,hwa⟩:∃wa,wa=w4.alloc (.cells #[.int .i64 3,.string (B (jU fs)),.slice xa fs.length xc,.int .i64 nx] 238):=⟨_,rfl⟩
  have L3':=L3.out
  obtain⟨ea,en,ec,rfl⟩:=EO.out
  have hza:wa.heap.size=w4.heap.size+1:=by rw[hwa];simp
  have hz4:=O34.out.size
  have hlb3:=L3'.lr.head.lt
  have CA:ja wa lb 234 #[.slice ea en ec,.int .i64 (nx+1-1)]:=by rw[hwa];exact HC4.out.alloc _
  have CE:ja wa w4.heap.size 238 #[.int .i64 3,.string (B (jU fs)),.slice xa fs.length xc,.int .i64 nx]:=by rw[hwa];exact ja.new _ _ _
  have O3a:jt (· = lb) w3 wa:=by rw[hwa];exact O34.out.alloc _
  have RA:wa.ownsRow 0 238 4 (.slice ea en ec) ps.length (jh ps):=jH L3'.lr.ents.row O3a (fun b hb e=>L3'.lr.row_ne (by rw[hb];exact congrArg some e))
  have XA:=jl9 (jH X3.out O3a (fun b hb e=>by
   have h1:=(X3.out.lt b hb).1
   have h2:=H.out.lr.head.lt
   omega))
  rw[<- hwa]
  clear hwa
  have INS:=jl9 (Gv 0 (.slice ea en ec) ps.length k' wa.heap.size (jh ps) [.int .i64 3,.string (B (jU fs)),.slice xa fs.length xc,.int .i64 nx] ((wa.alloc (.cells #[.int .i64 3,.string (B (jU fs)),.slice xa fs.length xc,.int .i64 nx] 238)).drew) (show((wa.alloc (.cells #[.int .i64 3,.string (B (jU fs)),.slice xa fs.length xc,.int .i64 nx] 238)).drew).ownsRow 0 238 4 (.slice ea en ec) ps.length (jh ps) from RA.alloc _) (Za L3'.lr.ents) hkl (by omega) (jmo _) rfl (show ja ((wa.alloc (.cells #[.int .i64 3,.string (B (jU fs)),.slice xa fs.length xc,.int .i64 nx] 238)).drew) wa.heap.size 238 _ from ja.new wa _ _) (fun e=>by have:=(RA.lt _ e).2;omega) (by intro u hu;simp at hu;rcases hu with rfl | rfl | rfl | rfl<;>rfl))
  unfold sl jjB at INS
  have c0:wa.cell? ⟨lb,0,none⟩=some (.slice ea en ec):=CA.cell 0
  have c0a:∀o,(wa.alloc o).cell? ⟨lb,0,none⟩=some (.slice ea en ec):=fun o=>(CA.alloc o).cell 0
  have j0:wa.cell? ⟨w4.heap.size,0,none⟩=some (.int .i64 3):=CE.cell 0
  have j1:wa.cell? ⟨w4.heap.size,1,none⟩=some (.string (B (jU fs))):=CE.cell 1
  have j2:wa.cell? ⟨w4.heap.size,2,none⟩=some (.slice xa fs.length xc):=CE.cell 2
  have j3:wa.cell? ⟨w4.heap.size,3,none⟩=some (.int .i64 nx):=CE.cell 3
  have CAH:=jl9 CA
  have CEH:=jl9 CE
  have O3H:=jl9 O3a
  have hevn:=L3'.lr.row_ne
  have HEN:=jl9 hevn
  have HEV:=jl9 (show ∀b,(Value.slice ea en ec).ownBlock=some b->b<w.heap.size from fun b hb=>(H.out.lr.ents.row.lt b hb).2)
  have hlbw:=H.out.lr.head.lt
  clear CA CE O3a RA hevn L3' hza
  go_region_law (go_simp;go_at_call 211;refine INS.out.mono ?_;rintro e w6 ⟨v',rfl,hr6,ho6,hbk6⟩;obtain⟨g6,cap6,rfl⟩:=ownsRow_succ hr6;have hc6:=jl9 ((CAH.out.alloc _).drew.only ho6 HEN.out);have hce6:=jl9 ((CEH.out.alloc _).drew.only ho6 (fun e=>by have:=HEV.out _ e;omega));have k0:w6.cell? ⟨lb,0,none⟩=some (.slice ea en ec):=hc6.out.cell 0;have kf0:=hc6.out.frozen 0;have ho6':=jl9 ho6)
  all_goals
   have j6:(w6.setCell ⟨lb,0,none⟩ (.slice (some ⟨g6,0,none⟩) (ps.length+1) cap6)).cell? ⟨w4.heap.size,3,none⟩=some (.int .i64 nx):=(hce6.out.other (p:=⟨lb,0,none⟩) (by show w4.heap.size≠lb;omega) _).cell 3
   go_wp2_with fail
  all_goals
   go_ret2
   rw[Gu h0]
   have hxq:Zl ((wa.alloc (.cells #[.int .i64 3,.string (B (jU fs)),.slice xa fs.length xc,.int .i64 nx] 238)).drew) (.slice xa fs.length xc) fs:=Zl.own ((show wa.drew.ownsRow w1.heap.size 155 2 (.slice xa fs.length xc) fs.length (jG fs) from XA.out).alloc _)
   have hzaa:((wa.alloc (.cells #[.int .i64 3,.string (B (jU fs)),.slice xa fs.length xc,.int .i64 nx] 238)).drew).heap.size=wa.heap.size+1:=by show(wa.alloc _).heap.size=_;rw[jmw]
   obtain⟨q1,q2,q3⟩:=LA.insert (q:=((zH fs,nx),.slice xa fs.length xc)) (nx':=nx+1) L3.out B3.out hlbw HEV.out hkl ((CAH.out.alloc _).drew) ((O3H.out.alloc _).drew) hxq (fun _ b hb=>⟨by have:=(XA.out.lt b hb).1;omega,by have:=(XA.out.lt b hb).2;omega⟩) hr6 ho6'.out (hbk6.imp (fun h=>h) fun h=>⟨_,h,by omega⟩)
   exact⟨_,_,_,rfl,q1,jf9 ps k' (zH fs,nx) _,q2,q3,vB.none _ _,fun q hq=>by
    rcases List.mem_append.1 hq with h|h
    ·exact .inl (jng h)
    rcases List.mem_cons.1 h with h|h
    ·right;rw[h];intro b hb;have:=(XA.out.lt b hb).1;omega
    exact .inl (jm6 h)⟩
 have hxn:=hR.none_ h0
 subst hxn
 rcases hR.chk.pos h0 with hu|⟨q,hu⟩
 all_goals
  subst hu
  have hck:=jl9 (vB.of (hR.chk.mono hz))
  clear hR IT
  go_wp2_with fail
  go_ret2
  rw[jcg h0]
  have hba:=B2.out.alloc B2.out.size (.cells #[.int .i64 (Kc fs),.string (B (jbM fs)),.slice none 0 0] 236)
  exact⟨_,ev,ps,rfl,H.out.below hba (jma _),rfl,jt.of_below hba (jma _),.inl rfl,hck.out.below ((jmc _ _).alloc (jma _) _) (jma _),fun p hp=>.inl hp⟩
structure jfG(w wr:World)(lb:Nat)(ev:Value)(ps:List Pr)(nx:Int):Prop where
 head:ja wr lb 234 #[ev,.int .i64 (nx-1)]
 row:wr.ownsRow w.heap.size 238 4 ev ps.length (jh ps)
 each:∀p∈ps,wr.ownsRow w.heap.size 155 2 p.2 p.1.1.fields.length (jG p.1.1.fields)
 below:Below w.heap.size w wr
 lb:w.heap.size<=lb
theorem jy{W:World}{lo n b:Nat}{t u:TypeId}{sz:Nat}{v:Value}{xs:List Value}{cs:Array Value}(h:W.ownsRow lo t sz v n xs)(hc:ja W b u cs)(ht:t≠u):v.ownBlock≠some b:=by
 intro e
 rcases h.2 with ⟨q,_⟩|⟨g,cap,cur,q,_,hg,_⟩
 ·rw[q]at e;cases e
 rw[q]at e
 have:g=b:=jmf e
 subst this
 have:=hg.symm.trans hc
 injection this with this
 injection this with _ h2 _
 exact ht h2
theorem qf{W:World}{lo lo' n m:Nat}{t u:TypeId}{sz sz':Nat}{v x:Value}{xs ys:List Value}(h:W.ownsRow lo t sz v n xs)(g:W.ownsRow lo' u sz' x m ys)(ht:t≠u):∀b,v.ownBlock=some b->x.ownBlock≠some b:=by
 intro b hb
 rcases h.2 with ⟨q,_⟩|⟨g',cap,cur,q,_,hg,_⟩
 ·rw[q]at hb;cases hb
 rw[q]at hb
 obtain rfl:g'=b:=jmf hb
 exact jy g hg (fun e=>ht e.symm)
theorem jfG.la{w wr:World}{lb:Nat}{ev:Value}{ps:List Pr}{nx:Int}(h:jfG w wr lb ev ps nx):LA wr lb ev ps nx :=
 ⟨⟨h.head,⟨ze h.row (jmo _),fun p hp=>Zl.own (h.each p hp)⟩⟩,fun p hp _ b hb =>
  ⟨fun e=>jy (h.each p hp) h.head (by decide) (by rw[<- e];exact hb),qf (h.each p hp) h.row (by decide) b hb⟩⟩
theorem jfG.below'{w wr w2:World}{lb:Nat}{ev:Value}{ps:List Pr}{nx:Int}(h:jfG w wr lb ev ps nx)(hb:Below wr.heap.size wr w2):jfG w w2 lb ev ps nx :=
 ⟨h.head.below hb h.head.lt,qT h.row hb (jma _),fun p hp=>qT (h.each p hp) hb (jma _),h.below.trans (hb.mono h.below.size),h.lb⟩
theorem jfG.snoc{w w5 w6:World}{lb:Nat}{ev v':Value}{ps:List Pr}{nx:Int}{p:Pr}(h:jfG w w5 lb ev ps nx)(hp:w5.ownsRow w.heap.size 155 2 p.2 p.1.1.fields.length (jG p.1.1.fields))
  (ho:w6.ownsRow 0 238 4 v' (ps.length+1) (jh ps++zt p)) (h6:ja w6 lb 234 #[ev,.int .i64 (nx-1)]) (hk:v'.ownBlock=ev.ownBlock\/∃k,v'.ownBlock=some k/\w5.heap.size<=k/\k<w6.heap.size) (o6:jt (fun r=>some r=ev.ownBlock) w5 w6) :
  jfG w (w6.setCell ⟨lb,0,none⟩ v') lb v' (ps++[p]) nx:=by
 have hne:v'.ownBlock≠some lb:=jy ho h6 (by decide)
 have hz:=h.below.size
 have hrow:w6.ownsRow w.heap.size 238 4 v' (ps.length+1) (jh ps++zt p):=by
  rcases ho.2 with ⟨q,_⟩|⟨g2,cap2,cur2,q,_,rest⟩
  ·exact⟨ho.1,.inl ⟨q,by omega⟩⟩
  refine⟨ho.1,.inr ⟨g2,cap2,cur2,q,?_,rest⟩⟩
  rcases hk with hk|⟨k,hk,h1,_⟩
  ·exact(h.row.lt g2 (by rw[<- hk,q];rfl)).1
  rw[q]at hk
  have:g2=k:=jmf hk
  omega
 have keep:∀{x:Value} {m:Nat} {ys:List Value},w5.ownsRow w.heap.size 155 2 x m ys->(w6.setCell ⟨lb,0,none⟩ v').ownsRow w.heap.size 155 2 x m ys:=fun hx =>
  have h6x:=jH hx o6 (fun b hb e=>qf hx h.row (by decide) b hb e.symm)
  jF (p:=⟨lb,0,none⟩) h6x (jy h6x h6 (by decide)) _
 refine⟨?_,?_,?_,?_,h.lb⟩
 ·have:=h6.set 0 v'
  simpa [List.setIfInBounds_toArray,List.set]using this
 ·rw[jmb,JZ]
  exact jF (p:=⟨lb,0,none⟩) hrow hne _
 ·intro q hq
  rcases List.mem_append.1 hq with hq|hq
  ·exact keep (h.each q hq)
  rw[List.mem_singleton.1 hq];exact keep hp
 have b6:Below w.heap.size w5 w6:=o6.to_below hz (fun r hr e=>by
  have:=(h.row.lt r e.symm).1
  omega)
 exact(h.below.trans b6).setCell (p:=⟨lb,0,none⟩) h.lb _
theorem je4(lb:Nat)(ev:Value)(ps:List Pr)(nx:Int)(w:World)(h:LA w lb ev ps nx)(ok:jhS ps):
  Calls prog 115 #[ptr lb] w fun e w'=>∃lb' ev' ps',e=.returned (ptr lb')/\LA w' lb' ev' ps' nx/\ps'.map Prod.fst=ps.map Prod.fst/\Below w.heap.size w w'/\w.heap.size<=lb'/\(∀b,ev'.ownBlock=some b->w.heap.size<=b)/\(∀p∈ps',∀b,p.2.ownBlock=some b->w.heap.size<=b):=by
 obtain⟨i0,hi,hz0,hz1,hz2⟩:=info_parts xl
 obtain⟨A,cap,rfl,hle⟩:=h.lr.ents.empty
 have c0:w.cell? ⟨lb,0,none⟩=some (.slice A ps.length cap):=h.lr.head.cell 0
 have c1:w.cell? ⟨lb,1,none⟩=some (.int .i64 (nx-1)):=h.lr.head.cell 1
 have hll:=h.lr.head.lt
 have H:=jl9 h
 have hlen:=ok.len
 have HF:=jl9 ok.fields
 have acc0:jfG w (w.alloc (.cells #[.slice none 0 0,.int .i64 (nx-1)] 234)) w.heap.size (.slice none 0 0) [] nx :=
  ⟨ja.new _ _ _,⟨rfl,.inl ⟨rfl,rfl⟩⟩,(fun p h=>by cases h),(jmc _ _).alloc (jma _) _,jma _⟩
 have ACC0:=jl9 acc0
 clear h ok acc0
 unfold ptr
 go_enter func115,ntmps115
 go_wp2_with fail
 go_loopw [19] (fun i wr=>∃(k:Nat) (ev':Value) (qs:List Pr),k<=ps.length/\i=.int .i64 k/\jfG w wr w.heap.size ev' qs nx/\qs.map Prod.fst=(ps.take k).map Prod.fst) (fun i _=>ps.length-(intOf i).toNat)
 case atStart=>exact⟨0,_,[],jmo _,rfl,ACC0.out,rfl⟩
 case round =>
 obtain⟨k,ev',qs,hk,rfl,hacc,hqs⟩:=hrel
 by_cases hlt:k<ps.length
 ·obtain⟨p,hp⟩:∃p,ps[k]?=some p:=⟨_,jmd hlt⟩
  have hb:=hacc.below
  have hE:=H.out.lr.ents.below hb (jma _)
  obtain⟨g,cap',pa,pc,e1,_,hg,e2,d0,d1,d2,d3⟩:=hE.here hp
  cases e1
  have hfr:=hE.each p (jmx hp)
  have hfn:=HF.out p (jmx hp)
  rw[e2]at d2
  have TK:=jl9 (show(ps.take (k+1)).map Prod.fst=(ps.take k).map Prod.fst++[p.1] by rw[jmO,hp];simp)
  have hkl:qs.length=k:=by
   have:=congrArg List.length hqs
   rw[jmE,jmE,jmi]at this
   omega
  subst hkl
  have ACC:=jl9 hacc
  have HQ:=jl9 hqs
  have HFR:=jl9 hfr
  have E2:=jl9 e2
  obtain⟨ea,ec,rfl,hec⟩:=jf hacc.row
  clear hacc hqs hE hfr hp e2
  go_wp2_with fail
  obtain⟨wa,hwa⟩:∃wa,wa=wr.alloc (.cells #[.int .i64 p.1.1.kind,.string (B p.1.1.raw),.slice pa p.1.1.fields.length pc,.int .i64 p.1.2] 238):=⟨_,rfl⟩
  have hba:=(jmc wr.heap.size wr).alloc (jma _) (.cells #[.int .i64 p.1.1.kind,.string (B p.1.1.raw),.slice pa p.1.1.fields.length pc,.int .i64 p.1.2] 238)
  rw[<- hwa]at hba
  have CE:ja wa wr.heap.size 238 #[.int .i64 p.1.1.kind,.string (B p.1.1.raw),.slice pa p.1.1.fields.length pc,.int .i64 p.1.2]:=by rw[hwa];exact ja.new _ _ _
  have hza:wa.heap.size=wr.heap.size+1:=by rw[hwa];simp
  rw[<- hwa]
  clear hwa d0 d1 d2 d3
  have ACA:=jl9 (ACC.out.below' hba)
  have g0:wa.cell? ⟨w.heap.size,0,none⟩=some (.slice ea qs.length ec):=ACA.out.head.cell 0
  have j0:wa.cell? ⟨wr.heap.size,0,none⟩=some (.int .i64 p.1.1.kind):=CE.cell 0
  have j1:wa.cell? ⟨wr.heap.size,1,none⟩=some (.string (B p.1.1.raw)):=CE.cell 1
  have j2:wa.cell? ⟨wr.heap.size,2,none⟩=some (.slice pa p.1.1.fields.length pc):=CE.cell 2
  have j3:wa.cell? ⟨wr.heap.size,3,none⟩=some (.int .i64 p.1.2):=CE.cell 3
  have IT0:=jel p wa.drew ((HFR.out.below hba (jma _)).below (jmc wa.heap.size wa).drew (jma _)) hfn
  unfold jfA at IT0
  rw[E2.out]at IT0
  have IT:=jl9 IT0
  have CEH:=jl9 CE
  have hwz:=ACA.out.below.size
  have ACD:=jl9 (ACA.out.below' (w2:=wa.drew) (jmc _ _).drew)
  have HNE:=jl9 ACA.out.la.lr.row_ne
  clear CE IT0 hza hba
  go_region_law (first
   | (go_simp;go_at_call 156;refine IT.out.mono ?_;rintro e w5 ⟨x,rfl,hx,b5⟩;obtain⟨xa,xc,rfl,_⟩:=jf hx;have acc5:=jl9 (ACD.out.below' b5);have hx5:=jl9 hx;have ce5:=jl9 (CEH.out.drew.below b5 CEH.out.lt);have q0:w5.cell? ⟨w.heap.size,0,none⟩=some (.slice ea qs.length ec):=acc5.out.head.cell 0;have q3:w5.cell? ⟨wr.heap.size,3,none⟩=some (.int .i64 p.1.2):=ce5.out.cell 3;have q0a:∀o,(w5.alloc o).cell? ⟨w.heap.size,0,none⟩=some (.slice ea qs.length ec):=fun o=>(acc5.out.head.alloc o).cell 0;have hr5:=jl9 (ze acc5.out.row (jmo _));have hc5:=jl9 acc5.out.head;have B5:=jl9 b5;clear hx b5)
   | (refine jK rfl (.tmp 27) (.tmp 33) 232 rfl 238 i0 _ 4 56 underlying232 hi hz0 hz1 hz2 rfl (by decide) (.slice ea qs.length ec) qs.length (jh qs) (by simp[Act.eval]) (by exact hr5.out.alloc _) ⟨w5.heap.size,0,none⟩ 1 1 [.int .i64 p.1.1.kind,.string (B p.1.1.raw),.slice xa p.1.1.fields.length xc,.int .i64 p.1.2] (by simp[Act.eval]) rfl (jN w5 238 [.int .i64 p.1.1.kind,.string (B p.1.1.raw),.slice xa p.1.1.fields.length xc,.int .i64 p.1.2]) (by intro u hu;simp at hu;rcases hu with rfl | rfl | rfl | rfl<;>rfl) (by unfold maxLen;omega) (by omega) ?_;intro v' w' ho hgr hbk;obtain⟨⟨g',cap',rfl⟩,hg',hbx,hkk,hon⟩:=qj hc5.out hr5.out HNE.out ((jmc _ w5).alloc (jma _) _) ho hgr hbk;have k0:w'.cell? ⟨w.heap.size,0,none⟩=some (.slice ea qs.length ec):=hg'.cell 0;have kf0:=hg'.frozen 0))
  all_goals go_wp2_with fail
  all_goals
   have acc6:=acc5.out.snoc (p:=(p.1,.slice xa p.1.1.fields.length xc)) (ze hx5.out hwz) ho hg' hkk hon
   go_roundw
   case rel =>
    refine⟨qs.length+1,.slice (some ⟨g',0,none⟩) (qs.length+1) cap',qs++[(p.1,.slice xa p.1.1.fields.length xc)],hlt,by go_num,acc6,?_⟩
    rw[TK.out,jnh,HQ.out];rfl
   case measure=>simp[intOf];omega
 obtain rfl:k=ps.length:=by omega
 rw[jmJ]at hqs
 have hla:=hacc.la
 have hrow:=hacc.row
 have hb:=hacc.below
 have hea:=hacc.each
 clear H HF ACC0 c0 c1
 go_wp2_with fail
 go_ret
 exact⟨_,ev',qs,rfl,hla,hqs,hb,jma _,fun b hb=>(hrow.lt b hb).1,fun p hp b hb=>((hea p hp).lt b hb).1⟩
end
structure jfv(w:World)(v:Value)(ps:List Pr):Prop where
 row:w.ownsRow 0 9001 4 v ps.length (jh ps)
 each:∀p∈ps,Yo w p.2 p.1.1.fields
theorem jcz(w:World):jfv w (.slice none 0 0) []:=⟨⟨rfl,.inl ⟨rfl,rfl⟩⟩,fun p h=>by cases h⟩
section
attribute [local go_sem] jmk
end
def Yy(lb:Nat)(ev:Value)(ps:List Pr)(v:Value)(qs:List Pr)(r:Nat):Prop :=
 r=lb\/ev.ownBlock=some r\/v.ownBlock=some r\/(∃p∈ps,p.1.1.fields≠[]/\p.2.ownBlock=some r)\/(∃p∈qs,p.1.1.fields≠[]/\p.2.ownBlock=some r)
structure StR(w:World)(lb:Nat)(ev:Value)(ps:List Pr)(nx:Int)(v:Value)(qs:List Pr):Prop where
 la:LA w lb ev ps nx
 q:jfv w v qs
 va:∀b,v.ownBlock=some b->b≠lb/\ev.ownBlock≠some b
 qa:∀p∈qs,p.1.1.fields≠[]->∀b,p.2.ownBlock=some b->b≠lb/\ev.ownBlock≠some b
theorem jfv.only{w w':World}{v:Value}{ps:List Pr}{S:Nat->Prop}(h:jfv w v ps)(g:jt S w w')(h1:∀b,v.ownBlock=some b->¬S b)(h2:∀p∈ps,p.1.1.fields≠[]->∀b,p.2.ownBlock=some b->¬S b):jfv w' v ps :=
 ⟨jH h.row g h1,fun p hp=>(h.each p hp).only g (fun hne b hb=>h2 p hp hne b hb)⟩
theorem StR.lt{w:World}{lb:Nat}{ev:Value}{ps:List Pr}{nx:Int}{v:Value}{qs:List Pr}(h:StR w lb ev ps nx v qs){r:Nat}(hr:Yy lb ev ps v qs r):r<w.heap.size:=by
 rcases hr with rfl|hr|hr|⟨p,hp,hne,hb⟩|⟨p,hp,hne,hb⟩
 ·exact h.la.lr.head.lt
 ·exact(h.la.lr.ents.row.lt r hr).2
 ·exact(h.q.row.lt r hr).2
 ·exact(h.la.lr.ents.each p hp).1.lt hne r hb
 exact(h.q.each p hp).lt hne r hb
theorem StR.only{w w':World}{lb:Nat}{ev:Value}{ps:List Pr}{nx:Int}{v:Value}{qs:List Pr}{S:Nat->Prop}(h:StR w lb ev ps nx v qs)(g:jt S w w')(hs:∀r,Yy lb ev ps v qs r->¬S r):StR w' lb ev ps nx v qs:=by
 refine⟨⟨⟨h.la.lr.head.only g (hs lb (.inl rfl)),⟨jH h.la.lr.ents.row g (fun b hb=>hs b (.inr (.inl hb))),fun p hp=>(h.la.lr.ents.each p hp).only g (fun hne b hb=>hs b (.inr (.inr (.inr (.inl ⟨p,hp,hne,hb⟩)))))⟩⟩,h.la.apart⟩,?_,h.va,h.qa⟩
 exact h.q.only g (fun b hb=>hs b (.inr (.inr (.inl hb)))) (fun p hp hne b hb=>hs b (.inr (.inr (.inr (.inr ⟨p,hp,hne,hb⟩)))))
section
attribute [local go_sem] jmk
theorem jfS{ps:List Pr}(h:WF (ps.map Prod.fst)):(Zn 0 ps).length=UV (ps.map Prod.fst):=by
 rw[<- jgs h]
 unfold jkJ Ge Zn
 rw[<- XI (κ:=fun e:En=>e.1.kind) Prod.fst,jmE]
theorem GS{ps:List Pr}(h:WF (ps.map Prod.fst))(id:Int):yV ps id=ve (ps.map Prod.fst) id:=by rw[jiS,jeL h]
theorem jke{ps:List Pr}(h:WF (ps.map Prod.fst))(id:Int):jfz ps id=jjs (ps.map Prod.fst) id:=by unfold jfz jjs;rw[GS h]
theorem jkf{ps:List Pr}(h:WF (ps.map Prod.fst))(h4:UV (ps.map Prod.fst)<=400):decide ((Zn 0 ps).length=400)=decide (400<=UV (ps.map Prod.fst)):=by
 rw[jfS h];exact decide_eq_decide.2 ⟨fun e=>by omega,fun e=>by omega⟩
section
variable {o:Oper} {a:Act} {w:World} {K:Act->World->Prop} {Q:Exit->Act->World->Prop}
end
section
variable {o:Oper} {a:Act} {w:World} {K:Act->World->Prop} {Q:Exit->Act->World->Prop}
end
end
end Go.Proofs.YtpibhbjmcmfnmaaGreatDoor
