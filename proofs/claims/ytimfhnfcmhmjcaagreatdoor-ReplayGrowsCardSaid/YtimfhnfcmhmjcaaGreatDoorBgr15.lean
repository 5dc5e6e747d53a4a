/- Texts put together:NH,NF,NI,NJ,EH,EI,GE,N0,EK,GH,QC,WM,FT,FU. -/
import Derived.Test.YtimfhnfcmhmjcaaGreatDoorBgr14
set_option linter.unusedVariables false
set_option maxRecDepth 100000
set_option maxHeartbeats 16000000
namespace Go.Proofs.YtimfhnfcmhmjcaaGreatDoor
def jas(its:List It):Nat:=(its.filter fun it=>decide (it.kind=3)).length
theorem XD(its:List It)(it:It):jas (its++[it])=jas its+if it.kind=3 then 1 else 0:=by
 unfold jas
 rw[jkm,jik]
 congr 1
 by_cases h:it.kind=3
 ·rw[if_pos h,jjw,if_pos (by simpa using h)];rfl
 rw[if_neg h,jjw,if_neg (by simpa using h)];rfl
def Jr(p:PS):Prop:=jas p.items=p.stanzas
theorem Jr.endField{p:PS}(h:Jr p):Jr (jd p):=by
 unfold jd
 split
 ·exact h
 exact h
theorem Jr.endItem{t:List UInt8}{p:PS}(h:Jr p)(kind e:Nat)(hk:kind≠3):Jr (jY t p kind e):=by
 show jas (p.items++[_])=p.stanzas
 rw[XD,if_neg (by show((kind:Nat):Int)≠3;omega),h];rfl
theorem Jr.endBlock{t:List UInt8}{p:PS}(h:Jr p)(e:Nat):Jr (jr t p e):=by
 unfold jr
 split
 ·exact h
 split
 ·exact h.endItem 2 e (by decide)
 show jas (p.items++[_])=p.stanzas+1
 rw[XD,if_pos (by rfl),h]
theorem Jr.went{p:PS}(h:Jr p)(x:Ln):Jr (zv p x):=by
 unfold zv
 split<;>exact h
theorem Jr.then_{p:PS}(h:Jr p)(x:Ln):Jr (zC p x):=by
 unfold zC
 split
 ·exact(h.went x).endField
 exact h.went x
theorem Jr.put{t:List UInt8}{p:PS}(h:Jr p)(x:Ln):Jr (xv t p x):=by
 unfold xv
 split
 ·exact h
 split
 ·exact(h.endBlock x.at_).endItem 1 _ (by decide)
 exact h
theorem Jr.take{t:List UInt8}{p q:PS}{x:Ln}(h:Jr p)(he:jW t p x=.ok q):Jr q:=by
 obtain⟨_,_,rfl⟩:=vv he
 exact(h.then_ x).put x
theorem Jr.run(t:List UInt8):∀(xs:List Ln) (p q:PS),Jr p->qG t p xs=.ok q->Jr q
 | [],p,q,h,he=>by cases he;exact h
 | x::xs,p,q,h,he=>by
  unfold qG at he
  cases ht:jW t p x with
  | error e=>rw[ht]at he;cases he
  | ok p1 =>
  rw[ht]at he
  exact Jr.run t xs p1 q (h.take ht) he
theorem Zq{t:List UInt8}{its:List It}(h:jA t=.ok its):jas its<=400:=by
 obtain⟨p,hr,h0,rfl,g,_⟩:=Jb h
 have hc:Jr (jr t (jd p) t.length):=((Jr.run t _ _ _ (by rfl) hr).endField).endBlock _
 rw[show jas _=_ from hc]
 exact g.st
theorem Zt:∀(n:Int) (its:List It),0<n->(∀m∈nums (zx n its),n<=m/\m<jK n its)/\(nums (zx n its)).Nodup/\(nums (zx n its)).length=jas its/\n<=jK n its
 | n,[],h=>⟨(fun m hm=>by cases hm),List.nodup_nil,rfl,jjz _⟩
 | n,it::r,h=>by
  by_cases hk:it.kind=3
  ·obtain⟨a,b,c,d⟩:=Zt (n+1) r (by omega)
   have e1:nums (zx n (it::r))=n::nums (zx (n+1) r):=by
    unfold nums
    rw[zx,if_pos hk,jiX,jjw,if_pos (by simpa using h)]
   have e2:jK n (it::r)=jK (n+1) r:=by rw[jK,if_pos hk]
   rw[e1,e2]
   refine⟨fun m hm => ?_,List.nodup_cons.2 ⟨fun q => ?_,b⟩,?_,by omega⟩
   ·rcases List.mem_cons.1 hm with rfl|hm
    ·exact⟨jjz _,by omega⟩
    have:=a m hm;exact⟨by omega,this.2⟩
   ·have:=(a n q).1;omega
   unfold jas at c ⊢
   rw[jin,c,jjw,if_pos (by simpa using hk)];rfl
  obtain⟨a,b,c,d⟩:=Zt n r h
  have e1:nums (zx n (it::r))=nums (zx n r):=by
   unfold nums
   rw[zx,if_neg hk,jiX,jjw,if_neg (by simp)]
  have e2:jK n (it::r)=jK n r:=by rw[jK,if_neg hk]
  rw[e1,e2]
  refine⟨a,b,?_,d⟩
  unfold jas at c ⊢
  rw[c,jjw,if_neg (by simpa using hk)]
theorem jfZ{t:List UInt8}{its:List It}(h:jA t=.ok its):OkL (zP its):=by
 obtain⟨a,b,c,d⟩:=Zt 1 its (by decide)
 refine⟨Kv 1 its (by decide),by show 0<jK 1 its;omega,fun n hn=>(a n hn).2,b,?_⟩
 rw[<- vL]
 show(nums (zx 1 its)).length<=400
 rw[c];exact Zq h
end Go.Proofs.YtimfhnfcmhmjcaaGreatDoor
namespace Go.Proofs.YtimfhnfcmhmjcaaGreatDoor
open Go.RowKit Go.Shelf
attribute [local go_sem] jit
theorem jdR(lb:Nat)(ev:Value)(ps:List Pr)(nx id:Int)(fs:List Fld)(v:Value)(w:World)(h:LA w lb ev ps nx)(hwf:WF (ps.map Prod.fst))(h4:QZ (ps.map Prod.fst)<=400)(hps:ps.length<=10000)(hnx : -1000000<=nx/\nx<=1000000)(hs:xk w v fs)(hfs:jaF fs):
  Calls Tryz.prog 146 #[ptr lb,.int .i64 id,v] w fun e w'=>∃u ev' ps',e=.returned (.tuple #[.int .i64 (qi ⟨ps.map Prod.fst,nx⟩ id fs).id,u])/\WrR w lb ev ps (qi ⟨ps.map Prod.fst,nx⟩ id fs) u w' ev' ps':=by
 have:=Km lb ev ps nx id fs v w h hps hnx hs hfs
 rw[jg2 hwf,jg3 hwf h4,show vt (jgu (ps.map Prod.fst) id) (decide (400<=QZ (ps.map Prod.fst))) ⟨ps.map Prod.fst,nx⟩ fs=qi ⟨ps.map Prod.fst,nx⟩ id fs by rw[jbR]]at this
 exact this
theorem jhI(lb:Nat)(ev:Value)(ps:List Pr)(nx:Int)(w:World)(h:LR w lb ev ps nx)(hwf:WF (ps.map Prod.fst))(hps:ps.length<=1000000):
  Calls Tryz.prog 36 #[ptr lb] w fun e w'=>e=.returned (.int .i64 (QZ (ps.map Prod.fst):Nat))/\Below w.heap.size w w':=by
 have:=VU lb ev ps nx w h hps
 rw[Wk hwf]at this
 exact this
end Go.Proofs.YtimfhnfcmhmjcaaGreatDoor
namespace Go.Proofs.YtimfhnfcmhmjcaaGreatDoor
end Go.Proofs.YtimfhnfcmhmjcaaGreatDoor
namespace Go.Proofs.YtimfhnfcmhmjcaaGreatDoor
open Go.RowKit Go.Shelf
def SzL(es:List En):Prop:=∀e∈es,e.1.raw.length<=100000/\e.1.fields.length<=1000000
theorem jen(l:LS)(kind id:Int)(fs:List Fld):∀e∈(yx l kind id fs).ls.es,e∈l.es\/(e.1=zp fs/\qF fs=0):=by
 intro e he
 unfold yx at he
 split at he
 ·unfold zH at he
  split at he
  ·exact .inl he
  rename_i k hk
  split at he
  ·rename_i hc
   have he':e∈VE l.es k (zp fs):=he
   unfold VE at he'
   obtain⟨j,hj⟩:=List.getElem?_of_mem he'
   rw[jj8]at hj
   cases hx:l.es[j]? with
   | none=>rw[hx]at hj;cases hj
   | some y =>
   rw[hx]at hj
   have hj':(if k=j then (zp fs,y.2) else y)=e:=jip hj
   by_cases q:k=j
   ·rw[if_pos q]at hj'
    rw[<- hj'];exact .inr ⟨rfl,hc⟩
   rw[if_neg q]at hj'
   rw[<- hj'];exact .inl (jiA hx)
  exact .inl he
 split at he
 ·unfold qw at he
  split at he
  ·exact .inl he
  have he':e∈jar l.es _:=he
  unfold jar at he'
  rcases List.mem_append.1 he' with q|q
  ·exact .inl (jjl q)
  exact .inl (jja q)
 unfold qi at he
 split at he
 ·exact .inl he
 split at he
 ·rename_i hc
  split at he
  ·exact .inl he
  have he':e∈Ke l.es _ (zp fs,l.next):=he
  unfold Ke at he'
  rcases List.mem_append.1 he' with q|q
  ·exact .inl (jjl q)
  rcases List.mem_cons.1 q with q|q
  ·rw[q];exact .inr ⟨rfl,hc⟩
  exact .inl (jja q)
 exact .inl he
structure zk(S0:Nat)(w:World)(lb:Nat)(ev:Value)(ps:List Pr)(l:LS)(m:Nat):Prop where
 la:LA w lb ev ps l.next
 es:ps.map Prod.fst=l.es
 ok:OkL l
 sz:SzL l.es
 lb0:S0<=lb
 ev0:∀b,ev.ownBlock=some b->S0<=b
 len:l.es.length<=m
 nx:l.next<=m+1
theorem zk.wf{S0:Nat}{w:World}{lb:Nat}{ev:Value}{ps:List Pr}{l:LS}{m:Nat}(h:zk S0 w lb ev ps l m):WF (ps.map Prod.fst):=by rw[h.es];exact h.ok.wf
theorem zk.below{S0:Nat}{w w':World}{lb:Nat}{ev:Value}{ps:List Pr}{l:LS}{m N:Nat}(h:zk S0 w lb ev ps l m)(hb:Below N w w')(hN:w.heap.size<=N):zk S0 w' lb ev ps l m :=
 ⟨h.la.below hb hN,h.es,h.ok,h.sz,h.lb0,h.ev0,h.len,h.nx⟩
theorem zk.ents{S0:Nat}{w:World}{lb:Nat}{ev:Value}{ps:List Pr}{l:LS}{m:Nat}(h:zk S0 w lb ev ps l m)(hm:m<=10000):Qf ps:=by
 have hmem:∀p∈ps,p.1∈l.es:=fun p hp=>by rw[<- h.es];exact List.mem_map_of_mem hp
 have hl:ps.length=l.es.length:=by rw[<- h.es,jiQ]
 refine⟨by have:=h.len;omega,fun p hp=>(h.sz _ (hmem p hp)).1,fun p hp=>(h.sz _ (hmem p hp)).2,fun p hp => ?_⟩
 rcases h.ok.wf _ (hmem p hp) with ⟨_,q⟩|⟨_,q⟩
 ·have hn:p.1.2∈nums l.es:=by
   unfold nums
   exact List.mem_filter.2 ⟨List.mem_map_of_mem (hmem p hp),by simpa using q⟩
  have:=h.ok.lt _ hn
  have:=h.nx
  omega
 omega
theorem zk.str{S0:Nat}{w:World}{lb:Nat}{ev:Value}{ps:List Pr}{l:LS}{m:Nat}(h:zk S0 w lb ev ps l m):StR w lb ev ps l.next (.slice none 0 0) [] :=
 ⟨h.la,jal w,(fun b e=>by cases e),(fun p hp=>by cases hp)⟩
theorem SzL.edit{l:LS}(h:SzL l.es)(kind id:Int){fs:List Fld}(h1:(jO fs).length<=100000)(h2:fs.length<=1000000):SzL (yx l kind id fs).ls.es:=fun e he=>by
 rcases jen l kind id fs e he with q|⟨q,_⟩
 ·exact h e q
 rw[q];exact⟨h1,h2⟩
theorem zk.edit{S0:Nat}{w w':World}{lb:Nat}{ev ev':Value}{ps ps':List Pr}{l:LS}{m:Nat}(h:zk S0 w lb ev ps l m)(kind id:Int){fs:List Fld}(h1:(jO fs).length<=100000)(h2:fs.length<=1000000)
  (la:LA w' lb ev' ps' (yx l kind id fs).ls.next) (es:ps'.map Prod.fst=(yx l kind id fs).ls.es) (hS:S0<=w.heap.size) (hev:∀b,ev'.ownBlock=some b->ev.ownBlock=some b\/w.heap.size<=b):zk S0 w' lb ev' ps' (yx l kind id fs).ls (m+1):=by
 obtain⟨a,_,c⟩:=jeo l kind id fs
 have hl:=h.len
 have hn:=h.nx
 refine⟨la,es,h.ok.edit kind id fs,h.sz.edit kind id h1 h2,h.lb0,fun b e => ?_,by omega,by omega⟩
 rcases hev b e with q|q
 ·exact h.ev0 b q
 omega
end Go.Proofs.YtimfhnfcmhmjcaaGreatDoor
namespace Go.Proofs.YtimfhnfcmhmjcaaGreatDoor
open Go.RowKit Go.Shelf
attribute [local go_sem] jit
theorem WrR.from{w w1 w':World}{lb:Nat}{ev u ev':Value}{ps ps':List Pr}{d:Did}(h:WrR w1 lb ev ps d u w' ev' ps')(hb:Below w.heap.size w w1):WrR w lb ev ps d u w' ev' ps':=by
 refine⟨h.la,h.es,?_,?_,h.err.mono hb.size,fun p hp => ?_⟩
 ·exact(jB.of_below (S:=fun r=>r=lb\/ev.ownBlock=some r) hb (jij _)).trans h.only (fun r _ e=>e)
 ·rcases h.blk with q|⟨b,q,hq⟩
  ·exact .inl q
  exact .inr ⟨b,q,by have:=hb.size;omega⟩
 rcases h.mem p hp with q|q
 ·exact .inl q
 exact .inr (fun b e=>by have:=q b e;have:=hb.size;omega)
theorem jfj(l:LS){ed:Ed}(h:ed.kind=1):zc l ed=zH l ed.id ed.fields:=by unfold zc yx;rw[if_pos h]
theorem jfi(l:LS){ed:Ed}(h:ed.kind=2):zc l ed=qw l ed.id:=by unfold zc yx;rw[if_neg (by omega),if_pos h]
theorem jfh(l:LS){ed:Ed}(h1:ed.kind≠1)(h2:ed.kind≠2):zc l ed=qi l ed.id ed.fields:=by unfold zc yx;rw[if_neg h1,if_neg h2]
theorem YP(l:LS)(id:Int)(fs:List Fld):(zH l id fs).id=0:=by
 unfold zH
 split
 ·rfl
 split<;>rfl
theorem KH(l:LS)(id:Int):(qw l id).id=0:=by
 unfold qw
 split<;>rfl
theorem jgc{S0:Nat}{w:World}{lb:Nat}{ev:Value}{ps:List Pr}{l:LS}{m:Nat}(C:zk S0 w lb ev ps l m)(hm:m<=10000)(ed:Ed)(fv:Value)(hf:xk w fv ed.fields)(h7:jaF ed.fields):
  Calls Tryz.prog 86 #[ptr lb,.agg #[.int .i64 ed.kind,.int .i64 ed.id,fv]] w fun e w'=>∃u ev' ps',e=.returned (.tuple #[.int .i64 (zc l ed).id,u])/\WrR w lb ev ps (zc l ed) u w' ev' ps':=by
 obtain⟨fa,fc,rfl⟩:=hf.form
 obtain⟨wa,hwa⟩:∃wa,wa=w.alloc (.cells #[.int .i64 ed.kind,.int .i64 ed.id,.slice fa ed.fields.length fc] 80):=⟨_,rfl⟩
 have hba:Below w.heap.size w wa:=by rw[hwa];exact(jil _ w).alloc (jij _) _
 have Ca:=C.below hba (jij _)
 have hl:ps.length<=m:=by have:=C.len;rw[<- C.es,jiQ]at this;exact this
 have hnx:=C.nx
 have hp:=C.ok.pos
 have hwf:=C.wf
 have hfa:=hf.below hba (jij _)
 have el:(⟨ps.map Prod.fst,l.next⟩:LS)=l:=by rw[C.es]
 by_cases h1:ed.kind=1
 ·have R:=YN lb ev ps l.next ed.id ed.fields (.slice fa ed.fields.length fc) wa Ca.la (by omega) hfa h7
  rw[Ky hwf,show xt (Jg (ps.map Prod.fst) ed.id) ⟨ps.map Prod.fst,l.next⟩ ed.fields=zH ⟨ps.map Prod.fst,l.next⟩ ed.id ed.fields by rw[Gp],el]at R
  rw[jfj l h1,YP]
  have R:=jii R
  have FR:Hid (∀u w' ev' ps',WrR wa lb ev ps (zH l ed.id ed.fields) u w' ev' ps'->WrR w lb ev ps (zH l ed.id ed.fields) u w' ev' ps'):=fun u w' ev' ps' h=>h.from hba
  generalize zH l ed.id ed.fields=dd at *
  clear hba Ca C hf hfa hwf el
  rw[h1]at hwa ⊢
  subst hwa
  unfold ptr at *
  go_enter Tryz.func86,Tryz.ntmps86
  go_wp2_with fail
  refine R.out.mono ?_
  rintro e w2 ⟨u,ev',ps',rfl,hR⟩
  have H:=FR.out _ _ _ _ hR
  clear hR R FR
  go_wp2_with fail
  go_ret2
  exact⟨u,ev',ps',rfl,H⟩
 by_cases h2:ed.kind=2
 ·have R:=KF lb ev ps l.next ed.id wa Ca.la (by omega)
  rw[Ky hwf,show KG (Jg (ps.map Prod.fst) ed.id) ⟨ps.map Prod.fst,l.next⟩=qw ⟨ps.map Prod.fst,l.next⟩ ed.id by rw[jcs],el]at R
  rw[jfi l h2,KH]
  have R:=jii R
  have FR:Hid (∀u w' ev' ps',WrR wa lb ev ps (qw l ed.id) u w' ev' ps'->WrR w lb ev ps (qw l ed.id) u w' ev' ps'):=fun u w' ev' ps' h=>h.from hba
  generalize qw l ed.id=dd at *
  clear hba Ca C hf hfa hwf el
  rw[h2]at hwa ⊢
  subst hwa
  unfold ptr at *
  go_enter Tryz.func86,Tryz.ntmps86
  go_wp2_with fail
  refine R.out.mono ?_
  rintro e w2 ⟨u,ev',ps',rfl,hR⟩
  have H:=FR.out _ _ _ _ hR
  clear hR R FR
  go_wp2_with fail
  go_ret2
  exact⟨u,ev',ps',rfl,H⟩
 have R:=jdR lb ev ps l.next ed.id ed.fields (.slice fa ed.fields.length fc) wa Ca.la hwf (by rw[C.es];exact C.ok.len) (by omega) (by omega) hfa h7
 rw[el]at R
 rw[jfh l h1 h2]
 have R:=jii R
 have FR:Hid (∀u w' ev' ps',WrR wa lb ev ps (qi l ed.id ed.fields) u w' ev' ps'->WrR w lb ev ps (qi l ed.id ed.fields) u w' ev' ps'):=fun u w' ev' ps' h=>h.from hba
 generalize qi l ed.id ed.fields=dd at *
 have q1:(ed.kind==1)=false:=by simpa using h1
 have q2:(ed.kind==2)=false:=by simpa using h2
 clear hba Ca C hf hfa hwf el
 subst hwa
 unfold ptr at *
 go_enter Tryz.func86,Tryz.ntmps86
 go_wp2_with fail
 refine R.out.mono ?_
 rintro e w2 ⟨u,ev',ps',rfl,hR⟩
 have H:=FR.out _ _ _ _ hR
 clear hR R FR
 go_wp2_with fail
 go_ret2
 exact⟨u,ev',ps',rfl,H⟩
structure jhm(g:Nat)(cb:Array Value)(w0:World)(N1:Nat)(l0:LS)(eds:List Ed)(P:Nat->World->(Nat->Prop)->Prop):Prop where
 eg:∀args w,(callFunc g args).run Tryz.prog w=.ok (.enter g args) w
 lt:∀j W Z,P j W Z->∀r,Z r->w0.heap.size<=r/\r<W.heap.size
 keep:∀j W W' Z (S:Nat->Prop),P j W Z->jB S W W'->(∀r,Z r->¬S r)->P j W' Z
 ask:∀(j:Nat) (ed:Ed) (fv:Value) (W:World) (Z:Nat->Prop) (lb:Nat) (ev:Value) (ps:List Pr) (m:Nat),eds[j]?=some ed->zJ ed=0->P j W Z->Below w0.heap.size w0 W->zk N1 W lb ev ps (qH l0 (eds.take j)) m->m<=10000->(∀r,Qq lb ev ps (.slice none 0 0) [] r->¬Z r)->xk W fv ed.fields->(∃A c,fv=.slice A ed.fields.length c) ->
  Calls Tryz.prog g (#[ptr lb,.agg #[.int .i64 ed.kind,.int .i64 ed.id,fv]]++cb) W fun e W'=>e=.returned (.tuple #[])/\∃Z',P (j+1) W' Z'/\jB Z W W'/\∀r,Z' r->Z r\/W.heap.size<=r
theorem zk.blkEd{S0:Nat}{w w':World}{lb:Nat}{ev ev' u:Value}{ps ps':List Pr}{l:LS}{m:Nat}(h:zk S0 w lb ev ps l m){ed:Ed}(h1:(jO ed.fields).length<=100000)(h2:ed.fields.length<=1000000)(hS:S0<=w.heap.size)(R:WrR w lb ev ps (zc l ed) u w' ev' ps'):zk S0 w' lb ev' ps' (zc l ed).ls (m+1) :=
 h.edit ed.kind ed.id h1 h2 R.la R.es hS (fun b e=>by
  rcases R.blk with q|⟨b',q,hq⟩
  ·exact .inl (by rw[<- q];exact e)
  right;rw[q]at e;cases e;exact hq)
theorem WrR.blks{w w':World}{lb:Nat}{ev u ev':Value}{ps ps':List Pr}{d:Did}(h:WrR w lb ev ps d u w' ev' ps'){r:Nat}(hr:Qq lb ev' ps' (.slice none 0 0) [] r):Qq lb ev ps (.slice none 0 0) [] r\/w.heap.size<=r:=by
 rcases hr with q|q|q|⟨p,hp,hne,q⟩|⟨p,hp,_⟩
 ·exact .inl (.inl q)
 ·rcases h.blk with e|⟨b,e,hb⟩
  ·exact .inl (.inr (.inl (by rw[<- e];exact q)))
  rw[e]at q;cases q;exact .inr hb
 ·cases q
 ·rcases h.mem p hp with e|e
  ·exact .inl (.inr (.inr (.inr (.inl ⟨p,e,hne,q⟩))))
  exact .inr (e r q)
 cases hp
theorem zk.only{S0:Nat}{w w':World}{lb:Nat}{ev:Value}{ps:List Pr}{l:LS}{m:Nat}{S:Nat->Prop}(h:zk S0 w lb ev ps l m)(g:jB S w w')(hs:∀r,Qq lb ev ps (.slice none 0 0) [] r->¬S r):zk S0 w' lb ev ps l m :=
 ⟨(h.str.only g hs).la,h.es,h.ok,h.sz,h.lb0,h.ev0,h.len,h.nx⟩
theorem Xb{eds:List Ed}(h:Yu eds){ed:Ed}(he:ed∈eds):(jO ed.fields).length<=100000/\ed.fields.length<=1000000:=by
 obtain⟨a,_,b⟩:=h.2 ed he
 rw[ZL]
 have:=Vg ed.fields b
 exact⟨by omega,by omega⟩
def Vu(eds:List Ed):Prop:=∀ed∈eds,(jO ed.fields).length<=100000/\ed.fields.length<=1000000
theorem Yu.smalls{eds:List Ed}(h:Yu eds):Vu eds:=fun _ he=>Xb h he
def jaJ(z:Int):Value:=.int .i64 z
theorem jdT:(Tryz.prog.info? 3).map (fun i=>(i.zero,i.size,i.bytes))=some (some (.int .i64 0),1,8):=by kernel_rfl
def jaD(w0 w w':World)(l:LS)(m:Nat)(eds:List Ed)(P:Nat->World->(Nat->Prop)->Prop)(e:Ending):Prop :=
 Below w0.heap.size w0 w'/\w.heap.size<=w'.heap.size /\
 (((doB l eds).2≠0/\∃u,e=.returned (.tuple #[.pointer none,.slice none 0 0,u])/\qR w.heap.size w' u (doB l eds).1 (doB l eds).2) \/
 (doB l eds=(-9,0)/\qP eds=(-9,0)/\YV l eds/\∃lb ev ps gv Z,e=.returned (.tuple #[ptr lb,gv,.nilIface])/\zk w.heap.size w' lb ev ps (qH l eds) (m+eds.length)/\P eds.length w' Z /\
  (∀r,Qq lb ev ps (.slice none 0 0) [] r->¬Z r/\w.heap.size<=r)/\w'.ownsRow w.heap.size 3 1 gv (zd l eds).length ((zd l eds).map jaJ)))
theorem VM{S00:Nat}{w0 w:World}(hB0:Below w0.heap.size w0 w)(eds:List Ed)(v:Value)(hv:EdV w0 v eds)(hl:eds.length<=51)(hf:Qp eds)(hsm:Vu eds)(hg:ErrT w0)
  {lb0:Nat} {ev0:Value} {ps0:List Pr} {l:LS} {m:Nat} (C:zk S00 w lb0 ev0 ps0 l m) (hm:m<=5000) {g:Nat} {cb:Array Value} {P:Nat->World->(Nat->Prop)->Prop} (SH:jhm g cb w0 w.heap.size l eds P) {Z0:Nat->Prop} (hP:P 0 w Z0) :
  Calls Tryz.prog 51 #[ptr lb0,v,.func (.func g) #[] cb] w fun e w'=>jaD w0 w w' l m eds P e:=by
 obtain⟨i0,hi,hz0,hz1,hz2⟩:=info_parts jdT
 have HB0:=jii hB0
 have CK:=jii (jat eds v w (hv.below hB0 (jij _)) (by omega) hf (hg.below hB0 (jij _)))
 obtain⟨A,cap,rfl,hle,hc⟩:=_root_.id hv
 have PC:=jii hc
 have HF:=jii hf
 have HS:=jii hsm
 have HG:=jii hg
 have HV:=jii hv
 have HC:=jii C
 have HSH:=jii SH
 have HP:=jii hP
 have heg:=SH.eg
 have hZ0:=jii (SH.lt 0 w Z0 hP)
 clear hc hf hsm hg hv C hP SH hB0
 unfold ptr
 go_enter Tryz.func51,Tryz.ntmps51
 go_wp2_with fail
 refine CK.out.mono ?_
 rintro e w1 ⟨u,rfl,b1,hz⟩
 have B1:=jii b1
 by_cases hb0:(qP eds).2=0
 rotate_left
 ·have hdo:doB l eds=qP eds:=by unfold doB;rw[if_neg hb0]
  have FIN:Hid (jaD w0 w w1 l m eds P (.returned (.tuple #[.pointer none,.slice none 0 0,u]))):=by
   show jaD _ _ _ _ _ _ _ _
   refine⟨HB0.out.trans (b1.mono HB0.out.size),b1.size,.inl ⟨by rw[hdo];exact hb0,u,rfl,by rw[hdo];exact hz⟩⟩
  have hform:(∃z,u=.iface 54 (.int .i64 z))\/∃q,u=.iface 91 (.pointer (some ⟨q,0,none⟩)):=by
   obtain⟨_,⟨rfl,_⟩|⟨_,⟨q,_,rfl,_⟩,_,_⟩⟩:=hz
   ·rw[jQ _ (by omega)];exact .inl ⟨_,rfl⟩
   exact .inr ⟨q,rfl⟩
  clear hz b1 CK
  rcases hform with ⟨z,rfl⟩|⟨q,rfl⟩
  all_goals
   go_wp2_with fail
   go_ret3
   exact FIN.out
 have hcz:=jcA hb0
 rw[hcz]at hz
 have hdo:doB l eds=jc3 0 l eds:=by unfold doB;rw[hcz];rfl
 obtain⟨⟨c1,c40⟩,hgood⟩:=vC hb0
 have GOOD:=jii hgood
 have HCZ:=jii hcz
 have HDO:=jii hdo
 obtain⟨_,⟨rfl,_⟩|⟨_,_,_,hx⟩⟩:=hz
 rotate_left
 ·exact absurd rfl hx
 have C1:=HC.out.below b1 (jij _)
 have CP:=jii (jcx lb0 ev0 ps0 l.next w1 C1.la (C1.ents (by omega)))
 have hes:Hid (ps0.map Prod.fst=l.es):=C1.es
 unfold ptr at CP
 clear C1 hgood hcz hdo hb0 CK b1
 rw[show xl 0=.nilIface from rfl]
 go_wp2_with fail
 refine CP.out.mono ?_
 rintro e w2 ⟨lb,ev1,ps1,rfl,hla,hpe,b2,hlb,hev,hfb⟩
 have hz12:=B1.out.size
 have C2:zk w.heap.size w2 lb ev1 ps1 l m:=by
  have c:=HC.out
  exact⟨hla,hpe.trans hes.out,c.ok,c.sz,by omega,(fun b e=>by have:=hev b e;omega),c.len,c.nx⟩
 have B2:Below w.heap.size w w2:=B1.out.trans (b2.mono hz12)
 have P2:P 0 w2 Z0:=HSH.out.keep 0 w w2 Z0 (fun _=>False) HP.out (jB.of_below B2 (jij _)) (fun _ _ e=>e)
 have K2:∀r,Qq lb ev1 ps1 (.slice none 0 0) [] r->¬Z0 r/\w.heap.size<=r:=by
  intro r hr
  have hge:w.heap.size<=r:=by
   rcases hr with q|q|q|⟨p,hp,_,q⟩|⟨p,hp,_⟩
   ·omega
   ·have:=hev r q;omega
   ·cases q
   ·have:=hfb p hp r q;omega
   cases hp
  exact⟨fun hz=>by have:=(hZ0.out r hz).2;omega,hge⟩
 have B02:Below w0.heap.size w0 w2:=HB0.out.trans (B2.mono HB0.out.size)
 have HC2:=jii C2
 have HP2:=jii P2
 have HK2:=jii K2
 have HB02:=jii B02
 have hw2:=B2.size
 have HLB:=jii hlb
 clear C2 P2 K2 B02 B2 hla hpe hev hfb b2 CP hlb hes HC HP hZ0
 go_wp2_with fail
 go_loopw [11,25] (fun gx i wr=>∃(k:Nat) (ev:Value) (ps:List Pr) (Z:Nat->Prop) (gv:Value),gv=gx/\k<=eds.length/\i=.int .i64 k/\YV l (eds.take k)/\zk w.heap.size wr lb ev ps (qH l (eds.take k)) (m+k)/\P k wr Z /\
  (∀r,Qq lb ev ps (.slice none 0 0) [] r->¬Z r/\w.heap.size<=r)/\wr.ownsRow w.heap.size 3 1 gv (zd l (eds.take k)).length ((zd l (eds.take k)).map jaJ)/\(∀r,gv.ownBlock=some r->¬Z r/\¬Qq lb ev ps (.slice none 0 0) [] r)/\Below w0.heap.size w0 wr/\w.heap.size<=wr.heap.size) (fun _ i _=>eds.length-(intOf i).toNat)
 case atStart =>
  refine⟨0,ev1,ps1,Z0,.slice none 0 0,rfl,jiD _,rfl,trivial,?_,HP2.out,HK2.out,⟨rfl,.inl ⟨rfl,rfl⟩⟩,(fun r e=>by cases e),HB02.out,hw2⟩
  exact HC2.out
 case round =>
 obtain⟨k,ev,ps,Z,gv,rfl,hk,rfl,hok,hC,hPk,hK,hown,hgb,hB,hwr⟩:=hrel
 by_cases hlt:k<eds.length
 ·obtain⟨ed,hed⟩:∃ed,eds[k]?=some ed:=⟨_,jim hlt⟩
  obtain⟨b,off,fv,rfl,hbb,c0,c1,c2,hfl⟩:=PC.out k ed hed
  obtain⟨fa,fc,rfl⟩:=hfl.form
  have hmem:=jiA hed
  replace c0:=(hB.cell (p:=⟨b,off+k*3,none⟩) hbb).trans c0
  replace c1:=(hB.cell (p:=⟨b,off+k*3+1,none⟩) hbb).trans c1
  replace c2:=(hB.cell (p:=⟨b,off+k*3+1+1,none⟩) hbb).trans c2
  obtain⟨wa,hwa⟩:∃wa,wa=wr.alloc (.cells #[.int .i64 ed.kind,.int .i64 ed.id,.slice fa ed.fields.length fc] 80):=⟨_,rfl⟩
  have hba:Below wr.heap.size wr wa:=by rw[hwa];exact(jil _ wr).alloc (jij _) _
  have hza:wa.heap.size=wr.heap.size+1:=by rw[hwa];simp
  have hEd:ja wa wr.heap.size 80 #[.int .i64 ed.kind,.int .i64 ed.id,.slice fa ed.fields.length fc]:=by rw[hwa];exact ja.new _ _ _
  have hCa:=hC.below hba (jij _)
  have hPa:P k wa Z:=HSH.out.keep k wr wa Z (fun _=>False) hPk (jB.of_below hba (jij _)) (fun _ _ e=>e)
  have hBa:Below w0.heap.size w0 wa:=hB.trans (hba.mono hB.size)
  have hZlt:=HSH.out.lt k wr Z hPk
  have hlt9:∀r,Qq lb ev ps (.slice none 0 0) [] r->r<wr.heap.size:=fun r hr=>hC.str.lt hr
  have ASK:=HSH.out.ask k ed (.slice fa ed.fields.length fc) wa Z lb ev ps (m+k) hed (GOOD.out ed hmem) hPa hBa hCa (by omega) (fun r hr=>(hK r hr).1) (hfl.below hBa (jij _)) ⟨fa,fc,rfl⟩
  have owna:wa.ownsRow w.heap.size 3 1 gv (zd l (eds.take k)).length ((zd l (eds.take k)).map jaJ):=zn hown hba (jij _)
  obtain⟨ga,gc,rfl⟩:∃A c,gv=.slice A (zd l (eds.take k)).length c:=by
   rcases hown.2 with ⟨rfl,hn⟩|⟨g',cap',cur',rfl,_⟩
   ·exact⟨none,0,by rw[hn]⟩
   exact⟨_,_,rfl⟩
  have GK:=jii (GOOD.out ed hmem)
  have DONE:Hid (∀(W1:World) (Z':Nat->Prop),P (k+1) W1 Z'->jB Z wa W1->(∀r,Z' r->Z r\/wa.heap.size<=r) ->
    zk w.heap.size W1 lb ev ps (qH l (eds.take k)) (m+k)/\xk W1 (.slice fa ed.fields.length fc) ed.fields/\ja W1 wr.heap.size 80 #[.int .i64 ed.kind,.int .i64 ed.id,.slice fa ed.fields.length fc]/\Below w0.heap.size w0 W1/\W1.ownsRow w.heap.size 3 1 (.slice ga (zd l (eds.take k)).length gc) (zd l (eds.take k)).length ((zd l (eds.take k)).map jaJ)/\(∀r,Z' r->¬(r=lb\/ev.ownBlock=some r))/\wr.heap.size<W1.heap.size):=by
   intro W1 Z' hP1 ho hz'
   have hB1:Below w0.heap.size w0 W1:=hBa.trans (ho.to_below hBa.size (fun r hr e=>by have:=(hZlt r e).1;omega))
   refine⟨hCa.only ho (fun r hr=>(hK r hr).1),hfl.below hB1 (jij _),hEd.only ho (fun e=>by have:=(hZlt _ e).2;omega),hB1,jJ owna ho (fun r e=>(hgb r e).1),?_,by have:=ho.size;omega⟩
   intro r hr hs
   have hbl:Qq lb ev ps (.slice none 0 0) [] r:=by
    rcases hs with q|q
    ·exact .inl q
    exact .inr (.inl q)
   rcases hz' r hr with q|q
   ·exact(hK r hbl).1 q
   have:=hlt9 r hbl;omega
  have EDIT:Hid (∀(W1 W2:World) (Z':Nat->Prop) (u ev':Value) (ps':List Pr),P (k+1) W1 Z'->jB Z wa W1->(∀r,Z' r->Z r\/wa.heap.size<=r)->WrR W1 lb ev ps (zc (qH l (eds.take k)) ed) u W2 ev' ps' ->
    zk w.heap.size W2 lb ev' ps' (qH l (eds.take (k+1))) (m+(k+1))/\P (k+1) W2 Z'/\(∀r,Qq lb ev' ps' (.slice none 0 0) [] r->¬Z' r/\w.heap.size<=r)/\W2.ownsRow w.heap.size 3 1 (.slice ga (zd l (eds.take k)).length gc) (zd l (eds.take k)).length ((zd l (eds.take k)).map jaJ) /\
    (∀r,(Value.slice ga (zd l (eds.take k)).length gc).ownBlock=some r->¬Z' r/\¬Qq lb ev' ps' (.slice none 0 0) [] r)/\Below w0.heap.size w0 W2/\ja W2 wr.heap.size 80 #[.int .i64 ed.kind,.int .i64 ed.id,.slice fa ed.fields.length fc]/\wr.heap.size<W2.heap.size):=by
   intro W1 W2 Z' u ev' ps' hP1 ho hz' hR
   obtain⟨d1,_,d3,d4,d5,d6,d7⟩:=DONE.out W1 Z' hP1 ho hz'
   have hZ'lt:=HSH.out.lt (k+1) W1 Z' hP1
   have hgl:∀r,(Value.slice ga (zd l (eds.take k)).length gc).ownBlock=some r->r<wr.heap.size:=fun r e=>(hown.lt r e).2
   refine⟨?_,HSH.out.keep (k+1) W1 W2 Z' _ hP1 hR.only d6,?_,jJ d5 hR.only ?_,?_,?_,?_,?_⟩
   ·have q:=d1.blkEd (HS.out ed hmem).1 (HS.out ed hmem).2 (by omega) hR
    rw[jbE hed];exact q
   ·intro r hr
    rcases hR.blks hr with q|q
    ·refine⟨fun e => ?_,(hK r q).2⟩
     rcases hz' r e with e|e
     ·exact(hK r q).1 e
     have:=hlt9 r q;omega
    refine⟨fun e=>by have:=(hZ'lt r e).2;omega,by omega⟩
   ·intro r e hs
    refine(hgb r e).2 ?_
    rcases hs with q|q
    ·exact .inl q
    exact .inr (.inl q)
   ·intro r e
    have h1:=hgl r e
    refine⟨fun z => ?_,fun hr => ?_⟩
    ·rcases hz' r z with q|q
     ·exact(hgb r e).1 q
     omega
    rcases hR.blks hr with q|q
    ·exact(hgb r e).2 q
    omega
   ·refine d4.trans (hR.only.to_below d4.size (fun r hr e => ?_))
    have hbl:Qq lb ev ps (.slice none 0 0) [] r:=by
     rcases e with q|q
     ·exact .inl q
     exact .inr (.inl q)
    have h1:=(hK r hbl).2
    have h2:=HB0.out.size
    omega
   ·refine d3.only hR.only (fun e => ?_)
    have hbl:Qq lb ev ps (.slice none 0 0) [] wr.heap.size:=by
     rcases e with q|q
     ·exact .inl q
     exact .inr (.inl q)
    have:=hlt9 _ hbl
    omega
   have:=hR.only.size;omega
  have OKS:Hid ((zc (qH l (eds.take k)) ed).bad=0->YV l (eds.take (k+1))):=fun h=>jbv hed hok h
  have AT:Hid ((zc (qH l (eds.take k)) ed).bad≠0->doB l eds=(((k:Nat):Int),(zc (qH l (eds.take k)) ed).bad)):=fun h=>by rw[HDO.out];exact jgb hed hok h
  have IDS:Hid (zd l (eds.take (k+1))=zd l (eds.take k)++(if ed.kind=3 then [(zc (qH l (eds.take k)) ed).id] else [])):=jab hed
  have hidl:(zd l (eds.take k)).length<=51:=by
   have h1:=jbW l (eds.take k)
   rw[jiq]at h1
   omega
  have h11:=jfg (qH l (eds.take k)) ed
  have F7:=jii (HF.out ed hmem)
  have HASK:=jii ASK
  clear hed hok hC hPk hK hown hgb hB hba hEd hCa hPa hBa hZlt hlt9 ASK owna hfl hmem
  generalize hst:zc (qH l (eds.take k)) ed=st at *
  have HST:=jii hst
  clear hst
  generalize hids:zd l (eds.take k)=ids at *
  clear hids
  unfold ptr at HASK
  subst hwa
  go_wp2_with fail
  refine HASK.out.mono ?_
  rintro e W1 ⟨rfl,Z',hP1,ho1,hz1'⟩
  obtain⟨d1,d2,d3,d4,d5,d6,d7⟩:=DONE.out W1 Z' hP1 ho1 hz1'
  have DO:=jgc d1 (by omega) ed (.slice fa ed.fields.length fc) d2 F7.out
  rw[HST.out]at DO
  have DO:=jii DO
  have e0:W1.cell? ⟨wr.heap.size,0,none⟩=some (.int .i64 ed.kind):=by rw[d3.cell 0];rfl
  have e1:W1.cell? ⟨wr.heap.size,1,none⟩=some (.int .i64 ed.id):=by rw[d3.cell 1];rfl
  have e2:W1.cell? ⟨wr.heap.size,2,none⟩=some (.slice fa ed.fields.length fc):=by rw[d3.cell 2];rfl
  have HP1:=jii hP1
  have HO1:=jii ho1
  have HZ1:=jii hz1'
  have HD4:=jii d4
  clear d1 d2 d3 d4 d5 d6 hP1 ho1 hz1' HASK DONE
  unfold ptr at DO
  go_wp2_with fail
  refine DO.out.mono ?_
  rintro e W2 ⟨u,ev',ps',rfl,hR⟩
  obtain⟨f1,f2,f3,f4,f5,f6,f7,f8⟩:=EDIT.out W1 W2 Z' u ev' ps' HP1.out HO1.out HZ1.out hR
  have herr:=hR.err
  clear hR EDIT DO e0 e1 e2
  by_cases hb0:st.bad=0
  ·obtain⟨_,⟨rfl,_⟩|⟨_,_,_,hx⟩⟩:=herr
   rotate_left
   ·exact absurd hb0 hx
   rw[show xl st.bad=.nilIface by rw[hb0];rfl]
   have OK1:=jii (OKS.out hb0)
   have g0:W2.cell? ⟨wr.heap.size,0,none⟩=some (.int .i64 ed.kind):=by rw[f7.cell 0];rfl
   by_cases h3:ed.kind=3
   ·have IDS1:=IDS.out
    rw[if_pos h3]at IDS1
    have IDS1:=jii IDS1
    have HV9:Hid (∀(j:Nat) (u:Value),[jaJ st.id][j]?=some u->(W2.alloc (.cells #[.int .i64 st.id] 3)).cell? ((⟨W2.heap.size,0,none⟩:Addr).add j)=some u):=fun j u h=>by
     have ea:(⟨W2.heap.size,0,none⟩:Addr).add j=⟨W2.heap.size,j,none⟩:=by unfold Addr.add;split<;>simp_all
     rw[ea,(ja.new W2 3 #[.int .i64 st.id]).cell j]
     simpa [jaJ]using h
    have HF1:=jii f1
    have HF2:=jii f2
    have HF3:=jii f3
    have HF4:=jii f4
    have HF5:=jii f5
    have HF6:=jii f6
    clear f1 f2 f3 f4 f5 f6 f7 IDS AT OKS
    rw[h3]at g0
    go_wp2_with (at_builtin;refine jI rfl _ _ 23 rfl w.heap.size 3 i0 _ 1 8 Tryz.underlying23 hi hz0 hz1 hz2 rfl (by decide) _ _ _ rfl (HF4.out.alloc _) ⟨W2.heap.size,0,none⟩ 1 1 _ rfl rfl HV9.out (by intro u hu;simp at hu;subst hu;rfl) (by unfold maxLen;omega) (by omega) (by simp only[jiB];omega) ?_)
    intro gv' W4 own4 grow4 at4
    have at4':=at4.out
    have o4:jB (fun r=>(Value.slice ga ids.length gc).ownBlock=some r) W2 W4 :=
     (jB.of_below (S:=fun r=>(Value.slice ga ids.length gc).ownBlock=some r) ((jil _ W2).alloc (jij _) (.cells #[.int .i64 st.id] 3)) (jij _)).grown grow4 (fun r e=>.inl e)
    have hgl:∀r,(Value.slice ga ids.length gc).ownBlock=some r->w.heap.size<=r/\r<W2.heap.size:=fun r e=>HF4.out.lt r e
    have hblt:∀r,Qq lb ev' ps' (.slice none 0 0) [] r->r<W2.heap.size:=fun r hr=>HF1.out.str.lt hr
    have hZlt:=HSH.out.lt (k+1) W2 Z' HF2.out
    have R1:zk w.heap.size W4 lb ev' ps' (qH l (eds.take (k+1))) (m+(k+1)):=HF1.out.only o4 (fun r hr e=>(HF5.out r e).2 hr)
    have R2:P (k+1) W4 Z':=HSH.out.keep (k+1) W2 W4 Z' _ HF2.out o4 (fun r hr e=>(HF5.out r e).1 hr)
    have R4:W4.ownsRow w.heap.size 3 1 gv' (zd l (eds.take (k+1))).length ((zd l (eds.take (k+1))).map jaJ):=by
     rw[IDS1.out,jik,jjh];exact own4
    have R5:∀r,gv'.ownBlock=some r->¬Z' r/\¬Qq lb ev' ps' (.slice none 0 0) [] r:=by
     intro r e
     rcases at4' with q|q
     ·exact HF5.out r (by rw[<- q];exact e)
     rw[q]at e
     have e':W2.heap.size+1=r:=by simpa using e
     exact⟨fun z=>by have:=(hZlt r z).2;omega,fun z=>by have:=hblt r z;omega⟩
    have R6:Below w0.heap.size w0 W4:=HF6.out.trans (o4.to_below HF6.out.size (fun r hr e=>by have:=(hgl r e).1;have:=HB0.out.size;omega))
    have hsz:=o4.size
    have H1:=jii R1
    have H2:=jii R2
    have H4:=jii R4
    have H5:=jii R5
    have H6:=jii R6
    clear R1 R2 R4 R5 R6 o4 hgl hblt hZlt own4 grow4 at4 at4' HV9 HF1 HF2 HF4 HF5 HF6
    go_wp2_with fail
    go_roundw
    case rel=>exact⟨k+1,ev',ps',Z',_,rfl,hlt,by go_num,OK1.out,H1.out,H2.out,HF3.out,H4.out,H5.out,H6.out,by omega⟩
    case measure=>simp[intOf];omega
   have IDS1:=IDS.out
   rw[if_neg h3,jiO]at IDS1
   have q3:(ed.kind==3)=false:=by simpa using h3
   have R4:W2.ownsRow w.heap.size 3 1 (.slice ga ids.length gc) (zd l (eds.take (k+1))).length ((zd l (eds.take (k+1))).map jaJ):=by rw[IDS1];exact f4
   have H1:=jii f1
   have H2:=jii f2
   have H3:=jii f3
   have H4:=jii R4
   have H5:=jii f5
   have H6:=jii f6
   clear f1 f2 f3 f4 f5 f6 f7 IDS AT OKS R4 IDS1
   go_wp2_with fail
   go_roundw
   case rel=>exact⟨k+1,ev',ps',Z',_,rfl,hlt,by go_num,OK1.out,H1.out,H2.out,H3.out,H4.out,H5.out,H6.out,by omega⟩
   case measure=>simp[intOf];omega
  have FA:=jii (Xq k st.bad st.at_ u W2 herr hb0 (HG.out.below f6 (jij _)))
  have AT1:=AT.out hb0
  have hform:(∃z,u=.iface 54 (.int .i64 z))\/∃q,u=.iface 91 (.pointer (some ⟨q,0,none⟩)):=by
   obtain⟨_,⟨rfl,_⟩|⟨_,⟨q,_,rfl,_⟩,_,_⟩⟩:=herr
   ·rw[jQ st.bad (by omega)];exact .inl ⟨_,rfl⟩
   exact .inr ⟨q,rfl⟩
  have FIN:Hid (∀W3 u',Below W2.heap.size W2 W3->jl W2.heap.size W3 u' k st.bad->jaD w0 w W3 l m eds P (.returned (.tuple #[.pointer none,.slice none 0 0,u']))):=by
   intro W3 u' b3 hfa
   refine⟨f6.trans (b3.mono f6.size),by have:=b3.size;omega,.inl ⟨by rw[AT1];exact hb0,u',rfl,?_⟩⟩
   rw[AT1]
   exact qR.fault (hfa.mono (by omega)) hb0 h11
  clear herr f1 f2 f3 f4 f5 f6 f7 IDS AT OKS
  rcases hform with ⟨z,rfl⟩|⟨q,rfl⟩
  all_goals
   go_wp2_with fail
   refine FA.out.mono ?_
   rintro e w3 ⟨u',rfl,b3,hfa⟩
   have FIN3:=jii (FIN.out w3 u' b3 hfa)
   clear hfa b3
   go_wp2_with fail
   go_ret3
   exact FIN3.out
 obtain rfl:k=eds.length:=by omega
 rw[jiL]at hok hC hown
 have FIN:Hid (jaD w0 w wr l m eds P (.returned (.tuple #[ptr lb,gv,.nilIface]))):=by
  show jaD _ _ _ _ _ _ _ _
  exact⟨hB,hwr,.inr ⟨by rw[HDO.out];exact jga 0 l eds hok,HCZ.out,hok,lb,ev,ps,gv,Z,rfl,hC,hPk,hK,hown⟩⟩
 obtain⟨ga,gc,rfl⟩:∃A c,gv=.slice A (zd l eds).length c:=by
  rcases hown.2 with ⟨rfl,hn⟩|⟨g',cap',cur',rfl,_⟩
  ·exact⟨none,0,by rw[hn]⟩
  exact⟨_,_,rfl⟩
 clear PC hok hC hown hK hgb hPk
 unfold ptr at FIN
 go_wp2_with fail
 go_ret3
 exact FIN.out
end Go.Proofs.YtimfhnfcmhmjcaaGreatDoor
namespace Go.Proofs.YtimfhnfcmhmjcaaGreatDoor.Rp
open Go.RowKit Go.Shelf
def qp:LS->List (List Ed)->Option LS
 | l,[]=>some l
 | l,b::r=>if (doB l b).2=0 then qp (qH l b) r else none
def WV:LS->List (List Ed)->List (List Int)
 | _,[]=>[]
 | l,b::r=>zd l b::WV (qH l b) r
def yi:List (List Ed)->Nat
 | []=>0
 | b::r=>b.length+yi r
theorem yk:∀(a b:List (List Ed)) (l:LS),qp l (a++b)=(qp l a).bind fun k=>qp k b
 | [],_,_=>rfl
 | x::a,b,l=>by
  show(if (doB l x).2=0 then qp (qH l x) (a++b) else none)=(if (doB l x).2=0 then qp (qH l x) a else none).bind _
  split
  ·exact yk a b _
  rfl
theorem xY{l k:LS}{a:List (List Ed)}{b:List Ed}(h:qp l a=some k):qp l (a++[b])=if (doB k b).2=0 then some (qH k b) else none:=by
 rw[yk,h];rfl
theorem WU:∀(a:List (List Ed)) (l k:LS) (b:List Ed),qp l a=some k->WV l (a++[b])=WV l a++[zd k b]
 | [],l,k,b,h=>by cases h;rfl
 | x::a,l,k,b,h=>by
  have h':(if (doB l x).2=0 then qp (qH l x) a else none)=some k:=h
  split at h'
  ·show zd l x::WV (qH l x) (a++[b])=zd l x::(WV (qH l x) a++[zd k b])
   rw[WU a _ k b h']
  cases h'
theorem jb0:∀(a:List (List Ed)) (l:LS),(WV l a).length=a.length
 | [],_=>rfl
 | x::a,l=>by show(WV (qH l x) a).length+1=a.length+1;rw[jb0 a]
theorem vF:∀(a b:List (List Ed)),yi (a++b)=yi a+yi b
 | [],b=>(jiP _).symm
 | x::a,b=>by show x.length+yi (a++b)=x.length+yi a+yi b;rw[vF a b];omega
theorem Vz{α:Type}{a:List α}{i:Nat}{b:α}(h:a[i]?=some b):a.take (i+1)=a.take i++[b]:=by rw[jiU,h];rfl
theorem YG(a:List (List Ed))(i:Nat):yi (a.take i)<=yi a:=by
 have h:=vF (a.take i) (a.drop i)
 rw[jiT]at h;omega
theorem jfc{a:List (List Ed)}{i:Nat}{b:List Ed}(h:a[i]?=some b):yi (a.take (i+1))=yi (a.take i)+b.length:=by
 rw[Vz h,vF];rfl
def vY(l:LS)(bs:List (List Ed))(i:Nat):Prop:=∃k b,qp l (bs.take i)=some k/\bs[i]?=some b/\(doB k b).2≠0
theorem Gy{l k:LS}{bs:List (List Ed)}(h:qp l bs=some k)(i:Nat):∃k',qp l (bs.take i)=some k':=by
 rw[<- jiT i bs,yk]at h
 cases hp:qp l (bs.take i) with
 | none=>rw[hp]at h;cases h
 | some k'=>exact⟨k',rfl⟩
theorem YQ{l:LS}{bs:List (List Ed)}{i j:Nat}(h:vY l bs i)(hj:i<j):qp l (bs.take j)=none:=by
 obtain⟨k,b,h1,h2,h3⟩:=h
 have e:(bs.take j).take (i+1)=bs.take i++[b]:=by rw[List.take_take,Nat.min_eq_left hj,Vz h2]
 have h4:=xY (b:=b) h1
 rw[if_neg h3,<- e]at h4
 cases hp:qp l (bs.take j) with
 | none=>rfl
 | some k'=>obtain⟨k2,h5⟩:=Gy hp (i+1);rw[h4]at h5;cases h5
theorem vY.lt{l:LS}{bs:List (List Ed)}{i:Nat}(h:vY l bs i):i<bs.length:=by
 obtain⟨_,_,_,h2,_⟩:=h
 exact(List.getElem?_eq_some_iff.1 h2).1
theorem vY.not{l k:LS}{bs:List (List Ed)}{i:Nat}(h:vY l bs i)(hp:qp l bs=some k):False:=by
 have:=YQ h h.lt
 rw[jiL,hp]at this;cases this
def je2(bs:List (List Ed)):Prop:=∀b∈bs,b.length<=51/\Qp b/\Vu b
theorem je2.take{bs:List (List Ed)}(h:je2 bs)(i:Nat):je2 (bs.take i):=fun b hb=>h b (jjl hb)
def BtV(w:World)(v:Value)(bs:List (List Ed)):Prop :=
 ∃A cap,v=.slice A bs.length cap/\bs.length<=cap/\∀(i:Nat) b,bs[i]?=some b->∃g off u,A=some ⟨g,off,none⟩/\g<w.heap.size/\w.cell? ⟨g,off+i,none⟩=some u/\EdV w u b
theorem BtV.below{w w':World}{v:Value}{bs:List (List Ed)}{N:Nat}(h:BtV w v bs)(hb:Below N w w')(hN:w.heap.size<=N):BtV w' v bs:=by
 obtain⟨A,cap,e,hle,hc⟩:=h
 refine⟨A,cap,e,hle,fun i b hi => ?_⟩
 obtain⟨g,off,u,e1,hg,c,hu⟩:=hc i b hi
 exact⟨g,off,u,e1,jiF hg hb.size,(hb.cell (p:=⟨g,off+i,none⟩) (show g<N by omega)).trans c,hu.below hb hN⟩
theorem BtV.take{w:World}{A:Option Addr}{n c:Nat}{bs:List (List Ed)}(h:BtV w (.slice A n c) bs){k:Nat}(hk:k<=bs.length):BtV w (.slice A k c) (bs.take k):=by
 obtain⟨A',cap,e,hle,hc⟩:=h
 injection e with e1 e2 e3
 subst e1 e2 e3
 have hl:(bs.take k).length=k:=by rw[jiq];omega
 refine⟨A,c,by rw[hl],by omega,fun i b hi => ?_⟩
 rw[ji0]at hi
 split at hi
 ·exact hc i b hi
 cases hi
structure XR(lo:Nat)(w:World)(gv:Value)(gs:List (List Int))(us:List Value):Prop where
 row:w.ownsRow lo 23 1 gv gs.length us
 each:∀(i:Nat) g u,gs[i]?=some g->us[i]?=some u->w.ownsRow lo 3 1 u g.length (g.map jaJ)
theorem XR.nil(lo:Nat)(w:World):XR lo w (.slice none 0 0) [] []:=⟨⟨rfl,.inl ⟨rfl,rfl⟩⟩,fun i b u h1 h2=>by simp at h1⟩
theorem XR.len{lo:Nat}{w:World}{gv:Value}{gs:List (List Int)}{us:List Value}(h:XR lo w gv gs us):us.length=gs.length:=by have:=h.row.1;omega
def jav(gen:Int)(s:List UInt8)(A:Option Addr)(n c:Nat)(ea:Option Addr)(en ec:Nat)(tl:ByteArray):Value:=.agg #[.int .i64 gen,.string (B s),.slice A n c,.slice ea en ec,.string tl]
end Go.Proofs.YtimfhnfcmhmjcaaGreatDoor.Rp
namespace Go.Proofs.YtimfhnfcmhmjcaaGreatDoor
open Go.RowKit Go.Shelf
attribute [local go_sem] jit
def jeZ(_:Nat)(_:World)(Z:Nat->Prop):Prop:=∀r,¬Z r
theorem Gh(w0:World)(N1:Nat)(l0:LS)(eds:List Ed):jhm 52 #[] w0 N1 l0 eds jeZ:=by
 refine⟨enters_of Tryz.func52 (by kernel_rfl) rfl,fun j W Z h r hr=>absurd hr (h r),fun j W W' Z S h _ _=>h,?_⟩
 intro j ed fv W Z lb ev ps m hed _ hP hB hC hm hZ hfl hform
 obtain⟨fa,fc,rfl⟩:=hform
 have hb:Below W.heap.size W (W.alloc (.cells #[.int .i64 ed.kind,.int .i64 ed.id,.slice fa ed.fields.length fc] 80)):=(jil _ W).alloc (jij _) _
 have H:Hid (∃Z',jeZ (j+1) (W.alloc (.cells #[.int .i64 ed.kind,.int .i64 ed.id,.slice fa ed.fields.length fc] 80)) Z'/\jB Z W (W.alloc (.cells #[.int .i64 ed.kind,.int .i64 ed.id,.slice fa ed.fields.length fc] 80))/\∀r,Z' r->Z r\/W.heap.size<=r) :=
  ⟨Z,hP,jB.of_below hb (jij _),fun r hr=>.inl hr⟩
 clear hed hP hB hC hZ hfl hb
 unfold ptr
 show Calls _ _ #[.pointer (some ⟨lb,0,none⟩),.agg #[.int .i64 ed.kind,.int .i64 ed.id,.slice fa ed.fields.length fc]] _ _
 go_enter Tryz.func52,Tryz.ntmps52
 go_wp2_with fail
 go_end0
 exact⟨rfl,H.out⟩
def DoR(w w':World)(l:LS)(m:Nat)(eds:List Ed)(e:Ending):Prop :=
 Below w.heap.size w w' /\
 (((doB l eds).2≠0/\∃u,e=.returned (.tuple #[.pointer none,.slice none 0 0,u])/\qR w.heap.size w' u (doB l eds).1 (doB l eds).2) \/
 (doB l eds=(-9,0)/\qP eds=(-9,0)/\YV l eds/\∃lb ev ps gv,e=.returned (.tuple #[ptr lb,gv,.nilIface])/\zk w.heap.size w' lb ev ps (qH l eds) (m+eds.length) /\
  (∀r,Qq lb ev ps (.slice none 0 0) [] r->w.heap.size<=r)/\w'.ownsRow w.heap.size 3 1 gv (zd l eds).length ((zd l eds).map jaJ)))
theorem je1{S00:Nat}{w:World}(eds:List Ed)(v:Value)(hv:EdV w v eds)(hl:eds.length<=51)(hf:Qp eds)(hsm:Vu eds)(hg:ErrT w)
  {lb0:Nat} {ev0:Value} {ps0:List Pr} {l:LS} {m:Nat} (C:zk S00 w lb0 ev0 ps0 l m) (hm:m<=5000) :
  Calls Tryz.prog 28 #[ptr lb0,v] w fun e w'=>DoR w w' l m eds e:=by
 have PL:=jii (VM (jil _ w) eds v hv hl hf hsm hg C hm (Gh w w.heap.size l eds) (Z0:=fun _=>False) (fun _ h=>h))
 obtain⟨A,cap,rfl,_⟩:=hv
 unfold ptr at *
 clear hf hsm hg C
 go_enter Tryz.func28,Tryz.ntmps28
 go_wp2_with fail
 refine PL.out.mono ?_
 rintro e w1 ⟨b1,_,⟨h0,u,rfl,hz⟩|⟨h1,h2,h3,lb,ev,ps,gv,Z,rfl,hC,_,hK,hown⟩⟩
 ·have R:Hid (DoR w w1 l m eds (.returned (.tuple #[.pointer none,.slice none 0 0,u]))):=⟨b1,.inl ⟨h0,u,rfl,hz⟩⟩
  clear hz b1 PL
  go_wp2_with fail
  go_ret3
  exact R.out
 have R:Hid (DoR w w1 l m eds (.returned (.tuple #[.pointer (some ⟨lb,0,none⟩),gv,.nilIface]))):=⟨b1,.inr ⟨h1,h2,h3,lb,ev,ps,gv,rfl,hC,(fun r hr=>(hK r hr).2),hown⟩⟩
 clear hC hK hown b1 PL
 unfold ptr
 go_wp2_with fail
 go_ret3
 exact R.out
end Go.Proofs.YtimfhnfcmhmjcaaGreatDoor
namespace Go.Proofs.YtimfhnfcmhmjcaaGreatDoor.Rp
open Go.RowKit Go.Shelf
attribute [local go_sem] jit
theorem jfK:(Tryz.prog.info? 23).map (fun i=>(i.zero,i.size,i.bytes))=some (some (.slice none 0 0),1,24):=by kernel_rfl
theorem XR.below{lo:Nat}{w w':World}{gv:Value}{gs:List (List Int)}{us:List Value}{N:Nat}(h:XR lo w gv gs us)(hb:Below N w w')(hN:w.heap.size<=N):XR lo w' gv gs us :=
 ⟨zn h.row hb hN,fun i g u h1 h2=>zn (h.each i g u h1 h2) hb hN⟩
theorem XR.box{lo:Nat}{w w':World}{gv:Value}{gs:List (List Int)}{us:List Value}{t:TypeId}{b:Nat}{cur:Array Value}(h:XR lo w gv gs us)(hc:ja w b t cur)(t0:23≠t)(t1:3≠t)(o:jB (· = b) w w'):XR lo w' gv gs us :=
 ⟨jJ h.row o (fun r e q=>ju h.row hc t0 (by rw[e,q])),fun i x u h1 h2=>jJ (h.each i x u h1 h2) o (fun r e q=>ju (h.each i x u h1 h2) hc t1 (by rw[e,q]))⟩
theorem XR.snoc{lo:Nat}{w w':World}{gv gv' u:Value}{gs:List (List Int)}{us:List Value}{g:List Int}(h:XR lo w gv gs us)(hO:w.ownsRow lo 3 1 u g.length (g.map jaJ))(own:w'.ownsRow lo 23 1 gv' (gs.length+1) (us++[u]))(o:jB (fun r=>gv.ownBlock=some r) w w'):XR lo w' gv' (gs++[g]) (us++[u]):=by
 refine⟨by rw[jik];exact own,fun i x v h1 h2 => ?_⟩
 rw[List.getElem?_append]at h1 h2
 rw[h.len]at h2
 split at h1
 ·rename_i hi
  rw[if_pos hi]at h2
  exact jJ (h.each i x v h1 h2) o (fun b e q=>zI h.row (h.each i x v h1 h2) (by decide) b q e)
 rename_i hi
 rw[if_neg hi]at h2
 rw[List.getElem?_singleton]at h1 h2
 split at h1
 ·rename_i hz
  rw[if_pos hz]at h2
  obtain rfl:=jip h1
  obtain rfl:=jip h2
  exact jJ hO o (fun b e q=>zI h.row hO (by decide) b q e)
 cases h1
structure XP(lo:Nat)(w:World)(pb:Nat)(first:Int)(l:LS)(m:Nat)(gs:List (List Int)):Prop where
 is:∃lb ev ps gv us,ja w pb 87 #[ptr lb,.int .i64 first,gv]/\zk lo w lb ev ps l m/\XR lo w gv gs us
 lo:lo<=pb
theorem jgT(w3:World)(T:TypeId)(x:Value):∀(j:Nat) (u:Value),[x][j]?=some u->(w3.alloc (.cells #[x] T)).cell? ((⟨w3.heap.size,0,none⟩:Addr).add j)=some u:=fun j u h=>by
 have ea:(⟨w3.heap.size,0,none⟩:Addr).add j=⟨w3.heap.size,j,none⟩:=by unfold Addr.add;split<;>simp_all
 rw[ea,(ja.new w3 T #[x]).cell j]
 simpa using h
def jhY(lo:Nat)(w w':World)(pb:Nat)(first:Int)(l:LS)(m:Nat)(gs:List (List Int))(b:List Ed)(e:Ending):Prop :=
 Below lo w w'/\(((doB l b).2≠0/\e=.returned (.bool false))\/((doB l b).2=0/\e=.returned (.bool true)/\XP lo w' pb first (qH l b) (m+b.length) (gs++[zd l b])))
theorem jhd{lo:Nat}{w:World}{pb:Nat}{first:Int}{l:LS}{m:Nat}{gs:List (List Int)}(H:XP lo w pb first l m gs)(b:List Ed)(v:Value)(hv:EdV w v b)(hs:b.length<=51/\Qp b/\Vu b)(hg:ErrT w)(hm:m<=5000)(hgs:gs.length<=1000000):
  Calls Tryz.prog 75 #[.pointer (some ⟨pb,0,none⟩),v] w fun e w'=>jhY lo w w' pb first l m gs b e:=by
 obtain⟨i2,hiB,hB0,hB1,hBb⟩:=info_parts jfK
 obtain⟨lb,ev,ps,gv,us,C,CY,G⟩:=H.is
 have DO:=jii (je1 b v hv hs.1 hs.2.1 hs.2.2 hg CY hm)
 obtain⟨ga,gc,rfl,_⟩:=je G.row
 obtain⟨A,cap,rfl,_⟩:=_root_.id hv
 have k0:=C.cell 0
 have k2:=C.cell 2
 simp only[jiv,jiu,jio]at k0 k2
 have HC:=jii C
 have HG:=jii G
 have hlo:=H.lo
 have hlt:=C.lt
 clear H C CY G hv hg hs
 unfold ptr at *
 go_enter Tryz.func75,Tryz.ntmps75
 go_wp2_with fail
 refine DO.out.mono ?_
 rintro e w1 ⟨b1,⟨h0,u,rfl,hz⟩|⟨h0,_,_,lb1,ev1,ps1,g1,rfl,C1,K1,own1⟩⟩
 ·have B1:Hid (Below lo w w1):=b1.mono (by omega)
  have hform:(∃z,u=.iface 54 (.int .i64 z))\/∃q,u=.iface 91 (.pointer (some ⟨q,0,none⟩)):=by
   obtain⟨_,⟨rfl,_⟩|⟨_,⟨q,_,rfl,_⟩,_,_⟩⟩:=hz
   ·rw[jQ _ (by omega)];exact .inl ⟨_,rfl⟩
   exact .inr ⟨q,rfl⟩
  clear hz b1 DO
  rcases hform with ⟨z,rfl⟩|⟨q,rfl⟩
  all_goals
   go_wp2_with fail
   go_ret
   exact⟨B1.out,.inl ⟨h0,rfl⟩⟩
 obtain⟨g1a,g1c,rfl,_⟩:=je own1
 have C1':=jb HC.out b1 hlt
 have G1':=HG.out.below b1 (jij _)
 have B1:=jii (show Below lo w w1 from b1.mono (by omega))
 have hz1:=b1.size
 have q2:=C1'.cell 2
 simp only[jiv,jiu,jio]at q2
 have HC1:=jii C1'
 have HG1:=jii G1'
 have HCY:=jii C1
 have HK1:Hid (∀r,Qq lb1 ev1 ps1 (.slice none 0 0) [] r->w.heap.size<=r):=K1
 have HO1:=jii own1
 have hlo1:lo<=w1.heap.size:=by omega
 clear b1 C1 K1 own1 DO C1' G1' k0 k2
 unfold ptr
 go_wp2_with (at_builtin;refine jI rfl _ _ 38 rfl lo 23 i2 _ 1 24 Tryz.underlying38 hiB hB0 hB1 hBb rfl (by decide) _ _ _ rfl (HG1.out.row.alloc _) _ 1 1 [.slice g1a (zd l b).length g1c] rfl rfl (jgT _ _ _) (by intro u hu;simp at hu;subst hu;rfl) (by unfold maxLen;omega) (by omega) (by simp only[jiB];omega) ?_)
 intro gv8 W8 own8 grow8 at8
 have hb8:Below w1.heap.size w1 (w1.alloc (.cells #[.slice g1a (zd l b).length g1c] 23)):=(jil _ _).alloc (jij _) _
 have o8:jB (fun r=>(Value.slice ga gs.length gc).ownBlock=some r) w1 W8:=(jB.of_below (S:=fun r=>(Value.slice ga gs.length gc).ownBlock=some r) hb8 (jij _)).grown grow8 (fun r e=>.inl e)
 have G8:=HG1.out.snoc (jC HO1.out (by omega)) own8 o8
 have K8:=HC1.out.only o8 (fun e=>ju HG1.out.row HC1.out (by decide) e)
 have Y8:=HCY.out.only o8 (fun r hr e=>by have:=HK1.out r hr;have:=(HG.out.row.lt r e).2;omega)
 have B8:=B1.out.trans (o8.to_below hlo1 (fun r hr e=>by have:=(HG1.out.row.lt r e).1;omega))
 obtain⟨ga8,gc8,rfl,_⟩:=je own8
 have K9:=(K8.set 0 (.pointer (some ⟨lb1,0,none⟩))).set 2 (.slice ga8 (gs.length+1) gc8)
 rw[show((#[Value.pointer (some ⟨lb,0,none⟩),.int .i64 first,.slice ga gs.length gc]:Array Value).setIfInBounds 0 (.pointer (some ⟨lb1,0,none⟩))).setIfInBounds 2 (.slice ga8 (gs.length+1) gc8)=#[.pointer (some ⟨lb1,0,none⟩),.int .i64 first,.slice ga8 (gs.length+1) gc8] from rfl]at K9
 have o9:jB (· = pb) W8 ((W8.setCell ⟨pb,0,none⟩ (.pointer (some ⟨lb1,0,none⟩))).setCell ⟨pb,2,none⟩ (.slice ga8 (gs.length+1) gc8)):=((jB.refl (· = pb) W8).cellS 0 _).cellS 2 _
 have G9:=G8.box K8 (by decide) (by decide) o9
 have Y9:=Y8.only o9 (fun r hr e=>by have:=HK1.out r hr;omega)
 have B9:=jii (B8.trans (o9.to_below (by have:=o8.size;omega) (fun r hr e=>by omega)))
 have FIN:=jii (show XP lo _ pb first (qH l b) (m+b.length) (gs++[zd l b]) from⟨⟨lb1,_,_,_,_,K9,⟨Y9.la,Y9.es,Y9.ok,Y9.sz,by have:=Y9.lb0;omega,fun b e=>by have:=Y9.ev0 b e;omega,Y9.len,Y9.nx⟩,G9⟩,hlo⟩)
 have c0:=K8.cell 0
 have c2:=K8.cell 2
 have f0:=K8.frozen 0
 have f2:=K8.frozen 2
 simp only[jiv,jiu,jio]at c0 c2
 have hd:=congrArg Prod.snd h0
 clear own8 grow8 at8 hb8 o8 G8 K8 Y8 B8 K9 o9 G9 Y9 q2 h0
 go_wp2_with fail
 go_ret
 exact⟨B9.out,.inr ⟨hd,rfl,FIN.out⟩⟩
end Go.Proofs.YtimfhnfcmhmjcaaGreatDoor.Rp
namespace Go.Proofs.YtimfhnfcmhmjcaaGreatDoor
def more:List Ln->List (List UInt8)
 | []=>[]
 | x::xs=>if jz x.text=3 then x.text::more xs else []
structure RS where
 out:List It
 kind:Int
 raw:List UInt8
 fields:List Fld
 records:Nat
 prev:Nat
end Go.Proofs.YtimfhnfcmhmjcaaGreatDoor
namespace Go.Proofs.YtimfhnfcmhmjcaaGreatDoor
open Go.RowKit Go.Shelf
theorem yr:∀(l:List UInt8),(∀j:Nat,l[j]?≠some 10)->head l=l/\nl l=false/\zY l=l.length
 | [],_=>⟨rfl,rfl,rfl⟩
 | a::t,hn=>by
  have ha:a≠10:=fun e=>hn 0 (by rw[e];rfl)
  obtain⟨h1,h2,h3⟩:=yr t (fun j=>by have:=hn (j+1);simpa using this)
  have e1:head (a::t)=a::head t:=by simp[head,ha]
  have e2:nl (a::t)=nl t:=by simp[nl,Ne.symm ha]
  refine⟨by rw[e1,h1],by rw[e2,h2],?_⟩
  unfold zY at h3 ⊢
  rw[e1,e2,jin];simp only[jin];omega
end Go.Proofs.YtimfhnfcmhmjcaaGreatDoor
