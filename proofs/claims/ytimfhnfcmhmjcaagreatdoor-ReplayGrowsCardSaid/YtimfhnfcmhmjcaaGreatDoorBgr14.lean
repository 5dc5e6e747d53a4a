/- Texts put together:NE,NG,EA,ED,EE,EF,EG. -/
import Derived.LaidEql
import Derived.Stop.Asserts
import Derived.RowKitTokens
import Derived.Test.YtimfhnfcmhmjcaaGreatDoorBgr13
set_option linter.unusedVariables false
set_option maxRecDepth 100000
set_option maxHeartbeats 16000000
namespace Go.Proofs.YtimfhnfcmhmjcaaGreatDoor
abbrev jjz:=@Int.le_refl
abbrev jjN:=@Go.Sem.run_bind
abbrev jkv:=@Nat.le_succ
abbrev jkE:=@Go.World.cell?_alloc_lt
end Go.Proofs.YtimfhnfcmhmjcaaGreatDoor
namespace Go.Proofs.YtimfhnfcmhmjcaaGreatDoor
open Go.RowKit Go.Shelf Go.Maps Go.ChangeShapes Go.Joins Go.WideShapes
attribute [local go_sem] jit
structure Ed where
 kind:Int
 id:Int
 fields:List Fld
structure jig(W:World)(cs:List Value)(ed:Ed)(fv:Value):Prop where
 cs:cs=[.int .i64 ed.kind,.int .i64 ed.id,fv]
 flds:JL W fv ed.fields
theorem jco{H:Type}{enc:TypeId×Value->H}{W:World}{base:Nat}{sp:Nat->Bool}{held:Bool}{fuel:Nat}{cs:List Value}{x:DataW H×List MemPlace}(h:DataW.trod enc Tryz.prog W base sp held fuel 80 cs=some x):
  ∃ed fv,jig W cs ed fv:=by
 obtain⟨xs,m,_,_,hl,hxl,hf⟩:=DataW.trod_struct Tryz.underlying80 h
 have hl2:cs.length=3:=hl.trans (by kernel_rfl)
 obtain⟨c0,c1,c2,rfl⟩:=jeX hl2
 have k3:Tryz.prog.cellsOf 3=1:=by kernel_rfl
 have k40:Tryz.prog.cellsOf 78=1:=by kernel_rfl
 have hx:∀i,i<3->∃y,xs[i]?=some y:=fun i hi=>⟨_,jim (by rw[hxl];exact hi)⟩
 obtain⟨y0,e0⟩:=hx 0 (by decide)
 obtain⟨y1,e1⟩:=hx 1 (by decide)
 obtain⟨y2,e2⟩:=hx 2 (by decide)
 have q0:DataW.trod enc Tryz.prog W base sp held m 3 (List.take (Tryz.prog.cellsOf 3) [c0,c1,c2])=_:=hf 0 _ rfl
 have q1:DataW.trod enc Tryz.prog W base sp held m 3 (List.take (Tryz.prog.cellsOf 3) [c1,c2])=_:=hf 1 _ rfl
 have q2:DataW.trod enc Tryz.prog W base sp held m 78 (List.take (Tryz.prog.cellsOf 78) [c2])=_:=hf 2 _ rfl
 rw[k3,e0]at q0
 rw[k3,e1]at q1
 rw[k40,e2]at q2
 obtain⟨kind,f0,_,_⟩:=DataW.trod_int Tryz.underlying3 q0
 obtain⟨id,f1,_,_⟩:=DataW.trod_int Tryz.underlying3 q1
 obtain⟨fs,hfs⟩:=jf0 (v:=c2) q2
 simp at f0 f1
 subst f0 f1
 exact⟨⟨kind,id,fs⟩,c2,rfl,hfs⟩
structure Yv(w:World)(v:Value)(eds:List Ed):Prop where
 len:eds.length<=maxLen
 at_:∃A cap,v=.slice A eds.length cap/\eds.length<=cap/\∀(i:Nat) (ed:Ed),eds[i]?=some ed->∃b off fv,A=some ⟨b,off,none⟩/\b<w.heap.size/\w.cell? ⟨b,off+i*3,none⟩=some (.int .i64 ed.kind)/\w.cell? ⟨b,off+i*3+1,none⟩=some (.int .i64 ed.id)/\w.cell? ⟨b,off+i*3+1+1,none⟩=some fv/\JL w fv ed.fields
theorem jem{H:Type}{enc:TypeId×Value->H}{W:World}{base:Nat}{sp:Nat->Bool}{held:Bool}{fuel:Nat}{v:Value}{x:DataW H×List MemPlace}(h:DataW.trod enc Tryz.prog W base sp held fuel 55 [v]=some x):
  ∃eds,Yv W v eds:=by
 rcases DataW.trod_slice Tryz.underlying55 h with ⟨e,_⟩|⟨a,len,cap,elems,rest,n,_,e,_,_,hl,hm,hlen,hel,_,_⟩
 ·obtain rfl:v=.slice none 0 0:=by simpa using e
  exact⟨[],⟨jiD _,none,0,rfl,jij _,fun i f h=>by simp at h⟩⟩
 obtain rfl:v=.slice (some a) len cap:=by simpa using e
 have k3:Tryz.prog.cellsOf 80=3:=by kernel_rfl
 have each:∀i,i<len->∃ed:Ed,∃b off fv,a=⟨b,off,none⟩/\b<W.heap.size/\W.cell? ⟨b,off+i*3,none⟩=some (.int .i64 ed.kind)/\W.cell? ⟨b,off+i*3+1,none⟩=some (.int .i64 ed.id)/\W.cell? ⟨b,off+i*3+1+1,none⟩=some fv/\JL W fv ed.fields:=by
  intro i hi
  have h1:=hel i hi
  rw[k3,jim (by omega)]at h1
  obtain⟨cs,hc,ht⟩:=Option.bind_eq_some_iff.1 h1
  obtain⟨ed,fv,rfl,hf⟩:=jco ht
  obtain⟨_,_,hat⟩:=jjW hc
  have c0:=hat 0 (by decide)
  have c1:=hat 1 (by decide)
  have c2:=hat 2 (by decide)
  obtain⟨b,off,spot⟩:=a
  have hspot:spot=none:=by
   have h2:=hel 0 (by omega)
   rw[k3,jim (by omega)]at h2
   obtain⟨cs',hc',ht'⟩:=Option.bind_eq_some_iff.1 h2
   obtain⟨ed',fv',rfl,_⟩:=jco ht'
   obtain⟨_,hlen',hat'⟩:=jjW hc'
   have:=World.cell?_spot (hat' 0 (by decide))
   simpa [Addr.add]using this
  subst hspot
  rw[jjJ]at c0 c1 c2
  exact⟨ed,b,off,fv,rfl,jkp W _ c0,c0,c1,c2,hf⟩
 have:∃g:Nat->Ed,∀i,i<len->∃b off fv,a=⟨b,off,none⟩/\b<W.heap.size/\W.cell? ⟨b,off+i*3,none⟩=some (.int .i64 (g i).kind)/\W.cell? ⟨b,off+i*3+1,none⟩=some (.int .i64 (g i).id)/\W.cell? ⟨b,off+i*3+1+1,none⟩=some fv/\JL W fv (g i).fields:=by
  refine⟨fun i=>if h:i<len then (each i h).choose else ⟨0,0,[]⟩,fun i hi => ?_⟩
  simp only[dif_pos hi]
  exact(each i hi).choose_spec
 obtain⟨g,hg⟩:=this
 have hll:((List.range len).map g).length=len:=by simp
 refine⟨(List.range len).map g,⟨by rw[hll];omega,some a,cap,by rw[hll],by rw[hll];exact hl,fun i ed hi => ?_⟩⟩
 have hlt:i<len:=by
  rcases jiK i len with q|q
  ·exact q
  rw[jiW (by rw[hll];exact q)]at hi;cases hi
 rw[ji9,List.getElem?_range hlt]at hi
 obtain rfl:=(jip hi).symm
 obtain⟨b,off,fv,ea,hb,c0,c1,c2,hf⟩:=hg i hlt
 exact⟨b,off,fv,by rw[ea],hb,c0,c1,c2,hf⟩
theorem JL.kept{w w':World}{v:Value}{fs:List Fld}{N:Nat}(h:JL w v fs)(hb:Below N w w')(hN:w.heap.size<=N):JL w' v fs:=⟨h.flds.below hb hN,h.nil,h.len,h.each⟩
theorem Yv.below{w w':World}{v:Value}{eds:List Ed}{N:Nat}(h:Yv w v eds)(hb:Below N w w')(hN:w.heap.size<=N):Yv w' v eds:=by
 obtain⟨hl,A,cap,e,hle,hc⟩:=h
 refine⟨hl,A,cap,e,hle,fun i ed hi => ?_⟩
 obtain⟨b,off,fv,e1,hbb,c0,c1,c2,hf⟩:=hc i ed hi
 have hbN:b<N:=by omega
 exact⟨b,off,fv,e1,jiF hbb hb.size,(hb.cell (p:=⟨b,off+i*3,none⟩) hbN).trans c0,(hb.cell (p:=⟨b,off+i*3+1,none⟩) hbN).trans c1,(hb.cell (p:=⟨b,off+i*3+1+1,none⟩) hbN).trans c2,hf.kept hb hN⟩
def Yu(eds:List Ed):Prop:=eds.length<=51/\∀ed∈eds,ed.fields.length<=61/\(∀f∈ed.fields,f.1.length<=6000/\f.2.length<=6000)/\VT ed.fields<=6000
def jho(eds:List Ed)(e:Ending):Prop:=∃b:Bool,e=.returned (.bool b)/\(b=false->Yu eds)
theorem Yu.fine{eds:List Ed}(h:Yu eds){ed:Ed}(he:ed∈eds):jaF ed.fields :=
 ⟨by have:=(h.2 ed he).1;omega,fun f hf=>by have:=(h.2 ed he).2.1 f hf;omega⟩
theorem jbX(eds:List Ed)(v:Value)(w:World)(h:Yv w v eds):
  Calls Tryz.prog 27 #[v] w fun e w'=>jho eds e/\Below w.heap.size w w':=by
 have HH:=jii h
 obtain⟨hm,A,cap,rfl,hle,hc⟩:=h
 have PC:=jii hc
 clear hc
 unfold maxLen at hm
 go_enter Tryz.func27,Tryz.ntmps27
 go_wp2_with fail
 go_loopw [7] (fun i wr=>∃k:Nat,k<=eds.length/\k<=51/\i=.int .i64 k/\(∀ed∈eds.take k,ed.fields.length<=61/\(∀f∈ed.fields,f.1.length<=6000/\f.2.length<=6000)/\VT ed.fields<=6000)/\Below w.heap.size w wr) (fun i _=>eds.length-(intOf i).toNat)
 case atStart=>exact⟨0,jiD _,by decide,rfl,(fun ed h=>by simp at h),jil _ _⟩
 case round =>
 obtain⟨k,hk,hk51,rfl,hsm,hb⟩:=hrel
 by_cases hlt:k<eds.length
 ·obtain⟨ed,hed⟩:∃ed,eds[k]?=some ed:=⟨_,jim hlt⟩
  obtain⟨b,off,fv,rfl,hbb,c0,c1,c2,hf⟩:=PC.out k ed hed
  obtain⟨fa,fc,rfl,_,_⟩:=_root_.id hf.flds
  replace c0:=(hb.cell (p:=⟨b,off+k*3,none⟩) hbb).trans c0
  replace c1:=(hb.cell (p:=⟨b,off+k*3+1,none⟩) hbb).trans c1
  replace c2:=(hb.cell (p:=⟨b,off+k*3+1+1,none⟩) hbb).trans c2
  have TK:=jii (show eds.take (k+1)=eds.take k++[ed] by rw[jiU,hed];rfl)
  have HSM:=jii hsm
  obtain⟨wa,hwa⟩:∃wa,wa=wr.alloc (.cells #[.int .i64 ed.kind,.int .i64 ed.id,.slice fa ed.fields.length fc] 80):=⟨_,rfl⟩
  have hba:Below w.heap.size w wa:=by rw[hwa];exact hb.alloc hb.size _
  have MU:=jii (jdF ed.fields (.slice fa ed.fields.length fc) wa (hf.kept hba (jij _)).flds hf.len hf.each)
  have HBA:=jii hba
  clear hed hsm hf hba
  by_cases h50:50<k
  ·subst hwa
   go_wp2_with fail
   go_ret
   exact⟨⟨true,rfl,fun h=>by cases h⟩,HBA.out⟩
  subst hwa
  go_wp2_with fail
  refine MU.out.mono ?_
  rintro e w2 ⟨⟨q,rfl,hq⟩,b2⟩
  have HB2:=jii (HBA.out.trans (b2.mono HBA.out.size))
  have HQ:=jii hq
  clear b2 hq MU
  cases q with
  | true =>
   go_wp2_with fail
   go_ret
   exact⟨⟨true,rfl,fun h=>by cases h⟩,HB2.out⟩
  | false =>
  go_wp2_with fail
  go_roundw
  case rel =>
   refine⟨k+1,hlt,by omega,by go_num,fun x hx => ?_,HB2.out⟩
   rw[TK.out]at hx
   rcases List.mem_append.1 hx with hx|hx
   ·exact HSM.out x hx
   rw[List.mem_singleton.1 hx]
   obtain⟨a1,a2,a3⟩:=HQ.out (by first|exact rfl|trivial)
   exact⟨a1,a2,a3⟩
  case measure=>simp[intOf];omega
 obtain rfl:k=eds.length:=by omega
 rw[jiL]at hsm
 have HSM:=jii hsm
 clear PC hsm
 go_wp2_with fail
 go_ret
 exact⟨⟨false,rfl,fun _=>⟨hk51,HSM.out⟩⟩,hb⟩
end Go.Proofs.YtimfhnfcmhmjcaaGreatDoor
namespace Go.Proofs.YtimfhnfcmhmjcaaGreatDoor
def nums(es:List En):List Int:=(es.map Prod.snd).filter fun n=>decide (0<n)
theorem Zu(a b:List En):nums (a++b)=nums a++nums b:=by unfold nums;rw[jjh,jkm]
theorem vL(es:List En):(nums es).length=QZ es:=by
 unfold nums QZ
 rw[List.filter_map,jiQ];rfl
theorem jde(es:List En)(k:Nat)(it:It):(VE es k it).map Prod.snd=es.map Prod.snd:=by
 unfold VE
 apply jjG
 intro j
 rw[ji9,jj8,ji9]
 cases es[j]? with
 | none=>rfl
 | some e =>
 by_cases h:k=j
 ·simp[h]
 simp[h]
structure OkL(l:LS):Prop where
 wf:WF l.es
 pos:0<l.next
 lt:∀n∈nums l.es,n<l.next
 nd:(nums l.es).Nodup
 len:QZ l.es<=400
theorem OkL.replace{l:LS}(h:OkL l){k:Nat}{e:En}(he:l.es[k]?=some e)(h3:e.1.kind=3)(fs:List Fld):OkL ⟨VE l.es k (zp fs),l.next⟩:=by
 have hn:nums (VE l.es k (zp fs))=nums l.es:=by unfold nums;rw[jde]
 refine⟨h.wf.set k (zp fs) rfl e he h3,h.pos,?_,?_,?_⟩
 ·show ∀n∈nums (VE l.es k (zp fs)),n<l.next
  rw[hn];exact h.lt
 ·show(nums (VE l.es k (zp fs))).Nodup
  rw[hn];exact h.nd
 show QZ (VE l.es k (zp fs))<=400
 rw[<- vL,hn,vL];exact h.len
theorem jgh(es:List En)(k:Nat):(nums (jar es k)).Sublist (nums es):=by
 unfold nums jar
 refine List.Sublist.filter _ (List.Sublist.map _ ?_)
 conv=>rhs;rw[<- jiT k es]
 exact(List.Sublist.refl _).append (by rw[<- jjC];exact List.drop_sublist _ _)
theorem OkL.delete{l:LS}(h:OkL l)(k:Nat):OkL ⟨jar l.es k,l.next⟩:=by
 have hs:=jgh l.es k
 refine⟨h.wf.cut k,h.pos,fun n hn=>h.lt n (hs.subset hn),hs.nodup h.nd,?_⟩
 show QZ (jar l.es k)<=400
 have:=hs.length_le
 rw[vL,vL]at this
 have:=h.len
 omega
theorem jdq(es:List En)(k:Nat)(it:It){n:Int}(hn:0<n):(nums (Ke es k (it,n))).Perm (n::nums es):=by
 have e1:nums (Ke es k (it,n))=nums (es.take k)++n::nums (es.drop k):=by
  unfold Ke
  rw[Zu]
  congr 1
  unfold nums
  rw[jiX,jjw,if_pos (by simpa using hn)]
 have e2:nums es=nums (es.take k)++nums (es.drop k):=by rw[<- Zu,jiT]
 rw[e1,e2]
 exact List.perm_middle
theorem OkL.insert{l:LS}(h:OkL l)(k:Nat)(fs:List Fld)(hf:¬400<=QZ l.es):OkL ⟨Ke l.es k (zp fs,l.next),l.next+1⟩:=by
 have hp:=jdq l.es k (zp fs) h.pos
 have hpos:=h.pos
 refine⟨h.wf.put k ⟨rfl,h.pos⟩,by show 0<l.next+1;omega,fun n hn => ?_,hp.nodup_iff.2 (List.nodup_cons.2 ⟨fun q => ?_,h.nd⟩),?_⟩
 ·show n<l.next+1
  rcases List.mem_cons.1 (hp.subset hn) with q|q
  ·omega
  have:=h.lt n q;omega
 ·have:=h.lt _ q;omega
 show QZ (Ke l.es k (zp fs,l.next))<=400
 have:=hp.length_eq
 rw[vL,jin,vL]at this
 omega
theorem jcd{es:List En}(h:WF es){id:Int}{k:Nat}(hf:Jg es id=some k):∃e,es[k]?=some e/\e.1.kind=3/\e.2=id:=by
 obtain⟨_,e,he,h2,h3⟩:=jea hf
 rcases h e (jiA he) with ⟨q,_⟩|⟨_,q⟩
 ·exact⟨e,he,q,h2⟩
 omega
theorem OkL.edit{l:LS}(h:OkL l)(kind id:Int)(fs:List Fld):OkL (yx l kind id fs).ls:=by
 unfold yx
 split
 ·unfold zH
  split
  ·exact h
  rename_i k hk
  obtain⟨e,he,h3,_⟩:=jcd h.wf hk
  split
  ·exact h.replace he h3 fs
  exact h
 split
 ·unfold qw
  split
  ·exact h
  exact h.delete _
 unfold qi
 split
 ·exact h
 split
 ·split
  ·exact h
  rename_i hf;exact h.insert _ fs hf
 exact h
theorem jeo(l:LS)(kind id:Int)(fs:List Fld):(yx l kind id fs).ls.es.length<=l.es.length+1/\l.next<=(yx l kind id fs).ls.next/\(yx l kind id fs).ls.next<=l.next+1:=by
 unfold yx
 split
 ·unfold zH
  split
  ·exact⟨jkv _,jjz _,by show l.next<=l.next+1;omega⟩
  split
  ·exact⟨by show(VE _ _ _).length<=_;rw[jdg];omega,jjz _,by show l.next<=l.next+1;omega⟩
  exact⟨jkv _,jjz _,by show l.next<=l.next+1;omega⟩
 split
 ·unfold qw
  split
  ·exact⟨jkv _,jjz _,by show l.next<=l.next+1;omega⟩
  exact⟨by show(jar _ _).length<=_;unfold jar;rw[jik,jiq,jiw];omega,jjz _,by show l.next<=l.next+1;omega⟩
 unfold qi
 split
 ·exact⟨jkv _,jjz _,by show l.next<=l.next+1;omega⟩
 split
 ·split
  ·exact⟨jkv _,jjz _,by show l.next<=l.next+1;omega⟩
  exact⟨by show(Ke _ _ _).length<=_;unfold Ke;rw[jik,jin,jiq,jiw];omega,by show l.next<=l.next+1;omega,jjz _⟩
 exact⟨jkv _,jjz _,by show l.next<=l.next+1;omega⟩
def zJ(ed:Ed):Nat:=if ed.kind=1\/ed.kind=3 then qF ed.fields else if ed.kind=2/\ed.fields.length=0 then 0 else 2
theorem jd1(ed:Ed):zJ ed<=11:=by
 unfold zJ
 split
 ·exact Yo _
 split<;>decide
def xh:Nat->List Ed->Int×Nat
 | _,[]=>(-9,0)
 | k,ed::r=>if zJ ed=0 then xh (k+1) r else ((k:Nat),zJ ed)
def qP(eds:List Ed):Int×Nat:=if eds.length<1\/40<eds.length then (-9,1) else xh 0 eds
theorem Up:∀(eds:List Ed) (q k:Nat) (ed:Ed),(∀x∈eds.take k,zJ x=0)->eds[k]?=some ed->zJ ed≠0->xh q eds=(((q+k:Nat):Int),zJ ed)
 | [],q,k,ed,_,h,_=>by simp at h
 | a::r,q,0,ed,_,h,h0=>by
  simp at h;subst h
  unfold xh
  rw[if_neg h0];rfl
 | a::r,q,k+1,ed,hg,h,h0=>by
  have ih:=Up r (q+1) k ed (fun x hx=>hg x (by rw[jke];exact jir _ hx)) (by simpa using h) h0
  unfold xh
  rw[if_pos (hg a (by rw[jke];exact jis)),ih,show q+1+k=q+(k+1) by omega]
theorem ZS:∀(eds:List Ed) (q:Nat),(∀x∈eds,zJ x=0)->xh q eds=(-9,0)
 | [],_,_=>rfl
 | a::r,q,h=>by
  unfold xh
  rw[if_pos (h a jis)]
  exact ZS r (q+1) (fun x hx=>h x (jir _ hx))
theorem Vo:∀(eds:List Ed) (q:Nat),(xh q eds).2=0->∀x∈eds,zJ x=0
 | [],_,_,x,hx=>by cases hx
 | a::r,q,h,x,hx=>by
  unfold xh at h
  split at h
  ·rename_i h0
   rcases List.mem_cons.1 hx with rfl|hx
   ·exact h0
   exact Vo r (q+1) h x hx
  rename_i h0;exact absurd h h0
theorem vC{eds:List Ed}(h:(qP eds).2=0):(1<=eds.length/\eds.length<=40)/\∀x∈eds,zJ x=0:=by
 unfold qP at h
 split at h
 ·cases h
 exact⟨by omega,Vo eds 0 h⟩
theorem jgj{eds:List Ed}(h1:1<=eds.length)(h2:eds.length<=40)(h:∀x∈eds,zJ x=0):qP eds=(-9,0):=by
 unfold qP
 rw[if_neg (by omega)]
 exact ZS eds 0 h
theorem jcA{eds:List Ed}(h:(qP eds).2=0):qP eds=(-9,0):=by
 obtain⟨⟨a,b⟩,c⟩:=vC h
 exact jgj a b c
theorem Jd{ed:Ed}(h:zJ ed=0):ed.kind=1\/ed.kind=2\/ed.kind=3:=by
 unfold zJ at h
 split at h
 ·rename_i q;omega
 split at h
 ·rename_i q;exact .inr (.inl q.1)
 cases h
def zc(l:LS)(ed:Ed):Did:=yx l ed.kind ed.id ed.fields
def qH:LS->List Ed->LS
 | l,[]=>l
 | l,ed::r=>qH (zc l ed).ls r
def YV:LS->List Ed->Prop
 | _,[]=>True
 | l,ed::r=>(zc l ed).bad=0/\YV (zc l ed).ls r
def zd:LS->List Ed->List Int
 | _,[]=>[]
 | l,ed::r=>(if ed.kind=3 then [(zc l ed).id] else [])++zd (zc l ed).ls r
def jc3:Nat->LS->List Ed->Int×Nat
 | _,_,[]=>(-9,0)
 | k,l,ed::r=>if (zc l ed).bad=0 then jc3 (k+1) (zc l ed).ls r else ((k:Nat),(zc l ed).bad)
def doB(l:LS)(eds:List Ed):Int×Nat:=if (qP eds).2=0 then jc3 0 l eds else qP eds
theorem Zw:∀(l:LS) (a b:List Ed),qH l (a++b)=qH (qH l a) b
 | _,[],_=>rfl
 | l,ed::r,b=>Zw (zc l ed).ls r b
theorem Zs:∀(l:LS) (a b:List Ed),YV l (a++b)↔YV l a/\YV (qH l a) b
 | _,[],_=>by simp[YV,qH]
 | l,ed::r,b=>by
  show((zc l ed).bad=0/\YV (zc l ed).ls (r++b))↔((zc l ed).bad=0/\YV (zc l ed).ls r)/\YV (qH (zc l ed).ls r) b
  rw[Zs,and_assoc]
theorem JC:∀(l:LS) (a b:List Ed),zd l (a++b)=zd l a++zd (qH l a) b
 | _,[],_=>rfl
 | l,ed::r,b=>by
  show _++zd (zc l ed).ls (r++b)=(_++zd (zc l ed).ls r)++zd (qH (zc l ed).ls r) b
  rw[JC,jix]
theorem xf:∀(q:Nat) (l:LS) (a b:List Ed),YV l a->jc3 q l (a++b)=jc3 (q+a.length) (qH l a) b
 | q,l,[],b,_=>rfl
 | q,l,ed::r,b,h=>by
  have ih:=xf (q+1) (zc l ed).ls r b h.2
  show(if (zc l ed).bad=0 then jc3 (q+1) (zc l ed).ls (r++b) else _)=jc3 (q+(r.length+1)) (qH (zc l ed).ls r) b
  rw[if_pos h.1,ih,show q+1+r.length=q+(r.length+1) by omega]
theorem jga:∀(q:Nat) (l:LS) (a:List Ed),YV l a->jc3 q l a=(-9,0):=fun q l a h=>by
 have:=xf q l a [] h
 rw[jiO]at this
 rw[this];rfl
theorem qW{eds:List Ed}{k:Nat}{ed:Ed}(h:eds[k]?=some ed):eds.take (k+1)=eds.take k++[ed]:=by rw[jiU,h];rfl
theorem jda{eds:List Ed}{k:Nat}{ed:Ed}(h:eds[k]?=some ed):eds=eds.take k++ed::eds.drop (k+1):=by
 obtain⟨hk,e⟩:=List.getElem?_eq_some_iff.1 h
 conv=>lhs;rw[<- jiT k eds]
 rw[<- e]
 congr 1
 exact jjp hk
theorem jdb{eds:List Ed}{k:Nat}{ed:Ed}(h:eds[k]?=some ed):(eds.take k).length=k:=by
 have:=(List.getElem?_eq_some_iff.1 h).1
 rw[jiq];omega
theorem jbE{l:LS}{eds:List Ed}{k:Nat}{ed:Ed}(h:eds[k]?=some ed):qH l (eds.take (k+1))=(zc (qH l (eds.take k)) ed).ls:=by rw[qW h,Zw];rfl
theorem jbv{l:LS}{eds:List Ed}{k:Nat}{ed:Ed}(h:eds[k]?=some ed)(ho:YV l (eds.take k))(h0:(zc (qH l (eds.take k)) ed).bad=0):YV l (eds.take (k+1)):=by
 rw[qW h,Zs];exact⟨ho,h0,trivial⟩
theorem jab{l:LS}{eds:List Ed}{k:Nat}{ed:Ed}(h:eds[k]?=some ed):zd l (eds.take (k+1))=zd l (eds.take k)++(if ed.kind=3 then [(zc (qH l (eds.take k)) ed).id] else []):=by
 rw[qW h,JC]
 show _++((if ed.kind=3 then _ else _)++[])=_
 rw[jiO]
theorem jgb{l:LS}{eds:List Ed}{k:Nat}{ed:Ed}(h:eds[k]?=some ed)(ho:YV l (eds.take k))(h0:(zc (qH l (eds.take k)) ed).bad≠0):jc3 0 l eds=(((k:Nat):Int),(zc (qH l (eds.take k)) ed).bad):=by
 have e:=jda h
 have:jc3 0 l (eds.take k++ed::eds.drop (k+1))=(((k:Nat):Int),(zc (qH l (eds.take k)) ed).bad):=by
  rw[xf 0 l _ _ ho,jdb h]
  show(if _ then _ else _)=_
  rw[if_neg h0,jiP]
 rw[<- e]at this
 exact this
theorem jbW(l:LS):∀(eds:List Ed),(zd l eds).length<=eds.length:=by
 intro eds
 induction eds generalizing l with
 | nil=>exact jij _
 | cons ed r ih =>
 have:=ih (zc l ed).ls
 show((if ed.kind=3 then [(zc l ed).id] else [])++zd (zc l ed).ls r).length<=r.length+1
 rw[jik]
 split
 ·simp only[jin,jiJ];omega
 simp only[jiJ];omega
theorem jfg(l:LS)(ed:Ed):(zc l ed).bad<=11:=by
 unfold zc yx
 split
 ·unfold zH
  split
  ·show(7:Nat)<=11;decide
  split
  ·exact jiD _
  exact Yo _
 split
 ·unfold qw
  split
  ·show(7:Nat)<=11;decide
  exact jiD _
 unfold qi
 split
 ·show(7:Nat)<=11;decide
 split
 ·split
  ·show(11:Nat)<=11;decide
  exact jiD _
 exact Yo _
end Go.Proofs.YtimfhnfcmhmjcaaGreatDoor
namespace Go.Proofs.YtimfhnfcmhmjcaaGreatDoor
open Go.RowKit Go.Extern.Stop Go.Stop Go.Extern
theorem YA(t:Addr)(w:World):(ReflectliteValue.unpack (.iface 222 (.pointer (some t)))).run Tryz.prog w
  = .ok (.agg #[.pointer (some ⟨9,222,none⟩),.pointer (some ⟨w.heap.size,0,none⟩),.int .u64 150]) (w.alloc (.cells #[.pointer (some t)] 222)):=by kernel_rfl
theorem jeI(a:Addr)(w:World):(ReflectliteValue.methodAny (ReflectliteValue.valueError "reflectlite.Value.Type" 0) (fun t _ _ _=>ReflectliteType.toType t) #[.agg #[.pointer (some ⟨9,222,none⟩),.pointer (some a),.int .u64 150]]).run Tryz.prog w
  = .ok (.iface 292 (.agg #[.pointer (some ⟨9,222,none⟩)])) w:=by kernel_rfl
theorem QS(h:Value)(w:World):(Go.method 489 292 (.agg #[h]) "Kind").run Tryz.prog w=.ok (305,h) w:=by kernel_rfl
theorem jeP(w:World):((ReflectliteType.abiMethod fun t=>(fun a:Nat=>Value.int IntKind.u8 (a:Int)) <$> Rtype.kind t) #[.pointer (some ⟨9,222,none⟩)]).run Tryz.prog w=.ok (.int .u8 22) w:=by kernel_rfl
theorem jgX(w:World):((ReflectliteType.abiMethod fun t=>(fun a:Nat=>Value.int IntKind.u8 (a:Int)) <$> Rtype.kind t) #[.pointer (some ⟨9,91,none⟩)]).run Tryz.prog w=.ok (.int .u8 22) w:=by kernel_rfl
theorem jhZ(z:Sem Value)(f:TypeId->Addr->Nat->Nat->Sem Value)(v:Value):
  ReflectliteValue.method z f #[v]=(do match <- ReflectliteValue.parts v with | none=>z | some (t,a,fl)=>f t a fl (fl % 32)):=rfl
theorem jbm(a:Addr)(w:World):(ReflectliteValue.parts (.agg #[.pointer (some ⟨9,222,none⟩),.pointer (some a),.int .u64 150])).run Tryz.prog w=.ok (some (222,a,150)) w:=by kernel_rfl
theorem jbQ(a p:Addr)(W:World)(ha:W.cell? a=some (.pointer (some p))):
  (ReflectliteValue.method (ReflectliteValue.valueError "reflectlite.Value.IsNil" 0) ReflectliteValue.isNil #[.agg #[.pointer (some ⟨9,222,none⟩),.pointer (some a),.int .u64 150]]).run Tryz.prog W=.ok (.bool false) W:=by
 rw[jhZ]
 simp only[jjN,jbm,Result.andThen]
 simp[ReflectliteValue.isNil,loadVar,isAgg,underlying,Tryz.underlying222,ha,Result.andThen]
theorem QT(h:Value)(w:World):(Go.method 489 292 (.agg #[h]) "Elem").run Tryz.prog w=.ok (319,.agg #[h]) w:=by kernel_rfl
theorem ya(h:Value)(w:World):(Go.method 489 292 (.agg #[h]) "Implements").run Tryz.prog w=.ok (320,.agg #[h]) w:=by kernel_rfl
theorem vl(h:Value)(w:World):(Go.method 489 292 (.agg #[h]) "AssignableTo").run Tryz.prog w=.ok (317,.agg #[h]) w:=by kernel_rfl
theorem jeU(w:World):(ReflectliteType.method ReflectliteType.elem #[.agg #[.pointer (some ⟨9,222,none⟩)]]).run Tryz.prog w=.ok (.iface 292 (.agg #[.pointer (some ⟨9,91,none⟩)])) w:=by kernel_rfl
theorem ZE(w:World):(ReflectliteType.relation "Implements" ReflectliteType.implements_ #[.agg #[.pointer (some ⟨9,91,none⟩)],.iface 292 (.agg #[.pointer (some ⟨9,32,none⟩)])]).run Tryz.prog w=.ok (.bool true) w:=by kernel_rfl
theorem je4(v:Value)(w:World):(ReflectliteType.typeOf #[.iface 91 v]).run Tryz.prog w=.ok (.iface 292 (.agg #[.pointer (some ⟨9,91,none⟩)])) w:=by kernel_rfl
theorem je5(v:Value)(w:World):(ReflectliteType.typeOf #[.iface 54 v]).run Tryz.prog w=.ok (.iface 292 (.agg #[.pointer (some ⟨9,54,none⟩)])) w:=by kernel_rfl
theorem KR(w:World):(ReflectliteType.relation "AssignableTo" ReflectliteType.assignableTo #[.agg #[.pointer (some ⟨9,91,none⟩)],.iface 292 (.agg #[.pointer (some ⟨9,91,none⟩)])]).run Tryz.prog w=.ok (.bool true) w:=by kernel_rfl
theorem KS(w:World):(ReflectliteType.relation "AssignableTo" ReflectliteType.assignableTo #[.agg #[.pointer (some ⟨9,54,none⟩)],.iface 292 (.agg #[.pointer (some ⟨9,91,none⟩)])]).run Tryz.prog w=.ok (.bool false) w:=by kernel_rfl
theorem jc6(e:Addr)(w:World):(ReflectliteValue.unpack (.iface 91 (.pointer (some e)))).run Tryz.prog w
  = .ok (.agg #[.pointer (some ⟨9,91,none⟩),.pointer (some ⟨w.heap.size,0,none⟩),.int .u64 150]) (w.alloc (.cells #[.pointer (some e)] 91)):=by kernel_rfl
theorem jel(w:World):(Rtype.elem? 222).run Tryz.prog w=.ok (some 91) w:=by kernel_rfl
theorem mkP(p:Addr)(w:World):(ReflectliteValue.mk 91 p ReflectliteValue.flagAddr).run Tryz.prog w=.ok (.agg #[.pointer (some ⟨9,91,none⟩),.pointer (some p),.int .u64 406]) w:=by kernel_rfl
theorem jf8(a p:Addr)(W:World)(ha:W.cell? a=some (.pointer (some p))):
  (ReflectliteValue.method (ReflectliteValue.valueError "reflectlite.Value.Elem" 0) ReflectliteValue.elem #[.agg #[.pointer (some ⟨9,222,none⟩),.pointer (some a),.int .u64 150]]).run Tryz.prog W
   = .ok (.agg #[.pointer (some ⟨9,91,none⟩),.pointer (some p),.int .u64 406]) W:=by
 rw[jhZ]
 simp only[jjN,jbm,Result.andThen]
 simp[ReflectliteValue.elem,loadVar,isAgg,underlying,Tryz.underlying222,ha,Result.andThen,jel,mkP]
theorem jh7(v x:Value):ReflectliteValue.set #[v,x]=(do
  let (some (dst,a,fl),some (src,b,_)):=(<- ReflectliteValue.parts v,<- ReflectliteValue.parts x)
   | unsupported (.noEntry "extern/(internal/reflectlite.Value).Set.zeroValue")
  if fl / ReflectliteValue.flagAddr % 2==0 then unsupported (.noEntry "extern/(internal/reflectlite.Value).Set.unaddressable")
  let val <- loadVar src b
  if <- Rtype.directlyAssignable dst src then storeVar dst a val
  else if <- Rtype.implements dst src then
   if (<- Rtype.kind src)==20 then
    match val with
    | .nilIface=>unsupported (.noEntry "extern/reflectlite: a nil value of one interface type handed on as a value of another")
    | _=>storeVar dst a val
   else storeVar dst a (.iface src val)
  else panicString ("reflectlite.Set: value of type " ++ (<- Rtype.spelt src) ++ " is not assignable to type " ++ (<- Rtype.spelt dst))
  pure (.tuple #[])):=rfl
theorem jfs(a:Addr)(w:World):(ReflectliteValue.parts (.agg #[.pointer (some ⟨9,91,none⟩),.pointer (some a),.int .u64 406])).run Tryz.prog w=.ok (some (91,a,406)) w:=by kernel_rfl
theorem jgO(a:Addr)(w:World):(ReflectliteValue.parts (.agg #[.pointer (some ⟨9,91,none⟩),.pointer (some a),.int .u64 150])).run Tryz.prog w=.ok (some (91,a,150)) w:=by kernel_rfl
theorem jgd(w:World):(Rtype.directlyAssignable 91 91).run Tryz.prog w=.ok true w:=by kernel_rfl
theorem jh5(ta b e:Addr)(old:Value)(W:World)(hb:W.cell? b=some (.pointer (some e)))(ht:W.cell? ta=some old)(hf:W.frozen? ta=false):
  (ReflectliteValue.set #[.agg #[.pointer (some ⟨9,91,none⟩),.pointer (some ta),.int .u64 406],.agg #[.pointer (some ⟨9,91,none⟩),.pointer (some b),.int .u64 150]]).run Tryz.prog W
   = .ok (.tuple #[]) (W.setCell ta (.pointer (some e))):=by
 rw[jh7]
 simp only[jjN,jfs,jgO,Result.andThen]
 simp[ReflectliteValue.flagAddr,loadVar,isAgg,underlying,Tryz.underlying91,hb,Result.andThen,jgd,storeVar,Value.cells,storeCells,Addr.add]
 rw[run_store Tryz.prog W ta _ _ (by rfl)]
 simp[ht,hf]
def ErrT(w:World):Prop:=w.cell? ⟨0,0,none⟩=some (.iface 292 (.agg #[.pointer (some ⟨9,32,none⟩)]))
abbrev hP:Value:=.pointer (some ⟨9,91,none⟩)
theorem jeE(e t a:Addr)(old:Value)(w:World)(ha:w.cell? a=some (.pointer (some t)))(ht0:w.cell? t=some old)(hf0:w.frozen? t=false):
  Calls Tryz.prog 194 #[.iface 91 (.pointer (some e)),.iface 222 (.pointer (some t)),.agg #[.pointer (some ⟨9,222,none⟩),.pointer (some a),.int .u64 150],.iface 292 (.agg #[.pointer (some ⟨9,91,none⟩)])] w
   fun ev w'=>ev=.returned (.bool true)/\w'=((w.alloc (.cells #[.pointer (some ⟨9,222,none⟩),.pointer (some a),.int .u64 150] 264)).alloc (.cells #[.pointer (some e)] 91)).setCell t (.pointer (some e)):=by
 have h10:=@run_callFunc_extern Tryz.prog 225 _ ReflectliteType.typeOf Tryz.func225 (by kernel_rfl) (by kernel_rfl) (by kernel_rfl) (by kernel_rfl)
 have h35:=@run_callFunc_extern Tryz.prog 317 _ (ReflectliteType.relation "AssignableTo" ReflectliteType.assignableTo) Tryz.func317 (by kernel_rfl) (by kernel_rfl) (by kernel_rfl) (by kernel_rfl)
 have h6:=@run_callFunc_extern Tryz.prog 191 _ (fun args=>ReflectliteValue.unpack (args.getD 0 (.tuple #[]))) Tryz.func191 (by kernel_rfl) (by kernel_rfl) (by kernel_rfl) (by kernel_rfl)
 have h11:=@run_callFunc_extern Tryz.prog 226 _ (ReflectliteValue.method (ReflectliteValue.valueError "reflectlite.Value.Elem" 0) ReflectliteValue.elem) Tryz.func226 (by kernel_rfl) (by kernel_rfl) (by kernel_rfl) (by kernel_rfl)
 have h12:=@run_callFunc_extern Tryz.prog 227 _ ReflectliteValue.set Tryz.func227 (by kernel_rfl) (by kernel_rfl) (by kernel_rfl) (by kernel_rfl)
 have tO:=je4
 have mA:=vl
 have a25:=KR
 have v25:=jc6
 have htl:t.block<w.heap.size:=by
  rcases jiK t.block w.heap.size with h|h
  ·exact h
  simp[World.cell?,Array.getElem?_eq_none h]at ht0
 have hal:a.block<w.heap.size:=by
  rcases jiK a.block w.heap.size with h|h
  ·exact h
  simp[World.cell?,Array.getElem?_eq_none h]at ha
 have el:=jf8 a t (w.alloc (.cells #[.pointer (some ⟨9,222,none⟩),.pointer (some a),.int .u64 150] 264)) (by rw[jkE _ _ a hal];exact ha)
 have st:=jh5 t ⟨w.heap.size+1,0,none⟩ e old ((w.alloc (.cells #[.pointer (some ⟨9,222,none⟩),.pointer (some a),.int .u64 150] 264)).alloc (.cells #[.pointer (some e)] 91))
  (by rw[jjB _ _ _ _ (by simp)];rfl)
  (by rw[jkE _ _ t (by simp;omega),jkE _ _ t htl];exact ht0)
  (by rw[World.frozen?_alloc_old _ _ t (by simp;omega),World.frozen?_alloc_old _ _ t (jkA htl)];exact hf0)
 go_enter Tryz.func194,Tryz.ntmps194
 go_wp2
 refine wp_loop_rounds 1 ?_
 rw[rounds_succ]
 go_wp2
 go_ret
 exact⟨rfl,rfl⟩
theorem jhG(v:Value)(xT:TypeId)(w:World):(Instr.typeAssert (.iface 54 v) xT 297 true).run Tryz.prog w=.ok (.tuple #[.nilIface,.bool false]) w:=run_typeAssert_lacksB Tryz.underlying297 (by kernel_rfl) (by kernel_rfl) v xT w
theorem jhF(v:Value)(xT:TypeId)(w:World):(Instr.typeAssert (.iface 54 v) xT 300 true).run Tryz.prog w=.ok (.tuple #[.nilIface,.bool false]) w:=run_typeAssert_lacksB Tryz.underlying300 (by kernel_rfl) (by kernel_rfl) v xT w
theorem jgS(v:Value)(xT:TypeId)(w:World):(Instr.typeAssert (.iface 54 v) xT 301 true).run Tryz.prog w=.ok (.tuple #[.nilIface,.bool false]) w:=run_typeAssert_lacksB Tryz.underlying301 (by kernel_rfl) (by kernel_rfl) v xT w
theorem jcO(n:Int)(t a:Addr)(w:World):
  Calls Tryz.prog 194 #[.iface 54 (.int .i64 n),.iface 222 (.pointer (some t)),.agg #[.pointer (some ⟨9,222,none⟩),.pointer (some a),.int .u64 150],.iface 292 (.agg #[.pointer (some ⟨9,91,none⟩)])] w
   fun ev w'=>ev=.returned (.bool false)/\Below w.heap.size w w':=by
 have h10:=@run_callFunc_extern Tryz.prog 225 _ ReflectliteType.typeOf Tryz.func225 (by kernel_rfl) (by kernel_rfl) (by kernel_rfl) (by kernel_rfl)
 have h35:=@run_callFunc_extern Tryz.prog 317 _ (ReflectliteType.relation "AssignableTo" ReflectliteType.assignableTo) Tryz.func317 (by kernel_rfl) (by kernel_rfl) (by kernel_rfl) (by kernel_rfl)
 have tO:=je5
 have mA:=vl
 have a25:=KS
 have n1:=jhG
 have n2:=jhF
 have n3:=jgS
 go_enter Tryz.func194,Tryz.ntmps194
 go_wp2
 refine wp_loop_rounds 1 ?_
 rw[rounds_succ]
 go_wp2
 go_ret
 exact⟨rfl,(jil _ _).alloc (jij _) _⟩
theorem ErrT.below{w w':World}{N:Nat}(h:ErrT w)(hb:Below N w w')(hN:w.heap.size<=N):ErrT w':=by
 have hlt:0<w.heap.size:=jkp w _ h
 exact(hb.cell (p:=⟨0,0,none⟩) (jiF hlt hN)).trans h
theorem jhl(e t:Addr)(old:Value)(w:World)(hg:ErrT w)(ht0:w.cell? t=some old)(hf0:w.frozen? t=false):
  Calls Tryz.prog 147 #[.iface 91 (.pointer (some e)),.iface 222 (.pointer (some t))] w
   fun ev w'=>ev=.returned (.bool true)/\∃w1,Below w.heap.size w w1/\w'=w1.setCell t (.pointer (some e)):=by
 have h6:=@run_callFunc_extern Tryz.prog 191 _ (fun args=>ReflectliteValue.unpack (args.getD 0 (.tuple #[]))) Tryz.func191 (by kernel_rfl) (by kernel_rfl) (by kernel_rfl) (by kernel_rfl)
 have h7:=@run_callFunc_extern Tryz.prog 192 _ (ReflectliteValue.methodAny (ReflectliteValue.valueError "reflectlite.Value.Type" 0) (fun t _ _ _=>ReflectliteType.toType t)) Tryz.func192 (by kernel_rfl) (by kernel_rfl) (by kernel_rfl) (by kernel_rfl)
 have h8:=@run_callFunc_extern Tryz.prog 193 _ (ReflectliteValue.method (ReflectliteValue.valueError "reflectlite.Value.IsNil" 0) ReflectliteValue.isNil) Tryz.func193 (by kernel_rfl) (by kernel_rfl) (by kernel_rfl) (by kernel_rfl)
 have h27:=@run_callFunc_extern Tryz.prog 305 _ (ReflectliteType.abiMethod fun t=>do pure (.int .u8 (<- Rtype.kind t))) Tryz.func305 (by kernel_rfl) (by kernel_rfl) (by kernel_rfl) (by kernel_rfl)
 have h37:=@run_callFunc_extern Tryz.prog 319 _ (ReflectliteType.method ReflectliteType.elem) Tryz.func319 (by kernel_rfl) (by kernel_rfl) (by kernel_rfl) (by kernel_rfl)
 have h38:=@run_callFunc_extern Tryz.prog 320 _ (ReflectliteType.relation "Implements" ReflectliteType.implements_) Tryz.func320 (by kernel_rfl) (by kernel_rfl) (by kernel_rfl) (by kernel_rfl)
 have f6:=YA
 have f7:=jeI
 have mK:=QS
 have mE:=QT
 have mI:=ya
 have k27:=jeP
 have k25:=jgX
 have e27:=jeU
 have i25:=ZE
 have htl:t.block<w.heap.size:=by
  rcases jiK t.block w.heap.size with h|h
  ·exact h
  simp[World.cell?,Array.getElem?_eq_none h]at ht0
 obtain⟨wa,hwa⟩:∃wa,wa=(w.alloc (.cells #[.pointer (some t)] 222)).alloc (.cells #[.pointer (some ⟨9,222,none⟩),.pointer (some ⟨w.heap.size,0,none⟩),.int .u64 150] 264):=⟨_,rfl⟩
 have hba:Below w.heap.size w wa:=by rw[hwa];exact((jil _ w).alloc (jij _) _).alloc (by simp) _
 have n8:=jbQ ⟨w.heap.size,0,none⟩ t wa (by rw[hwa];simp)
 have hg2:wa.cell? ⟨0,0,none⟩=some (.iface 292 (.agg #[.pointer (some ⟨9,32,none⟩)])):=hg.below hba (jij _)
 have HI:=jii (jeE e t ⟨w.heap.size,0,none⟩ old wa (by rw[hwa];simp) ((hba.cell htl).trans ht0) ((hba.frozen htl).trans hf0))
 have HB:=jii hba
 subst hwa
 clear hba
 go_enter Tryz.func147,Tryz.ntmps147
 go_wp2_with fail
 refine HI.out.mono ?_
 rintro ev w2 ⟨rfl,rfl⟩
 go_wp2_with fail
 go_ret
 exact⟨rfl,_,(HB.out.alloc HB.out.size _).alloc (HB.out.alloc HB.out.size _).size _,rfl⟩
theorem jgm(n:Int)(t:Addr)(w:World)(hg:ErrT w):
  Calls Tryz.prog 147 #[.iface 54 (.int .i64 n),.iface 222 (.pointer (some t))] w
   fun ev w'=>ev=.returned (.bool false)/\Below w.heap.size w w':=by
 have h6:=@run_callFunc_extern Tryz.prog 191 _ (fun args=>ReflectliteValue.unpack (args.getD 0 (.tuple #[]))) Tryz.func191 (by kernel_rfl) (by kernel_rfl) (by kernel_rfl) (by kernel_rfl)
 have h7:=@run_callFunc_extern Tryz.prog 192 _ (ReflectliteValue.methodAny (ReflectliteValue.valueError "reflectlite.Value.Type" 0) (fun t _ _ _=>ReflectliteType.toType t)) Tryz.func192 (by kernel_rfl) (by kernel_rfl) (by kernel_rfl) (by kernel_rfl)
 have h8:=@run_callFunc_extern Tryz.prog 193 _ (ReflectliteValue.method (ReflectliteValue.valueError "reflectlite.Value.IsNil" 0) ReflectliteValue.isNil) Tryz.func193 (by kernel_rfl) (by kernel_rfl) (by kernel_rfl) (by kernel_rfl)
 have h27:=@run_callFunc_extern Tryz.prog 305 _ (ReflectliteType.abiMethod fun t=>do pure (.int .u8 (<- Rtype.kind t))) Tryz.func305 (by kernel_rfl) (by kernel_rfl) (by kernel_rfl) (by kernel_rfl)
 have h37:=@run_callFunc_extern Tryz.prog 319 _ (ReflectliteType.method ReflectliteType.elem) Tryz.func319 (by kernel_rfl) (by kernel_rfl) (by kernel_rfl) (by kernel_rfl)
 have h38:=@run_callFunc_extern Tryz.prog 320 _ (ReflectliteType.relation "Implements" ReflectliteType.implements_) Tryz.func320 (by kernel_rfl) (by kernel_rfl) (by kernel_rfl) (by kernel_rfl)
 have f6:=YA
 have f7:=jeI
 have mK:=QS
 have mE:=QT
 have mI:=ya
 have k27:=jeP
 have k25:=jgX
 have e27:=jeU
 have i25:=ZE
 obtain⟨wa,hwa⟩:∃wa,wa=(w.alloc (.cells #[.pointer (some t)] 222)).alloc (.cells #[.pointer (some ⟨9,222,none⟩),.pointer (some ⟨w.heap.size,0,none⟩),.int .u64 150] 264):=⟨_,rfl⟩
 have hba:Below w.heap.size w wa:=by rw[hwa];exact((jil _ w).alloc (jij _) _).alloc (by simp) _
 have n8:=jbQ ⟨w.heap.size,0,none⟩ t wa (by rw[hwa];simp)
 have hg2:wa.cell? ⟨0,0,none⟩=some (.iface 292 (.agg #[.pointer (some ⟨9,32,none⟩)])):=hg.below hba (jij _)
 have HI:=jii (jcO n t ⟨w.heap.size,0,none⟩ wa)
 have HB:=jii hba
 subst hwa
 clear hba
 go_enter Tryz.func147,Tryz.ntmps147
 go_wp2_with fail
 refine HI.out.mono ?_
 rintro ev w2 ⟨rfl,b2⟩
 go_wp2_with fail
 go_ret
 exact⟨rfl,HB.out.trans (b2.mono HB.out.size)⟩
end Go.Proofs.YtimfhnfcmhmjcaaGreatDoor
namespace Go.Proofs.YtimfhnfcmhmjcaaGreatDoor
open Go.RowKit Go.Shelf
attribute [local go_sem] jit
def EdV(w:World)(v:Value)(eds:List Ed):Prop :=
 ∃A cap,v=.slice A eds.length cap/\eds.length<=cap/\∀(i:Nat) (ed:Ed),eds[i]?=some ed->∃b off fv,A=some ⟨b,off,none⟩/\b<w.heap.size/\w.cell? ⟨b,off+i*3,none⟩=some (.int .i64 ed.kind)/\w.cell? ⟨b,off+i*3+1,none⟩=some (.int .i64 ed.id)/\w.cell? ⟨b,off+i*3+1+1,none⟩=some fv/\xk w fv ed.fields
theorem EdV.below{w w':World}{v:Value}{eds:List Ed}{N:Nat}(h:EdV w v eds)(hb:Below N w w')(hN:w.heap.size<=N):EdV w' v eds:=by
 obtain⟨A,cap,e,hle,hc⟩:=h
 refine⟨A,cap,e,hle,fun i ed hi => ?_⟩
 obtain⟨b,off,fv,e1,hbb,c0,c1,c2,hf⟩:=hc i ed hi
 have hbN:b<N:=by omega
 exact⟨b,off,fv,e1,jiF hbb hb.size,(hb.cell (p:=⟨b,off+i*3,none⟩) hbN).trans c0,(hb.cell (p:=⟨b,off+i*3+1,none⟩) hbN).trans c1,(hb.cell (p:=⟨b,off+i*3+1+1,none⟩) hbN).trans c2,hf.below hb hN⟩
theorem Yv.edv{w:World}{v:Value}{eds:List Ed}(h:Yv w v eds):EdV w v eds:=by
 obtain⟨_,A,cap,e,hle,hc⟩:=h
 refine⟨A,cap,e,hle,fun i ed hi => ?_⟩
 obtain⟨b,off,fv,e1,hbb,c0,c1,c2,hf⟩:=hc i ed hi
 exact⟨b,off,fv,e1,hbb,c0,c1,c2,hf.flds,hf.nil⟩
def Qp(eds:List Ed):Prop:=∀ed∈eds,jaF ed.fields
structure jgs(fs:List Fld):Prop where
 len:fs.length<=1000000
 each:∀f∈fs,f.1.length<=100000/\f.2.length<=100000
def Vv(eds:List Ed):Prop:=∀ed∈eds,jgs ed.fields
theorem Qp.eight{eds:List Ed}(h:Qp eds):Vv eds:=fun ed hm=>⟨by have:=(h ed hm).len;omega,(h ed hm).each⟩
theorem Yu.fines{eds:List Ed}(h:Yu eds):Qp eds:=fun _ he=>h.fine he
theorem qR.mono{lo lo':Nat}{w:World}{u:Value}{a:Int}{n:Nat}(h:qR lo w u a n)(hl:lo'<=lo):qR lo' w u a n:=by
 obtain⟨h1,h2⟩:=h
 refine⟨h1,?_⟩
 rcases h2 with h2|⟨k,h3,h4⟩
 ·exact .inl h2
 exact .inr ⟨k,h3.mono hl,h4⟩
theorem qR.fault{lo:Nat}{w:World}{u:Value}{k n:Nat}(h:jl lo w u k n)(hn:n≠0)(h11:n<=11):qR lo w u (k:Nat) n:=⟨h11,.inr ⟨k,h,rfl,hn⟩⟩
theorem Xq{lo:Nat}(k n:Nat)(a:Int)(u:Value)(w:World)(h:qR lo w u a n)(hn:n≠0)(hg:ErrT w):
  Calls Tryz.prog 87 #[.int .i64 (k:Nat),u] w fun e w'=>∃u',e=.returned u'/\Below w.heap.size w w'/\jl w.heap.size w' u' k n:=by
 obtain⟨_,h⟩:=h
 obtain⟨wa,hwa⟩:∃wa,wa=w.alloc (.cells #[.pointer none] 91):=⟨_,rfl⟩
 have hba:Below w.heap.size w wa:=by rw[hwa];exact(jil _ w).alloc (jij _) _
 have hga:ErrT wa:=hg.below hba (jij _)
 have ht:wa.cell? ⟨w.heap.size,0,none⟩=some (.pointer none):=by rw[hwa];simp
 have hf:wa.frozen? ⟨w.heap.size,0,none⟩=false:=by rw[hwa];simp
 have hz:wa.heap.size=w.heap.size+1:=by rw[hwa];simp
 rcases h with ⟨rfl,_⟩|⟨k',⟨q,_,rfl,hq⟩,_,_⟩
 ·rw[jQ n (by omega)]
  have HM:=jii (jgm (n:Int) ⟨w.heap.size,0,none⟩ wa hga)
  have HBA:=jii hba
  have FIN:Hid (∀W,Below wa.heap.size wa W->jl w.heap.size (W.alloc (.cells #[.int .i64 (k:Nat),.iface 54 (.int .i64 (n:Nat))] 94)) (.iface 91 (.pointer (some ⟨W.heap.size,0,none⟩))) k n):=by
   intro W hW
   rw[<- jQ n (by omega)]
   exact jl.new W k n _ _ rfl (by have:=hW.size;omega)
  clear hba hga ht hf
  subst hwa
  go_enter Tryz.func87,Tryz.ntmps87
  go_wp2_with fail
  refine HM.out.mono ?_
  rintro e w2 ⟨rfl,b2⟩
  have F2:=FIN.out w2 b2
  have B2:Below w.heap.size w w2:=HBA.out.trans (b2.mono HBA.out.size)
  go_wp2_with fail
  go_ret
  exact⟨_,rfl,B2.alloc B2.size _,F2⟩
 have hql:=hq.lt
 have HM:=jii (jhl ⟨q,0,none⟩ ⟨w.heap.size,0,none⟩ (.pointer none) wa hga ht hf)
 have HBA:=jii hba
 have HQ:Hid (∀w1,Below wa.heap.size wa w1->(w1.setCell ⟨w.heap.size,0,none⟩ (.pointer (some ⟨q,0,none⟩))).cell? ⟨w.heap.size,0,none⟩=some (.pointer (some ⟨q,0,none⟩))/\(w1.setCell ⟨w.heap.size,0,none⟩ (.pointer (some ⟨q,0,none⟩))).cell? ⟨q,1,none⟩=some (.iface 54 (.int .i64 (n:Nat)))/\Below w.heap.size w (w1.setCell ⟨w.heap.size,0,none⟩ (.pointer (some ⟨q,0,none⟩)))):=by
  intro w1 b1
  have hb:Below w.heap.size w w1:=hba.trans (b1.mono hba.size)
  have c1:ja w1 w.heap.size 91 #[.pointer none]:=jb (by rw[hwa];exact ja.new _ _ _) b1 (by omega)
  have c1':=c1.set 0 (.pointer (some ⟨q,0,none⟩))
  have cq:ja w1 q 94 #[.int .i64 k',xl n]:=jb hq hb hql
  have cq':ja (w1.setCell ⟨w.heap.size,0,none⟩ (.pointer (some ⟨q,0,none⟩))) q 94 #[.int .i64 k',xl n]:=cq.other (p:=⟨w.heap.size,0,none⟩) (by show q≠w.heap.size;omega) _
  refine⟨?_,?_,hb.setCell (p:=⟨w.heap.size,0,none⟩) (jij _) _⟩
  ·rw[c1'.cell 0];rfl
  rw[<- jQ n (by omega),cq'.cell 1];rfl
 have FIN:Hid (∀W:World,w.heap.size<=W.heap.size->jl w.heap.size (W.alloc (.cells #[.int .i64 (k:Nat),.iface 54 (.int .i64 (n:Nat))] 94)) (.iface 91 (.pointer (some ⟨W.heap.size,0,none⟩))) k n):=by
  intro W hW
  rw[<- jQ n (by omega)]
  exact jl.new W k n _ _ rfl hW
 clear hba hga ht hf hq
 subst hwa
 go_enter Tryz.func87,Tryz.ntmps87
 go_wp2_with fail
 refine HM.out.mono ?_
 rintro e w2 ⟨rfl,w1,b1,hw2⟩
 obtain⟨c1,c2,hb⟩:=HQ.out w1 b1
 rw[<- hw2]at c1 c2 hb
 have F2:=FIN.out w2 hb.size
 clear hw2 HQ b1 HM
 go_wp2_with fail
 go_ret
 exact⟨_,rfl,hb.alloc hb.size _,F2⟩
theorem jcz(ed:Ed)(fv:Value)(w:World)(h:yH w fv ed.fields)(hf:jgs ed.fields):
  Calls Tryz.prog 143 #[.agg #[.int .i64 ed.kind,.int .i64 ed.id,fv]] w fun e w'=>∃u a,e=.returned u/\Below w.heap.size w w'/\qR w.heap.size w' u a (zJ ed):=by
 obtain⟨fa,fc,rfl,_,_⟩:=_root_.id h
 obtain⟨wa,hwa⟩:∃wa,wa=w.alloc (.cells #[.int .i64 ed.kind,.int .i64 ed.id,.slice fa ed.fields.length fc] 80):=⟨_,rfl⟩
 have hba:Below w.heap.size w wa:=by rw[hwa];exact(jil _ w).alloc (jij _) _
 have HC:=jii (jcy ed.fields (.slice fa ed.fields.length fc) wa (h.below hba (jij _)) (by have:=hf.len;omega) (fun f hm=>by have:=hf.each f hm;omega))
 have HB:=jii hba
 have GE:=jii (show zJ ed=if ed.kind=1\/ed.kind=3 then qF ed.fields else if ed.kind=2/\ed.fields.length=0 then 0 else 2 from rfl)
 have FIN:Hid (∀W u,qR wa.heap.size W u (ZT ed.fields) (qF ed.fields)->zJ ed=qF ed.fields->∃a,qR w.heap.size W u a (zJ ed)):=by
  intro W u hz hg
  rw[hg]
  exact⟨_,hz.mono hba.size⟩
 have HZ:Hid (∀W u,yz wa.heap.size W u ed.fields->qR wa.heap.size W u (ZT ed.fields) (qF ed.fields)):=fun W u h=>qR.of h
 have E0:Hid (∀W,zJ ed=0->qR w.heap.size W .nilIface (-9) (zJ ed)):=fun W h=>by rw[h];exact qR.none _ _
 have E2:Hid (∀W,zJ ed=2->qR w.heap.size W (.iface 54 (.int .i64 2)) (-9) (zJ ed)):=fun W h=>by rw[h];exact qR.err _ _ 2 (by decide)
 have hlz:((ed.fields.length:Int)==0)=decide (ed.fields.length=0):=by
  rw[jjm];simp
 clear hba h
 subst hwa
 generalize hgg:zJ ed=ge at *
 generalize qF ed.fields=cn at *
 generalize ZT ed.fields=ca at *
 generalize ed.fields.length=fl at *
 generalize ed.kind=kk at *
 generalize ed.id=ii at *
 clear hgg
 by_cases h1:kk=1
 ·subst h1
  have hg:ge=cn:=by rw[GE.out,if_pos (.inl rfl)]
  go_enter Tryz.func143,Tryz.ntmps143
  go_wp2_with fail
  refine HC.out.mono ?_
  rintro e w2 ⟨u,rfl,b2,hu⟩
  obtain⟨a,F2⟩:=FIN.out w2 u (HZ.out w2 u hu) hg
  go_wp2_with fail
  go_ret
  first | exact⟨_,rfl,HB.out.trans (b2.mono HB.out.size),a,F2⟩ | exact⟨_,a,rfl,HB.out.trans (b2.mono HB.out.size),F2⟩
 by_cases h3:kk=3
 ·subst h3
  have hg:ge=cn:=by rw[GE.out,if_pos (.inr rfl)]
  go_enter Tryz.func143,Tryz.ntmps143
  go_wp2_with fail
  refine HC.out.mono ?_
  rintro e w2 ⟨u,rfl,b2,hu⟩
  obtain⟨a,F2⟩:=FIN.out w2 u (HZ.out w2 u hu) hg
  go_wp2_with fail
  go_ret
  first | exact⟨_,rfl,HB.out.trans (b2.mono HB.out.size),a,F2⟩ | exact⟨_,a,rfl,HB.out.trans (b2.mono HB.out.size),F2⟩
 have q1:(kk==1)=false:=by simpa using h1
 have q3:(kk==3)=false:=by simpa using h3
 by_cases h2:kk=2
 ·subst h2
  by_cases h0:fl=0
  ·have hg:ge=0:=by rw[GE.out,if_neg (by omega),if_pos ⟨rfl,h0⟩]
   have F:=E0.out (w.alloc (.cells #[.int .i64 2,.int .i64 ii,.slice fa fl fc] 80)) hg
   clear hg GE E0 E2 FIN HZ
   subst h0
   go_enter Tryz.func143,Tryz.ntmps143
   go_wp2_with fail
   go_ret
   first | exact⟨_,rfl,HB.out,_,F⟩ | exact⟨_,_,rfl,HB.out,F⟩
  have hg:ge=2:=by rw[GE.out,if_neg (by omega),if_neg (by intro h;exact h0 h.2)]
  have F:=E2.out (w.alloc (.cells #[.int .i64 2,.int .i64 ii,.slice fa fl fc] 80)) hg
  clear hg GE E0 E2 FIN HZ
  rw[decide_eq_false h0]at hlz
  go_enter Tryz.func143,Tryz.ntmps143
  go_wp2_with fail
  go_ret
  first | exact⟨_,rfl,HB.out,_,F⟩ | exact⟨_,_,rfl,HB.out,F⟩
 have q2:(kk==2)=false:=by simpa using h2
 have hg:ge=2:=by rw[GE.out,if_neg (by omega),if_neg (by intro h;exact h2 h.1)]
 have F:=E2.out (w.alloc (.cells #[.int .i64 kk,.int .i64 ii,.slice fa fl fc] 80)) hg
 clear hg GE E0 E2 FIN HZ
 go_enter Tryz.func143,Tryz.ntmps143
 go_wp2_with fail
 go_ret
 first | exact⟨_,rfl,HB.out,_,F⟩ | exact⟨_,_,rfl,HB.out,F⟩
theorem ZV(eds:List Ed)(v:Value)(w:World)(h:EdV w v eds)(hl:eds.length<=1000000)(hf:Vv eds)(hg:ErrT w):
  Calls Tryz.prog 84 #[v] w fun e w'=>∃u,e=.returned u/\Below w.heap.size w w'/\qR w.heap.size w' u (qP eds).1 (qP eds).2:=by
 obtain⟨A,cap,rfl,hle,hc⟩:=h
 have PC:=jii hc
 have HF:=jii hf
 have HG:=jii hg
 clear hc hf hg
 by_cases h0:eds.length=0
 ·have e0:qP eds=(-9,1):=by unfold qP;rw[if_pos (by omega)]
  rw[e0,h0]
  have F:=qR.err w.heap.size w 1 (by decide)
  rw[show xl 1=.iface 54 (.int .i64 1) from rfl]at F
  go_enter Tryz.func84,Tryz.ntmps84
  go_wp2_with fail
  go_ret
  exact⟨_,rfl,jil _ _,F⟩
 have q0:((eds.length:Int)==0)=false:=by simp;intro h;exact h0 (by rw[h];rfl)
 by_cases h40:40<eds.length
 ·have e0:qP eds=(-9,1):=by unfold qP;rw[if_pos (by omega)]
  rw[e0]
  have F:=qR.err w.heap.size w 1 (by decide)
  rw[show xl 1=.iface 54 (.int .i64 1) from rfl]at F
  go_enter Tryz.func84,Tryz.ntmps84
  go_wp2_with fail
  go_ret
  exact⟨_,rfl,jil _ _,F⟩
 have e1:qP eds=xh 0 eds:=by unfold qP;rw[if_neg (by omega)]
 rw[e1]
 go_enter Tryz.func84,Tryz.ntmps84
 go_wp2_with fail
 go_loopw [17] (fun i wr=>∃k:Nat,k<=eds.length/\i=.int .i64 k/\(∀x∈eds.take k,zJ x=0)/\Below w.heap.size w wr) (fun i _=>eds.length-(intOf i).toNat)
 case atStart=>exact⟨0,jiD _,rfl,(fun x hx=>by simp at hx),jil _ _⟩
 case round =>
 obtain⟨k,hk,rfl,hsm,hb⟩:=hrel
 by_cases hlt:k<eds.length
 ·obtain⟨ed,hed⟩:∃ed,eds[k]?=some ed:=⟨_,jim hlt⟩
  obtain⟨b,off,fv,rfl,hbb,c0,c1,c2,hfl⟩:=PC.out k ed hed
  obtain⟨fa,fc,rfl,_,_⟩:=_root_.id hfl.1
  replace c0:=(hb.cell (p:=⟨b,off+k*3,none⟩) hbb).trans c0
  replace c1:=(hb.cell (p:=⟨b,off+k*3+1,none⟩) hbb).trans c1
  replace c2:=(hb.cell (p:=⟨b,off+k*3+1+1,none⟩) hbb).trans c2
  obtain⟨wa,hwa⟩:∃wa,wa=wr.alloc (.cells #[.int .i64 ed.kind,.int .i64 ed.id,.slice fa ed.fields.length fc] 80):=⟨_,rfl⟩
  have hba:Below w.heap.size w wa:=by rw[hwa];exact hb.alloc hb.size _
  have CK:=jii (jcz ed (.slice fa ed.fields.length fc) wa (hfl.1.below hba (jij _)) (HF.out ed (jiA hed)))
  have SM:Hid (zJ ed=0->∀x∈eds.take (k+1),zJ x=0):=fun hz x hx=>by
   rw[qW hed]at hx
   rcases List.mem_append.1 hx with hx|hx
   ·exact hsm x hx
   rw[List.mem_singleton.1 hx];exact hz
  have AT:Hid (zJ ed≠0->xh 0 eds=(((k:Nat):Int),zJ ed)):=fun hz=>by rw[Up eds 0 k ed hsm hed hz,jiP]
  have HBA:=jii hba
  have hle11:=jd1 ed
  clear hed hsm hfl hba
  generalize zJ ed=ge at *
  subst hwa
  go_wp2_with fail
  refine CK.out.mono ?_
  rintro e w2 ⟨u,a,rfl,b2,hz⟩
  have B2:=jii (HBA.out.trans (b2.mono HBA.out.size))
  by_cases hg0:ge=0
  ·subst hg0
   obtain⟨_,⟨rfl,_⟩|⟨_,_,_,hx⟩⟩:=hz
   ·have SM1:=jii (SM.out rfl)
    clear SM AT CK
    rw[show xl 0=.nilIface from rfl]
    go_wp2_with fail
    go_roundw
    case rel=>exact⟨k+1,hlt,by go_num,SM1.out,B2.out⟩
    case measure=>simp[intOf];omega
   exact absurd rfl hx
  have FA:=jii (Xq k ge a u w2 hz hg0 (HG.out.below B2.out (jij _)))
  have AT1:=AT.out hg0
  have hform:(∃z,u=.iface 54 (.int .i64 z))\/∃q,u=.iface 91 (.pointer (some ⟨q,0,none⟩)):=by
   obtain⟨_,⟨rfl,_⟩|⟨_,⟨q,_,rfl,_⟩,_,_⟩⟩:=hz
   ·rw[jQ ge (by omega)];exact .inl ⟨_,rfl⟩
   exact .inr ⟨q,rfl⟩
  clear hz SM AT CK
  rcases hform with ⟨z,rfl⟩|⟨q,rfl⟩
  all_goals
   go_wp2_with fail
   refine FA.out.mono ?_
   rintro e w3 ⟨u',rfl,b3,hfa⟩
   have Z3:Hid (qR w.heap.size w3 u' (xh 0 eds).1 (xh 0 eds).2):=by
    show qR _ _ _ _ _
    rw[AT1];exact qR.fault (hfa.mono B2.out.size) hg0 hle11
   have B3:=jii (B2.out.trans (b3.mono B2.out.size))
   clear hfa b3
   go_wp2_with fail
   go_ret
   exact⟨_,rfl,B3.out,Z3.out⟩
 obtain rfl:k=eds.length:=by omega
 rw[jiL]at hsm
 have HZ:qR w.heap.size wr .nilIface (xh 0 eds).1 (xh 0 eds).2:=by rw[ZS eds 0 hsm];exact qR.none w.heap.size wr
 clear PC hsm
 go_wp2_with fail
 go_ret
 exact⟨_,rfl,hb,HZ⟩
theorem jat(eds:List Ed)(v:Value)(w:World)(h:EdV w v eds)(hl:eds.length<=1000000)(hf:Qp eds)(hg:ErrT w):
  Calls Tryz.prog 84 #[v] w fun e w'=>∃u,e=.returned u/\Below w.heap.size w w'/\qR w.heap.size w' u (qP eds).1 (qP eds).2:=ZV eds v w h hl hf.eight hg
end Go.Proofs.YtimfhnfcmhmjcaaGreatDoor
