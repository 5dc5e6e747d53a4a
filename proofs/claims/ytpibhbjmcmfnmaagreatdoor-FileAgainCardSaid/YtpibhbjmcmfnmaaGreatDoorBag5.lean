/- Texts put together:VS,VT,VU,VV,VW,VX,VY,VZ. -/
import Derived.OwnWalk
import Derived.Maps.RangeWalk
import Derived.Sort.KeysCollected
import Derived.Test.YtpibhbjmcmfnmaaGreatDoorBag4
set_option linter.unusedVariables false
set_option maxRecDepth 100000
set_option maxHeartbeats 16000000
namespace Go.Proofs.YtpibhbjmcmfnmaaGreatDoor
abbrev jnx:=@List.append_assoc
abbrev jny:=@List.cons_append
abbrev jnC:=@List.mem_of_getElem?
abbrev jom:=@List.sum_cons
abbrev joq:=@Int.le_refl
abbrev joE:=@List.mem_or_eq_of_mem_set
abbrev jpb:=@Nat.le_add_right
end Go.Proofs.YtpibhbjmcmfnmaaGreatDoor
namespace Go.Proofs.YtpibhbjmcmfnmaaGreatDoor.Vf
open Go.RowKit Go.Maps
theorem Gw(cur:Array Value)(i:Nat)(v:Value)(h:cur[i]?=some v):cur.setIfInBounds i v=cur:=by
 apply Array.ext'
 simp only[Array.toList_setIfInBounds]
 obtain⟨hlt,he⟩:=Array.getElem?_eq_some_iff.1 h
 rw[<- he]
 exact List.set_getElem_self (by simpa using hlt)
def jY.more(f:jY)(a:qM):jY:=⟨f.sure,f.waits++[a]⟩
theorem Qc{w:World}{T:Nat->Nat}{p n:Nat}{D:ji}{V:JW}(h:zc w T p D V)(hf:zJ n D)(hn:n<=500000){i:Nat}(hi:i<D.files.length){g cap m:Nat}(e8:V.v8=.slice (some ⟨g,0,none⟩) m cap)(u0:Int)(hw:(Lit.int .i64 u0).wf=true):
  Calls Tryz.prog 51 #[.pointer (some ⟨g,i*3,none⟩),.int .i64 u0] w fun e w'=>e=.returned (.tuple #[]) /\
   ∃T' V',zc w' T' p {D with files:=D.files.set i (D.files[i].kept u0)} V'/\vd w T w' T'/\V'.v8=V.v8:=by
 obtain⟨g',cap',cur,e,hc,h1,h2,h3,h4,tg,hfa⟩:=h.file hi
 rw[e]at e8
 obtain⟨rfl,rfl,rfl⟩:g'=g/\D.files.length=m/\cap'=cap:=by cases e8;exact⟨rfl,rfl,rfl⟩
 have ok:=hf.files _ (jn8 hi)
 have hi':i<V.fvs.length:=by rw[h.nf];exact hi
 have hsl:D.files[i].sure.data.toList.length=D.files[i].sure.size:=(jnu _).symm
 refine(jfT g' (i*3) cur D.files[i].sure V.fvs[i] D.files[i].waits _ u0 w hc hfa (by rw[<- hsl];exact ok.fits) (by have:=ok.len;omega) hw (fun a ha=>by have:=ok.kinds a ha;omega) (by have:=ok.many;omega)).mono ?_
 rintro e' w' ⟨rfl,hc',ho⟩
 refine⟨rfl,?_⟩
 have hk:(D.files[i].kept u0).seen=zu D.files[i].waits u0 D.files[i].sure.data.toList:=rfl
 obtain⟨T',hd,hs⟩:=h.fturned hi (D.files[i].kept u0) (.slice none 0 0) e h1 h2 h3 h4 (by rw[hk];exact hc') (joV _ _ _ _) (.inr rfl) (ho.mono fun r _ e=>.inl e)
 exact⟨T',_,hd,hs,rfl⟩
theorem Ko{w:World}{T:Nat->Nat}{p n:Nat}{D:ji}{V:JW}(h:zc w T p D V)(hf:zJ n D)(hn:n<=500000){i:Nat}(hi:i<D.files.length){g cap m:Nat}(e8:V.v8=.slice (some ⟨g,0,none⟩) m cap)(a:qM)
  (ha:a.kind=2\/a.kind=3) (hat:a.kind=3->a.at_<=D.files[i].seen.length) (hb:a.bytes.size<=60000) :
  Calls Tryz.prog 65 #[.pointer (some ⟨g,i*3,none⟩),.agg #[.int .i64 a.kind,.string a.name,.string a.other,.string a.bytes,.int .i64 a.at_]] w fun e w'=>e=.returned (.tuple #[]) /\
   ∃T' V',zc w' T' p {D with files:=D.files.set i (D.files[i].more a)} V'/\vd w T w' T':=by
 obtain⟨g',cap',cur,e,hc,h1,h2,h3,h4,tg,hfa⟩:=h.file hi
 rw[e]at e8
 obtain⟨rfl,rfl,rfl⟩:g'=g/\D.files.length=m/\cap'=cap:=by cases e8;exact⟨rfl,rfl,rfl⟩
 have ok:=hf.files _ (jn8 hi)
 have hi':i<V.fvs.length:=by rw[h.nf];exact hi
 have hsl:D.files[i].sure.data.toList.length=D.files[i].sure.size:=(jnu _).symm
 have hseen:D.files[i].seen.length<=n:=by
  have:=qP D.files[i].waits D.files[i].sure.data.toList
  have:=ok.len;unfold jY.seen;omega
 have ti:=(h.rf i hi hi').2
 have hne:(V.fvs[i]).ownBlock≠some g':=fun e=>by have:=ti g' e;omega
 have fin:∀(size':Int) (w':World),Jw g' (i*3) cur V.fvs[i] D.files[i].waits.length (jA D.files[i].waits) a.cells size' w w'->size'=((D.files[i].more a).seen.length:Nat) ->
   ∃T' V',zc w' T' p {D with files:=D.files.set i (D.files[i].more a)} V'/\vd w T w' T':=by
  rintro _ w' ⟨⟨v',hc',hr,hk⟩,ho⟩ rfl
  obtain⟨T',hd,hs⟩:=h.fturned hi (D.files[i].more a) v' e h1 h2 h3 h4 (by
   have e0:cur[i*3]?=some (.string D.files[i].sure):=by rw[<- hc.cell];exact hfa.c0
   have e1:cur.setIfInBounds (i*3) (.string (D.files[i].more a).sure)=cur:=Gw cur _ _ e0
   rw[e1];exact hc') (by
   show w'.ownsRow 0 _ 5 v' (D.files[i].waits++[a]).length (jA (D.files[i].waits++[a]))
   rw[jnf,Jv];exact hr) (.inl hk) ho
  exact⟨T',_,hd,hs⟩
 have hsn:(D.files[i].more a).seen=Jl D.files[i].seen a:=XL _ _ _
 obtain⟨kind,name,other,bytes,at_⟩:=a
 rcases ha with hk|hk
 ·dsimp only at hk
  subst hk
  refine(jcP g' (i*3) cur V.fvs[i] D.files[i].seen.length D.files[i].waits.length (jA D.files[i].waits) name other bytes at_ w hc (by rw[<- hc.cell];exact hfa.c1) (by rw[<- hc.cell];exact hfa.c2) hfa.row hne (by have:=ok.many;omega) (by omega) (by dsimp only at hb;omega)).mono ?_
  rintro e' w' ⟨rfl,hd⟩
  refine⟨rfl,fin _ w' hd ?_⟩
  rw[hsn]
  unfold Jl
  rw[if_neg (by show ¬(2:Nat)=3;decide),jnf,<- jnu]
  simp
 dsimp only at hk
 subst hk
 refine(jg3 g' (i*3) cur V.fvs[i] D.files[i].seen.length D.files[i].waits.length (jA D.files[i].waits) name other bytes at_ w hc (by rw[<- hc.cell];exact hfa.c1) (by rw[<- hc.cell];exact hfa.c2) hfa.row hne (by have:=ok.many;omega)).mono ?_
 rintro e' w' ⟨rfl,hd⟩
 refine⟨rfl,fin _ w' hd ?_⟩
 rw[hsn]
 unfold Jl
 rw[if_pos rfl,jnk]
 have:=hat rfl
 dsimp only at this
 simp;omega
theorem jeg{w:World}{T:Nat->Nat}{p n:Nat}{D:ji}{V:JW}(h:zc w T p D V)(hf:zJ n D)(hn:n<=500000){i:Nat}(hi:i<D.files.length){g cap m:Nat}(e8:V.v8=.slice (some ⟨g,0,none⟩) m cap)(u0:Int)(hw:(Lit.int .i64 u0).wf=true):
  Calls Tryz.prog 59 #[.pointer (some ⟨g,i*3,none⟩),.int .i64 u0] w fun e w'=>e=.returned (.string ⟨(zu D.files[i].waits u0 D.files[i].sure.data.toList).toArray⟩)/\Below w.heap.size w w':=by
 obtain⟨g',cap',cur,e,hc,h1,h2,h3,h4,tg,hfa⟩:=h.file hi
 rw[e]at e8
 obtain⟨rfl,rfl,rfl⟩:g'=g/\D.files.length=m/\cap'=cap:=by cases e8;exact⟨rfl,rfl,rfl⟩
 have ok:=hf.files _ (jn8 hi)
 have hi':i<V.fvs.length:=by rw[h.nf];exact hi
 have hsl:D.files[i].sure.data.toList.length=D.files[i].sure.size:=(jnu _).symm
 exact jay g' (i*3) D.files[i].sure V.fvs[i] D.files[i].waits _ u0 w hfa hc.lt (by rw[<- hsl];exact ok.fits) (by have:=ok.len;omega) hw (fun a ha=>by have:=ok.kinds a ha;omega) (by have:=ok.many;omega)
theorem xQ{w W:World}{T:Nat->Nat}{p n:Nat}{D:ji}{V:JW}(h:zc w T p D V)(z:ByteArray)(zr:List ByteArray)(cap:Nat)(hb:Below w.heap.size w W)(hl:w.heap.size<W.heap.size)
  (hcl:∀j (h:j<(z::zr).length),W.cell? ⟨w.heap.size,j,none⟩=some (.string (z::zr)[j])) (hs:∀x∈z::zr,x.size<=1000000) (hlen:(z::zr).length<=1000) :
  Calls Tryz.prog 58 #[.pointer (some ⟨p,0,none⟩),.slice (some ⟨w.heap.size,0,none⟩) (z::zr).length cap] W fun e w' =>
   e=.returned (.tuple #[.int .i64 (vy (zm D.gone (z::zr)) (ya D.seen z.data.toList)).1,qm (vy (zm D.gone (z::zr)) (ya D.seen z.data.toList)).2])/\Below w.heap.size w w':=by
 have h2:=h.below hb
 refine(Zv z zr w.heap.size cap p D.units D.armed D.left D.gone D.room V.v5 V.v6 V.v7 V.v8 V.v9 D.seen.length D.seen W h2.cells h2.m6 hcl hl hs hlen).mono ?_
 rintro e w' ⟨rfl,hb2⟩
 exact⟨rfl,hb.trans (hb2.mono hb.size)⟩
theorem jdc{w W:World}{T:Nat->Nat}{p n:Nat}{D:ji}{V:JW}(h:zc w T p D V)(zs:List ByteArray)(cap:Nat)(hb:Below w.heap.size w W)(hl:w.heap.size<W.heap.size)
  (hcl:∀j (h:j<zs.length),W.cell? ⟨w.heap.size,j,none⟩=some (.string zs[j])) (hs:∀x∈zs,x.size<=1000000) (hlen:zs.length<=1000) :
  Calls Tryz.prog 61 #[.pointer (some ⟨p,0,none⟩),.slice (some ⟨w.heap.size,0,none⟩) zs.length cap] W fun e w'=>e=.returned (qm (zm D.gone zs))/\Below w.heap.size w w':=by
 have h2:=h.below hb
 refine(Gd zs w.heap.size cap p D.units D.armed D.left D.gone D.room V.v5 V.v6 V.v7 V.v8 V.v9 W h2.cells hcl hl hs hlen).mono ?_
 rintro e w' ⟨rfl,hb2⟩
 exact⟨rfl,hb.trans (hb2.mono hb.size)⟩
end Go.Proofs.YtpibhbjmcmfnmaaGreatDoor.Vf
namespace Go.Proofs.YtpibhbjmcmfnmaaGreatDoor.Vf
open Go.RowKit Go.Maps
attribute [local go_sem] jT vL xo Kt
theorem jfE(fv:Value)(w:World):
  Calls Tryz.prog 180 #[.slice none 0 0,fv] w fun e w'=>e=.returned (.int .i64 (-1))/\w=w':=by
 go_enter Tryz.func180,Tryz.ntmps180
 go_wp2
 go_loopw [8] (fun i wr=>i=.int .i64 0/\wr=w) (fun _ _=>0)
 case atStart=>exact⟨rfl,rfl⟩
 case round =>
 obtain⟨rfl,rfl⟩:=hrel
 go_wp2
 go_ret
 exact⟨rfl,rfl⟩
theorem jai(fv:Value)(w:World):
  Calls Tryz.prog 132 #[.slice none 0 0,fv] w fun e w'=>e=.returned (.bool false)/\w=w':=by
 go_enter Tryz.func132,Tryz.ntmps132
 go_wp2_with (go_at_call 180;refine(jfE _ _).mono ?_;rintro e w' ⟨rfl,rfl⟩)
 go_ret
 exact⟨rfl,rfl⟩
theorem jh9(w:World):Calls Tryz.prog 95 #[.slice none 0 0] w fun e w'=>e=.returned (.bool true)/\Below w.heap.size w w':=by
 have hcell:(w.alloc (.cells #[Value.nilFunc] 206)).cell? ⟨w.heap.size,0,none⟩=some .nilFunc:=by rw[(ja.new w 206 #[Value.nilFunc]).cell];rfl
 have hfr:(w.alloc (.cells #[Value.nilFunc] 206)).frozen? ⟨w.heap.size,0,none⟩=false:=(ja.new w 206 #[Value.nilFunc]).frozen 0
 go_enter Tryz.func95,Tryz.ntmps95
 go_wp2_with fail
 refine(jai _ _).mono ?_
 rintro e w' ⟨rfl,rfl⟩
 go_wp2
 go_ret
 exact⟨rfl,(jne _ w).alloc (jnd _) _⟩
theorem je0(p:Nat)(D:ji)(V:JW)(T:Nat->Nat)(w:World)(h:zc w T p D V):
  Calls Tryz.prog 61 #[.pointer (some ⟨p,0,none⟩),.slice none 0 0] w fun e w'=>e=.returned (qm (if D.gone then 3 else 0))/\Below w.heap.size w w':=by
 have G:=fun w' (hb2:Below w.heap.size w w')=>show w'.cell? ⟨p,3,none⟩=some (.bool D.gone) from((hb2.cell (p:=⟨p,3,none⟩) h.cells.lt).trans (h.cells.cell 3))
 generalize D.gone=gone at *
 clear h
 cases gone
 all_goals
  go_enter Tryz.func61,Tryz.ntmps61
  go_wp2_with (go_at_call 95;refine(jh9 _).mono ?_;rintro e w' ⟨rfl,hb2⟩;have c3:=G w' hb2;clear G)
  go_ret
  exact⟨rfl,hb2⟩
def jV(room:Int):ji:=⟨0,false,0,false,room,[],[],[],[]⟩
theorem vZ(room:Int)(h0:0<=room)(h1:room<=9223372036854775807):zJ 0 (jV room) :=
 ⟨joq _,joq _,joq _,by show(0:Int)<=9223372036854775807;decide,h0,h1,jnd _,jnd _,jnd _,by simp[jV],by simp[jV],by simp[jV]⟩
theorem Wn(room:Int)(w:World)(h0:0<=room):
  Calls Tryz.prog 21 #[.int .i64 room] w fun e w'=>e=.returned (.tuple #[.pointer (some ⟨w.heap.size,0,none⟩),.nilIface])/\zK w' (fun b=>if b=w.heap.size then 1 else 0) w.heap.size (jV room)/\Below w.heap.size w w'/\w'.heap.size=w.heap.size+1:=by
 go_enter Tryz.func21,Tryz.ntmps21
 go_wp2
 go_ret2
 refine⟨rfl,⟨⟨.map none,.map none,.slice none 0 0,.slice none 0 0,.slice none 0 0,[]⟩,?_⟩,(jne _ w).alloc (jnd _) _,by simp⟩
 refine⟨ja.new w _ _,by simp,.inl ⟨rfl,rfl⟩,(fun b hb=>by cases hb),.inl ⟨rfl,rfl⟩,(fun b hb=>by cases hb),Iff.rfl,fun _=>⟨rfl,rfl⟩,joV _ _ _ _,(fun b hb=>by cases hb),joV _ _ _ _,(fun b hb=>by cases hb),joV _ _ _ _,(fun b hb=>by cases hb),rfl,fun i h1 _=>by simp[jV]at h1,fun b hb => ?_⟩
 by_cases e:b=w.heap.size
 ·rw[e];simp
 simp[e]at hb
theorem yt{n:Nat}{D:ji}(h:zJ n D)(hc:xX D=true)(a:qM):zJ (n+1) (jbi D a):=by
 have hl:0<=(if D.armed then D.left-1 else D.left)/\(if D.armed then D.left-1 else D.left)<=9223372036854775807:=by
  have h0:=h.l0;have h1:=h.l1
  cases hq:D.armed
  ·simpa using⟨h0,h1⟩
  have:¬D.left<1:=by simpa [xX,hq]using hc
  simp;omega
 have:=h.u0;have:=h.u1
 exact⟨by show 0<=D.units+1;omega,by show D.units+1<=((n+1:Nat):Int);omega,hl.1,hl.2,h.r0,h.r1,by have:=h.dirs;show D.sure.length+D.waits.length<=_;omega,by have:=h.nfiles;show D.files.length<=_;omega,
  by have:=h.nacts;show(D.acts++[a]).length<=_;simp;omega,fun f hf=>(h.files f hf).mono (jow _),h.changes,h.names⟩
def zx(D:ji):ji×Nat :=
 if D.gone then (D,3) else if xX D then ({jbi D ⟨7,⟨#[]⟩,⟨#[]⟩,⟨#[]⟩,0⟩ with sure:=D.seen,waits:=[]},0) else (jaa D,3)
theorem jaI:(Lit.int .i64 9223372036854775807).wf=true:=by decide
theorem jfx(m:Nat)(h:m<=1000000000):vF 9223372036854775807 m=m:=by unfold vF;omega
theorem jaN{w:World}{T:Nat->Nat}{p n:Nat}{D:ji}(hA:zK w T p D)(hf:zJ n D)(hn:n<=400000):
  Calls Tryz.prog 31 #[.pointer (some ⟨p,0,none⟩)] w fun e w'=>e=.returned (qm (zx D).2)/\∃T',zK w' T' p (zx D).1/\vd w T w' T':=by
 obtain⟨V,hV⟩:=hA
 have R:=je0 p D V T w hV
 unfold zx
 cases hg:D.gone
 ·rw[hg]at R
  cases hc:xX D
  ·have HG:=jnc (fun w1 (hb:Below w.heap.size w w1)=>jiC (hV.below hb) hf (by omega) hc (kind:=7) (at_:=0) (name:=⟨#[]⟩) (other:=⟨#[]⟩) (bytes:=⟨#[]⟩))
   clear hc hg
   go_enter Tryz.func31,Tryz.ntmps31
   go_wp2_with fail
   refine R.mono ?_
   rintro e w1 ⟨rfl,hb⟩
   go_wp2_with fail
   refine(HG.out w1 hb).mono ?_
   rintro e w2 ⟨rfl,hd,hs⟩
   go_wp2
   go_ret
   exact⟨rfl,T,⟨V,hd⟩,(vd.below hb).trans hs⟩
  have HG:=jnc (fun w1 (hb:Below w.heap.size w w1)=>jcm (hV.below hb) hf (by omega) hc (kind:=7) (at_:=0) (name:=⟨#[]⟩) (other:=⟨#[]⟩) (bytes:=⟨#[]⟩))
  have HF:=jnc (yt hf hc ⟨7,⟨#[]⟩,⟨#[]⟩,⟨#[]⟩,0⟩)
  have hdl:=hf.dirs
  clear hc hg
  go_enter Tryz.func31,Tryz.ntmps31
  go_wp2_with fail
  refine R.mono ?_
  rintro e w1 ⟨rfl,hb⟩
  go_wp2_with fail
  refine(HG.out w1 hb).mono ?_
  rintro e w2 ⟨rfl,T2,v9',hd,hs⟩
  have K:=jae hd HF.out (by omega) 9223372036854775807 jaI
  go_wp2_with fail
  refine K.mono ?_
  rintro e w3 ⟨rfl,T3,v6',hd3,hs3⟩
  have hk:vF 9223372036854775807 D.waits.length=D.waits.length:=jfx _ (by omega)
  have HD:=jnc (show zK w3 T3 p {jbi D ⟨7,⟨#[]⟩,⟨#[]⟩,⟨#[]⟩,0⟩ with sure:=D.seen,waits:=[]} from⟨_,by
   have:=hd3
   simp only[jbi,hk,jnP]at this
   exact this⟩)
  have HS:=jnc (((vd.below hb).trans hs).trans hs3)
  clear K hd hs hd3 hs3 hk HG HF R hb
  go_wp2
  go_ret
  exact⟨rfl,T3,HD.out,HS.out⟩
 rw[hg]at R
 clear hg
 go_enter Tryz.func31,Tryz.ntmps31
 go_wp2_with fail
 refine R.mono ?_
 rintro e w1 ⟨rfl,hb⟩
 go_wp2
 go_ret
 exact⟨rfl,T,⟨V,hV.below hb⟩,vd.below hb⟩
def QK(l:List jY)(i:Nat)(g:jY->jY):List jY:=if h:i<l.length then l.set i (g l[i]) else l
def zP(D:ji)(z:ByteArray)(zr:List ByteArray):Nat×Nat:=vy (zm D.gone (z::zr)) (ya D.seen z.data.toList)
theorem vo{n:Nat}{D:ji}(hf:zJ n D)(z:ByteArray)(zr:List ByteArray):(∃f,zP D z zr=(f,0)/\f<D.files.length/\ya D.seen z.data.toList=some f/\D.gone=false)\/zP D z zr=(0,1)\/zP D z zr=(0,3)\/zP D z zr=(0,7):=by
 unfold zP
 rcases xA D.gone (z::zr) with h|h|h
 ·rw[h]
  have hg:D.gone=false:=by
   cases hq:D.gone
   ·rfl
   unfold zm at h;rw[hq]at h;split at h<;>simp at h
  unfold vy
  rw[if_pos rfl]
  cases hq:ya D.seen z.data.toList with
  | none=>exact .inr (.inr (.inr rfl))
  | some f=>exact .inl ⟨f,rfl,jge hf.seen_lt hq,rfl,hg⟩
 ·rw[h];exact .inr (.inl rfl)
 rw[h];exact .inr (.inr (.inl rfl))
theorem jle(w:World)(z:ByteArray)(t:TypeId):∀j (h:j < [z].length),(w.alloc (.cells #[.string z] t)).cell? ⟨w.heap.size,j,none⟩=some (.string [z][j]):=by
 intro j h
 have:j=0:=by simpa using h
 subst this
 rw[(ja.new w t #[.string z]).cell];rfl
def qx(D:ji)(z:ByteArray):ji×Nat :=
 if (zP D z []).2≠0 then (D,(zP D z []).2) else if xX D then ({jbi D ⟨4,z,⟨#[]⟩,⟨#[]⟩,0⟩ with files:=QK D.files (zP D z []).1 fun f=>f.kept jgH},0) else (jaa D,3)
theorem jhb{w:World}{T:Nat->Nat}{p n:Nat}{D:ji}(hA:zK w T p D)(hf:zJ n D)(hn:n<=400000)(z:ByteArray)(hz:z.size<=1000000):
  Calls Tryz.prog 30 #[.pointer (some ⟨p,0,none⟩),.string z] w fun e w'=>e=.returned (qm (qx D z).2)/\∃T',zK w' T' p (qx D z).1/\vd w T w' T':=by
 obtain⟨V,hV⟩:=hA
 have R:=xQ (n:=n) hV z [] 1 ((jne _ w).alloc (jnd _) (.cells #[.string z] 9)) (by simp) (jle w z _) (by simpa using hz) (by simp)
 have e0:vy (zm D.gone [z]) (ya D.seen z.data.toList)=zP D z []:=rfl
 rw[e0]at R
 unfold qx
 rcases vo hf z []with ⟨f,ha,hfl,_,_⟩|ha
 ·rw[ha]at R ⊢
  dsimp only at R ⊢
  cases hc:xX D
  ·have HG:=jnc (fun w1 (hb:Below w.heap.size w w1)=>jiC (hV.below hb) hf (by omega) hc (kind:=4) (at_:=0) (name:=z) (other:=⟨#[]⟩) (bytes:=⟨#[]⟩))
   clear hc ha e0
   go_enter Tryz.func30,Tryz.ntmps30
   go_wp2_with fail
   refine R.mono ?_
   rintro e w1 ⟨rfl,hb⟩
   go_wp2_with fail
   refine(HG.out w1 hb).mono ?_
   rintro e w2 ⟨rfl,hd,hs⟩
   go_wp2
   go_ret
   exact⟨rfl,T,⟨V,hd⟩,(vd.below hb).trans hs⟩
  have HG:=jnc (fun w1 (hb:Below w.heap.size w w1)=>jcm (hV.below hb) hf (by omega) hc (kind:=4) (at_:=0) (name:=z) (other:=⟨#[]⟩) (bytes:=⟨#[]⟩))
  have HF:=jnc (yt hf hc ⟨4,z,⟨#[]⟩,⟨#[]⟩,0⟩)
  have hnf:=hf.nfiles
  clear hc ha e0
  go_enter Tryz.func30,Tryz.ntmps30
  go_wp2_with fail
  refine R.mono ?_
  rintro e w1 ⟨rfl,hb⟩
  go_wp2_with fail
  refine(HG.out w1 hb).mono ?_
  rintro e w2 ⟨rfl,T2,v9',hd,hs⟩
  obtain⟨g,cap,cur,e8,hc8,h1,h2,h3,h4,tg,hfa⟩:=hd.file (i:=f) hfl
  have d8:w2.cell? ⟨p,8,none⟩=some (.slice (some ⟨g,0,none⟩) D.files.length cap):=by have:=hd.cells.cell 8;rw[e8]at this;exact this
  have K:=Qc hd HF.out (by omega) hfl e8 9223372036854775807 jaI
  have HD:=jnc hd
  have HS:=jnc ((vd.below hb).trans hs)
  clear hd hs h3 h4 hfa hc8 e8 R hb HG
  go_wp2_with fail
  refine K.mono ?_
  rintro e w3 ⟨rfl,T3,V3,hd3,hs3,_⟩
  have HD3:=jnc (show zK w3 T3 p {jbi D ⟨4,z,⟨#[]⟩,⟨#[]⟩,0⟩ with files:=QK D.files f fun f=>f.kept jgH} from⟨V3,by
   unfold QK;rw[dif_pos hfl];exact hd3⟩)
  have HS3:=jnc (HS.out.trans hs3)
  clear hd3 hs3 K HD HF
  go_wp2
  go_ret
  exact⟨rfl,T3,HD3.out,HS3.out⟩
 rcases ha with ha|ha|ha
 all_goals
  rw[ha]at R ⊢
  dsimp only at R ⊢
  clear ha e0
  go_enter Tryz.func30,Tryz.ntmps30
  go_wp2_with fail
  refine R.mono ?_
  rintro e w1 ⟨rfl,hb⟩
  go_wp2
  go_ret
  exact⟨rfl,T,⟨V,hV.below hb⟩,vd.below hb⟩
end Go.Proofs.YtpibhbjmcmfnmaaGreatDoor.Vf
namespace Go.Proofs.YtpibhbjmcmfnmaaGreatDoor.Vf
open Go.RowKit Go.Maps
attribute [local go_sem] jT vL xo Kt jkJ
theorem jh2:(Tryz.prog.info? 98).map (fun i=>(i.zero,i.size,i.bytes))=some (some (.agg #[.string ⟨#[]⟩,.slice none 0 0,.int .i64 0]),3,48):=by kernel_rfl
theorem xR(f:jY)(v:Value):∀(fs:List jY) (vs:List Value),vs.length=fs.length->jz (fs++[f]) (vs++[v])=jz fs vs++qd f v
 | [],[],_=>by simp[jz]
 | [],_::_,h=>by simp at h
 | g::fs,[],h=>by simp at h
 | g::fs,u::vs,h=>by
  have:=xR f v fs vs (by simpa using h)
  simp only[jny,jz,this,jnx]
def QB:jY:=⟨⟨#[]⟩,[]⟩
theorem zc.fmore{w W w':World}{T:Nat->Nat}{p:Nat}{D:ji}{V:JW}{v':Value}(h:zc w T p D V)(hb:Below w.heap.size w W)
  (ho:w'.ownsRow 0 98 3 v' (D.files.length+1) (jz D.files V.fvs++[.string ⟨#[]⟩,.slice none 0 0,.int .i64 0])) (hgr:W.grownBy w' V.v8.ownBlock) (hbk:v'.ownBlock=V.v8.ownBlock\/v'.ownBlock=some W.heap.size) :
  ∃T',zc (w'.setCell ⟨p,8,none⟩ v') T' p {D with files:=D.files++[QB]} {V with v8:=v',fvs:=V.fvs++[.slice none 0 0]}/\vd w T (w'.setCell ⟨p,8,none⟩ v') T':=by
 have tp:jH T (some p) 1:=fun b hb=>by cases hb;exact h.tp
 obtain⟨_,hc,_,hk,hon⟩:=qu h.cells h.r8 (fun e=>vJ h.t8 tp (by decide) p e rfl) hb ho hgr hbk
 have hl:∀{o:Option Nat} {t:Nat},jH T o t->t≠0->∀b,o=some b->b<w.heap.size:=fun ht hne b hb=>h.low b (by rw[ht b hb];exact hne)
 have hz:(w'.setCell ⟨p,8,none⟩ v').heap.size=w'.heap.size:=by simp[World.setCell]
 have hs:∀b,T b≠0->T b≠1->T b≠5->(w'.setCell ⟨p,8,none⟩ v').heap[b]?=w.heap[b]?:=fun b hb h1 h5 =>
  (jnE _ _ _ _ (fun e=>h1 (by rw[e];exact h.tp))).trans (hon.same b (h.low b hb) (fun e=>h5 (h.t8 b e.symm)))
 have s:∀{o:Option Nat} {t:Nat},jH T o t->2<=t->t≠5->∀b,o=some b->(w'.setCell ⟨p,8,none⟩ v').heap[b]?=w.heap[b]?:=fun ht hne h5 b hb=>hs b (by rw[ht b hb];omega) (by rw[ht b hb];omega) (by rw[ht b hb];exact h5)
 have hvp:v'.ownBlock≠some p:=by
  have hpl:=h.cells.lt
  intro e
  rcases hk with h1|⟨k,h1,h2,_⟩
  ·exact vJ h.t8 tp (by decide) p (h1.symm.trans e) rfl
  rw[h1]at e;cases e;omega
 have hk':vv w.heap.size (w'.setCell ⟨p,8,none⟩ v').heap.size V.v8.ownBlock v'.ownBlock:=by rw[hz];exact hk
 have ho2:jv (fun r=>r=p\/some r=V.v8.ownBlock) w (w'.setCell ⟨p,8,none⟩ v'):=(hon.mono (S':=fun r=>r=p\/some r=V.v8.ownBlock) (fun r _ e=>.inr e)).setCell (p:=⟨p,8,none⟩) (.inl (.inl rfl)) _
 refine⟨vD T w.heap.size v'.ownBlock 5,?_,⟨ho2.mono fun r _ e=>by rcases e with e | e;rw[e,h.tp];decide;rw[h.t8 r e.symm];decide,fun r hr=>zj hr⟩⟩
 refine⟨by simpa [jh]using hc.set 8 v',by rw[zj h.cells.lt];exact h.tp,h.m5.same (s h.t5 (by decide) (by decide)),jl h.t5 (hl h.t5 (by decide)),h.m6.same (s h.t6 (by decide) (by decide)),jl h.t6 (hl h.t6 (by decide)),h.nil56,h.nilw,
  jq h.r7 (s h.t7 (by decide) (by decide)),jl h.t7 (hl h.t7 (by decide)),?_,qf hk' h.t8,jq h.r9 (s h.t9 (by decide) (by decide)),jl h.t9 (hl h.t9 (by decide)),by simp[h.nf],fun j h1 h2 => ?_,vi h.low ho2.size hk' (hl h.t8 (by decide))⟩
 ·show(w'.setCell ⟨p,8,none⟩ v').ownsRow 0 _ 3 v' (D.files++[QB]).length (jz (D.files++[QB]) (V.fvs++[.slice none 0 0]))
  rw[jnf,xR _ _ _ _ h.nf]
  exact jK ho hvp _
 simp only[jnf,jni,jnG]at h1 h2
 have hnf:=h.nf
 by_cases hj:j<D.files.length
 ·have hj':j<V.fvs.length:=by omega
  have:=h.rf j hj hj'
  simp only[jpk hj,jpk hj']
  exact⟨jq this.1 (s this.2 (by omega) (by omega)),jl this.2 (hl this.2 (by omega))⟩
 obtain rfl:j=D.files.length:=by omega
 have e1:(D.files++[QB])[D.files.length]'(by simp)=QB:=by simp
 have e2:(V.fvs++[Value.slice none 0 0])[D.files.length]'(by simp;omega)=.slice none 0 0:=by simp[<- hnf]
 simp only[e1,e2]
 exact⟨joV _ _ _ _,fun b hb=>by cases hb⟩
def jJ(D:ji)(z:ByteArray):ji×Nat :=
 if zm D.gone [z]≠0 then (D,zm D.gone [z]) else if (ya D.seen z.data.toList).isSome then (D,12)
 else if xX D then ({jbi D ⟨1,z,⟨#[]⟩,⟨#[]⟩,0⟩ with waits:=D.waits++[⟨⟨#[]⟩,z,D.files.length⟩],files:=D.files++[QB]},0) else (jaa D,3)
theorem jdY{w:World}{T:Nat->Nat}{p n:Nat}{D:ji}(hA:zK w T p D)(hf:zJ n D)(hn:n<=400000)(z:ByteArray)(hz:z.size<=1000000):
  Calls Tryz.prog 28 #[.pointer (some ⟨p,0,none⟩),.string z] w fun e w'=>e=.returned (qm (jJ D z).2)/\∃T',zK w' T' p (jJ D z).1/\vd w T w' T':=by
 obtain⟨V,hV⟩:=hA
 have R:=jdc (n:=n) hV [z] 1 ((jne _ w).alloc (jnd _) (.cells #[.string z] 9)) (by simp) (jle w z _) (by simpa using hz) (by simp)
 obtain⟨i0,hi,hz0,hz1,hz2⟩:=info_parts jh2
 have hdl:=hf.dirs
 have hnf:=hf.nfiles
 unfold jJ
 rcases xA D.gone [z]with hr|hr|hr
 ·rw[hr]at R ⊢
  have L:=jnc (fun w1 (hb:Below w.heap.size w w1)=>(hV.below hb).m6.look z (by unfold maxLen;omega))
  have C6:=jnc (fun w1 (hb:Below w.heap.size w w1)=>show w1.cell? ⟨p,6,none⟩=some V.v6 from(hV.below hb).cells.cell 6)
  cases hq:ya D.seen z.data.toList with
  | some f =>
   rw[hq]at L
   clear hr hq
   go_enter Tryz.func28,Tryz.ntmps28
   go_wp2_with fail
   refine R.mono ?_
   rintro e w1 ⟨rfl,hb⟩
   have c6:=C6.out w1 hb
   have hl:=L.out w1 hb
   clear C6 L
   go_wp2
   go_ret
   exact⟨rfl,T,⟨V,hV.below hb⟩,vd.below hb⟩
  | none =>
  rw[hq]at L
  cases hc:xX D
  ·have HG:=jnc (fun w1 (hb:Below w.heap.size w w1)=>jiC (hV.below hb) hf (by omega) hc (kind:=1) (at_:=0) (name:=z) (other:=⟨#[]⟩) (bytes:=⟨#[]⟩))
   clear hc hr hq
   go_enter Tryz.func28,Tryz.ntmps28
   go_wp2_with fail
   refine R.mono ?_
   rintro e w1 ⟨rfl,hb⟩
   have c6:=C6.out w1 hb
   have hl:=L.out w1 hb
   clear C6 L
   go_wp2_with fail
   refine(HG.out w1 hb).mono ?_
   rintro e w2 ⟨rfl,hd,hs⟩
   clear c6 hl
   go_wp2
   go_ret
   exact⟨rfl,T,⟨V,hd⟩,(vd.below hb).trans hs⟩
  have HG:=jnc (fun w1 (hb:Below w.heap.size w w1)=>jcm (hV.below hb) hf (by omega) hc (kind:=1) (at_:=0) (name:=z) (other:=⟨#[]⟩) (bytes:=⟨#[]⟩))
  have HF:=jnc (yt hf hc ⟨1,z,⟨#[]⟩,⟨#[]⟩,0⟩)
  clear hc hr hq
  go_enter Tryz.func28,Tryz.ntmps28
  go_wp2_with fail
  refine R.mono ?_
  rintro e w1 ⟨rfl,hb⟩
  have c6:=C6.out w1 hb
  have hl:=L.out w1 hb
  clear C6 L
  go_wp2_with fail
  refine(HG.out w1 hb).mono ?_
  rintro e w2 ⟨rfl,T2,v9',hd,hs⟩
  have d8:w2.cell? ⟨p,8,none⟩=some V.v8:=hd.cells.cell 8
  have hpl:=hd.cells.lt
  have hlen8:∃ao cap,V.v8=.slice ao D.files.length cap:=by
   rcases hV.r8.2 with ⟨e,h0⟩|⟨g,cap,cur,e,_⟩
   ·exact⟨none,0,by rw[e,h0]⟩
   exact⟨_,cap,e⟩
  obtain⟨ao,cap8,e8⟩:=hlen8
  rw[e8]at d8
  have K:=jnc (fun W (hbW:Below w2.heap.size w2 W)=>jf9 (hd.below hbW) HF.out (by omega) ⟨#[]⟩ z D.files.length (by decide) hz (by omega))
  have HD:=jnc hd
  have HS:=jnc ((vd.below hb).trans hs)
  have E8:=jnc e8
  clear c6 hl hd hs R hb HG e8
  go_wp2
  go_region_law ((go_simp;go_at_call 63;refine(K.out _ ((jne _ w2).drew)).mono ?_;rintro e w3 ⟨rfl,T3,v5',v6',v7',hd3,hs3⟩))
  all_goals
   have tp3:jH T3 (some p) 1:=fun b hb=>by cases hb;exact hd3.tp
   have hne3:Hid (V.v8.ownBlock≠some p):=fun e=>vJ hd3.t8 tp3 (by decide) p e rfl
   have hpl3:=hd3.cells.lt
   have d8':w3.cell? ⟨p,8,none⟩=some (.slice ao D.files.length cap8):=by have:=hd3.cells.cell 8;exact this.trans (by show some V.v8=_;rw[E8.out])
   have r8:Hid (w3.ownsRow 0 98 3 V.v8 D.files.length (jz D.files V.fvs)):=hd3.r8
   have c8:=jnc hd3.cells
   have HD3:=jnc hd3
   have HS3:=jnc (HS.out.trans hs3.undrew)
   clear hd3 hs3 K HD HF d8 tp3 HS
   go_wp2_with (at_builtin;refine wpList_append_own_at _ rfl _ _ 92 rfl 0 98 i0 _ 3 48 Tryz.underlying92 hi hz0 hz1 hz2 rfl (by decide) V.v8 D.files.length (jz D.files V.fvs) (by simp[Act.eval,E8.out]) (r8.out.alloc _) ⟨w3.heap.size,0,none⟩ 1 1 [.string ⟨#[]⟩,.slice none 0 0,.int .i64 0] (by simp[Act.eval]) rfl (jS w3 98 [.string ⟨#[]⟩,.slice none 0 0,.int .i64 0]) (by intro u hu;simp at hu;rcases hu with rfl | rfl | rfl<;>rfl) (by unfold maxLen;omega) (by omega) (jnt _) ?_)
   intro v' w' ho hgr _ hbk
   have hsa:(w3.alloc (.cells #[.string ⟨#[]⟩,.slice none 0 0,.int .i64 0] 98)).heap.size=w3.heap.size+1:=by simp
   rw[<- hsa]at hbk
   obtain⟨⟨g',cap',rfl⟩,hg',_,_,_⟩:=qu c8.out r8.out hne3.out ((jne _ w3).alloc (jnd _) _) ho hgr hbk
   have k8:w'.cell? ⟨p,8,none⟩=some (.slice ao D.files.length cap8):=(hg'.cell 8).trans (by show some V.v8=_;rw[E8.out])
   have kf8:=hg'.frozen 8
   obtain⟨T4,hd4,hs4⟩:=HD3.out.fmore ((jne _ w3).alloc (jnd _) (.cells #[.string ⟨#[]⟩,.slice none 0 0,.int .i64 0] 98)) ho hgr hbk
   have HD4:=jnc (show zK (w'.setCell ⟨p,8,none⟩ (.slice (some ⟨g',0,none⟩) (D.files.length+1) cap')) T4 p {jbi D ⟨1,z,⟨#[]⟩,⟨#[]⟩,0⟩ with waits:=D.waits++[⟨⟨#[]⟩,z,D.files.length⟩],files:=D.files++[QB]} from⟨_,hd4⟩)
   have HS4:=jnc (HS3.out.trans hs4)
   clear hd4 hs4 ho hgr hbk hsa hg' HD3 HS3 c8 r8
   go_wp2
   go_ret
   exact⟨rfl,T4,HD4.out,HS4.out⟩
 ·rw[hr]at R ⊢
  clear hr
  go_enter Tryz.func28,Tryz.ntmps28
  go_wp2_with fail
  refine R.mono ?_
  rintro e w1 ⟨rfl,hb⟩
  go_wp2
  go_ret
  exact⟨rfl,T,⟨V,hV.below hb⟩,vd.below hb⟩
 rw[hr]at R ⊢
 clear hr
 go_enter Tryz.func28,Tryz.ntmps28
 go_wp2_with fail
 refine R.mono ?_
 rintro e w1 ⟨rfl,hb⟩
 go_wp2
 go_ret
 exact⟨rfl,T,⟨V,hV.below hb⟩,vd.below hb⟩
end Go.Proofs.YtpibhbjmcmfnmaaGreatDoor.Vf
namespace Go.Proofs.YtpibhbjmcmfnmaaGreatDoor.Vf
open Go.RowKit Go.Maps
def vu(fs:List jY)(f:Nat):Nat:=match fs[f]? with | some x=>x.seen.length | none=>0
def Jz(sz:Nat->Nat)(left:Lit->Bool)(l:Dir):Nat:=(l.map fun x=>if left (.string x.1) then 0 else sz x.2).sum
def jbF(sz:Nat->Nat)(l:Dir):Nat:=(l.map fun x=>sz x.2).sum
def qZ(D:ji):Int:=max (D.room-(jbF (vu D.files) D.seen:Nat)) 0
theorem jbA(sz:Nat->Nat)(left:Lit->Bool)(m:Nat)(hm:∀f,sz f<=m):∀l:Dir,Jz sz left l<=l.length*m
 | []=>jnt _
 | x::l=>by
  have ih:=jbA sz left m hm l
  have h1:=hm x.2
  unfold Jz at ih ⊢
  simp only[jnH,jom,jni]
  rw[Nat.add_mul,Nat.one_mul]
  split<;>(first | omega | skip)
theorem Vw(sz:Nat->Nat)(left:Lit->Bool):∀l:Dir,(∀x∈l,left (.string x.1)=true)->Jz sz left l=0
 | [],_=>rfl
 | x::l,h=>by
  have ih:=Vw sz left l (fun y hy=>h y (by simp[hy]))
  unfold Jz at ih ⊢
  simp only[jnH,jom,h x (by simp),if_true,ih]
theorem Um(sz:Nat->Nat)(left:Lit->Bool)(h:∀kl,left kl=false):∀l:Dir,Jz sz left l=jbF sz l
 | []=>rfl
 | x::l=>by
  have ih:=Um sz left h l
  unfold Jz jbF at ih ⊢
  simp only[jnH,jom,h,jpl,if_false]at ih ⊢
  try omega
theorem XC(sz:Nat->Nat)(left left':Lit->Bool):∀l:Dir,(∀x∈l,left' (.string x.1)=left (.string x.1))->Jz sz left' l=Jz sz left l
 | [],_=>rfl
 | x::l,h=>by
  have ih:=XC sz left left' l (fun y hy=>h y (by simp[hy]))
  unfold Jz at ih ⊢
  simp only[jnH,jom,h x (by simp),ih]
theorem XB(sz:Nat->Nat)(left:Lit->Bool)(ks:List UInt8)(hl:left (.string ks)=true):∀(l:Dir) (f:Nat),l.Pairwise (fun x y=>x.1≠y.1)->ya l ks=some f ->
  Jz sz (fun z=>left z && !z.sameKey (.string ks)) l=Jz sz left l+sz f
 | [],_,_,h=>by simp[ya]at h
 | x::l,f,hp,h=>by
  obtain⟨hx,hp⟩:=List.pairwise_cons.1 hp
  by_cases hk:x.1=ks
  ·subst hk
   have:f=x.2:=by simpa [ya]using h.symm
   subst this
   have hs:=XC sz left (fun z=>left z && !z.sameKey (.string x.1)) l (fun y hy=>by
    have hne:(Lit.string y.1).sameKey (.string x.1)=false:=by
     show(y.1==x.1)=false
     rw[beq_eq_false_iff_ne];exact fun e=>hx y hy e.symm
    simp[hne])
   unfold Jz at hs ⊢
   have hself:(Lit.string x.1).sameKey (.string x.1)=true:=by show(x.1==x.1)=true;simp
   simp only[jnH,jom,hl,hself,Bool.not_true,Bool.and_false,jpl,if_false,if_true]
   rw[hs];omega
  have h2:ya l ks=some f:=by
   unfold ya at h ⊢
   rw[List.find?_cons_of_neg (by simpa using hk)]at h
   exact h
  have ih:=XB sz left ks hl l f hp h2
  have hne:(Lit.string x.1).sameKey (.string ks)=false:=by show(x.1==ks)=false;rw[beq_eq_false_iff_ne];exact hk
  unfold Jz at ih ⊢
  simp only[jnH,jom,hne,Bool.not_false,Bool.and_true]at ih ⊢
  rw[ih];omega
theorem jdT{l:Dir}{ks:List UInt8}{c:Int}(h:∀zd,(zY l).atKey (.string ks) zd=.lit (.int .i64 c)):∃f:Nat,ya l ks=some f/\c=f:=by
 cases hq:ya l ks with
 | none =>
  have:=h .nil
  rw[WI,hq]at this
  cases this
 | some f =>
 have:=h .nil
 rw[WI,hq]at this
 simp only[DataW.lit.injEq,Lit.int.injEq]at this
 exact⟨f,rfl,this.2.symm⟩
theorem jbh{w:World}{b n:Nat}{l:Dir}(h:w.ownsMap Tryz.prog 9 (plainElem Tryz.prog 3) b n (zY l)):l.Pairwise (fun x y=>x.1≠y.1):=by
 obtain⟨es,he,hp,_⟩:=h.entries jjc
 have he':l.map jem=es:=by unfold zY at he;injection he
 rw[<- he',List.pairwise_map]at hp
 exact hp.imp fun {a b} hab e=>hab (by unfold jem;rw[e])
theorem UU{n:Nat}{D:ji}(hf:zJ n D)(f:Nat):vu D.files f<=n:=by
 unfold vu
 cases hq:D.files[f]? with
 | none=>simp
 | some x =>
 have ok:=hf.files x (jnC hq)
 have h1:=qP x.waits x.sure.data.toList
 have h2:=ok.len
 have h3:x.sure.data.toList.length=x.sure.size:=(jnu _).symm
 show x.seen.length<=n
 unfold jY.seen
 omega
theorem jfN{w:World}{T:Nat->Nat}{p n:Nat}{D:ji}{V:JW}(hV:zc w T p D V)(hf:zJ n D)(hn:n<=400000)(b6:Nat)(e6:V.v6=.map (some b6)):
  Calls Tryz.prog 37 #[.pointer (some ⟨p,0,none⟩)] w fun e w'=>e=.returned (.int .i64 (qZ D))/\Below w.heap.size w w':=by
 have hom:w.ownsMap Tryz.prog 9 (plainElem Tryz.prog 3) b6 D.seen.length (zY D.seen):=by
  rcases hV.m6 with ⟨e,_⟩|⟨b,e,ho⟩
  ·rw[e6]at e;cases e
  rw[e6]at e;cases e;exact ho
 have hap:=jbh hom
 have hle:=fun left=>jbA (vu D.files) left n (UU hf) D.seen
 have hsl:D.seen.length<=n:=by have:=qF D.waits D.sure;have:=hf.dirs;unfold ji.seen;omega
 have hmul:D.seen.length*n<=400000*400000:=Nat.mul_le_mul (by omega) hn
 have hlt:=fun k f (h:ya D.seen k=some f)=>jge hf.seen_lt h
 have d4:w.cell? ⟨p,4,none⟩=some (.int .i64 D.room):=hV.cells.cell 4
 have d6:w.cell? ⟨p,6,none⟩=some (.map (some b6)):=by have:=hV.cells.cell 6;rw[e6]at this;exact this
 have r0:=hf.r0
 have r1:=hf.r1
 have F8:=jnc (fun wr (hb:Below w.heap.size w wr) (f:Nat) (hfl:f<D.files.length)=>(hV.below hb).file hfl)
 have C8:=jnc (fun wr (hb:Below w.heap.size w wr)=>show wr.cell? ⟨p,8,none⟩=some V.v8 from(hV.below hb).cells.cell 8)
 have HM:=jnc hom
 have HA:=jnc hap
 have HLE:=jnc hle
 have HLT:=jnc hlt
 have SZ:=jnc (UU hf)
 have hnf:=hf.nfiles
 have hpl:=hV.cells.lt
 have PL:=jnc hpl
 clear hom hap hle hlt e6
 go_enter Tryz.func37,Tryz.ntmps37
 go_wp2_with (at_range;refine wpList_range_own _ rfl _ 88 rfl 9 3 jjc Tryz.underlying88 (plainElem Tryz.prog 3) b6 D.seen.length (zY D.seen) rfl HM.out ?_;intro w0 hrg0 hg0 hs0;go_frame)
 have hb0:Below w.heap.size w w0:=(jne _ w).grown hg0 (jnd _) (fun k hk=>by cases hk)
 have HB0:=jnc hb0
 have hst:=Vw (vu D.files) (Maps.has (zY D.seen)) D.seen (fun x hx=>by
  rw[jac]
  unfold ya
  rw[Option.isSome_map,List.find?_isSome]
  exact⟨x,hx,by simp⟩)
 have HST:=jnc hst
 clear hb0 hst hg0
 go_loopw [3] (fun fr wr=>∃left cnt,fr=.int .i64 (D.room-(Jz (vu D.files) left D.seen:Nat))/\wr.ranges Tryz.prog 9 (plainElem Tryz.prog 3) b6 w.heap.size D.seen.length (zY D.seen) left cnt/\Below w.heap.size w wr) (fun _ wr=>wr.rangeLeft b6 w.heap.size)
 case atStart=>exact⟨_,_,by rw[HST.out];simp,hrg0,HB0.out⟩
 case round =>
 obtain⟨left,cnt,rfl,hrg,hbel⟩:=hrel
 have hul:=HLE.out left
 have HBel:=jnc hbel
 have HRG:=jnc hrg
 clear hbel hrg
 go_wp2_with (at_next;refine wpList_next_ranges _ rfl _ rfl 9 jjc (plainElem Tryz.prog 3) encStr (Value.int .i64) (fun key kl hk=>by obtain⟨x,hx,_⟩:=Maps.keyOf_str Tryz.underlying9 hk;exact⟨x,hx⟩) (fun v y hv=>by obtain⟨c,rfl,_⟩:=plainElem_int_inv Tryz.underlying3 hv;exact⟨c,rfl⟩) b6 w.heap.size D.seen.length _ _ _ rfl HRG.out ?_ ?_)
 ·intro _ hl0
  have he:=Um (vu D.files) left hl0 D.seen
  have HE:=jnc he
  clear he hl0
  go_wp2
  go_ret
  refine⟨?_,HBel.out⟩
  rw[HE.out];rfl
 intro x c kl yd yp w1 cnt1 hkey hlk hv hat hrg1 hlt1 hg1 hs1 hen
 obtain⟨x',ex,rfl,_⟩:=Maps.keyOf_str Tryz.underlying9 hkey
 obtain rfl:=encStr_inj ex
 obtain⟨c',ec,hy,_⟩:=plainElem_int_inv Tryz.underlying3 hv
 obtain rfl:c=c':=by injection ec
 have hat':∀zd,(zY D.seen).atKey (.string x) zd=.lit (.int .i64 c):=fun zd=>by rw[hat zd];exact congrArg Prod.fst hy
 obtain⟨f,hgf,rfl⟩:=jdT hat'
 have hfl:=HLT.out _ _ hgf
 have hstep:=XB (vu D.files) left x hlk D.seen f HA.out hgf
 have hul2:=HLE.out (fun z=>left z && !z.sameKey (.string x))
 have hb1:Below w.heap.size w w1:=HBel.out.grown hg1 HBel.out.size (fun k hk=>by cases hk;exact jnd _)
 obtain⟨g,cap,cur,e8,hc8,_,_,_,_,_,hfa⟩:=F8.out w1 hb1 f hfl
 have c8:=C8.out w1 hb1
 rw[e8]at c8
 have c2:=hfa.c2
 have hsz:vu D.files f=D.files[f].seen.length:=by unfold vu;rw[jnh hfl]
 rw[<- hsz]at c2
 have hsf:=SZ.out f
 have HS:=jnc hstep
 have HB1:=jnc hb1
 have HRG1:=jnc hrg1
 have HL1:=jnc hlt1
 rw[hstep]at hul2
 generalize vu D.files f=sf at *
 generalize Jz (vu D.files) left D.seen=us at *
 clear hsz hstep hat hat' hgf hlk hv hy ex ec hkey hs1 hg1 hb1 hrg1 hlt1 hfa hc8 e8
 go_wp2
 go_roundw
 case rel=>exact⟨_,cnt1,by rw[HS.out];go_num,HRG1.out,HB1.out⟩
 case measure=>rw[HRG1.out.left_eq,HRG.out.left_eq];exact HL1.out
theorem jih{w:World}{T:Nat->Nat}{p n:Nat}{D:ji}{V:JW}(hV:zc w T p D V)(hf:zJ n D)(e6:V.v6=.map none)(hs:D.seen=[]):
  Calls Tryz.prog 37 #[.pointer (some ⟨p,0,none⟩)] w fun e w'=>e=.returned (.int .i64 (qZ D))/\Below w.heap.size w w':=by
 have d4:w.cell? ⟨p,4,none⟩=some (.int .i64 D.room):=hV.cells.cell 4
 have d6:w.cell? ⟨p,6,none⟩=some (.map none):=by have:=hV.cells.cell 6;rw[e6]at this;exact this
 have r0:=hf.r0
 have r1:=hf.r1
 have hfr:qZ D=max D.room 0:=by unfold qZ;rw[hs];simp[jbF]
 rw[hfr]
 have hrg:=run_range_nilMap (P:=Tryz.prog) w 88 9 3 Tryz.underlying88
 have hnx:∀ty,(Instr.next (.pointer (some ⟨w.heap.size,0,none⟩)) false ty).run Tryz.prog (w.alloc (.mapIter none 0 #[] 0))=_:=fun ty=>run_next_nilMap w ty 0 0 #[]
 have HB:=jnc ((jne _ w).alloc (jnd _) (.mapIter none 0 #[] 0))
 clear hfr e6 hs
 go_enter Tryz.func37,Tryz.ntmps37
 go_wp2
 refine wp_loop_rounds 1 ?_
 rw[rounds_succ]
 go_wp2
 go_ret
 exact⟨rfl,HB.out⟩
theorem jce{w:World}{T:Nat->Nat}{p n:Nat}{D:ji}{V:JW}(hV:zc w T p D V)(hf:zJ n D)(hn:n<=400000):
  Calls Tryz.prog 37 #[.pointer (some ⟨p,0,none⟩)] w fun e w'=>e=.returned (.int .i64 (qZ D))/\Below w.heap.size w w':=by
 rcases hV.m6 with ⟨e6,hs⟩|⟨b6,e6,_⟩
 ·exact jih hV hf e6 hs
 exact jfN hV hf hn b6 e6
def Zf(D:ji)(k:Int):ji:={D with units:=D.units+vg D.armed D.left k,left:=(if D.armed then D.left-vg D.armed D.left k else D.left),gone:=(D.gone || (D.armed&&decide (D.left<k)))}
theorem XK{w:World}{T:Nat->Nat}{p n:Nat}{D:ji}{V:JW}(hV:zc w T p D V)(hf:zJ n D)(hn:n<=400000)(k:Nat)(hk:k<=60000):
  Calls Tryz.prog 64 #[.pointer (some ⟨p,0,none⟩),.int .i64 k] w fun e w'=>e=.returned (.int .i64 (vg D.armed D.left k))/\zc w' T p (Zf D k) V/\vd w T w' T:=by
 refine(Yc p 94 D.units D.left D.armed D.gone D.room V.v5 V.v6 V.v7 V.v8 V.v9 k w hV.cells (by omega) hf.l0 hf.u0 (by have:=hf.u1;omega) (by omega) hf.l1).mono ?_
 rintro e w' ⟨rfl,hc,ho⟩
 exact⟨rfl,hV.power (D':=Zf D k) hc ho rfl rfl rfl rfl,jeD hV.tp ho⟩
theorem KU(D:ji)(n k:Nat)(hf:zJ n D):∃m:Nat,vg D.armed D.left k=m/\m<=k/\(m<k->D.armed=true/\D.left=m):=by
 have h0:=hf.l0
 unfold vg
 cases hq:D.armed
 ·exact⟨k,by simp,jnd _,fun h=>by omega⟩
 by_cases h:D.left<k
 ·exact⟨D.left.toNat,by simp[h];omega,by omega,fun _=>⟨rfl,by omega⟩⟩
 exact⟨k,by simp[h],jnd _,fun h=>by omega⟩
theorem XJ{n k:Nat}{D:ji}(h:zJ n D):zJ (n+k) (Zf D k):=by
 obtain⟨m,hm,hle,_⟩:=KU D n k h
 have h0:=h.l0;have h1:=h.l1;have h2:=h.u0;have h3:=h.u1
 have hl:0<=(if D.armed then D.left-vg D.armed D.left k else D.left)/\(if D.armed then D.left-vg D.armed D.left k else D.left)<=9223372036854775807:=by
  unfold vg
  cases hq:D.armed
  ·simpa using⟨h0,h1⟩
  by_cases hc:D.left<k
  ·simp[hc]
  simp[hc];omega
 refine⟨?_,?_,hl.1,hl.2,h.r0,h.r1,by have:=h.dirs;show D.sure.length+D.waits.length<=_;omega,by have:=h.nfiles;show D.files.length<=_;omega,by have:=h.nacts;show D.acts.length<=_;omega,fun f hf=>(h.files f hf).mono (jpb _ _),h.changes,h.names⟩
 ·show 0<=D.units+vg D.armed D.left k;rw[hm];omega
 show D.units+vg D.armed D.left k<=((n+k:Nat):Int);rw[hm];omega
theorem Gj{n k:Nat}{D:ji}(h:zJ n D){f:Nat}(hf:f<D.files.length)(a:qM)(hk:a.kind=2\/a.kind=3)(hat:a.kind=3->a.at_<=D.files[f].seen.length)(hb:a.bytes.size<=k)(h1:1<=k):
  zJ (n+k) {D with files:=D.files.set f (D.files[f].more a)}:=by
 have ok:=h.files _ (jn8 hf)
 have hu:=h.u1
 refine⟨h.u0,by show D.units<=((n+k:Nat):Int);omega,h.l0,h.l1,h.r0,h.r1,by have:=h.dirs;show D.sure.length+D.waits.length<=_;omega,by have:=h.nfiles;show(D.files.set f _).length<=_;rw[joO];omega,by have:=h.nacts;show D.acts.length<=_;omega,fun g hg => ?_,fun c hc=>by
  have:=h.changes c hc;exact⟨this.1,this.2.1,by show _<(D.files.set f _).length;rw[joO];exact this.2.2⟩,fun x hx=>by show _<(D.files.set f _).length;rw[joO];exact h.names x hx⟩
 rcases joE hg with hg|rfl
 ·exact(h.files g hg).mono (jpb _ _)
 refine⟨Qd a _ _ ok.fits hat,?_,?_,?_,fun b hb => ?_⟩
 ·show D.files[f].sure.size+Xm (D.files[f].waits++[a])<=_
  rw[jfp];have:=ok.len;omega
 ·show Jr (D.files[f].waits++[a])<=_
  rw[jaJ];have:=ok.units;split<;>omega
 ·show(D.files[f].waits++[a]).length<=_
  have:=ok.many;simp;omega
 rcases List.mem_append.1 hb with hb|hb
 ·exact ok.kinds b hb
 obtain rfl:b=a:=by simpa using hb
 omega
end Go.Proofs.YtpibhbjmcmfnmaaGreatDoor.Vf
namespace Go.Proofs.YtpibhbjmcmfnmaaGreatDoor.Vf
open Go.RowKit Go.Maps
attribute [local go_sem] jT vL xo jjg Kt
def qi(z t:ByteArray)(m:Nat):qM:=⟨2,z,⟨#[]⟩,t.extract 0 m,0⟩
def zp(D:ji)(z t:ByteArray):ji×Nat :=
 if (zP D z []).2≠0 then (D,(zP D z []).2) else if qZ D<t.size then (D,4)
 else (if 0<(vg D.armed D.left t.size).toNat then {Zf D t.size with files:=QK D.files (zP D z []).1 fun f=>f.more (qi z t (vg D.armed D.left t.size).toNat),acts:=D.acts++[qi z t (vg D.armed D.left t.size).toNat]} else Zf D t.size,
  if (vg D.armed D.left t.size).toNat<t.size then 3 else 0)
theorem Did.mk1{p:Nat}{units left:Int}{armed gone:Bool}{room:Int}{v5 v6 v7 v8 v9 v':Value}{n:Nat}{xs news:List Value}{w w':World}(hlt:p<w.heap.size)(hg:ja w' p 94 (jh units armed left gone room v5 v6 v7 v8 v9))
  (ho:w'.ownsRow 0 101 5 v' (n+1) (xs++news)) (hne:v9.ownBlock≠some p)
  (hk:v'.ownBlock=v9.ownBlock\/∃k,v'.ownBlock=some k/\w.heap.size<=k/\k<w'.heap.size) (hon:jv (fun r=>some r=v9.ownBlock) w w') :
  Did p (jh units armed left gone room v5 v6 v7 v8) v9 n xs news w (w'.setCell ⟨p,9,none⟩ v'):=Did.mk' hlt (jv.refl _ w) hg ho hne hk hon
theorem jcM{w:World}{T:Nat->Nat}{p n:Nat}{D:ji}{V:JW}(hV:zc w T p D V)(hf:zJ n D)(hn:n<=300000)(z t:ByteArray)(hz:z.size<=1000000)(ht:t.size<=60000)(f:Nat)(ha:zP D z []=(f,0))(hfl:f<D.files.length)
  (hfree:¬qZ D<t.size) (m:Nat) (hm:vg D.armed D.left t.size=m) (hmt:m<=t.size) (hm0:0<m) :
  Calls Tryz.prog 29 #[.pointer (some ⟨p,0,none⟩),.string z,.string t] w fun e w'=>e=.returned (qm (if m<t.size then 3 else 0)) /\
   ∃T',zK w' T' p {Zf D t.size with files:=QK D.files f fun x=>x.more (qi z t m),acts:=D.acts++[qi z t m]}/\vd w T w' T':=by
 have R:=xQ (n:=n) hV z [] 1 ((jne _ w).alloc (jnd _) (.cells #[.string z] 9)) (by simp) (jle w z _) (by simpa using hz) (by simp)
 have e0:vy (zm D.gone [z]) (ya D.seen z.data.toList)=zP D z []:=rfl
 rw[e0,ha]at R
 dsimp only at R
 obtain⟨i0,hi,hz0,hz1,hz2⟩:=info_parts YF
 have HFr:=jnc (fun w1 (hb:Below w.heap.size w w1)=>jce (hV.below hb) hf (by omega))
 have HSp:=jnc (fun w1 (hb:Below w.heap.size w w1)=>by
  have:=XK (hV.below hb) hf (by omega) t.size ht
  rw[hm]at this
  exact this)
 have HF1:=jnc (XJ (k:=t.size) hf)
 have hnf:=hf.nfiles
 have hna:=hf.nacts
 have hfr0:0<=qZ D:=by unfold qZ;omega
 have hfr1:qZ D<=9223372036854775807:=by unfold qZ;have:=hf.r1;have:=hf.r0;omega
 have hgt:decide ((t.size:Int)>qZ D)=false:=decide_eq_false (by omega)
 have hgt2:decide (qZ D<(t.size:Int))=false:=decide_eq_false (by omega)
 have hm1:decide ((m:Int)>0)=true:=decide_eq_true (by omega)
 have hm2:decide ((0:Int)<(m:Int))=true:=decide_eq_true (by omega)
 generalize qZ D=fr at *
 clear e0 ha hm hfree
 have hps:(t.extract 0 m).size<=60000:=by rw[jnu,vA,jnk,<- jnu];omega
 have WA:qi z t m=⟨2,z,⟨#[]⟩,t.extract 0 m,0⟩:=rfl
 rw[WA]
 clear WA
 have HPC:=jnc (rfl:t.extract 0 m=t.extract 0 m)
 by_cases hlt:m<t.size
 all_goals
  have hlt':decide ((m:Int)<(t.size:Int))=decide (m<t.size):=by simp
  first
   | (have hl3:decide ((m:Int)<(t.size:Int))=true:=decide_eq_true (by omega);rw[if_pos hlt])
   | (have hl3:decide ((m:Int)<(t.size:Int))=false:=decide_eq_false (by omega);rw[if_neg hlt])
  clear hlt'
  go_enter Tryz.func29,Tryz.ntmps29
  go_wp2_with fail
  refine R.mono ?_
  rintro e w1 ⟨rfl,hb⟩
  go_wp2_with fail
  refine(HFr.out w1 hb).mono ?_
  rintro e w2 ⟨rfl,hb2⟩
  have hb12:Below w.heap.size w w2:=hb.trans (hb2.mono hb.size)
  go_wp2_with fail
  refine(HSp.out w2 hb12).mono ?_
  rintro e w3 ⟨rfl,hd3,hs3⟩
  obtain⟨g,cap,cur,e8,hc8,_,_,_,_,tg,hfa⟩:=hd3.file (i:=f) hfl
  have d8:w3.cell? ⟨p,8,none⟩=some (.slice (some ⟨g,0,none⟩) D.files.length cap):=by have:=hd3.cells.cell 8;rw[e8]at this;exact this
  have hp3:=hd3.cells.lt
  have hb3:Below w3.heap.size w3 (w3.alloc (.cells #[.int .i64 2,.string z,.string ⟨#[]⟩,.string (t.extract 0 m),.int .i64 0] 101)):=(jne _ w3).alloc (jnd _) _
  have K:=jnc (fun W (hbW:Below w3.heap.size w3 W)=>Ko (hd3.below hbW) HF1.out (by omega) hfl e8 ⟨2,z,⟨#[]⟩,t.extract 0 m,0⟩ (.inl rfl) (fun h=>by cases h) hps)
  have HB3:=jnc hb3
  have LO:=jnc hd3.low
  have HS3:=jnc ((vd.below hb12).trans hs3)
  clear hb hb2 hb12 R HFr HSp hd3 hs3 e8 hc8 hfa hb3
  go_wp2
  go_region_law ((go_simp;go_at_call 65;refine(K.out _ (HB3.out.drew)).mono ?_;rintro e w4 ⟨rfl,T4,V4,hd4,hs4⟩))
  all_goals
   have bx:ja w4 w3.heap.size 101 #[.int .i64 2,.string z,.string ⟨#[]⟩,.string (t.extract 0 m),.int .i64 0] :=
    ((ja.new w3 101 #[.int .i64 2,.string z,.string ⟨#[]⟩,.string (t.extract 0 m),.int .i64 0]).drew).only hs4.only (fun h=>by have:=LO.out _ h;omega)
   have tp4:jH T4 (some p) 1:=fun b hb=>by cases hb;exact hd4.tp
   have hne4:Hid (V4.v9.ownBlock≠some p):=fun e=>vJ hd4.t9 tp4 (by decide) p e rfl
   have r9:Hid (w4.ownsRow 0 101 5 V4.v9 D.acts.length (jA D.acts)):=hd4.r9
   have d9:w4.cell? ⟨p,9,none⟩=some V4.v9:=hd4.cells.cell 9
   have hp4:=hd4.cells.lt
   have C4:=jnc hd4.cells
   have b0:=bx.cell 0;have b1:=bx.cell 1;have b2:=bx.cell 2;have b3:=bx.cell 3;have b4:=bx.cell 4
   simp at b0 b1 b2 b3 b4
   have HD4:=jnc hd4
   have HS4:=jnc (HS3.out.trans ((vd.below HB3.out).trans hs4.undrew))
   clear hd4 hs4 bx K HB3 LO HS3 tp4 d8
   go_wp2
   go_region_law ((refine jP rfl (.tmp 52) (.tmp 54) 48 rfl 101 i0 _ 5 64 Tryz.underlying48 hi hz0 hz1 hz2 rfl (by decide) V4.v9 D.acts.length (jA D.acts) (by simp[Act.eval]) (by exact(r9.out.alloc _).drew) ⟨w4.heap.size,0,none⟩ 1 1 [.int .i64 2,.string z,.string ⟨#[]⟩,.string (t.extract 0 m),.int .i64 0] (by simp[Act.eval]) rfl (jS w4 101 [.int .i64 2,.string z,.string ⟨#[]⟩,.string (t.extract 0 m),.int .i64 0]) (by intro u hu;simp at hu;rcases hu with rfl | rfl | rfl | rfl | rfl<;>rfl) (by unfold maxLen;omega) (by omega) ?_);intro v' w' ho hgr hbk;obtain⟨⟨g',cap',rfl⟩,hg',hbx,hk,hon⟩:=qu C4.out r9.out hne4.out (((jne _ w4).alloc (jnd _) _).drew) ho hgr hbk;have k9:w'.cell? ⟨p,9,none⟩=some V4.v9:=hg'.cell 9;have kf9:=hg'.frozen 9)
   all_goals
    obtain⟨T5,v9',hd5,hs5⟩:=HD4.out.did (a:=⟨2,z,⟨#[]⟩,t.extract 0 m,0⟩) (D':={Zf D t.size with files:=D.files.set f (D.files[f].more ⟨2,z,⟨#[]⟩,t.extract 0 m,0⟩),acts:=D.acts++[⟨2,z,⟨#[]⟩,t.extract 0 m,0⟩]}) (Did.mk1 HD4.out.cells.lt hg' ho hne4.out hk hon) rfl rfl rfl rfl
    have HD5:=jnc hd5
    have HS5:=jnc (HS4.out.trans hs5)
    clear hd5 hs5 ho hgr hbk hg' hbx hk hon HD4 HS4 C4 r9
    go_wp2
    go_ret
    exact⟨rfl,T5,⟨_,by unfold QK;rw[dif_pos hfl];exact HD5.out⟩,HS5.out⟩
end Go.Proofs.YtpibhbjmcmfnmaaGreatDoor.Vf
