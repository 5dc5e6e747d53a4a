/- Texts put together:VN,VO,DM,VP,VQ,VR. -/
import Derived.Test.YtpibhbjmcmfnmaaGreatDoorBfn3
set_option linter.unusedVariables false
set_option maxRecDepth 100000
set_option maxHeartbeats 16000000
namespace Go.Proofs.YtpibhbjmcmfnmaaGreatDoor
abbrev jmj:=@List.mem_cons_of_mem
abbrev jmE:=@List.length_map
abbrev jmH:=@List.take_of_length_le
abbrev jnC:=@List.drop_length
abbrev jnI:=@List.length_set
abbrev jnO:=@Go.World.ownsRow_nil
abbrev jnP:=@Go.Lib.extract_data
abbrev jnX:=@List.drop_zero
abbrev jn9:=@List.mem_of_find?_eq_some
end Go.Proofs.YtpibhbjmcmfnmaaGreatDoor
namespace Go.Proofs.YtpibhbjmcmfnmaaGreatDoor.Vf
open Go.RowKit
def zn:List vR->Int->List UInt8->List UInt8
 | [],_,s=>s
 | a::r,u,s=>if u<=0 then s else if a.kind=3 then zn r (u-1) (s.take a.at_) else zn r (u-(min u.toNat a.bytes.size:Nat)) (s++a.bytes.data.toList.take (min u.toNat a.bytes.size))
def xq:List vR->Nat->Prop
 | [],_=>True
 | a::r,n=>if a.kind=3 then a.at_<=n/\xq r a.at_ else xq r (n+a.bytes.size)
def Xi(l:List vR):Nat:=(l.map fun a=>a.bytes.size).sum
theorem Yl{l:List vR}{u:Int}{s:List UInt8}(h:u<=0):zn l u s=s:=by
 cases l with
 | nil=>rfl
 | cons a r=>unfold zn;rw[if_pos h]
theorem ZG{a:vR}{r:List vR}{u:Int}{s:List UInt8}(h:¬u<=0)(hk:a.kind=3):zn (a::r) u s=zn r (u-1) (s.take a.at_):=by
 conv=>lhs;unfold zn
 rw[if_neg h,if_pos hk]
theorem xD{a:vR}{r:List vR}{u:Int}{s:List UInt8}(h:¬u<=0)(hk:¬a.kind=3):
  zn (a::r) u s=zn r (u-(min u.toNat a.bytes.size:Nat)) (s++a.bytes.data.toList.take (min u.toNat a.bytes.size)):=by
 conv=>lhs;unfold zn
 rw[if_neg h,if_neg hk]
theorem jjh(l:List vR)(k:Nat)(h:k<l.length):(jx l)[k*5]?=some (.int .i64 l[k].kind)/\(jx l)[k*5+1]?=some (.string l[k].name)/\(jx l)[k*5+2]?=some (.string l[k].other)/\(jx l)[k*5+3]?=some (.string l[k].bytes)/\(jx l)[k*5+4]?=some (.int .i64 l[k].at_):=by
 induction l generalizing k with
 | nil=>simp at h
 | cons c cs ih =>
 have e:jx (c::cs)=[.int .i64 c.kind,.string c.name,.string c.other,.string c.bytes,.int .i64 c.at_]++jx cs:=rfl
 rw[e]
 cases k with
 | zero=>exact⟨rfl,rfl,rfl,rfl,rfl⟩
 | succ k =>
 have:=ih k (by simpa using h)
 simp only[List.getElem_cons_succ]
 have sh:∀j,([Value.int .i64 c.kind,.string c.name,.string c.other,.string c.bytes,.int .i64 c.at_]++jx cs)[(k+1)*5+j]?=(jx cs)[k*5+j]?:=by
  intro j
  rw[jmr (by simp;omega)]
  congr 1
  simp;omega
 exact⟨(sh 0).trans this.1,(sh 1).trans this.2.1,(sh 2).trans this.2.2.1,(sh 3).trans this.2.2.2.1,(sh 4).trans this.2.2.2.2⟩
theorem vX(s:ByteArray)(k:Nat):(s.extract 0 k).data.toList=s.data.toList.take k:=by
 rw[jnP,jnX,Nat.sub_zero]
theorem infoByte:(Tryz.prog.info? 5).map (fun i=>(i.zero,i.size,i.bytes))=some (some (.int .u8 0),1,1):=by kernel_rfl
theorem jc2(gf o:Nat)(sure:ByteArray)(gw cap n:Nat)(l:List vR)(u0:Int)(w:World)
  (hs:w.cell? ⟨gf,o,none⟩=some (.string sure)) (hv:w.cell? ⟨gf,o+1,none⟩=some (.slice (some ⟨gw,0,none⟩) l.length cap)) (hgf:gf<w.heap.size) (hown:w.ownsRow 0 101 5 (.slice (some ⟨gw,0,none⟩) l.length cap) l.length (jx l))
  (hf:xq l sure.size) (hlen:sure.size+Xi l<=1000000) (hw:(Lit.int .i64 u0).wf=true) (hk:∀a∈l,a.kind<=1000000) (hl:l.length<=1000000) :
  Calls Tryz.prog 59 #[.pointer (some ⟨gf,o,none⟩),.int .i64 u0] w fun e w'=>e=.returned (.string ⟨(zn l u0 sure.data.toList).toArray⟩)/\Below w.heap.size w w':=by
 have hn : -9223372036854775808<=u0/\u0<=9223372036854775807:=by
  simpa [Lit.wf,IntKind.min,IntKind.max,IntKind.signed,IntKind.bits]using hw
 obtain⟨i0,hi,hz0,hz1,hz2⟩:=info_parts infoByte
 have hcv:=Lib.run_convert_string_bytes (P:=Tryz.prog) w 9 153 5 sure Tryz.underlying9 Tryz.underlying153 Tryz.underlying5
 have hbr:=Yz.made w 5 sure (by omega)
 have hon:=xB (S:=fun _=>False) w 5 sure
 generalize Lib.bytesWorld w 5 sure=W1 at *
 generalize grownCap w sure.size 0 5=cap1 at *
 have hb1:Below w.heap.size w W1:=hon.to_below (jma _) (fun _ _ h=>h)
 have hv1:=(hb1.cell (p:=⟨gf,o+1,none⟩) hgf).trans hv
 have hgw:=(hown.lt gw rfl).2
 have BR:=jl9 hbr
 have HB:=jl9 hb1
 have HO:=jl9 hown
 have HF:=jl9 hf
 have HL:=jl9 hlen
 have HK:=jl9 hk
 have hsz:sure.size<=1000000:=by omega
 have hst:sure.data.toList.length=sure.size:=(jmq sure).symm
 have HT:=jl9 hst
 clear hbr hb1 hown hf hon hlen hw hk hst
 go_enter Tryz.func59,Tryz.ntmps59
 go_wp2
 go_loopw [1,5,19] (fun uv bv i wr=>∃(k:Nat) (u:Int) (cur:List UInt8) (g cp:Nat),k<=l.length/\i=.int .i64 k/\uv=.int .i64 u /\ -9223372036854775808<=u/\u<=9223372036854775807/\Yz wr g cp bv cur/\w.heap.size<=g/\Below w.heap.size w wr /\
   zn (l.drop k) u cur=zn l u0 sure.data.toList/\(0<u->xq (l.drop k) cur.length)/\cur.length+Xi (l.drop k)<=1000000) (fun _ _ i _=>l.length-(intOf i).toNat)
 case atStart=>exact⟨0,u0,sure.data.toList,w.heap.size,cap1,jmo _,rfl,rfl,hn.1,hn.2,BR.out,jma _,HB.out,rfl,fun _=>by rw[HT.out];exact HF.out,by rw[HT.out];exact HL.out⟩
 case round =>
 obtain⟨k,u,cur,g,cp,hk,rfl,rfl,hu1,hu2,hbr,hgl,hbel,hafter,hfit,hlen⟩:=hrel
 by_cases hlt:k<l.length
 ·obtain⟨q0,q1,q2,q3,q4⟩:=jjh l k hlt
  have hr:=zy HO.out hbel (jma _)
  have r0:=yk hr q0
  have r1:=yk hr q1
  have r2:=yk hr q2
  have r3:=yk hr q3
  have r4:=yk hr q4
  have hkd:l[k].kind<=1000000:=HK.out _ (jm9 hlt)
  have hdrop:l.drop k=l[k]::l.drop (k+1):=(List.getElem_cons_drop hlt).symm
  rw[hdrop]at hafter hfit hlen
  have hgw2:gw<wr.heap.size:=jmp hgw hbel.size
  have hwl:=hbel.size
  generalize l[k]=a at *
  obtain⟨kind,name,other,bytes,at_⟩:=a
  dsimp only at r0 r1 r2 r3 r4 hkd
  have hlen2:cur.length+(bytes.size+Xi (l.drop (k+1)))<=1000000:=by simpa [Xi]using hlen
  obtain⟨A,hA⟩:∃A,A=wr.alloc (.cells #[.int .i64 kind,.string name,.string other,.string bytes,.int .i64 at_] 101):=⟨_,rfl⟩
  have hbrA:Yz A g cp _ cur:=hbr.same (by rw[hA];exact jnp _ _ _ hbr.lt)
  have hbelA:Below w.heap.size w A:=by rw[hA];exact hbel.alloc hwl _
  have hAs:A.heap.size=wr.heap.size+1:=by rw[hA];simp
  obtain rfl:=hbr.val
  have hfits:=hbr.fits
  by_cases hu:u<=0
  ·rw[Yl hu]at hafter
   have hcv2:=hbrA.back 153 9 5 Tryz.underlying153 Tryz.underlying5 Tryz.underlying9
   rw[hA]at hcv2 hbelA
   have HBA:=jl9 hbelA
   have HAft:=jl9 hafter
   clear hdrop hafter hfit hlen hlen2 hbr hbrA hbel hbelA hr hA hAs q0 q1 q2 q3 q4
   go_wp2
   go_ret
   exact⟨by rw[<- HAft.out];rfl,HBA.out⟩
  have hfit:=hfit (by omega)
  by_cases h3:kind=3
  ·have e3:((kind:Int)==3)=true:=by subst h3;rfl
   rw[ZG hu h3]at hafter
   unfold xq at hfit
   simp only[if_pos h3]at hfit
   obtain⟨hat,hfit⟩:=hfit
   have hat2:at_<=cp:=by omega
   have hcut:=hbrA.cut at_ hat
   have hcl:(cur.take at_).length=at_:=by rw[jmi];omega
   have P:=jl9 (show(zn (l.drop (k+1)) (u-1) (cur.take at_)=zn l u0 sure.data.toList/\(0<u-1->xq (l.drop (k+1)) (cur.take at_).length)/\(cur.take at_).length+Xi (l.drop (k+1))<=1000000)/\Below w.heap.size w A/\Yz A g cp (.slice (some ⟨g,0,none⟩) at_ cp) (cur.take at_) from⟨⟨hafter,fun _=>by rw[hcl];exact hfit,by omega⟩,hbelA,hcut⟩)
   rw[hA]at P
   clear hdrop hafter hfit hlen hlen2 hbr hbrA hbel hbelA hr hA hAs q0 q1 q2 q3 q4 hcut hcl h3
   go_wp2
   go_roundw
   case rel=>exact⟨k+1,u-1,cur.take at_,g,cp,by omega,by go_num,rfl,by omega,by omega,P.out.2.2,hgl,P.out.2.1,P.out.1⟩
   case measure=>simp[intOf];omega
  have e3:((kind:Int)==3)=false:=by rw[beq_eq_false_iff_ne];omega
  rw[xD hu h3]at hafter
  unfold xq at hfit
  simp only[if_neg h3]at hfit
  dsimp only at hafter hfit
  have hm:min u (bytes.size:Int)=((min u.toNat bytes.size:Nat):Int):=by omega
  have hle:min u.toNat bytes.size<=bytes.size:=Nat.min_le_right _ _
  have hle2:((min u.toNat bytes.size:Nat):Int)<=u:=by omega
  have hcase:min u.toNat bytes.size=bytes.size\/u-((min u.toNat bytes.size:Nat):Int)<=0:=by omega
  generalize min u.toNat bytes.size=m at *
  have hwl2:(bytes.extract 0 m).size=m:=by rw[jmq,vX,jmi,<- jmq];omega
  have hwd:(bytes.extract 0 m).data.toList=bytes.data.toList.take m:=vX bytes m
  have P:=jl9 (show(zn (l.drop (k+1)) (u-(m:Nat)) (cur++(bytes.extract 0 m).data.toList)=zn l u0 sure.data.toList/\(0<u-(m:Nat)->xq (l.drop (k+1)) (cur++(bytes.extract 0 m).data.toList).length)/\(cur++(bytes.extract 0 m).data.toList).length+Xi (l.drop (k+1))<=1000000)/\Below w.heap.size w A/\Yz A g cp (.slice (some ⟨g,0,none⟩) cur.length cp) cur from by
   have e:(cur++(bytes.extract 0 m).data.toList).length=cur.length+m:=by rw[jmb,<- jmq,hwl2]
   refine⟨⟨by rw[hwd];exact hafter,fun hp => ?_,by omega⟩,hbelA,hbrA⟩
   rw[e]
   rcases hcase with h|h
   ·rw[h];exact hfit
   omega)
  have hsum:cur.length+(bytes.extract 0 m).size<=1000000000:=by omega
  have HS:=jl9 hAs
  rw[hA]at P HS
  clear hdrop hafter hfit hlen hlen2 hbr hbrA hbel hbelA hr hA hAs q0 q1 q2 q3 q4 h3 hwd hcase
  generalize hb':bytes.extract 0 m=piece at *
  go_wp2_with (at_builtin;refine JA rfl _ _ 153 9 rfl g cp 5 i0 Tryz.underlying153 Tryz.underlying9 hi hz0 hz1 hz2 _ cur rfl P.out.2.2 piece rfl hsum ?_)
  intro v' w' g' cap' hbr' hon' hg'
  obtain rfl:=hbr'.val
  have hbelw:Below w.heap.size w w':=P.out.2.1.trans (hon'.to_below (by rw[HS.out];omega) (fun r hr e=>by omega))
  have hgg:w.heap.size<=g':=by omega
  have HR:=jl9 hbr'
  have HBW:=jl9 hbelw
  clear hbr' hon' hg' hbelw hb' hm
  go_wp2
  go_roundw
  case rel=>exact⟨k+1,u-(m:Nat),cur++piece.data.toList,g',cap',by omega,by go_num,by first | rfl | (rw[hwl2]),by omega,by omega,HR.out,hgg,HBW.out,P.out.1⟩
  case measure=>simp[intOf];omega
 obtain rfl:k=l.length:=by omega
 rw[jnC]at hafter
 have hafter:cur=zn l u0 sure.data.toList:=hafter
 have hcv2:=hbr.back 153 9 5 Tryz.underlying153 Tryz.underlying5 Tryz.underlying9
 have HBA:=jl9 hbel
 have HAft:=jl9 hafter
 clear hafter hfit hlen hbr hbel
 go_wp2
 go_ret
 exact⟨by rw[<- HAft.out];rfl,HBA.out⟩
theorem jfo(gf o:Nat)(sure:ByteArray)(u0:Int)(w:World)
  (hs:w.cell? ⟨gf,o,none⟩=some (.string sure)) (hv:w.cell? ⟨gf,o+1,none⟩=some (.slice none 0 0)) (hgf:gf<w.heap.size) (hlen:sure.size<=1000000) :
  Calls Tryz.prog 59 #[.pointer (some ⟨gf,o,none⟩),.int .i64 u0] w fun e w'=>e=.returned (.string ⟨sure.data.toList.toArray⟩)/\Below w.heap.size w w':=by
 have hcv:=Lib.run_convert_string_bytes (P:=Tryz.prog) w 9 153 5 sure Tryz.underlying9 Tryz.underlying153 Tryz.underlying5
 have hbr:=Yz.made w 5 sure (by omega)
 have hon:=xB (S:=fun _=>False) w 5 sure
 generalize Lib.bytesWorld w 5 sure=W1 at *
 generalize grownCap w sure.size 0 5=cap1 at *
 have hb1:Below w.heap.size w W1:=hon.to_below (jma _) (fun _ _ h=>h)
 have hv1:=(hb1.cell (p:=⟨gf,o+1,none⟩) hgf).trans hv
 have hcv2:=hbr.back 153 9 5 Tryz.underlying153 Tryz.underlying5 Tryz.underlying9
 have HB:=jl9 hb1
 clear hbr hb1 hon
 go_enter Tryz.func59,Tryz.ntmps59
 go_wp2
 go_loopw [5,19] (fun b i wr=>b=.slice (some ⟨w.heap.size,0,none⟩) sure.size cap1/\i=.int .i64 0/\wr=W1) (fun _ i _=>0)
 case atStart=>exact⟨rfl,rfl,rfl⟩
 case round =>
 obtain⟨rfl,rfl,rfl⟩:=hrel
 go_wp2
 go_ret
 exact⟨rfl,HB.out⟩
structure jfu(w:World)(gf o:Nat)(sure:ByteArray)(vw:Value)(l:List vR)(size:Int):Prop where
 c0:w.cell? ⟨gf,o,none⟩=some (.string sure)
 c1:w.cell? ⟨gf,o+1,none⟩=some vw
 c2:w.cell? ⟨gf,o+2,none⟩=some (.int .i64 size)
 row:w.ownsRow 0 101 5 vw l.length (jx l)
theorem Ut(gf o:Nat)(sure:ByteArray)(vw:Value)(l:List vR)(size:Int)(u0:Int)(w:World)(h:jfu w gf o sure vw l size)(hgf:gf<w.heap.size)
  (hf:xq l sure.size) (hlen:sure.size+Xi l<=1000000) (hw:(Lit.int .i64 u0).wf=true) (hk:∀a∈l,a.kind<=1000000) (hl:l.length<=1000000) :
  Calls Tryz.prog 59 #[.pointer (some ⟨gf,o,none⟩),.int .i64 u0] w fun e w'=>e=.returned (.string ⟨(zn l u0 sure.data.toList).toArray⟩)/\Below w.heap.size w w':=by
 rcases h.row.2 with ⟨rfl,h0⟩|⟨g,cap,cur,rfl,_⟩
 ·have:l=[]:=jnb h0
  subst this
  exact jfo gf o sure u0 w h.c0 h.c1 hgf (by simpa [Xi]using hlen)
 exact jc2 gf o sure g cap 0 l u0 w h.c0 h.c1 hgf h.row hf hlen hw hk hl
theorem jeF(gf o:Nat)(cur:Array Value)(sure:ByteArray)(vw:Value)(l:List vR)(size:Int)(u0:Int)(w:World)(hc:ja w gf 98 cur)(h:jfu w gf o sure vw l size)
  (hf:xq l sure.size) (hlen:sure.size+Xi l<=1000000) (hw:(Lit.int .i64 u0).wf=true) (hk:∀a∈l,a.kind<=1000000) (hl:l.length<=1000000) :
  Calls Tryz.prog 51 #[.pointer (some ⟨gf,o,none⟩),.int .i64 u0] w fun e w'=>e=.returned (.tuple #[]) /\
   ja w' gf 98 (((cur.setIfInBounds o (.string ⟨(zn l u0 sure.data.toList).toArray⟩)).setIfInBounds (o+1) (.slice none 0 0)).setIfInBounds (o+2) (.int .i64 (zn l u0 sure.data.toList).length))/\jt (· = gf) w w':=by
 have C:=Ut gf o sure vw l size u0 w h hc.lt hf hlen hw hk hl
 have hz:(⟨(zn l u0 sure.data.toList).toArray⟩:ByteArray).size=(zn l u0 sure.data.toList).length:=by rw[jmq]
 generalize (⟨(zn l u0 sure.data.toList).toArray⟩:ByteArray)=res at *
 generalize (zn l u0 sure.data.toList).length=n at *
 obtain⟨c0,c1,c2,_⟩:=h
 have HC:=jl9 C
 have hgl:=hc.lt
 clear C hlen hl
 subst hz
 have G:=fun w1 (hb:Below w.heap.size w w1)=>show ja w1 gf 98 cur from hc.below hb hgl
 have G0:cur[o]?=some (.string sure):=by rw[<- hc.cell];exact c0
 have G1:cur[o+1]?=some vw:=by rw[<- hc.cell];exact c1
 have G2:cur[o+2]?=some (.int .i64 size):=by rw[<- hc.cell];exact c2
 go_enter Tryz.func51,Tryz.ntmps51
 go_wp2_with fail
 refine HC.out.mono ?_
 rintro e w1 ⟨rfl,hb⟩
 have g1:=G w1 hb
 have k0:w1.cell? ⟨gf,o,none⟩=some (.string sure):=(g1.cell _).trans G0
 have k1:w1.cell? ⟨gf,o+1,none⟩=some vw:=(g1.cell _).trans G1
 have k2:w1.cell? ⟨gf,o+2,none⟩=some (.int .i64 size):=(g1.cell _).trans G2
 have f0:=g1.frozen o
 have f1:=g1.frozen (o+1)
 have f2:=g1.frozen (o+2)
 have P:=jl9 (show ja (((w1.setCell ⟨gf,o,none⟩ (.string res)).setCell ⟨gf,o+1,none⟩ (.slice none 0 0)).setCell ⟨gf,o+2,none⟩ (.int .i64 res.size)) gf 98 _/\jt (· = gf) w _ from
  ⟨((g1.set o (.string res)).set (o+1) (.slice none 0 0)).set (o+2) (.int .i64 res.size),(((jt.of_below hb (jma _)).cellS o (.string res)).cellS (o+1) (.slice none 0 0)).cellS (o+2) (.int .i64 res.size)⟩)
 clear HC G G0 G1 G2 g1 hb c0 c1 c2
 go_wp2
 go_end0
 exact⟨rfl,P.out.1,P.out.2⟩
end Go.Proofs.YtpibhbjmcmfnmaaGreatDoor.Vf
namespace Go.Proofs.YtpibhbjmcmfnmaaGreatDoor.Vf
def Jd(s:List UInt8)(a:vR):List UInt8:=if a.kind=3 then s.take a.at_ else s++a.bytes.data.toList
def Qj(l:List vR)(s:List UInt8):List UInt8:=l.foldl Jd s
def ZP(l:List vR):Nat:=(l.map fun a=>if a.kind=3 then 1 else a.bytes.size).sum
theorem ZH:∀(l:List vR) (u:Int) (s:List UInt8),(ZP l:Int)<u->zn l u s=Qj l s
 | [],_,_,_=>rfl
 | a::r,u,s,h=>by
  have e:ZP (a::r)=(if a.kind=3 then 1 else a.bytes.size)+ZP r:=rfl
  have hu:¬u<=0:=by omega
  by_cases hk:a.kind=3
  ·rw[if_pos hk]at e
   rw[ZG hu hk,ZH r _ _ (by omega)]
   show _=Qj r (Jd s a)
   unfold Jd;rw[if_pos hk]
  rw[if_neg hk]at e
  have hm:min u.toNat a.bytes.size=a.bytes.size:=by omega
  rw[xD hu hk,hm,ZH r _ _ (by omega)]
  show _=Qj r (Jd s a)
  unfold Jd;rw[if_neg hk,jmH (by rw[<- jmq];exact jma _)]
theorem jbT(l:List vR)(a:vR)(s:List UInt8):Qj (l++[a]) s=Jd (Qj l s) a:=by unfold Qj;simp
theorem jec(l:List vR)(a:vR):Xi (l++[a])=Xi l+a.bytes.size:=by unfold Xi;simp
theorem UZ(l:List vR)(a:vR):ZP (l++[a])=ZP l+(if a.kind=3 then 1 else a.bytes.size):=by unfold ZP;simp
theorem Zx(a:vR):∀(l:List vR) (s:List UInt8),xq l s.length->(a.kind=3->a.at_<=(Qj l s).length)->xq (l++[a]) s.length
 | [],s,_,h=>by
  show xq [a] s.length
  unfold xq
  by_cases hk:a.kind=3
  ·rw[if_pos hk];exact⟨h hk,trivial⟩
  rw[if_neg hk];exact trivial
 | b::r,s,hf,h=>by
  show xq (b::(r++[a])) s.length
  unfold xq at hf ⊢
  by_cases hk:b.kind=3
  ·rw[if_pos hk]at hf ⊢
   refine⟨hf.1,?_⟩
   have e:(s.take b.at_).length=b.at_:=by rw[jmi];omega
   have:=Zx a r (s.take b.at_) (by rw[e];exact hf.2) (fun hh=>by have:=h hh;unfold Qj at this ⊢;simpa [Jd,hk]using this)
   rwa [e]at this
  rw[if_neg hk]at hf ⊢
  have e:(s++b.bytes.data.toList).length=s.length+b.bytes.size:=by rw[jmb,<- jmq]
  have:=Zx a r (s++b.bytes.data.toList) (by rw[e];exact hf) (fun hh=>by have:=h hh;unfold Qj at this ⊢;simpa [Jd,hk]using this)
  rwa [e]at this
theorem qA:∀(l:List vR) (s:List UInt8),(Qj l s).length<=s.length+Xi l
 | [],s=>jma _
 | a::r,s=>by
  have e:Xi (a::r)=a.bytes.size+Xi r:=rfl
  have:=qA r (Jd s a)
  have h2:(Jd s a).length<=s.length+a.bytes.size:=by
   unfold Jd;split
   ·rw[jmi];omega
   rw[jmb,<- jmq];exact jma _
  show(Qj r (Jd s a)).length<=_
  omega
theorem vo:∀(l:List vR) (u:Int) (s:List UInt8),(zn l u s).length<=s.length+Xi l
 | [],_,s=>jma _
 | a::r,u,s=>by
  have e:Xi (a::r)=a.bytes.size+Xi r:=rfl
  by_cases hu:u<=0
  ·rw[Yl hu];omega
  by_cases hk:a.kind=3
  ·rw[ZG hu hk]
   have:=vo r (u-1) (s.take a.at_)
   rw[jmi]at this;omega
  rw[xD hu hk]
  have:=vo r (u-(min u.toNat a.bytes.size:Nat)) (s++a.bytes.data.toList.take (min u.toNat a.bytes.size))
  rw[jmb,jmi,<- jmq]at this;omega
structure zR where
 sure:ByteArray
 waits:List vR
def zR.seen(f:zR):List UInt8:=Qj f.waits f.sure.data.toList
def zR.kept(f:zR)(u:Int):zR:=⟨⟨(zn f.waits u f.sure.data.toList).toArray⟩,[]⟩
structure jk where
 units:Int
 armed:Bool
 left:Int
 gone:Bool
 room:Int
 sure:Dir
 waits:List ql
 files:List zR
 acts:List vR
def jk.seen(D:jk):Dir:=vg D.waits D.sure
def jlJ:Int:=9223372036854775807
structure Qg(n:Nat)(f:zR):Prop where
 fits:xq f.waits f.sure.data.toList.length
 len:f.sure.size+Xi f.waits<=n
 units:ZP f.waits<=n
 many:f.waits.length<=n
 kinds:∀a∈f.waits,a.kind<=3
structure zX(n:Nat)(D:jk):Prop where
 u0:0<=D.units
 u1:D.units<=n
 l0:0<=D.left
 l1:D.left<=9223372036854775807
 r0:0<=D.room
 r1:D.room<=9223372036854775807
 dirs:D.sure.length+D.waits.length<=n
 nfiles:D.files.length<=n
 nacts:D.acts.length<=n
 files:∀f∈D.files,Qg n f
 changes:∀c∈D.waits,c.off.size<=1000000/\c.on.size<=1000000/\c.file<D.files.length
 names:∀x∈D.sure,x.2<D.files.length
theorem Qg.mono{n m:Nat}{f:zR}(h:Qg n f)(hm:n<=m):Qg m f:=⟨h.fits,by have:=h.len;omega,by have:=h.units;omega,by have:=h.many;omega,h.kinds⟩
theorem zX.mono{n m:Nat}{D:jk}(h:zX n D)(hm:n<=m):zX m D :=
 ⟨h.u0,by have:=h.u1;omega,h.l0,h.l1,h.r0,h.r1,by have:=h.dirs;omega,by have:=h.nfiles;omega,by have:=h.nacts;omega,fun f hf=>(h.files f hf).mono hm,h.changes,h.names⟩
theorem jbe{x y:List UInt8×Nat}:∀{l:Dir},y∈jg8 x l->y=x\/y∈l
 | [],h=>by simp[jg8]at h;exact .inl h
 | z::r,h=>by
  unfold jg8 at h
  split at h
  ·simpa using h
  rcases List.mem_cons.1 h with h|h
  ·exact .inr (by rw[h];simp)
  rcases jbe h with h|h
  ·exact .inl h
  exact .inr (jmj _ h)
theorem jcS{off on:List UInt8}{file:Nat}{l:Dir}{y:List UInt8×Nat}(h:y∈qK off on file l):y∈l\/y=(on,file):=by
 unfold qK at h
 split at h
 ·exact .inl (List.mem_filter.1 h).1
 unfold jjx at h
 rcases jbe h with h|h
 ·exact .inr h
 exact .inl (List.mem_filter.1 (List.mem_filter.1 h).1).1
theorem Kz(off on:List UInt8)(file:Nat)(l:Dir):(qK off on file l).length<=l.length+1:=by
 unfold qK
 split
 ·have:=Vz l off;omega
 have h1:=GV (jha l off) on file;have:=Vz l off;omega
theorem Vy:∀{cs:List ql} {l:Dir} {y:List UInt8×Nat},y∈vg cs l->y∈l\/∃c∈cs,y.2=c.file
 | [],_,_,h=>.inl h
 | c::cs,l,y,h=>by
  rcases Vy (cs:=cs) (l:=qK c.off.data.toList c.on.data.toList c.file l) h with h|⟨d,hd,e⟩
  ·rcases jcS h with h|h
   ·exact .inl h
   exact .inr ⟨c,by simp,by rw[h]⟩
  exact .inr ⟨d,by simp[hd],e⟩
theorem qu:∀(cs:List ql) (l:Dir),(vg cs l).length<=l.length+cs.length
 | [],l=>jma _
 | c::cs,l=>by
  have h1:=qu cs (qK c.off.data.toList c.on.data.toList c.file l)
  have h2:=Kz c.off.data.toList c.on.data.toList c.file l
  show(vg cs (qK c.off.data.toList c.on.data.toList c.file l)).length<=_
  simp only[jme];omega
theorem zX.seen_lt{n:Nat}{D:jk}(h:zX n D):∀x∈D.seen,x.2<D.files.length:=by
 intro x hx
 rcases Vy hx with hx|⟨c,hc,e⟩
 ·exact h.names x hx
 rw[e];exact(h.changes c hc).2.2
theorem jeY{l:Dir}{m:Nat}(h:∀x∈l,x.2<m){k:List UInt8}{f:Nat}(hf:yq l k=some f):f<m:=by
 unfold yq at hf
 cases hq:l.find? (fun p=>p.1==k) with
 | none=>rw[hq]at hf;simp at hf
 | some p =>
 rw[hq]at hf;simp at hf
 have:=h p (jn9 hq)
 omega
end Go.Proofs.YtpibhbjmcmfnmaaGreatDoor.Vf
namespace Go.Proofs.YtpibhbjmcmfnmaaGreatDoor.Vf
open Go.RowKit Go.Maps
def zQ(f:zR)(v:Value):List Value:=[.string f.sure,v,.int .i64 (f.seen.length:Nat)]
def jv:List zR->List Value->List Value
 | f::fs,v::vs=>zQ f v++jv fs vs
 | _,_=>[]
theorem yn:∀(fs:List zR) (vs:List Value),vs.length=fs.length->(jv fs vs).length=fs.length*3
 | [],_,_=>by simp[jv]
 | f::fs,[],h=>by simp at h
 | f::fs,v::vs,h=>by
  have:=yn fs vs (by simpa using h)
  simp only[jv,jmb,jme,zQ,jmB]at this ⊢;omega
structure Jw where
 v5:Value
 v6:Value
 v7:Value
 v8:Value
 v9:Value
 fvs:List Value
structure zc(w:World)(T:Nat->Nat)(p:Nat)(D:jk)(V:Jw):Prop where
 cells:ja w p 94 (jg D.units D.armed D.left D.gone D.room V.v5 V.v6 V.v7 V.v8 V.v9)
 tp:T p=1
 m5:zF w D.sure.length V.v5 D.sure
 t5:jD T (jo V.v5) 2
 m6:zF w D.seen.length V.v6 D.seen
 t6:jD T (jo V.v6) 3
 nil56:V.v5=.map none↔V.v6=.map none
 nilw:V.v5=.map none->D.waits=[]/\V.v7=.slice none 0 0
 r7:w.ownsRow 0 118 3 V.v7 D.waits.length (jP D.waits)
 t7:jD T V.v7.ownBlock 4
 r8:w.ownsRow 0 98 3 V.v8 D.files.length (jv D.files V.fvs)
 t8:jD T V.v8.ownBlock 5
 r9:w.ownsRow 0 101 5 V.v9 D.acts.length (jx D.acts)
 t9:jD T V.v9.ownBlock 6
 nf:V.fvs.length=D.files.length
 rf:∀i (h:i<D.files.length) (h':i<V.fvs.length),w.ownsRow 0 101 5 V.fvs[i] D.files[i].waits.length (jx D.files[i].waits)/\jD T V.fvs[i].ownBlock (7+i)
 low:∀b,T b≠0->b<w.heap.size
def zI(w:World)(T:Nat->Nat)(p:Nat)(D:jk):Prop:=∃V,zc w T p D V
theorem JP{w:World}{n:Nat}{v:Value}{l:Dir}(h:zF w n v l):zF w l.length v l:=by
 rcases h with h|⟨b,rfl,es,clock,hb,F,hs,hD⟩
 ·exact .inl h
 refine .inr ⟨b,rfl,es,clock,hb,F,?_,hD⟩
 have e:=congrArg Maps.size hD
 simp only[zO,Maps.size,length_read,jmE]at e
 omega
theorem zc.same{w w':World}{T:Nat->Nat}{p:Nat}{D:jk}{V:Jw}(h:zc w T p D V)(hs:∀b,T b≠0->w'.heap[b]?=w.heap[b]?)(hz:w.heap.size<=w'.heap.size):zc w' T p D V:=by
 have s:∀{o:Option Nat} {t:Nat},jD T o t->t≠0->∀b,o=some b->w'.heap[b]?=w.heap[b]?:=fun ht hne b hb=>hs b (by rw[ht b hb];exact hne)
 exact⟨(hs p (by rw[h.tp];decide)).trans h.cells,h.tp,h.m5.same (s h.t5 (by decide)),h.t5,h.m6.same (s h.t6 (by decide)),h.t6,h.nil56,h.nilw,jm h.r7 (s h.t7 (by decide)),h.t7,jm h.r8 (s h.t8 (by decide)),h.t8,
  jm h.r9 (s h.t9 (by decide)),h.t9,h.nf,fun i h1 h2=>⟨jm (h.rf i h1 h2).1 (s (h.rf i h1 h2).2 (by omega)),(h.rf i h1 h2).2⟩,fun b hb=>jmp (h.low b hb) hz⟩
theorem zc.below{w w':World}{T:Nat->Nat}{p:Nat}{D:jk}{V:Jw}(h:zc w T p D V)(hb:Below w.heap.size w w'):zc w' T p D V :=
 h.same (fun b hn=>hb.block b (h.low b hn)) hb.size
theorem zI.below{w w':World}{T:Nat->Nat}{p:Nat}{D:jk}(h:zI w T p D)(hb:Below w.heap.size w w'):zI w' T p D:=by
 obtain⟨V,h⟩:=h;exact⟨V,h.below hb⟩
theorem zc.power{w w':World}{T:Nat->Nat}{p:Nat}{D D':jk}{V:Jw}(h:zc w T p D V)(hc:ja w' p 94 (jg D'.units D'.armed D'.left D'.gone D'.room V.v5 V.v6 V.v7 V.v8 V.v9))(ho:jt (· = p) w w')
  (e1:D'.sure=D.sure) (e2:D'.waits=D.waits) (e3:D'.files=D.files) (e4:D'.acts=D.acts):zc w' T p D' V:=by
 have hs:∀b,T b≠0->T b≠1->w'.heap[b]?=w.heap[b]?:=fun b hb h1=>ho.same b (h.low b hb) (fun e=>h1 (by rw[e];exact h.tp))
 have s:∀{o:Option Nat} {t:Nat},jD T o t->2<=t->∀b,o=some b->w'.heap[b]?=w.heap[b]?:=fun ht hne b hb=>hs b (by rw[ht b hb];omega) (by rw[ht b hb];omega)
 have e5:D'.seen=D.seen:=by unfold jk.seen;rw[e1,e2]
 refine⟨hc,h.tp,?_,h.t5,?_,h.t6,h.nil56,?_,?_,h.t7,?_,h.t8,?_,h.t9,by rw[e3];exact h.nf,fun i h1 h2 => ?_,fun b hb=>jmp (h.low b hb) ho.size⟩
 ·rw[e1];exact h.m5.same (s h.t5 (by decide))
 ·rw[e5];exact h.m6.same (s h.t6 (by decide))
 ·rw[e2];exact h.nilw
 ·rw[e2];exact jm h.r7 (s h.t7 (by decide))
 ·rw[e3];exact jm h.r8 (s h.t8 (by decide))
 ·rw[e4];exact jm h.r9 (s h.t9 (by decide))
 have:=h.rf i (by rw[<- e3];exact h1) h2
 simp only[e3]
 exact⟨jm this.1 (s this.2 (by omega)),this.2⟩
theorem vp{T:Nat->Nat}{a b:Option Nat}{t u:Nat}(ha:jD T a t)(hb:jD T b u)(h:t≠u):∀k,a=some k->b≠some k:=fun k h1 h2=>h ((ha k h1).symm.trans (hb k h2))
theorem jhx{w w':World}{T:Nat->Nat}{p:Nat}(hp:T p=1)(ho:jt (· = p) w w'):vi w T w' T :=
 ⟨ho.mono fun r _ e=>by rw[e,hp];decide,fun _ _=>rfl⟩
theorem zc.did{w w':World}{T:Nat->Nat}{p:Nat}{D D':jk}{V:Jw}{a:vR}(h:zc w T p D V)
  (hd:Did p (jg D'.units D'.armed D'.left D'.gone D'.room V.v5 V.v6 V.v7 V.v8) V.v9 D.acts.length (jx D.acts) a.cells w w')
  (e1:D'.sure=D.sure) (e2:D'.waits=D.waits) (e3:D'.files=D.files) (e4:D'.acts=D.acts++[a]):∃T' v9',zc w' T' p D' {V with v9:=v9'}/\vi w T w' T':=by
 obtain⟨⟨v9',hc,hr,hk⟩,ho⟩:=hd
 have hl9:∀k,V.v9.ownBlock=some k->k<w.heap.size:=fun k hk=>(h.r9.lt k hk).2
 refine⟨vk T w.heap.size v9'.ownBlock 6,v9',?_,?_⟩
 ·have hs:∀b,T b≠0->T b≠1->T b≠6->w'.heap[b]?=w.heap[b]?:=fun b hb h1 h6=>ho.same b (h.low b hb) (by
   rintro(e|e)
   ·exact h1 (by rw[e];exact h.tp)
   exact h6 (h.t9 b e.symm))
  have s:∀{o:Option Nat} {t:Nat},jD T o t->2<=t->t≠6->∀b,o=some b->w'.heap[b]?=w.heap[b]?:=fun ht hne h6 b hb=>hs b (by rw[ht b hb];omega) (by rw[ht b hb];omega) (by rw[ht b hb];exact h6)
  have lo:∀{o:Option Nat} {t:Nat},jD T o t->t≠0->∀b,o=some b->b<w.heap.size:=fun ht hne b hb=>h.low b (by rw[ht b hb];exact hne)
  have e5:D'.seen=D.seen:=by unfold jk.seen;rw[e1,e2]
  refine⟨hc,by rw[zb (h.cells.lt)];exact h.tp,?_,jj h.t5 (lo h.t5 (by decide)),?_,jj h.t6 (lo h.t6 (by decide)),h.nil56,?_,?_,jj h.t7 (lo h.t7 (by decide)),?_,jj h.t8 (lo h.t8 (by decide)),?_,zS hk h.t9,by rw[e3];exact h.nf,fun i h1 h2 => ?_,qN h.low ho.size hk hl9⟩
  ·rw[e1];exact h.m5.same (s h.t5 (by decide) (by decide))
  ·rw[e5];exact h.m6.same (s h.t6 (by decide) (by decide))
  ·rw[e2];exact h.nilw
  ·rw[e2];exact jm h.r7 (s h.t7 (by decide) (by decide))
  ·rw[e3];exact jm h.r8 (s h.t8 (by decide) (by decide))
  ·rw[e4,jmb,xX];exact hr
  have:=h.rf i (by rw[<- e3];exact h1) h2
  simp only[e3]
  exact⟨jm this.1 (s this.2 (by omega) (by omega)),jj this.2 (lo this.2 (by omega))⟩
 exact⟨ho.mono fun r _ e=>by rcases e with e | e;rw[e,h.tp];decide;rw[h.t9 r e.symm];decide,fun r hr=>zb hr⟩
theorem jcE(cs:List ql)(c:ql)(l:Dir):vg (cs++[c]) l=qK c.off.data.toList c.on.data.toList c.file (vg cs l):=by unfold vg;simp
theorem ZC(cs:List ql)(c:ql):jP (cs++[c])=jP cs++c.cells:=by unfold jP;simp
theorem zc.dwaited{w w':World}{T:Nat->Nat}{p:Nat}{D:jk}{V:Jw}{c:ql}{nm:Nat}(h:zc w T p D V)
  (hd:Jv p (fun x y z=>jg D.units D.armed D.left D.gone D.room x y z V.v8 V.v9) V.v5 V.v6 V.v7 nm D.sure (qK c.off.data.toList c.on.data.toList c.file D.seen) D.waits.length (jP D.waits) c.cells w w') :
  ∃T' v5' v6' v7',zc w' T' p {D with waits:=D.waits++[c]} {V with v5:=v5',v6:=v6',v7:=v7'}/\vi w T w' T':=by
 obtain⟨⟨v5',v6',v7',hc,m5,m6,n5,n6,hr,k5,k6,k7,a1,a2,a3⟩,ho⟩:=hd
 have hl:∀{o:Option Nat} {t:Nat},jD T o t->t≠0->∀b,o=some b->b<w.heap.size:=fun ht hne b hb=>h.low b (by rw[ht b hb];exact hne)
 have q5:=zS k5 h.t5
 let T1:=vk T w.heap.size (jo v5') 2
 let T2:=vk T1 w.heap.size (jo v6') 3
 let T3:=vk T2 w.heap.size v7'.ownBlock 4
 have o1:∀r,r<w.heap.size->T1 r=T r:=fun r hr=>zb hr
 have o2:∀r,r<w.heap.size->T2 r=T r:=fun r hr=>(zb hr).trans (o1 r hr)
 have o3:∀r,r<w.heap.size->T3 r=T r:=fun r hr=>(zb hr).trans (o2 r hr)
 have oth:∀{o:Option Nat} {t:Nat},jD T o t->t≠0->jD T3 o t:=fun ht hne b hb=>by rw[o3 b (hl ht hne b hb)];exact ht b hb
 have t6':jD T1 (jo V.v6) 3:=jj h.t6 (hl h.t6 (by decide))
 have t7':jD T2 V.v7.ownBlock 4:=jj (jj h.t7 (hl h.t7 (by decide))) (hl h.t7 (by decide))
 have f5:jD T3 (jo v5') 2:=by
  intro b hb
  show vk T2 _ _ _ b=2
  unfold vk
  rw[if_neg (by rintro⟨_,e⟩;exact a2 b hb e)]
  show vk T1 _ _ _ b=2
  unfold vk
  rw[if_neg (by rintro⟨_,e⟩;exact a1 b hb e)]
  exact q5 b hb
 have f6:jD T3 (jo v6') 3:=by
  intro b hb
  show vk T2 _ _ _ b=3
  unfold vk
  rw[if_neg (by rintro⟨_,e⟩;exact a3 b hb e)]
  exact zS k6 t6' b hb
 have f7:jD T3 v7'.ownBlock 4:=zS k7 t7'
 have z1:=qN (t:=2) h.low ho.size k5 (hl h.t5 (by decide))
 have z2:=qN (t:=3) (m:=w'.heap.size) (lo:=w.heap.size) z1 (jma _) k6 (fun k hk=>jmp (hl h.t6 (by decide) k hk) ho.size)
 have z3:=qN (t:=4) (m:=w'.heap.size) (lo:=w.heap.size) z2 (jma _) k7 (fun k hk=>jmp (hl h.t7 (by decide) k hk) ho.size)
 have hs:∀b,T b≠0->T b≠1->T b≠3->T b≠4->w'.heap[b]?=w.heap[b]?:=fun b hb h1 h3 h4=>ho.same b (h.low b hb) (by
  rintro(e|e|e)
  ·exact h1 (by rw[e];exact h.tp)
  ·exact h3 (h.t6 b e.symm)
  exact h4 (h.t7 b e.symm))
 have s:∀{o:Option Nat} {t:Nat},jD T o t->5<=t->∀b,o=some b->w'.heap[b]?=w.heap[b]?:=fun ht hne b hb=>hs b (by rw[ht b hb];omega) (by rw[ht b hb];omega) (by rw[ht b hb];omega) (by rw[ht b hb];omega)
 refine⟨T3,v5',v6',v7',?_,⟨ho.mono fun r _ e=>by rcases e with e | e | e;rw[e,h.tp];decide;rw[h.t6 r e.symm];decide;rw[h.t7 r e.symm];decide,o3⟩⟩
 have es:jk.seen {D with waits:=D.waits++[c]}=qK c.off.data.toList c.on.data.toList c.file D.seen:=jcE _ _ _
 refine⟨hc,by rw[o3 p h.cells.lt];exact h.tp,JP m5,f5,by rw[es];exact JP m6,f6,⟨fun e=>absurd e n5,fun e=>absurd e n6⟩,fun e=>absurd e n5,?_,f7,
  jm h.r8 (s h.t8 (by decide)),oth h.t8 (by decide),jm h.r9 (s h.t9 (by decide)),oth h.t9 (by decide),h.nf,fun i h1 h2 => ?_,z3⟩
 ·show w'.ownsRow 0 _ 3 v7' (D.waits++[c]).length (jP (D.waits++[c]))
  rw[jmb,ZC];exact hr
 have:=h.rf i h1 h2
 exact⟨jm this.1 (s this.2 (by omega)),oth this.2 (by omega)⟩
theorem zc.dkept{w w':World}{T:Nat->Nat}{p:Nat}{D:jk}{V:Jw}{nm k:Nat}(h:zc w T p D V)
  (hd:jfw p (fun x y=>jg D.units D.armed D.left D.gone D.room V.v5 x y V.v8 V.v9) V.v5 nm (vg (D.waits.take k) D.sure) w w') :
  ∃T' v6',zc w' T' p {D with sure:=vg (D.waits.take k) D.sure,waits:=[]} {V with v6:=v6',v7:=.slice none 0 0}/\vi w T w' T':=by
 obtain⟨⟨v6',hc,m5,m6,hnil,hk⟩,ho⟩:=hd
 have hl:∀{o:Option Nat} {t:Nat},jD T o t->t≠0->∀b,o=some b->b<w.heap.size:=fun ht hne b hb=>h.low b (by rw[ht b hb];exact hne)
 have hk':qX w.heap.size w'.heap.size none (jo v6'):=hk
 have hs:∀b,T b≠0->T b≠1->T b≠2->w'.heap[b]?=w.heap[b]?:=fun b hb h1 h2=>ho.same b (h.low b hb) (by
  rintro(e|e)
  ·exact h1 (by rw[e];exact h.tp)
  exact h2 (h.t5 b e.symm))
 have s:∀{o:Option Nat} {t:Nat},jD T o t->3<=t->∀b,o=some b->w'.heap[b]?=w.heap[b]?:=fun ht hne b hb=>hs b (by rw[ht b hb];omega) (by rw[ht b hb];omega) (by rw[ht b hb];omega)
 refine⟨vk T w.heap.size (jo v6') 3,v6',?_,⟨ho.mono fun r _ e=>by rcases e with e | e;rw[e,h.tp];decide;rw[h.t5 r e.symm];decide,fun r hr=>zb hr⟩⟩
 refine⟨hc,by rw[zb h.cells.lt];exact h.tp,JP m5,jj h.t5 (hl h.t5 (by decide)),JP m6,zS hk' (fun b hb=>by cases hb),hnil,fun _=>⟨rfl,rfl⟩,jnO _ _ _ _,(fun b hb=>by cases hb),
  jm h.r8 (s h.t8 (by decide)),jj h.t8 (hl h.t8 (by decide)),jm h.r9 (s h.t9 (by decide)),jj h.t9 (hl h.t9 (by decide)),h.nf,fun i h1 h2 => ?_,qN h.low ho.size hk' (fun k hk=>by cases hk)⟩
 have:=h.rf i h1 h2
 exact⟨jm this.1 (s this.2 (by omega)),jj this.2 (hl this.2 (by omega))⟩
theorem jdC{w:World}{e:TypeId}{size:Nat}{v:Value}{n:Nat}{xs:List Value}(h:w.ownsRow 0 e size v n xs)(hn:0<n):
  ∃g cap cur,v=.slice (some ⟨g,0,none⟩) n cap/\ja w g e cur/\n<=cap/\cap<=maxLen/\cur.size=cap*size/\cur.toList.take (n*size)=xs:=by
 rcases h.2 with ⟨_,h⟩|⟨g,cap,cur,rfl,_,hg,h1,h2,h3,h4⟩
 ·omega
 exact⟨g,cap,cur,rfl,hg,h1,h2,h3,h4⟩
theorem Wf{w:World}{e:TypeId}{size:Nat}{g n cap:Nat}{cur:Array Value}{xs:List Value}(hc:ja w g e cur)(h1:n<=cap)(h2:cap<=maxLen)(h3:cur.size=cap*size)(h4:cur.toList.take (n*size)=xs)(hl:xs.length=n*size):
  w.ownsRow 0 e size (.slice (some ⟨g,0,none⟩) n cap) n xs:=⟨hl,.inr ⟨g,cap,cur,rfl,jmo _,hc,h1,h2,h3,h4⟩⟩
theorem jba:∀(fs:List zR) (vs:List Value) (i:Nat) (h:i<fs.length) (h':i<vs.length),(jv fs vs)[i*3]?=some (.string fs[i].sure)/\(jv fs vs)[i*3+1]?=some vs[i]/\(jv fs vs)[i*3+2]?=some (.int .i64 (fs[i].seen.length:Nat))
 | [],_,i,h,_=>by simp at h
 | f::fs,[],i,_,h'=>by simp at h'
 | f::fs,v::vs,0,_,_=>⟨rfl,rfl,rfl⟩
 | f::fs,v::vs,i+1,h,h'=>by
  have ih:=jba fs vs i (by simpa using h) (by simpa using h')
  have sh:∀j,(jv (f::fs) (v::vs))[(i+1)*3+j]?=(jv fs vs)[i*3+j]?:=by
   intro j
   show(zQ f v++jv fs vs)[_]?=_
   rw[jmr (by simp[zQ];omega)]
   congr 1
   simp[zQ];omega
  exact⟨(sh 0).trans ih.1,(sh 1).trans ih.2.1,(sh 2).trans ih.2.2⟩
theorem WT:∀(fs:List zR) (vs:List Value) (i:Nat) (f':zR) (v':Value),i<fs.length->i<vs.length ->
  jv (fs.set i f') (vs.set i v')=(((jv fs vs).set (i*3) (.string f'.sure)).set (i*3+1) v').set (i*3+2) (.int .i64 (f'.seen.length:Nat))
 | [],_,i,_,_,h,_=>by simp at h
 | f::fs,[],i,_,_,_,h'=>by simp at h'
 | f::fs,v::vs,0,f',v',_,_=>rfl
 | f::fs,v::vs,i+1,f',v',h,h'=>by
  have ih:=WT fs vs i f' v' (by simpa using h) (by simpa using h')
  show zQ f v++jv (fs.set i f') (vs.set i v')=(((zQ f v++jv fs vs).set _ _).set _ _).set _ _
  rw[ih]
  have sh:∀(xs:List Value) j (u:Value),(zQ f v++xs).set ((i+1)*3+j) u=zQ f v++xs.set (i*3+j) u:=by
   intro xs j u
   rw[List.set_append_right _ _ (by simp[zQ];omega)]
   congr 2
   simp[zQ];omega
  have s0:=sh (jv fs vs) 0 (.string f'.sure)
  rw[show(i+1)*3+0=(i+1)*3 by omega,show i*3+0=i*3 by omega]at s0
  rw[s0,sh,sh]
theorem zc.file{w:World}{T:Nat->Nat}{p:Nat}{D:jk}{V:Jw}(h:zc w T p D V){i:Nat}(hi:i<D.files.length):
  ∃g cap cur,V.v8=.slice (some ⟨g,0,none⟩) D.files.length cap/\ja w g 98 cur/\D.files.length<=cap/\cap<=maxLen/\cur.size=cap*3/\cur.toList.take (D.files.length*3)=jv D.files V.fvs/\T g=5 /\
   jfu w g (i*3) D.files[i].sure (V.fvs[i]'(by rw[h.nf];exact hi)) D.files[i].waits (D.files[i].seen.length:Nat):=by
 obtain⟨g,cap,cur,e,hc,h1,h2,h3,h4⟩:=jdC h.r8 (by omega)
 obtain⟨a0,a1,a2⟩:=jba D.files V.fvs i hi (by rw[h.nf];exact hi)
 have r8:=h.r8
 rw[e]at r8
 exact⟨g,cap,cur,e,hc,h1,h2,h3,h4,h.t8 g (by rw[e];rfl),⟨yk r8 a0,yk r8 a1,yk r8 a2,(h.rf i hi (by rw[h.nf];exact hi)).1⟩⟩
theorem jdp(l:List Value)(n i:Nat)(a b c:Value):(((l.set i a).set (i+1) b).set (i+2) c).take n=(((l.take n).set i a).set (i+1) b).set (i+2) c:=by
 rw[List.take_set,List.take_set,List.take_set]
theorem zc.fturned{w w':World}{T:Nat->Nat}{p:Nat}{D:jk}{V:Jw}(h:zc w T p D V){i:Nat}(hi:i<D.files.length){g cap:Nat}{cur:Array Value}(f':zR)(v':Value)
  (e8:V.v8=.slice (some ⟨g,0,none⟩) D.files.length cap) (c1:D.files.length<=cap) (c2:cap<=maxLen) (c3:cur.size=cap*3) (c4:cur.toList.take (D.files.length*3)=jv D.files V.fvs)
  (hc:ja w' g 98 (((cur.setIfInBounds (i*3) (.string f'.sure)).setIfInBounds (i*3+1) v').setIfInBounds (i*3+2) (.int .i64 (f'.seen.length:Nat))))
  (hr:w'.ownsRow 0 101 5 v' f'.waits.length (jx f'.waits)) (hk:qX w.heap.size w'.heap.size (V.fvs[i]'(by rw[h.nf];exact hi)).ownBlock v'.ownBlock\/v'.ownBlock=none)
  (ho:jt (fun r=>r=g\/some r=(V.fvs[i]'(by rw[h.nf];exact hi)).ownBlock) w w') :
  ∃T',zc w' T' p {D with files:=D.files.set i f'} {V with fvs:=V.fvs.set i v'}/\vi w T w' T':=by
 have hi':i<V.fvs.length:=by rw[h.nf];exact hi
 have tg:T g=5:=h.t8 g (by rw[e8];rfl)
 have ti:=(h.rf i hi hi').2
 have hl:∀{o:Option Nat} {t:Nat},jD T o t->t≠0->∀b,o=some b->b<w.heap.size:=fun ht hne b hb=>h.low b (by rw[ht b hb];exact hne)
 have hk':qX w.heap.size w'.heap.size (if v'.ownBlock=none then none else (V.fvs[i]'hi').ownBlock) v'.ownBlock:=by
  rcases hk with hk|hk
  ·by_cases hn:v'.ownBlock=none
   ·rw[if_pos hn];exact .inl hn
   rw[if_neg hn];exact hk
  rw[if_pos hk];exact .inl hk
 have ti':jD T (if v'.ownBlock=none then none else (V.fvs[i]'hi').ownBlock) (7+i):=by
  split
  ·intro b hb;cases hb
  exact ti
 have hs:∀b,T b≠0->T b≠5->T b≠7+i->w'.heap[b]?=w.heap[b]?:=fun b hb h1 h2=>ho.same b (h.low b hb) (by
  rintro(e|e)
  ·exact h1 (by rw[e];exact tg)
  exact h2 (ti b e.symm))
 have s:∀{o:Option Nat} {t:Nat},jD T o t->t≠0->t≠5->t≠7+i->∀b,o=some b->w'.heap[b]?=w.heap[b]?:=fun ht h0 h5 h7 b hb=>hs b (by rw[ht b hb];exact h0) (by rw[ht b hb];exact h5) (by rw[ht b hb];exact h7)
 refine⟨vk T w.heap.size v'.ownBlock (7+i),?_,⟨ho.mono fun r _ e=>by rcases e with e | e;rw[e,tg];decide;rw[ti r e.symm];omega,fun r hr=>zb hr⟩⟩
 refine⟨(hs p (by rw[h.tp];decide) (by rw[h.tp];decide) (by rw[h.tp];omega)).trans h.cells,by rw[zb h.cells.lt];exact h.tp,h.m5.same (s h.t5 (by decide) (by decide) (by omega)),jj h.t5 (hl h.t5 (by decide)),h.m6.same (s h.t6 (by decide) (by decide) (by omega)),jj h.t6 (hl h.t6 (by decide)),h.nil56,h.nilw,
  jm h.r7 (s h.t7 (by decide) (by decide) (by omega)),jj h.t7 (hl h.t7 (by decide)),?_,jj h.t8 (hl h.t8 (by decide)),jm h.r9 (s h.t9 (by decide) (by decide) (by omega)),jj h.t9 (hl h.t9 (by decide)),by simp[h.nf],fun j h1 h2 => ?_,qN h.low ho.size hk' (hl ti' (by omega))⟩
 ·show w'.ownsRow 0 _ 3 V.v8 (D.files.set i f').length (jv (D.files.set i f') (V.fvs.set i v'))
  rw[e8,jnI]
  refine Wf hc c1 c2 (by simp[c3]) ?_ ?_
  ·rw[WT _ _ _ _ _ hi hi',<- c4]
   simp only[Array.toList_setIfInBounds]
   exact jdp _ _ _ _ _ _
  have:=yn (D.files.set i f') (V.fvs.set i v') (by simp[h.nf])
  rw[this,jnI]
 simp only[jnI]at h1 h2
 by_cases hij:i=j
 ·subst hij
  simp only[List.getElem_set_self]
  exact⟨hr,zS hk' ti'⟩
 simp only[List.getElem_set_ne hij]
 have:=h.rf j h1 h2
 exact⟨jm this.1 (s this.2 (by omega) (by omega) (by omega)),jj this.2 (hl this.2 (by omega))⟩
def xA(D:jk):Bool := !(D.armed&&decide (D.left<1))
def GY(D:jk)(a:vR):jk:={D with units:=D.units+1,left:=(if D.armed then D.left-1 else D.left),acts:=D.acts++[a]}
def Ub(D:jk):jk:={D with gone:=true}
theorem jg6{w:World}{T:Nat->Nat}{p n:Nat}{D:jk}{V:Jw}(h:zc w T p D V)(hf:zX n D)(hn:n<=500000)(hc:xA D=false)(kind at_:Nat)(name other bytes:ByteArray):
  Calls Tryz.prog 62 #[.pointer (some ⟨p,0,none⟩),.agg #[.int .i64 kind,.string name,.string other,.string bytes,.int .i64 at_]] w fun e w' =>
   e=.returned (qi 3)/\zc w' T p (Ub D) V/\vi w T w' T:=by
 have hl0:=hf.l0
 obtain⟨ha,hl⟩:D.armed=true/\D.left<1:=by simpa [xA]using hc
 have hcl:=h.cells
 rw[ha]at hcl
 refine(ji0 p D.units D.left D.gone D.room V.v5 V.v6 V.v7 V.v8 V.v9 kind at_ name other bytes w hcl hf.u0 (by have:=hf.u1;omega) (by omega)).mono ?_
 rintro e w' ⟨rfl,hd,ho⟩
 refine⟨rfl,h.power (D':=Ub D) (by show ja w' p _ (jg D.units D.armed D.left true D.room _ _ _ _ _);rw[ha];exact hd) ho rfl rfl rfl rfl,jhx h.tp ho⟩
theorem jbd{w:World}{T:Nat->Nat}{p n:Nat}{D:jk}{V:Jw}(h:zc w T p D V)(hf:zX n D)(hn:n<=500000)(hc:xA D=true)(kind at_:Nat)(name other bytes:ByteArray):
  Calls Tryz.prog 62 #[.pointer (some ⟨p,0,none⟩),.agg #[.int .i64 kind,.string name,.string other,.string bytes,.int .i64 at_]] w fun e w' =>
   e=.returned (qi 0)/\∃T' v9',zc w' T' p (GY D ⟨kind,name,other,bytes,at_⟩) {V with v9:=v9'}/\vi w T w' T':=by
 have ha:D.armed=false\/1<=D.left:=by
  cases hq:D.armed
  ·exact .inl rfl
  right
  have:¬D.left<1:=by simpa [xA,hq]using hc
  omega
 refine(jll p D.units D.left D.armed D.gone D.room V.v5 V.v6 V.v7 V.v8 V.v9 kind at_ name other bytes D.acts.length (jx D.acts) w h.cells hf.u0 (by have:=hf.u1;omega) hf.l0 hf.l1 ha h.r9 (fun e=>(vp h.t9 (b:=some p) (u:=1) (fun b hb=>by cases hb;exact h.tp) (by decide) p e) rfl) (by have:=hf.nacts;omega)).mono ?_
 rintro e w' ⟨rfl,hd⟩
 exact⟨rfl,h.did (D':=GY D ⟨kind,name,other,bytes,at_⟩) (a:=⟨kind,name,other,bytes,at_⟩) hd rfl rfl rfl rfl⟩
theorem jeS{w:World}{T:Nat->Nat}{p n:Nat}{D:jk}{V:Jw}(h:zc w T p D V)(hf:zX n D)(hn:n<=500000)(off on:ByteArray)(file:Nat)(h1:off.size<=1000000)(h2:on.size<=1000000)(h3:file<=1000000):
  Calls Tryz.prog 63 #[.pointer (some ⟨p,5,none⟩),.agg #[.string off,.string on,.int .i64 file]] w fun e w'=>e=.returned (.tuple #[]) /\
   ∃T' v5' v6' v7',zc w' T' p {D with waits:=D.waits++[⟨off,on,file⟩]} {V with v5:=v5',v6:=v6',v7:=v7'}/\vi w T w' T':=by
 have tp:jD T (some p) 1:=fun b hb=>by cases hb;exact h.tp
 have hdl:=hf.dirs
 have hsl:=qu D.waits D.sure
 rcases h.m6 with ⟨e6,hl6⟩|⟨b6,e6,ho6⟩
 ·have e5:=h.nil56.2 e6
  have hs0:D.sure=[]:=by
   rcases h.m5 with ⟨_,hl⟩|⟨b5,e,_⟩
   ·exact hl
   rw[e5]at e;cases e
  have hcl:=h.cells
  rw[e5,e6]at hcl
  refine(jcC p D.units D.left D.armed D.gone D.room V.v7 V.v8 V.v9 0 D.waits.length (jP D.waits) off on file w hcl h.r7 (fun e=>vp h.t7 tp (by decide) p e rfl) (by omega) (by omega) h1 h2 h3).mono ?_
  rintro e w' ⟨rfl,hd⟩
  refine⟨rfl,h.dwaited (c:=⟨off,on,file⟩) (nm:=0+1) ?_⟩
  rw[e5,e6,hs0,hl6]
  exact hd
 obtain⟨b5,e5⟩:∃b5,V.v5=.map (some b5):=by
  rcases h.m5 with ⟨e,_⟩|⟨b5,e,_⟩
  ·have:=h.nil56.1 e;rw[e6]at this;cases this
  exact⟨b5,e⟩
 have hcl:=h.cells
 rw[e5,e6]at hcl
 have m5:=h.m5
 rw[e5]at m5
 have t5:=h.t5
 have t6:=h.t6
 rw[e5]at t5
 rw[e6]at t6
 have hsn:D.seen.length<=n:=by unfold jk.seen;omega
 refine(jcB p D.units D.left D.armed D.gone D.room b5 b6 V.v7 V.v8 V.v9 n D.sure D.seen D.waits.length (jP D.waits) off on file w hcl (m5.mono (by omega)) (ho6.mono (by omega)) h.r7
  (fun e=>vp h.t7 tp (by decide) p e rfl) (fun e=>vp t6 tp (by decide) b6 rfl (by rw[e])) (fun e=>vp h.t7 t6 (by decide) b6 e rfl) (fun e=>vp t5 tp (by decide) b5 rfl (by rw[e])) (fun e=>vp t5 t6 (by decide) b5 rfl (by rw[e];rfl)) (fun e=>vp h.t7 t5 (by decide) b5 e rfl)
  (by omega) (by omega) h1 h2 h3).mono ?_
 rintro e w' ⟨rfl,hd⟩
 refine⟨rfl,h.dwaited (c:=⟨off,on,file⟩) (nm:=n+1) ?_⟩
 rw[e5,e6]
 exact hd
theorem jeW{w:World}{T:Nat->Nat}{p n:Nat}{D:jk}{V:Jw}(h:zc w T p D V)(hf:zX n D)(hn:n<=500000)(m:Int)(hw:(Lit.int .i64 m).wf=true):
  Calls Tryz.prog 50 #[.pointer (some ⟨p,5,none⟩),.int .i64 m] w fun e w'=>e=.returned (.tuple #[]) /\
   ∃T' v6',zc w' T' p {D with sure:=vg (D.waits.take (yU m D.waits.length)) D.sure,waits:=[]} {V with v6:=v6',v7:=.slice none 0 0}/\vi w T w' T':=by
 have tp:jD T (some p) 1:=fun b hb=>by cases hb;exact h.tp
 have hdl:=hf.dirs
 by_cases h7:V.v7=.slice none 0 0
 ·have hz:D.waits.length=0:=by
   rcases h.r7.2 with ⟨_,hz⟩|⟨g,cap,cur,e,_⟩
   ·exact hz
   rw[h7]at e;cases e
  have hw0:D.waits=[]:=jnb hz
  have hcl:=h.cells
  rw[h7]at hcl
  refine(jeV p D.units D.left D.armed D.gone D.room V.v5 V.v6 V.v8 V.v9 D.sure.length D.sure m w hcl h.m5 (fun e=>vp h.t5 tp (by decide) p e rfl) hw).mono ?_
  rintro e w' ⟨rfl,hd⟩
  refine⟨rfl,h.dkept (nm:=D.sure.length) (k:=yU m D.waits.length) ?_⟩
  rw[hw0]
  have e:vg (List.take (yU m ([]:List ql).length) []) D.sure=D.sure:=by simp[vg]
  rw[e]
  exact hd
 obtain⟨g,cap,e7⟩:∃g cap,V.v7=.slice (some ⟨g,0,none⟩) D.waits.length cap:=by
  rcases h.r7.2 with ⟨e,_⟩|⟨g,cap,cur,e,_⟩
  ·exact absurd e h7
  exact⟨g,cap,e⟩
 rcases h.m5 with ⟨e5,hl5⟩|⟨b5,e5,ho5⟩
 ·exact absurd (h.nilw e5).2 h7
 have hcl:=h.cells
 rw[e5,e7]at hcl
 have r7:=h.r7
 rw[e7]at r7
 have t7:=h.t7
 rw[e7]at t7
 have t5:=h.t5
 rw[e5]at t5
 refine(jcG p D.units D.left D.armed D.gone D.room b5 V.v6 V.v8 V.v9 D.sure.length D.sure g cap D.waits m w hcl ho5 r7 (fun e=>vp t7 tp (by decide) g rfl (by rw[e])) (fun e=>vp t5 tp (by decide) b5 rfl (by rw[e])) (fun e=>vp t7 t5 (by decide) g rfl (by rw[e];rfl)) (by omega)
  (fun c hc=>⟨(hf.changes c hc).1,(hf.changes c hc).2.1,by have:=(hf.changes c hc).2.2;have:=hf.nfiles;omega⟩) hw).mono ?_
 rintro e w' ⟨rfl,hd⟩
 refine⟨rfl,h.dkept (nm:=D.sure.length+D.waits.length) (k:=yU m D.waits.length) ?_⟩
 rw[e5]
 exact hd
end Go.Proofs.YtpibhbjmcmfnmaaGreatDoor.Vf
