/- Texts put together:VN,VO,DM,VP,VQ,VR. -/
import Derived.Test.YtpibhbjmcmfnmaaGreatDoorBag3
set_option linter.unusedVariables false
set_option maxRecDepth 100000
set_option maxHeartbeats 16000000
namespace Go.Proofs.YtpibhbjmcmfnmaaGreatDoor
abbrev jnm:=@List.mem_cons_of_mem
abbrev jnD:=@List.take_of_length_le
abbrev jnI:=@List.length_map
abbrev jop:=@List.drop_zero
abbrev joI:=@List.drop_length
abbrev joO:=@List.length_set
abbrev joV:=@Go.World.ownsRow_nil
abbrev joX:=@Go.Lib.extract_data
abbrev jpi:=@List.mem_of_find?_eq_some
end Go.Proofs.YtpibhbjmcmfnmaaGreatDoor
namespace Go.Proofs.YtpibhbjmcmfnmaaGreatDoor.Vf
open Go.RowKit
def zu:List qM->Int->List UInt8->List UInt8
 | [],_,s=>s
 | a::r,u,s=>if u<=0 then s else if a.kind=3 then zu r (u-1) (s.take a.at_) else zu r (u-(min u.toNat a.bytes.size:Nat)) (s++a.bytes.data.toList.take (min u.toNat a.bytes.size))
def xg:List qM->Nat->Prop
 | [],_=>True
 | a::r,n=>if a.kind=3 then a.at_<=n/\xg r a.at_ else xg r (n+a.bytes.size)
def Xm(l:List qM):Nat:=(l.map fun a=>a.bytes.size).sum
theorem Xf{l:List qM}{u:Int}{s:List UInt8}(h:u<=0):zu l u s=s:=by
 cases l with
 | nil=>rfl
 | cons a r=>unfold zu;rw[if_pos h]
theorem Qp{a:qM}{r:List qM}{u:Int}{s:List UInt8}(h:¬u<=0)(hk:a.kind=3):zu (a::r) u s=zu r (u-1) (s.take a.at_):=by
 conv=>lhs;unfold zu
 rw[if_neg h,if_pos hk]
theorem Ja{a:qM}{r:List qM}{u:Int}{s:List UInt8}(h:¬u<=0)(hk:¬a.kind=3):
  zu (a::r) u s=zu r (u-(min u.toNat a.bytes.size:Nat)) (s++a.bytes.data.toList.take (min u.toNat a.bytes.size)):=by
 conv=>lhs;unfold zu
 rw[if_neg h,if_neg hk]
theorem jk6(l:List qM)(k:Nat)(h:k<l.length):(jA l)[k*5]?=some (.int .i64 l[k].kind)/\(jA l)[k*5+1]?=some (.string l[k].name)/\(jA l)[k*5+2]?=some (.string l[k].other)/\(jA l)[k*5+3]?=some (.string l[k].bytes)/\(jA l)[k*5+4]?=some (.int .i64 l[k].at_):=by
 induction l generalizing k with
 | nil=>simp at h
 | cons c cs ih =>
 have e:jA (c::cs)=[.int .i64 c.kind,.string c.name,.string c.other,.string c.bytes,.int .i64 c.at_]++jA cs:=rfl
 rw[e]
 cases k with
 | zero=>exact⟨rfl,rfl,rfl,rfl,rfl⟩
 | succ k =>
 have:=ih k (by simpa using h)
 simp only[List.getElem_cons_succ]
 have sh:∀j,([Value.int .i64 c.kind,.string c.name,.string c.other,.string c.bytes,.int .i64 c.at_]++jA cs)[(k+1)*5+j]?=(jA cs)[k*5+j]?:=by
  intro j
  rw[jnz (by simp;omega)]
  congr 1
  simp;omega
 exact⟨(sh 0).trans this.1,(sh 1).trans this.2.1,(sh 2).trans this.2.2.1,(sh 3).trans this.2.2.2.1,(sh 4).trans this.2.2.2.2⟩
theorem vA(s:ByteArray)(k:Nat):(s.extract 0 k).data.toList=s.data.toList.take k:=by
 rw[joX,jop,Nat.sub_zero]
theorem infoByte:(Tryz.prog.info? 5).map (fun i=>(i.zero,i.size,i.bytes))=some (some (.int .u8 0),1,1):=by kernel_rfl
theorem jef(gf o:Nat)(sure:ByteArray)(gw cap n:Nat)(l:List qM)(u0:Int)(w:World)
  (hs:w.cell? ⟨gf,o,none⟩=some (.string sure)) (hv:w.cell? ⟨gf,o+1,none⟩=some (.slice (some ⟨gw,0,none⟩) l.length cap)) (hgf:gf<w.heap.size) (hown:w.ownsRow 0 101 5 (.slice (some ⟨gw,0,none⟩) l.length cap) l.length (jA l))
  (hf:xg l sure.size) (hlen:sure.size+Xm l<=1000000) (hw:(Lit.int .i64 u0).wf=true) (hk:∀a∈l,a.kind<=1000000) (hl:l.length<=1000000) :
  Calls Tryz.prog 59 #[.pointer (some ⟨gf,o,none⟩),.int .i64 u0] w fun e w'=>e=.returned (.string ⟨(zu l u0 sure.data.toList).toArray⟩)/\Below w.heap.size w w':=by
 have hn : -9223372036854775808<=u0/\u0<=9223372036854775807:=by
  simpa [Lit.wf,IntKind.min,IntKind.max,IntKind.signed,IntKind.bits]using hw
 obtain⟨i0,hi,hz0,hz1,hz2⟩:=info_parts infoByte
 have hcv:=Lib.run_convert_string_bytes (P:=Tryz.prog) w 9 153 5 sure Tryz.underlying9 Tryz.underlying153 Tryz.underlying5
 have hbr:=Xw.made w 5 sure (by omega)
 have hon:=xY (S:=fun _=>False) w 5 sure
 generalize Lib.bytesWorld w 5 sure=W1 at *
 generalize grownCap w sure.size 0 5=cap1 at *
 have hb1:Below w.heap.size w W1:=hon.to_below (jnd _) (fun _ _ h=>h)
 have hv1:=(hb1.cell (p:=⟨gf,o+1,none⟩) hgf).trans hv
 have hgw:=(hown.lt gw rfl).2
 have BR:=jnc hbr
 have HB:=jnc hb1
 have HO:=jnc hown
 have HF:=jnc hf
 have HL:=jnc hlen
 have HK:=jnc hk
 have hsz:sure.size<=1000000:=by omega
 have hst:sure.data.toList.length=sure.size:=(jnu sure).symm
 have HT:=jnc hst
 clear hbr hb1 hown hf hon hlen hw hk hst
 go_enter Tryz.func59,Tryz.ntmps59
 go_wp2
 go_loopw [1,5,19] (fun uv bv i wr=>∃(k:Nat) (u:Int) (cur:List UInt8) (g cp:Nat),k<=l.length/\i=.int .i64 k/\uv=.int .i64 u /\ -9223372036854775808<=u/\u<=9223372036854775807/\Xw wr g cp bv cur/\w.heap.size<=g/\Below w.heap.size w wr /\
   zu (l.drop k) u cur=zu l u0 sure.data.toList/\(0<u->xg (l.drop k) cur.length)/\cur.length+Xm (l.drop k)<=1000000) (fun _ _ i _=>l.length-(intOf i).toNat)
 case atStart=>exact⟨0,u0,sure.data.toList,w.heap.size,cap1,jnt _,rfl,rfl,hn.1,hn.2,BR.out,jnd _,HB.out,rfl,fun _=>by rw[HT.out];exact HF.out,by rw[HT.out];exact HL.out⟩
 case round =>
 obtain⟨k,u,cur,g,cp,hk,rfl,rfl,hu1,hu2,hbr,hgl,hbel,hafter,hfit,hlen⟩:=hrel
 by_cases hlt:k<l.length
 ·obtain⟨q0,q1,q2,q3,q4⟩:=jk6 l k hlt
  have hr:=zL HO.out hbel (jnd _)
  have r0:=yH hr q0
  have r1:=yH hr q1
  have r2:=yH hr q2
  have r3:=yH hr q3
  have r4:=yH hr q4
  have hkd:l[k].kind<=1000000:=HK.out _ (jn8 hlt)
  have hdrop:l.drop k=l[k]::l.drop (k+1):=(List.getElem_cons_drop hlt).symm
  rw[hdrop]at hafter hfit hlen
  have hgw2:gw<wr.heap.size:=jnw hgw hbel.size
  have hwl:=hbel.size
  generalize l[k]=a at *
  obtain⟨kind,name,other,bytes,at_⟩:=a
  dsimp only at r0 r1 r2 r3 r4 hkd
  have hlen2:cur.length+(bytes.size+Xm (l.drop (k+1)))<=1000000:=by simpa [Xm]using hlen
  obtain⟨A,hA⟩:∃A,A=wr.alloc (.cells #[.int .i64 kind,.string name,.string other,.string bytes,.int .i64 at_] 101):=⟨_,rfl⟩
  have hbrA:Xw A g cp _ cur:=hbr.same (by rw[hA];exact jov _ _ _ hbr.lt)
  have hbelA:Below w.heap.size w A:=by rw[hA];exact hbel.alloc hwl _
  have hAs:A.heap.size=wr.heap.size+1:=by rw[hA];simp
  obtain rfl:=hbr.val
  have hfits:=hbr.fits
  by_cases hu:u<=0
  ·rw[Xf hu]at hafter
   have hcv2:=hbrA.back 153 9 5 Tryz.underlying153 Tryz.underlying5 Tryz.underlying9
   rw[hA]at hcv2 hbelA
   have HBA:=jnc hbelA
   have HAft:=jnc hafter
   clear hdrop hafter hfit hlen hlen2 hbr hbrA hbel hbelA hr hA hAs q0 q1 q2 q3 q4
   go_wp2
   go_ret
   exact⟨by rw[<- HAft.out];rfl,HBA.out⟩
  have hfit:=hfit (by omega)
  by_cases h3:kind=3
  ·have e3:((kind:Int)==3)=true:=by subst h3;rfl
   rw[Qp hu h3]at hafter
   unfold xg at hfit
   simp only[if_pos h3]at hfit
   obtain⟨hat,hfit⟩:=hfit
   have hat2:at_<=cp:=by omega
   have hcut:=hbrA.cut at_ hat
   have hcl:(cur.take at_).length=at_:=by rw[jnk];omega
   have P:=jnc (show(zu (l.drop (k+1)) (u-1) (cur.take at_)=zu l u0 sure.data.toList/\(0<u-1->xg (l.drop (k+1)) (cur.take at_).length)/\(cur.take at_).length+Xm (l.drop (k+1))<=1000000)/\Below w.heap.size w A/\Xw A g cp (.slice (some ⟨g,0,none⟩) at_ cp) (cur.take at_) from⟨⟨hafter,fun _=>by rw[hcl];exact hfit,by omega⟩,hbelA,hcut⟩)
   rw[hA]at P
   clear hdrop hafter hfit hlen hlen2 hbr hbrA hbel hbelA hr hA hAs q0 q1 q2 q3 q4 hcut hcl h3
   go_wp2
   go_roundw
   case rel=>exact⟨k+1,u-1,cur.take at_,g,cp,by omega,by go_num,rfl,by omega,by omega,P.out.2.2,hgl,P.out.2.1,P.out.1⟩
   case measure=>simp[intOf];omega
  have e3:((kind:Int)==3)=false:=by rw[beq_eq_false_iff_ne];omega
  rw[Ja hu h3]at hafter
  unfold xg at hfit
  simp only[if_neg h3]at hfit
  dsimp only at hafter hfit
  have hm:min u (bytes.size:Int)=((min u.toNat bytes.size:Nat):Int):=by omega
  have hle:min u.toNat bytes.size<=bytes.size:=Nat.min_le_right _ _
  have hle2:((min u.toNat bytes.size:Nat):Int)<=u:=by omega
  have hcase:min u.toNat bytes.size=bytes.size\/u-((min u.toNat bytes.size:Nat):Int)<=0:=by omega
  generalize min u.toNat bytes.size=m at *
  have hwl2:(bytes.extract 0 m).size=m:=by rw[jnu,vA,jnk,<- jnu];omega
  have hwd:(bytes.extract 0 m).data.toList=bytes.data.toList.take m:=vA bytes m
  have P:=jnc (show(zu (l.drop (k+1)) (u-(m:Nat)) (cur++(bytes.extract 0 m).data.toList)=zu l u0 sure.data.toList/\(0<u-(m:Nat)->xg (l.drop (k+1)) (cur++(bytes.extract 0 m).data.toList).length)/\(cur++(bytes.extract 0 m).data.toList).length+Xm (l.drop (k+1))<=1000000)/\Below w.heap.size w A/\Xw A g cp (.slice (some ⟨g,0,none⟩) cur.length cp) cur from by
   have e:(cur++(bytes.extract 0 m).data.toList).length=cur.length+m:=by rw[jnf,<- jnu,hwl2]
   refine⟨⟨by rw[hwd];exact hafter,fun hp => ?_,by omega⟩,hbelA,hbrA⟩
   rw[e]
   rcases hcase with h|h
   ·rw[h];exact hfit
   omega)
  have hsum:cur.length+(bytes.extract 0 m).size<=1000000000:=by omega
  have HS:=jnc hAs
  rw[hA]at P HS
  clear hdrop hafter hfit hlen hlen2 hbr hbrA hbel hbelA hr hA hAs q0 q1 q2 q3 q4 h3 hwd hcase
  generalize hb':bytes.extract 0 m=piece at *
  go_wp2_with (at_builtin;refine Za rfl _ _ 153 9 rfl g cp 5 i0 Tryz.underlying153 Tryz.underlying9 hi hz0 hz1 hz2 _ cur rfl P.out.2.2 piece rfl hsum ?_)
  intro v' w' g' cap' hbr' hon' hg'
  obtain rfl:=hbr'.val
  have hbelw:Below w.heap.size w w':=P.out.2.1.trans (hon'.to_below (by rw[HS.out];omega) (fun r hr e=>by omega))
  have hgg:w.heap.size<=g':=by omega
  have HR:=jnc hbr'
  have HBW:=jnc hbelw
  clear hbr' hon' hg' hbelw hb' hm
  go_wp2
  go_roundw
  case rel=>exact⟨k+1,u-(m:Nat),cur++piece.data.toList,g',cap',by omega,by go_num,by first | rfl | (rw[hwl2]),by omega,by omega,HR.out,hgg,HBW.out,P.out.1⟩
  case measure=>simp[intOf];omega
 obtain rfl:k=l.length:=by omega
 rw[joI]at hafter
 have hafter:cur=zu l u0 sure.data.toList:=hafter
 have hcv2:=hbr.back 153 9 5 Tryz.underlying153 Tryz.underlying5 Tryz.underlying9
 have HBA:=jnc hbel
 have HAft:=jnc hafter
 clear hafter hfit hlen hbr hbel
 go_wp2
 go_ret
 exact⟨by rw[<- HAft.out];rfl,HBA.out⟩
theorem jgK(gf o:Nat)(sure:ByteArray)(u0:Int)(w:World)
  (hs:w.cell? ⟨gf,o,none⟩=some (.string sure)) (hv:w.cell? ⟨gf,o+1,none⟩=some (.slice none 0 0)) (hgf:gf<w.heap.size) (hlen:sure.size<=1000000) :
  Calls Tryz.prog 59 #[.pointer (some ⟨gf,o,none⟩),.int .i64 u0] w fun e w'=>e=.returned (.string ⟨sure.data.toList.toArray⟩)/\Below w.heap.size w w':=by
 have hcv:=Lib.run_convert_string_bytes (P:=Tryz.prog) w 9 153 5 sure Tryz.underlying9 Tryz.underlying153 Tryz.underlying5
 have hbr:=Xw.made w 5 sure (by omega)
 have hon:=xY (S:=fun _=>False) w 5 sure
 generalize Lib.bytesWorld w 5 sure=W1 at *
 generalize grownCap w sure.size 0 5=cap1 at *
 have hb1:Below w.heap.size w W1:=hon.to_below (jnd _) (fun _ _ h=>h)
 have hv1:=(hb1.cell (p:=⟨gf,o+1,none⟩) hgf).trans hv
 have hcv2:=hbr.back 153 9 5 Tryz.underlying153 Tryz.underlying5 Tryz.underlying9
 have HB:=jnc hb1
 clear hbr hb1 hon
 go_enter Tryz.func59,Tryz.ntmps59
 go_wp2
 go_loopw [5,19] (fun b i wr=>b=.slice (some ⟨w.heap.size,0,none⟩) sure.size cap1/\i=.int .i64 0/\wr=W1) (fun _ i _=>0)
 case atStart=>exact⟨rfl,rfl,rfl⟩
 case round =>
 obtain⟨rfl,rfl,rfl⟩:=hrel
 go_wp2
 go_ret
 exact⟨rfl,HB.out⟩
structure jgR(w:World)(gf o:Nat)(sure:ByteArray)(vw:Value)(l:List qM)(size:Int):Prop where
 c0:w.cell? ⟨gf,o,none⟩=some (.string sure)
 c1:w.cell? ⟨gf,o+1,none⟩=some vw
 c2:w.cell? ⟨gf,o+2,none⟩=some (.int .i64 size)
 row:w.ownsRow 0 101 5 vw l.length (jA l)
theorem jay(gf o:Nat)(sure:ByteArray)(vw:Value)(l:List qM)(size:Int)(u0:Int)(w:World)(h:jgR w gf o sure vw l size)(hgf:gf<w.heap.size)
  (hf:xg l sure.size) (hlen:sure.size+Xm l<=1000000) (hw:(Lit.int .i64 u0).wf=true) (hk:∀a∈l,a.kind<=1000000) (hl:l.length<=1000000) :
  Calls Tryz.prog 59 #[.pointer (some ⟨gf,o,none⟩),.int .i64 u0] w fun e w'=>e=.returned (.string ⟨(zu l u0 sure.data.toList).toArray⟩)/\Below w.heap.size w w':=by
 rcases h.row.2 with ⟨rfl,h0⟩|⟨g,cap,cur,rfl,_⟩
 ·have:l=[]:=jn7 h0
  subst this
  exact jgK gf o sure u0 w h.c0 h.c1 hgf (by simpa [Xm]using hlen)
 exact jef gf o sure g cap 0 l u0 w h.c0 h.c1 hgf h.row hf hlen hw hk hl
theorem jfT(gf o:Nat)(cur:Array Value)(sure:ByteArray)(vw:Value)(l:List qM)(size:Int)(u0:Int)(w:World)(hc:ja w gf 98 cur)(h:jgR w gf o sure vw l size)
  (hf:xg l sure.size) (hlen:sure.size+Xm l<=1000000) (hw:(Lit.int .i64 u0).wf=true) (hk:∀a∈l,a.kind<=1000000) (hl:l.length<=1000000) :
  Calls Tryz.prog 51 #[.pointer (some ⟨gf,o,none⟩),.int .i64 u0] w fun e w'=>e=.returned (.tuple #[]) /\
   ja w' gf 98 (((cur.setIfInBounds o (.string ⟨(zu l u0 sure.data.toList).toArray⟩)).setIfInBounds (o+1) (.slice none 0 0)).setIfInBounds (o+2) (.int .i64 (zu l u0 sure.data.toList).length))/\jv (· = gf) w w':=by
 have C:=jay gf o sure vw l size u0 w h hc.lt hf hlen hw hk hl
 have hz:(⟨(zu l u0 sure.data.toList).toArray⟩:ByteArray).size=(zu l u0 sure.data.toList).length:=by rw[jnu]
 generalize (⟨(zu l u0 sure.data.toList).toArray⟩:ByteArray)=res at *
 generalize (zu l u0 sure.data.toList).length=n at *
 obtain⟨c0,c1,c2,_⟩:=h
 have HC:=jnc C
 have hgl:=hc.lt
 clear C hlen hl
 subst hz
 have G:=fun w1 (hb:Below w.heap.size w w1)=>show ja w1 gf 98 cur from hc.below hb hgl
 have G0:cur[o]?=some (.string sure):=by rw[<- hc.cell];exact c0
 have G1:cur[o+1]?=some vw:=by rw[<- hc.cell];exact c1
 have G2:cur[o+2]?=some (.int .i64 size):=by rw[<- hc.cell];exact c2
 go_enter Tryz.func51,Tryz.ntmps51
 go_wp2_with fail
 refine HC.out.mono ?_
 rintro e w1 ⟨rfl,hb⟩
 have g1:=G w1 hb
 have k0:w1.cell? ⟨gf,o,none⟩=some (.string sure):=(g1.cell _).trans G0
 have k1:w1.cell? ⟨gf,o+1,none⟩=some vw:=(g1.cell _).trans G1
 have k2:w1.cell? ⟨gf,o+2,none⟩=some (.int .i64 size):=(g1.cell _).trans G2
 have f0:=g1.frozen o
 have f1:=g1.frozen (o+1)
 have f2:=g1.frozen (o+2)
 have P:=jnc (show ja (((w1.setCell ⟨gf,o,none⟩ (.string res)).setCell ⟨gf,o+1,none⟩ (.slice none 0 0)).setCell ⟨gf,o+2,none⟩ (.int .i64 res.size)) gf 98 _/\jv (· = gf) w _ from
  ⟨((g1.set o (.string res)).set (o+1) (.slice none 0 0)).set (o+2) (.int .i64 res.size),(((jv.of_below hb (jnd _)).cellS o (.string res)).cellS (o+1) (.slice none 0 0)).cellS (o+2) (.int .i64 res.size)⟩)
 clear HC G G0 G1 G2 g1 hb c0 c1 c2
 go_wp2
 go_end0
 exact⟨rfl,P.out.1,P.out.2⟩
end Go.Proofs.YtpibhbjmcmfnmaaGreatDoor.Vf
namespace Go.Proofs.YtpibhbjmcmfnmaaGreatDoor.Vf
def Jl(s:List UInt8)(a:qM):List UInt8:=if a.kind=3 then s.take a.at_ else s++a.bytes.data.toList
def ZP(l:List qM)(s:List UInt8):List UInt8:=l.foldl Jl s
def Jr(l:List qM):Nat:=(l.map fun a=>if a.kind=3 then 1 else a.bytes.size).sum
theorem Jk:∀(l:List qM) (u:Int) (s:List UInt8),(Jr l:Int)<u->zu l u s=ZP l s
 | [],_,_,_=>rfl
 | a::r,u,s,h=>by
  have e:Jr (a::r)=(if a.kind=3 then 1 else a.bytes.size)+Jr r:=rfl
  have hu:¬u<=0:=by omega
  by_cases hk:a.kind=3
  ·rw[if_pos hk]at e
   rw[Qp hu hk,Jk r _ _ (by omega)]
   show _=ZP r (Jl s a)
   unfold Jl;rw[if_pos hk]
  rw[if_neg hk]at e
  have hm:min u.toNat a.bytes.size=a.bytes.size:=by omega
  rw[Ja hu hk,hm,Jk r _ _ (by omega)]
  show _=ZP r (Jl s a)
  unfold Jl;rw[if_neg hk,jnD (by rw[<- jnu];exact jnd _)]
theorem XL(l:List qM)(a:qM)(s:List UInt8):ZP (l++[a]) s=Jl (ZP l s) a:=by unfold ZP;simp
theorem jfp(l:List qM)(a:qM):Xm (l++[a])=Xm l+a.bytes.size:=by unfold Xm;simp
theorem jaJ(l:List qM)(a:qM):Jr (l++[a])=Jr l+(if a.kind=3 then 1 else a.bytes.size):=by unfold Jr;simp
theorem Qd(a:qM):∀(l:List qM) (s:List UInt8),xg l s.length->(a.kind=3->a.at_<=(ZP l s).length)->xg (l++[a]) s.length
 | [],s,_,h=>by
  show xg [a] s.length
  unfold xg
  by_cases hk:a.kind=3
  ·rw[if_pos hk];exact⟨h hk,trivial⟩
  rw[if_neg hk];exact trivial
 | b::r,s,hf,h=>by
  show xg (b::(r++[a])) s.length
  unfold xg at hf ⊢
  by_cases hk:b.kind=3
  ·rw[if_pos hk]at hf ⊢
   refine⟨hf.1,?_⟩
   have e:(s.take b.at_).length=b.at_:=by rw[jnk];omega
   have:=Qd a r (s.take b.at_) (by rw[e];exact hf.2) (fun hh=>by have:=h hh;unfold ZP at this ⊢;simpa [Jl,hk]using this)
   rwa [e]at this
  rw[if_neg hk]at hf ⊢
  have e:(s++b.bytes.data.toList).length=s.length+b.bytes.size:=by rw[jnf,<- jnu]
  have:=Qd a r (s++b.bytes.data.toList) (by rw[e];exact hf) (fun hh=>by have:=h hh;unfold ZP at this ⊢;simpa [Jl,hk]using this)
  rwa [e]at this
theorem qP:∀(l:List qM) (s:List UInt8),(ZP l s).length<=s.length+Xm l
 | [],s=>jnd _
 | a::r,s=>by
  have e:Xm (a::r)=a.bytes.size+Xm r:=rfl
  have:=qP r (Jl s a)
  have h2:(Jl s a).length<=s.length+a.bytes.size:=by
   unfold Jl;split
   ·rw[jnk];omega
   rw[jnf,<- jnu];exact jnd _
  show(ZP r (Jl s a)).length<=_
  omega
theorem vH:∀(l:List qM) (u:Int) (s:List UInt8),(zu l u s).length<=s.length+Xm l
 | [],_,s=>jnd _
 | a::r,u,s=>by
  have e:Xm (a::r)=a.bytes.size+Xm r:=rfl
  by_cases hu:u<=0
  ·rw[Xf hu];omega
  by_cases hk:a.kind=3
  ·rw[Qp hu hk]
   have:=vH r (u-1) (s.take a.at_)
   rw[jnk]at this;omega
  rw[Ja hu hk]
  have:=vH r (u-(min u.toNat a.bytes.size:Nat)) (s++a.bytes.data.toList.take (min u.toNat a.bytes.size))
  rw[jnf,jnk,<- jnu]at this;omega
structure jY where
 sure:ByteArray
 waits:List qM
def jY.seen(f:jY):List UInt8:=ZP f.waits f.sure.data.toList
def jY.kept(f:jY)(u:Int):jY:=⟨⟨(zu f.waits u f.sure.data.toList).toArray⟩,[]⟩
structure ji where
 units:Int
 armed:Bool
 left:Int
 gone:Bool
 room:Int
 sure:Dir
 waits:List zo
 files:List jY
 acts:List qM
def ji.seen(D:ji):Dir:=zX D.waits D.sure
def jgH:Int:=9223372036854775807
structure xp(n:Nat)(f:jY):Prop where
 fits:xg f.waits f.sure.data.toList.length
 len:f.sure.size+Xm f.waits<=n
 units:Jr f.waits<=n
 many:f.waits.length<=n
 kinds:∀a∈f.waits,a.kind<=3
structure zJ(n:Nat)(D:ji):Prop where
 u0:0<=D.units
 u1:D.units<=n
 l0:0<=D.left
 l1:D.left<=9223372036854775807
 r0:0<=D.room
 r1:D.room<=9223372036854775807
 dirs:D.sure.length+D.waits.length<=n
 nfiles:D.files.length<=n
 nacts:D.acts.length<=n
 files:∀f∈D.files,xp n f
 changes:∀c∈D.waits,c.off.size<=1000000/\c.on.size<=1000000/\c.file<D.files.length
 names:∀x∈D.sure,x.2<D.files.length
theorem xp.mono{n m:Nat}{f:jY}(h:xp n f)(hm:n<=m):xp m f:=⟨h.fits,by have:=h.len;omega,by have:=h.units;omega,by have:=h.many;omega,h.kinds⟩
theorem zJ.mono{n m:Nat}{D:ji}(h:zJ n D)(hm:n<=m):zJ m D :=
 ⟨h.u0,by have:=h.u1;omega,h.l0,h.l1,h.r0,h.r1,by have:=h.dirs;omega,by have:=h.nfiles;omega,by have:=h.nacts;omega,fun f hf=>(h.files f hf).mono hm,h.changes,h.names⟩
theorem jcn{x y:List UInt8×Nat}:∀{l:Dir},y∈jiE x l->y=x\/y∈l
 | [],h=>by simp[jiE]at h;exact .inl h
 | z::r,h=>by
  unfold jiE at h
  split at h
  ·simpa using h
  rcases List.mem_cons.1 h with h|h
  ·exact .inr (by rw[h];simp)
  rcases jcn h with h|h
  ·exact .inl h
  exact .inr (jnm _ h)
theorem jd4{off on:List UInt8}{file:Nat}{l:Dir}{y:List UInt8×Nat}(h:y∈ve off on file l):y∈l\/y=(on,file):=by
 unfold ve at h
 split at h
 ·exact .inl (List.mem_filter.1 h).1
 unfold jlh at h
 rcases jcn h with h|h
 ·exact .inr h
 exact .inl (List.mem_filter.1 (List.mem_filter.1 h).1).1
theorem WY(off on:List UInt8)(file:Nat)(l:Dir):(ve off on file l).length<=l.length+1:=by
 unfold ve
 split
 ·have:=YU l off;omega
 have h1:=jbg (jiG l off) on file;have:=YU l off;omega
theorem YT:∀{cs:List zo} {l:Dir} {y:List UInt8×Nat},y∈zX cs l->y∈l\/∃c∈cs,y.2=c.file
 | [],_,_,h=>.inl h
 | c::cs,l,y,h=>by
  rcases YT (cs:=cs) (l:=ve c.off.data.toList c.on.data.toList c.file l) h with h|⟨d,hd,e⟩
  ·rcases jd4 h with h|h
   ·exact .inl h
   exact .inr ⟨c,by simp,by rw[h]⟩
  exact .inr ⟨d,by simp[hd],e⟩
theorem qF:∀(cs:List zo) (l:Dir),(zX cs l).length<=l.length+cs.length
 | [],l=>jnd _
 | c::cs,l=>by
  have h1:=qF cs (ve c.off.data.toList c.on.data.toList c.file l)
  have h2:=WY c.off.data.toList c.on.data.toList c.file l
  show(zX cs (ve c.off.data.toList c.on.data.toList c.file l)).length<=_
  simp only[jni];omega
theorem zJ.seen_lt{n:Nat}{D:ji}(h:zJ n D):∀x∈D.seen,x.2<D.files.length:=by
 intro x hx
 rcases YT hx with hx|⟨c,hc,e⟩
 ·exact h.names x hx
 rw[e];exact(h.changes c hc).2.2
theorem jge{l:Dir}{m:Nat}(h:∀x∈l,x.2<m){k:List UInt8}{f:Nat}(hf:ya l k=some f):f<m:=by
 unfold ya at hf
 cases hq:l.find? (fun p=>p.1==k) with
 | none=>rw[hq]at hf;simp at hf
 | some p =>
 rw[hq]at hf;simp at hf
 have:=h p (jpi hq)
 omega
end Go.Proofs.YtpibhbjmcmfnmaaGreatDoor.Vf
namespace Go.Proofs.YtpibhbjmcmfnmaaGreatDoor.Vf
open Go.RowKit Go.Maps
def qd(f:jY)(v:Value):List Value:=[.string f.sure,v,.int .i64 (f.seen.length:Nat)]
def jz:List jY->List Value->List Value
 | f::fs,v::vs=>qd f v++jz fs vs
 | _,_=>[]
theorem yK:∀(fs:List jY) (vs:List Value),vs.length=fs.length->(jz fs vs).length=fs.length*3
 | [],_,_=>by simp[jz]
 | f::fs,[],h=>by simp at h
 | f::fs,v::vs,h=>by
  have:=yK fs vs (by simpa using h)
  simp only[jz,jnf,jni,qd,jnG]at this ⊢;omega
structure JW where
 v5:Value
 v6:Value
 v7:Value
 v8:Value
 v9:Value
 fvs:List Value
structure zc(w:World)(T:Nat->Nat)(p:Nat)(D:ji)(V:JW):Prop where
 cells:ja w p 94 (jh D.units D.armed D.left D.gone D.room V.v5 V.v6 V.v7 V.v8 V.v9)
 tp:T p=1
 m5:zR w D.sure.length V.v5 D.sure
 t5:jH T (jt V.v5) 2
 m6:zR w D.seen.length V.v6 D.seen
 t6:jH T (jt V.v6) 3
 nil56:V.v5=.map none↔V.v6=.map none
 nilw:V.v5=.map none->D.waits=[]/\V.v7=.slice none 0 0
 r7:w.ownsRow 0 118 3 V.v7 D.waits.length (jU D.waits)
 t7:jH T V.v7.ownBlock 4
 r8:w.ownsRow 0 98 3 V.v8 D.files.length (jz D.files V.fvs)
 t8:jH T V.v8.ownBlock 5
 r9:w.ownsRow 0 101 5 V.v9 D.acts.length (jA D.acts)
 t9:jH T V.v9.ownBlock 6
 nf:V.fvs.length=D.files.length
 rf:∀i (h:i<D.files.length) (h':i<V.fvs.length),w.ownsRow 0 101 5 V.fvs[i] D.files[i].waits.length (jA D.files[i].waits)/\jH T V.fvs[i].ownBlock (7+i)
 low:∀b,T b≠0->b<w.heap.size
def zK(w:World)(T:Nat->Nat)(p:Nat)(D:ji):Prop:=∃V,zc w T p D V
theorem Zn{w:World}{n:Nat}{v:Value}{l:Dir}(h:zR w n v l):zR w l.length v l:=by
 rcases h with h|⟨b,rfl,es,clock,hb,F,hs,hD⟩
 ·exact .inl h
 refine .inr ⟨b,rfl,es,clock,hb,F,?_,hD⟩
 have e:=congrArg Maps.size hD
 simp only[zY,Maps.size,length_read,jnI]at e
 omega
theorem zc.same{w w':World}{T:Nat->Nat}{p:Nat}{D:ji}{V:JW}(h:zc w T p D V)(hs:∀b,T b≠0->w'.heap[b]?=w.heap[b]?)(hz:w.heap.size<=w'.heap.size):zc w' T p D V:=by
 have s:∀{o:Option Nat} {t:Nat},jH T o t->t≠0->∀b,o=some b->w'.heap[b]?=w.heap[b]?:=fun ht hne b hb=>hs b (by rw[ht b hb];exact hne)
 exact⟨(hs p (by rw[h.tp];decide)).trans h.cells,h.tp,h.m5.same (s h.t5 (by decide)),h.t5,h.m6.same (s h.t6 (by decide)),h.t6,h.nil56,h.nilw,jq h.r7 (s h.t7 (by decide)),h.t7,jq h.r8 (s h.t8 (by decide)),h.t8,
  jq h.r9 (s h.t9 (by decide)),h.t9,h.nf,fun i h1 h2=>⟨jq (h.rf i h1 h2).1 (s (h.rf i h1 h2).2 (by omega)),(h.rf i h1 h2).2⟩,fun b hb=>jnw (h.low b hb) hz⟩
theorem zc.below{w w':World}{T:Nat->Nat}{p:Nat}{D:ji}{V:JW}(h:zc w T p D V)(hb:Below w.heap.size w w'):zc w' T p D V :=
 h.same (fun b hn=>hb.block b (h.low b hn)) hb.size
theorem zK.below{w w':World}{T:Nat->Nat}{p:Nat}{D:ji}(h:zK w T p D)(hb:Below w.heap.size w w'):zK w' T p D:=by
 obtain⟨V,h⟩:=h;exact⟨V,h.below hb⟩
theorem zc.power{w w':World}{T:Nat->Nat}{p:Nat}{D D':ji}{V:JW}(h:zc w T p D V)(hc:ja w' p 94 (jh D'.units D'.armed D'.left D'.gone D'.room V.v5 V.v6 V.v7 V.v8 V.v9))(ho:jv (· = p) w w')
  (e1:D'.sure=D.sure) (e2:D'.waits=D.waits) (e3:D'.files=D.files) (e4:D'.acts=D.acts):zc w' T p D' V:=by
 have hs:∀b,T b≠0->T b≠1->w'.heap[b]?=w.heap[b]?:=fun b hb h1=>ho.same b (h.low b hb) (fun e=>h1 (by rw[e];exact h.tp))
 have s:∀{o:Option Nat} {t:Nat},jH T o t->2<=t->∀b,o=some b->w'.heap[b]?=w.heap[b]?:=fun ht hne b hb=>hs b (by rw[ht b hb];omega) (by rw[ht b hb];omega)
 have e5:D'.seen=D.seen:=by unfold ji.seen;rw[e1,e2]
 refine⟨hc,h.tp,?_,h.t5,?_,h.t6,h.nil56,?_,?_,h.t7,?_,h.t8,?_,h.t9,by rw[e3];exact h.nf,fun i h1 h2 => ?_,fun b hb=>jnw (h.low b hb) ho.size⟩
 ·rw[e1];exact h.m5.same (s h.t5 (by decide))
 ·rw[e5];exact h.m6.same (s h.t6 (by decide))
 ·rw[e2];exact h.nilw
 ·rw[e2];exact jq h.r7 (s h.t7 (by decide))
 ·rw[e3];exact jq h.r8 (s h.t8 (by decide))
 ·rw[e4];exact jq h.r9 (s h.t9 (by decide))
 have:=h.rf i (by rw[<- e3];exact h1) h2
 simp only[e3]
 exact⟨jq this.1 (s this.2 (by omega)),this.2⟩
theorem vJ{T:Nat->Nat}{a b:Option Nat}{t u:Nat}(ha:jH T a t)(hb:jH T b u)(h:t≠u):∀k,a=some k->b≠some k:=fun k h1 h2=>h ((ha k h1).symm.trans (hb k h2))
theorem jeD{w w':World}{T:Nat->Nat}{p:Nat}(hp:T p=1)(ho:jv (· = p) w w'):vd w T w' T :=
 ⟨ho.mono fun r _ e=>by rw[e,hp];decide,fun _ _=>rfl⟩
theorem zc.did{w w':World}{T:Nat->Nat}{p:Nat}{D D':ji}{V:JW}{a:qM}(h:zc w T p D V)
  (hd:Did p (jh D'.units D'.armed D'.left D'.gone D'.room V.v5 V.v6 V.v7 V.v8) V.v9 D.acts.length (jA D.acts) a.cells w w')
  (e1:D'.sure=D.sure) (e2:D'.waits=D.waits) (e3:D'.files=D.files) (e4:D'.acts=D.acts++[a]):∃T' v9',zc w' T' p D' {V with v9:=v9'}/\vd w T w' T':=by
 obtain⟨⟨v9',hc,hr,hk⟩,ho⟩:=hd
 have hl9:∀k,V.v9.ownBlock=some k->k<w.heap.size:=fun k hk=>(h.r9.lt k hk).2
 refine⟨vD T w.heap.size v9'.ownBlock 6,v9',?_,?_⟩
 ·have hs:∀b,T b≠0->T b≠1->T b≠6->w'.heap[b]?=w.heap[b]?:=fun b hb h1 h6=>ho.same b (h.low b hb) (by
   rintro(e|e)
   ·exact h1 (by rw[e];exact h.tp)
   exact h6 (h.t9 b e.symm))
  have s:∀{o:Option Nat} {t:Nat},jH T o t->2<=t->t≠6->∀b,o=some b->w'.heap[b]?=w.heap[b]?:=fun ht hne h6 b hb=>hs b (by rw[ht b hb];omega) (by rw[ht b hb];omega) (by rw[ht b hb];exact h6)
  have lo:∀{o:Option Nat} {t:Nat},jH T o t->t≠0->∀b,o=some b->b<w.heap.size:=fun ht hne b hb=>h.low b (by rw[ht b hb];exact hne)
  have e5:D'.seen=D.seen:=by unfold ji.seen;rw[e1,e2]
  refine⟨hc,by rw[zj (h.cells.lt)];exact h.tp,?_,jl h.t5 (lo h.t5 (by decide)),?_,jl h.t6 (lo h.t6 (by decide)),h.nil56,?_,?_,jl h.t7 (lo h.t7 (by decide)),?_,jl h.t8 (lo h.t8 (by decide)),?_,qf hk h.t9,by rw[e3];exact h.nf,fun i h1 h2 => ?_,vi h.low ho.size hk hl9⟩
  ·rw[e1];exact h.m5.same (s h.t5 (by decide) (by decide))
  ·rw[e5];exact h.m6.same (s h.t6 (by decide) (by decide))
  ·rw[e2];exact h.nilw
  ·rw[e2];exact jq h.r7 (s h.t7 (by decide) (by decide))
  ·rw[e3];exact jq h.r8 (s h.t8 (by decide) (by decide))
  ·rw[e4,jnf,Jv];exact hr
  have:=h.rf i (by rw[<- e3];exact h1) h2
  simp only[e3]
  exact⟨jq this.1 (s this.2 (by omega) (by omega)),jl this.2 (lo this.2 (by omega))⟩
 exact⟨ho.mono fun r _ e=>by rcases e with e | e;rw[e,h.tp];decide;rw[h.t9 r e.symm];decide,fun r hr=>zj hr⟩
theorem jdR(cs:List zo)(c:zo)(l:Dir):zX (cs++[c]) l=ve c.off.data.toList c.on.data.toList c.file (zX cs l):=by unfold zX;simp
theorem Qj(cs:List zo)(c:zo):jU (cs++[c])=jU cs++c.cells:=by unfold jU;simp
theorem zc.dwaited{w w':World}{T:Nat->Nat}{p:Nat}{D:ji}{V:JW}{c:zo}{nm:Nat}(h:zc w T p D V)
  (hd:JX p (fun x y z=>jh D.units D.armed D.left D.gone D.room x y z V.v8 V.v9) V.v5 V.v6 V.v7 nm D.sure (ve c.off.data.toList c.on.data.toList c.file D.seen) D.waits.length (jU D.waits) c.cells w w') :
  ∃T' v5' v6' v7',zc w' T' p {D with waits:=D.waits++[c]} {V with v5:=v5',v6:=v6',v7:=v7'}/\vd w T w' T':=by
 obtain⟨⟨v5',v6',v7',hc,m5,m6,n5,n6,hr,k5,k6,k7,a1,a2,a3⟩,ho⟩:=hd
 have hl:∀{o:Option Nat} {t:Nat},jH T o t->t≠0->∀b,o=some b->b<w.heap.size:=fun ht hne b hb=>h.low b (by rw[ht b hb];exact hne)
 have q5:=qf k5 h.t5
 let T1:=vD T w.heap.size (jt v5') 2
 let T2:=vD T1 w.heap.size (jt v6') 3
 let T3:=vD T2 w.heap.size v7'.ownBlock 4
 have o1:∀r,r<w.heap.size->T1 r=T r:=fun r hr=>zj hr
 have o2:∀r,r<w.heap.size->T2 r=T r:=fun r hr=>(zj hr).trans (o1 r hr)
 have o3:∀r,r<w.heap.size->T3 r=T r:=fun r hr=>(zj hr).trans (o2 r hr)
 have oth:∀{o:Option Nat} {t:Nat},jH T o t->t≠0->jH T3 o t:=fun ht hne b hb=>by rw[o3 b (hl ht hne b hb)];exact ht b hb
 have t6':jH T1 (jt V.v6) 3:=jl h.t6 (hl h.t6 (by decide))
 have t7':jH T2 V.v7.ownBlock 4:=jl (jl h.t7 (hl h.t7 (by decide))) (hl h.t7 (by decide))
 have f5:jH T3 (jt v5') 2:=by
  intro b hb
  show vD T2 _ _ _ b=2
  unfold vD
  rw[if_neg (by rintro⟨_,e⟩;exact a2 b hb e)]
  show vD T1 _ _ _ b=2
  unfold vD
  rw[if_neg (by rintro⟨_,e⟩;exact a1 b hb e)]
  exact q5 b hb
 have f6:jH T3 (jt v6') 3:=by
  intro b hb
  show vD T2 _ _ _ b=3
  unfold vD
  rw[if_neg (by rintro⟨_,e⟩;exact a3 b hb e)]
  exact qf k6 t6' b hb
 have f7:jH T3 v7'.ownBlock 4:=qf k7 t7'
 have z1:=vi (t:=2) h.low ho.size k5 (hl h.t5 (by decide))
 have z2:=vi (t:=3) (m:=w'.heap.size) (lo:=w.heap.size) z1 (jnd _) k6 (fun k hk=>jnw (hl h.t6 (by decide) k hk) ho.size)
 have z3:=vi (t:=4) (m:=w'.heap.size) (lo:=w.heap.size) z2 (jnd _) k7 (fun k hk=>jnw (hl h.t7 (by decide) k hk) ho.size)
 have hs:∀b,T b≠0->T b≠1->T b≠3->T b≠4->w'.heap[b]?=w.heap[b]?:=fun b hb h1 h3 h4=>ho.same b (h.low b hb) (by
  rintro(e|e|e)
  ·exact h1 (by rw[e];exact h.tp)
  ·exact h3 (h.t6 b e.symm)
  exact h4 (h.t7 b e.symm))
 have s:∀{o:Option Nat} {t:Nat},jH T o t->5<=t->∀b,o=some b->w'.heap[b]?=w.heap[b]?:=fun ht hne b hb=>hs b (by rw[ht b hb];omega) (by rw[ht b hb];omega) (by rw[ht b hb];omega) (by rw[ht b hb];omega)
 refine⟨T3,v5',v6',v7',?_,⟨ho.mono fun r _ e=>by rcases e with e | e | e;rw[e,h.tp];decide;rw[h.t6 r e.symm];decide;rw[h.t7 r e.symm];decide,o3⟩⟩
 have es:ji.seen {D with waits:=D.waits++[c]}=ve c.off.data.toList c.on.data.toList c.file D.seen:=jdR _ _ _
 refine⟨hc,by rw[o3 p h.cells.lt];exact h.tp,Zn m5,f5,by rw[es];exact Zn m6,f6,⟨fun e=>absurd e n5,fun e=>absurd e n6⟩,fun e=>absurd e n5,?_,f7,
  jq h.r8 (s h.t8 (by decide)),oth h.t8 (by decide),jq h.r9 (s h.t9 (by decide)),oth h.t9 (by decide),h.nf,fun i h1 h2 => ?_,z3⟩
 ·show w'.ownsRow 0 _ 3 v7' (D.waits++[c]).length (jU (D.waits++[c]))
  rw[jnf,Qj];exact hr
 have:=h.rf i h1 h2
 exact⟨jq this.1 (s this.2 (by omega)),oth this.2 (by omega)⟩
theorem zc.dkept{w w':World}{T:Nat->Nat}{p:Nat}{D:ji}{V:JW}{nm k:Nat}(h:zc w T p D V)
  (hd:jgT p (fun x y=>jh D.units D.armed D.left D.gone D.room V.v5 x y V.v8 V.v9) V.v5 nm (zX (D.waits.take k) D.sure) w w') :
  ∃T' v6',zc w' T' p {D with sure:=zX (D.waits.take k) D.sure,waits:=[]} {V with v6:=v6',v7:=.slice none 0 0}/\vd w T w' T':=by
 obtain⟨⟨v6',hc,m5,m6,hnil,hk⟩,ho⟩:=hd
 have hl:∀{o:Option Nat} {t:Nat},jH T o t->t≠0->∀b,o=some b->b<w.heap.size:=fun ht hne b hb=>h.low b (by rw[ht b hb];exact hne)
 have hk':vv w.heap.size w'.heap.size none (jt v6'):=hk
 have hs:∀b,T b≠0->T b≠1->T b≠2->w'.heap[b]?=w.heap[b]?:=fun b hb h1 h2=>ho.same b (h.low b hb) (by
  rintro(e|e)
  ·exact h1 (by rw[e];exact h.tp)
  exact h2 (h.t5 b e.symm))
 have s:∀{o:Option Nat} {t:Nat},jH T o t->3<=t->∀b,o=some b->w'.heap[b]?=w.heap[b]?:=fun ht hne b hb=>hs b (by rw[ht b hb];omega) (by rw[ht b hb];omega) (by rw[ht b hb];omega)
 refine⟨vD T w.heap.size (jt v6') 3,v6',?_,⟨ho.mono fun r _ e=>by rcases e with e | e;rw[e,h.tp];decide;rw[h.t5 r e.symm];decide,fun r hr=>zj hr⟩⟩
 refine⟨hc,by rw[zj h.cells.lt];exact h.tp,Zn m5,jl h.t5 (hl h.t5 (by decide)),Zn m6,qf hk' (fun b hb=>by cases hb),hnil,fun _=>⟨rfl,rfl⟩,joV _ _ _ _,(fun b hb=>by cases hb),
  jq h.r8 (s h.t8 (by decide)),jl h.t8 (hl h.t8 (by decide)),jq h.r9 (s h.t9 (by decide)),jl h.t9 (hl h.t9 (by decide)),h.nf,fun i h1 h2 => ?_,vi h.low ho.size hk' (fun k hk=>by cases hk)⟩
 have:=h.rf i h1 h2
 exact⟨jq this.1 (s this.2 (by omega)),jl this.2 (hl this.2 (by omega))⟩
theorem jeQ{w:World}{e:TypeId}{size:Nat}{v:Value}{n:Nat}{xs:List Value}(h:w.ownsRow 0 e size v n xs)(hn:0<n):
  ∃g cap cur,v=.slice (some ⟨g,0,none⟩) n cap/\ja w g e cur/\n<=cap/\cap<=maxLen/\cur.size=cap*size/\cur.toList.take (n*size)=xs:=by
 rcases h.2 with ⟨_,h⟩|⟨g,cap,cur,rfl,_,hg,h1,h2,h3,h4⟩
 ·omega
 exact⟨g,cap,cur,rfl,hg,h1,h2,h3,h4⟩
theorem UX{w:World}{e:TypeId}{size:Nat}{g n cap:Nat}{cur:Array Value}{xs:List Value}(hc:ja w g e cur)(h1:n<=cap)(h2:cap<=maxLen)(h3:cur.size=cap*size)(h4:cur.toList.take (n*size)=xs)(hl:xs.length=n*size):
  w.ownsRow 0 e size (.slice (some ⟨g,0,none⟩) n cap) n xs:=⟨hl,.inr ⟨g,cap,cur,rfl,jnt _,hc,h1,h2,h3,h4⟩⟩
theorem jck:∀(fs:List jY) (vs:List Value) (i:Nat) (h:i<fs.length) (h':i<vs.length),(jz fs vs)[i*3]?=some (.string fs[i].sure)/\(jz fs vs)[i*3+1]?=some vs[i]/\(jz fs vs)[i*3+2]?=some (.int .i64 (fs[i].seen.length:Nat))
 | [],_,i,h,_=>by simp at h
 | f::fs,[],i,_,h'=>by simp at h'
 | f::fs,v::vs,0,_,_=>⟨rfl,rfl,rfl⟩
 | f::fs,v::vs,i+1,h,h'=>by
  have ih:=jck fs vs i (by simpa using h) (by simpa using h')
  have sh:∀j,(jz (f::fs) (v::vs))[(i+1)*3+j]?=(jz fs vs)[i*3+j]?:=by
   intro j
   show(qd f v++jz fs vs)[_]?=_
   rw[jnz (by simp[qd];omega)]
   congr 1
   simp[qd];omega
  exact⟨(sh 0).trans ih.1,(sh 1).trans ih.2.1,(sh 2).trans ih.2.2⟩
theorem GC:∀(fs:List jY) (vs:List Value) (i:Nat) (f':jY) (v':Value),i<fs.length->i<vs.length ->
  jz (fs.set i f') (vs.set i v')=(((jz fs vs).set (i*3) (.string f'.sure)).set (i*3+1) v').set (i*3+2) (.int .i64 (f'.seen.length:Nat))
 | [],_,i,_,_,h,_=>by simp at h
 | f::fs,[],i,_,_,_,h'=>by simp at h'
 | f::fs,v::vs,0,f',v',_,_=>rfl
 | f::fs,v::vs,i+1,f',v',h,h'=>by
  have ih:=GC fs vs i f' v' (by simpa using h) (by simpa using h')
  show qd f v++jz (fs.set i f') (vs.set i v')=(((qd f v++jz fs vs).set _ _).set _ _).set _ _
  rw[ih]
  have sh:∀(xs:List Value) j (u:Value),(qd f v++xs).set ((i+1)*3+j) u=qd f v++xs.set (i*3+j) u:=by
   intro xs j u
   rw[List.set_append_right _ _ (by simp[qd];omega)]
   congr 2
   simp[qd];omega
  have s0:=sh (jz fs vs) 0 (.string f'.sure)
  rw[show(i+1)*3+0=(i+1)*3 by omega,show i*3+0=i*3 by omega]at s0
  rw[s0,sh,sh]
theorem zc.file{w:World}{T:Nat->Nat}{p:Nat}{D:ji}{V:JW}(h:zc w T p D V){i:Nat}(hi:i<D.files.length):
  ∃g cap cur,V.v8=.slice (some ⟨g,0,none⟩) D.files.length cap/\ja w g 98 cur/\D.files.length<=cap/\cap<=maxLen/\cur.size=cap*3/\cur.toList.take (D.files.length*3)=jz D.files V.fvs/\T g=5 /\
   jgR w g (i*3) D.files[i].sure (V.fvs[i]'(by rw[h.nf];exact hi)) D.files[i].waits (D.files[i].seen.length:Nat):=by
 obtain⟨g,cap,cur,e,hc,h1,h2,h3,h4⟩:=jeQ h.r8 (by omega)
 obtain⟨a0,a1,a2⟩:=jck D.files V.fvs i hi (by rw[h.nf];exact hi)
 have r8:=h.r8
 rw[e]at r8
 exact⟨g,cap,cur,e,hc,h1,h2,h3,h4,h.t8 g (by rw[e];rfl),⟨yH r8 a0,yH r8 a1,yH r8 a2,(h.rf i hi (by rw[h.nf];exact hi)).1⟩⟩
theorem jez(l:List Value)(n i:Nat)(a b c:Value):(((l.set i a).set (i+1) b).set (i+2) c).take n=(((l.take n).set i a).set (i+1) b).set (i+2) c:=by
 rw[List.take_set,List.take_set,List.take_set]
theorem zc.fturned{w w':World}{T:Nat->Nat}{p:Nat}{D:ji}{V:JW}(h:zc w T p D V){i:Nat}(hi:i<D.files.length){g cap:Nat}{cur:Array Value}(f':jY)(v':Value)
  (e8:V.v8=.slice (some ⟨g,0,none⟩) D.files.length cap) (c1:D.files.length<=cap) (c2:cap<=maxLen) (c3:cur.size=cap*3) (c4:cur.toList.take (D.files.length*3)=jz D.files V.fvs)
  (hc:ja w' g 98 (((cur.setIfInBounds (i*3) (.string f'.sure)).setIfInBounds (i*3+1) v').setIfInBounds (i*3+2) (.int .i64 (f'.seen.length:Nat))))
  (hr:w'.ownsRow 0 101 5 v' f'.waits.length (jA f'.waits)) (hk:vv w.heap.size w'.heap.size (V.fvs[i]'(by rw[h.nf];exact hi)).ownBlock v'.ownBlock\/v'.ownBlock=none)
  (ho:jv (fun r=>r=g\/some r=(V.fvs[i]'(by rw[h.nf];exact hi)).ownBlock) w w') :
  ∃T',zc w' T' p {D with files:=D.files.set i f'} {V with fvs:=V.fvs.set i v'}/\vd w T w' T':=by
 have hi':i<V.fvs.length:=by rw[h.nf];exact hi
 have tg:T g=5:=h.t8 g (by rw[e8];rfl)
 have ti:=(h.rf i hi hi').2
 have hl:∀{o:Option Nat} {t:Nat},jH T o t->t≠0->∀b,o=some b->b<w.heap.size:=fun ht hne b hb=>h.low b (by rw[ht b hb];exact hne)
 have hk':vv w.heap.size w'.heap.size (if v'.ownBlock=none then none else (V.fvs[i]'hi').ownBlock) v'.ownBlock:=by
  rcases hk with hk|hk
  ·by_cases hn:v'.ownBlock=none
   ·rw[if_pos hn];exact .inl hn
   rw[if_neg hn];exact hk
  rw[if_pos hk];exact .inl hk
 have ti':jH T (if v'.ownBlock=none then none else (V.fvs[i]'hi').ownBlock) (7+i):=by
  split
  ·intro b hb;cases hb
  exact ti
 have hs:∀b,T b≠0->T b≠5->T b≠7+i->w'.heap[b]?=w.heap[b]?:=fun b hb h1 h2=>ho.same b (h.low b hb) (by
  rintro(e|e)
  ·exact h1 (by rw[e];exact tg)
  exact h2 (ti b e.symm))
 have s:∀{o:Option Nat} {t:Nat},jH T o t->t≠0->t≠5->t≠7+i->∀b,o=some b->w'.heap[b]?=w.heap[b]?:=fun ht h0 h5 h7 b hb=>hs b (by rw[ht b hb];exact h0) (by rw[ht b hb];exact h5) (by rw[ht b hb];exact h7)
 refine⟨vD T w.heap.size v'.ownBlock (7+i),?_,⟨ho.mono fun r _ e=>by rcases e with e | e;rw[e,tg];decide;rw[ti r e.symm];omega,fun r hr=>zj hr⟩⟩
 refine⟨(hs p (by rw[h.tp];decide) (by rw[h.tp];decide) (by rw[h.tp];omega)).trans h.cells,by rw[zj h.cells.lt];exact h.tp,h.m5.same (s h.t5 (by decide) (by decide) (by omega)),jl h.t5 (hl h.t5 (by decide)),h.m6.same (s h.t6 (by decide) (by decide) (by omega)),jl h.t6 (hl h.t6 (by decide)),h.nil56,h.nilw,
  jq h.r7 (s h.t7 (by decide) (by decide) (by omega)),jl h.t7 (hl h.t7 (by decide)),?_,jl h.t8 (hl h.t8 (by decide)),jq h.r9 (s h.t9 (by decide) (by decide) (by omega)),jl h.t9 (hl h.t9 (by decide)),by simp[h.nf],fun j h1 h2 => ?_,vi h.low ho.size hk' (hl ti' (by omega))⟩
 ·show w'.ownsRow 0 _ 3 V.v8 (D.files.set i f').length (jz (D.files.set i f') (V.fvs.set i v'))
  rw[e8,joO]
  refine UX hc c1 c2 (by simp[c3]) ?_ ?_
  ·rw[GC _ _ _ _ _ hi hi',<- c4]
   simp only[Array.toList_setIfInBounds]
   exact jez _ _ _ _ _ _
  have:=yK (D.files.set i f') (V.fvs.set i v') (by simp[h.nf])
  rw[this,joO]
 simp only[joO]at h1 h2
 by_cases hij:i=j
 ·subst hij
  simp only[List.getElem_set_self]
  exact⟨hr,qf hk' ti'⟩
 simp only[List.getElem_set_ne hij]
 have:=h.rf j h1 h2
 exact⟨jq this.1 (s this.2 (by omega) (by omega) (by omega)),jl this.2 (hl this.2 (by omega))⟩
def xX(D:ji):Bool := !(D.armed&&decide (D.left<1))
def jbi(D:ji)(a:qM):ji:={D with units:=D.units+1,left:=(if D.armed then D.left-1 else D.left),acts:=D.acts++[a]}
def jaa(D:ji):ji:={D with gone:=true}
theorem jiC{w:World}{T:Nat->Nat}{p n:Nat}{D:ji}{V:JW}(h:zc w T p D V)(hf:zJ n D)(hn:n<=500000)(hc:xX D=false)(kind at_:Nat)(name other bytes:ByteArray):
  Calls Tryz.prog 62 #[.pointer (some ⟨p,0,none⟩),.agg #[.int .i64 kind,.string name,.string other,.string bytes,.int .i64 at_]] w fun e w' =>
   e=.returned (qm 3)/\zc w' T p (jaa D) V/\vd w T w' T:=by
 have hl0:=hf.l0
 obtain⟨ha,hl⟩:D.armed=true/\D.left<1:=by simpa [xX]using hc
 have hcl:=h.cells
 rw[ha]at hcl
 refine(jkO p D.units D.left D.gone D.room V.v5 V.v6 V.v7 V.v8 V.v9 kind at_ name other bytes w hcl hf.u0 (by have:=hf.u1;omega) (by omega)).mono ?_
 rintro e w' ⟨rfl,hd,ho⟩
 refine⟨rfl,h.power (D':=jaa D) (by show ja w' p _ (jh D.units D.armed D.left true D.room _ _ _ _ _);rw[ha];exact hd) ho rfl rfl rfl rfl,jeD h.tp ho⟩
theorem jcm{w:World}{T:Nat->Nat}{p n:Nat}{D:ji}{V:JW}(h:zc w T p D V)(hf:zJ n D)(hn:n<=500000)(hc:xX D=true)(kind at_:Nat)(name other bytes:ByteArray):
  Calls Tryz.prog 62 #[.pointer (some ⟨p,0,none⟩),.agg #[.int .i64 kind,.string name,.string other,.string bytes,.int .i64 at_]] w fun e w' =>
   e=.returned (qm 0)/\∃T' v9',zc w' T' p (jbi D ⟨kind,name,other,bytes,at_⟩) {V with v9:=v9'}/\vd w T w' T':=by
 have ha:D.armed=false\/1<=D.left:=by
  cases hq:D.armed
  ·exact .inl rfl
  right
  have:¬D.left<1:=by simpa [xX,hq]using hc
  omega
 refine(jmD p D.units D.left D.armed D.gone D.room V.v5 V.v6 V.v7 V.v8 V.v9 kind at_ name other bytes D.acts.length (jA D.acts) w h.cells hf.u0 (by have:=hf.u1;omega) hf.l0 hf.l1 ha h.r9 (fun e=>(vJ h.t9 (b:=some p) (u:=1) (fun b hb=>by cases hb;exact h.tp) (by decide) p e) rfl) (by have:=hf.nacts;omega)).mono ?_
 rintro e w' ⟨rfl,hd⟩
 exact⟨rfl,h.did (D':=jbi D ⟨kind,name,other,bytes,at_⟩) (a:=⟨kind,name,other,bytes,at_⟩) hd rfl rfl rfl rfl⟩
theorem jf9{w:World}{T:Nat->Nat}{p n:Nat}{D:ji}{V:JW}(h:zc w T p D V)(hf:zJ n D)(hn:n<=500000)(off on:ByteArray)(file:Nat)(h1:off.size<=1000000)(h2:on.size<=1000000)(h3:file<=1000000):
  Calls Tryz.prog 63 #[.pointer (some ⟨p,5,none⟩),.agg #[.string off,.string on,.int .i64 file]] w fun e w'=>e=.returned (.tuple #[]) /\
   ∃T' v5' v6' v7',zc w' T' p {D with waits:=D.waits++[⟨off,on,file⟩]} {V with v5:=v5',v6:=v6',v7:=v7'}/\vd w T w' T':=by
 have tp:jH T (some p) 1:=fun b hb=>by cases hb;exact h.tp
 have hdl:=hf.dirs
 have hsl:=qF D.waits D.sure
 rcases h.m6 with ⟨e6,hl6⟩|⟨b6,e6,ho6⟩
 ·have e5:=h.nil56.2 e6
  have hs0:D.sure=[]:=by
   rcases h.m5 with ⟨_,hl⟩|⟨b5,e,_⟩
   ·exact hl
   rw[e5]at e;cases e
  have hcl:=h.cells
  rw[e5,e6]at hcl
  refine(jdP p D.units D.left D.armed D.gone D.room V.v7 V.v8 V.v9 0 D.waits.length (jU D.waits) off on file w hcl h.r7 (fun e=>vJ h.t7 tp (by decide) p e rfl) (by omega) (by omega) h1 h2 h3).mono ?_
  rintro e w' ⟨rfl,hd⟩
  refine⟨rfl,h.dwaited (c:=⟨off,on,file⟩) (nm:=0+1) ?_⟩
  rw[e5,e6,hs0,hl6]
  exact hd
 obtain⟨b5,e5⟩:∃b5,V.v5=.map (some b5):=by
  rcases h.m5 with ⟨e,_⟩|⟨b5,e,_⟩
  ·have:=h.nil56.1 e;rw[e6]at this;cases this
  exact⟨b5,e⟩
 have hcl:=h.cells
 rw[e5,e6]at hcl
 have m5:=h.m5
 rw[e5]at m5
 have t5:=h.t5
 have t6:=h.t6
 rw[e5]at t5
 rw[e6]at t6
 have hsn:D.seen.length<=n:=by unfold ji.seen;omega
 refine(jdO p D.units D.left D.armed D.gone D.room b5 b6 V.v7 V.v8 V.v9 n D.sure D.seen D.waits.length (jU D.waits) off on file w hcl (m5.mono (by omega)) (ho6.mono (by omega)) h.r7
  (fun e=>vJ h.t7 tp (by decide) p e rfl) (fun e=>vJ t6 tp (by decide) b6 rfl (by rw[e])) (fun e=>vJ h.t7 t6 (by decide) b6 e rfl) (fun e=>vJ t5 tp (by decide) b5 rfl (by rw[e])) (fun e=>vJ t5 t6 (by decide) b5 rfl (by rw[e];rfl)) (fun e=>vJ h.t7 t5 (by decide) b5 e rfl)
  (by omega) (by omega) h1 h2 h3).mono ?_
 rintro e w' ⟨rfl,hd⟩
 refine⟨rfl,h.dwaited (c:=⟨off,on,file⟩) (nm:=n+1) ?_⟩
 rw[e5,e6]
 exact hd
theorem jae{w:World}{T:Nat->Nat}{p n:Nat}{D:ji}{V:JW}(h:zc w T p D V)(hf:zJ n D)(hn:n<=500000)(m:Int)(hw:(Lit.int .i64 m).wf=true):
  Calls Tryz.prog 50 #[.pointer (some ⟨p,5,none⟩),.int .i64 m] w fun e w'=>e=.returned (.tuple #[]) /\
   ∃T' v6',zc w' T' p {D with sure:=zX (D.waits.take (vF m D.waits.length)) D.sure,waits:=[]} {V with v6:=v6',v7:=.slice none 0 0}/\vd w T w' T':=by
 have tp:jH T (some p) 1:=fun b hb=>by cases hb;exact h.tp
 have hdl:=hf.dirs
 by_cases h7:V.v7=.slice none 0 0
 ·have hz:D.waits.length=0:=by
   rcases h.r7.2 with ⟨_,hz⟩|⟨g,cap,cur,e,_⟩
   ·exact hz
   rw[h7]at e;cases e
  have hw0:D.waits=[]:=jn7 hz
  have hcl:=h.cells
  rw[h7]at hcl
  refine(jgc p D.units D.left D.armed D.gone D.room V.v5 V.v6 V.v8 V.v9 D.sure.length D.sure m w hcl h.m5 (fun e=>vJ h.t5 tp (by decide) p e rfl) hw).mono ?_
  rintro e w' ⟨rfl,hd⟩
  refine⟨rfl,h.dkept (nm:=D.sure.length) (k:=vF m D.waits.length) ?_⟩
  rw[hw0]
  have e:zX (List.take (vF m ([]:List zo).length) []) D.sure=D.sure:=by simp[zX]
  rw[e]
  exact hd
 obtain⟨g,cap,e7⟩:∃g cap,V.v7=.slice (some ⟨g,0,none⟩) D.waits.length cap:=by
  rcases h.r7.2 with ⟨e,_⟩|⟨g,cap,cur,e,_⟩
  ·exact absurd e h7
  exact⟨g,cap,e⟩
 rcases h.m5 with ⟨e5,hl5⟩|⟨b5,e5,ho5⟩
 ·exact absurd (h.nilw e5).2 h7
 have hcl:=h.cells
 rw[e5,e7]at hcl
 have r7:=h.r7
 rw[e7]at r7
 have t7:=h.t7
 rw[e7]at t7
 have t5:=h.t5
 rw[e5]at t5
 refine(jdS p D.units D.left D.armed D.gone D.room b5 V.v6 V.v8 V.v9 D.sure.length D.sure g cap D.waits m w hcl ho5 r7 (fun e=>vJ t7 tp (by decide) g rfl (by rw[e])) (fun e=>vJ t5 tp (by decide) b5 rfl (by rw[e])) (fun e=>vJ t7 t5 (by decide) g rfl (by rw[e];rfl)) (by omega)
  (fun c hc=>⟨(hf.changes c hc).1,(hf.changes c hc).2.1,by have:=(hf.changes c hc).2.2;have:=hf.nfiles;omega⟩) hw).mono ?_
 rintro e w' ⟨rfl,hd⟩
 refine⟨rfl,h.dkept (nm:=D.sure.length+D.waits.length) (k:=vF m D.waits.length) ?_⟩
 rw[e5]
 exact hd
end Go.Proofs.YtpibhbjmcmfnmaaGreatDoor.Vf
