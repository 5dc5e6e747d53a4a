/- Texts put together:FLJ,FLK,FLN,FLL,FLM. -/
import Derived.Test.YtpibhbjmcmfnmaaGreatDoorBfn27
set_option linter.unusedVariables false
set_option maxRecDepth 100000
set_option maxHeartbeats 16000000
namespace Go.Proofs.YtpibhbjmcmfnmaaGreatDoor.Vf
open Go.RowKit Go.Maps Go.Shelf Bk Rp
def zf:ByteArray:=⟨#[102]⟩
def jhO(room:Int)(t:ByteArray):jk:=(zK (yb (qx (jL (jV room) zf).1 zf t).1 zf).1).1
structure jkH(room:Int)(t:ByteArray):Prop where
 c:(jL (jV room) zf).2=0
 w:(qx (jL (jV room) zf).1 zf t).2=0
 s:(yb (qx (jL (jV room) zf).1 zf t).1 zf).2=0
 d:(zK (yb (qx (jL (jV room) zf).1 zf t).1 zf).1).2=0
theorem jhl{room:Int}{t:ByteArray}(h0:0<=room)(h1:room<=9223372036854775807):zX (2*t.size+6) (jhO room t) :=
 (ZQ (QS (YD (Jr (xM room h0 h1) zf (by decide)) zf t) zf)).mono (by omega)
attribute [local go_sem] jW xW
theorem jky(room:Int)(t:ByteArray)(w:World)(h0:0<=room)(h1:room<=9223372036854775807)(ht:t.size<=1000)(hb:jkH room t):
  Calls Tryz.prog 8 #[.int .i64 room,.string t] w fun e w'=>∃p,e=.returned (.pointer (some ⟨p,0,none⟩))/\zk w.heap.size w' p (jhO room t)/\Below w.heap.size w w':=by
 have N0:=jl9 (jdZ room w h0)
 have f0:=xM room h0 h1
 have f1:=Jr f0 zf (by decide)
 have f2:=YD f1 zf t
 have f3:=QS f2 zf
 have K1:Hid (∀W p,zk w.heap.size W p (jV room)->w.heap.size<=W.heap.size->Calls Tryz.prog 28 #[.pointer (some ⟨p,0,none⟩),.string ⟨#[102]⟩] W fun e w'=>e=.returned .nilIface/\zk w.heap.size w' p (jL (jV room) zf).1/\zC w.heap.size W w'):=fun W p hd hL=>by
  have h:=Kw hd hL f0 (by omega) zf (by decide)
  rw[hb.c]at h;exact h
 have K2:Hid (∀W p,zk w.heap.size W p (jL (jV room) zf).1->w.heap.size<=W.heap.size->Calls Tryz.prog 29 #[.pointer (some ⟨p,0,none⟩),.string ⟨#[102]⟩,.string t] W fun e w'=>e=.returned .nilIface/\zk w.heap.size w' p (qx (jL (jV room) zf).1 zf t).1/\zC w.heap.size W w'):=fun W p hd hL=>by
  have h:=jht hd hL f1 (by omega) zf t (by decide) ht
  rw[hb.w]at h;exact h
 have K3:Hid (∀W p,zk w.heap.size W p (qx (jL (jV room) zf).1 zf t).1->w.heap.size<=W.heap.size->Calls Tryz.prog 30 #[.pointer (some ⟨p,0,none⟩),.string ⟨#[102]⟩] W fun e w'=>e=.returned .nilIface/\zk w.heap.size w' p (yb (qx (jL (jV room) zf).1 zf t).1 zf).1/\zC w.heap.size W w'):=fun W p hd hL=>by
  have h:=jh2 hd hL f2 (by omega) zf (by decide)
  rw[hb.s]at h;exact h
 have K4:Hid (∀W p,zk w.heap.size W p (yb (qx (jL (jV room) zf).1 zf t).1 zf).1->w.heap.size<=W.heap.size->Calls Tryz.prog 31 #[.pointer (some ⟨p,0,none⟩)] W fun e w'=>e=.returned .nilIface/\zk w.heap.size w' p (jhO room t)/\zC w.heap.size W w'):=fun W p hd hL=>by
  have h:=jfP hd hL f3 (by omega)
  rw[hb.d]at h;exact h
 clear f0 f1 f2 f3 hb
 go_enter Tryz.func8,Tryz.ntmps8
 go_wp2_with fail
 refine N0.out.mono ?_
 rintro e w1 ⟨rfl,g1,b1,hs⟩
 have D1:=jl9 (show zk w.heap.size w1 w.heap.size (jV room) from⟨_,g1,fun b hb=>by split at hb<;>omega⟩)
 have B1:=jl9 b1
 clear g1 b1 N0
 go_wp2_with fail
 refine(K1.out w1 _ D1.out B1.out.size).mono ?_
 rintro e w2 ⟨rfl,d2,k2⟩
 have D2:=jl9 d2
 have B2:=jl9 (B1.out.trans k2.bel)
 clear d2 k2
 go_wp2_with fail
 refine(K2.out w2 _ D2.out B2.out.size).mono ?_
 rintro e w3 ⟨rfl,d3,k3⟩
 have D3:=jl9 d3
 have B3:=jl9 (B2.out.trans k3.bel)
 clear d3 k3
 go_wp2_with fail
 refine(K3.out w3 _ D3.out B3.out.size).mono ?_
 rintro e w4 ⟨rfl,d4,k4⟩
 have D4:=jl9 d4
 have B4:=jl9 (B3.out.trans k4.bel)
 clear d4 k4
 go_wp2_with fail
 refine(K4.out w4 _ D4.out B4.out.size).mono ?_
 rintro e w5 ⟨rfl,d5,k5⟩
 have D5:=jl9 d5
 have B5:=jl9 (B4.out.trans k5.bel)
 clear d5 k5
 go_wp2_with fail
 go_ret
 exact⟨_,rfl,D5.out,B5.out⟩
theorem jlV:jkH 1000 (B jg1):=⟨by kernel_rfl,by kernel_rfl,by kernel_rfl,by kernel_rfl⟩
def exD:jk:=jld (jhO 1000 (B jg1)) zf 5
theorem exR:JK (jhO 1000 (B jg1)) zf=(B jg1,0):=by kernel_rfl
theorem jl7:JK exD zf=(B jkW,0):=by kernel_rfl
theorem jkV:Zj (jhO 1000 (B jg1)).seen:=by
 have e:(jhO 1000 (B jg1)).seen=[([102],0)]:=by kernel_rfl
 rw[e]
 exact⟨by simp,fun x hx=>by rw[List.mem_singleton.1 hx];decide⟩
def jiV:List UInt8:=Fr.fullR (jp exE)
theorem jkk:jiV.length=37:=by kernel_rfl
theorem exW:(qx exD zf (B jiV)).2=0:=by kernel_rfl
theorem exS:(yb (qx exD zf (B jiV)).1 zf).2=0:=by kernel_rfl
theorem jlG:zX 100 exD:=by
 have h:zX (2*(B jg1).size+6) (jhO 1000 (B jg1)):=jhl (by decide) (by decide)
 exact(QS (jhf h zf (5:Nat)) zf).mono (by rw[jq];decide)
theorem jjv:Yx exE:=fun ed h=>by
 rw[List.mem_singleton.1 h]
 exact⟨by decide,fun f hf=>by cases hf⟩
theorem jju:XD exE:=fun ed h=>by
 rw[List.mem_singleton.1 h]
 exact⟨by decide,by decide⟩
end Go.Proofs.YtpibhbjmcmfnmaaGreatDoor.Vf
namespace Go.Proofs.YtpibhbjmcmfnmaaGreatDoor.Vf
open Go.RowKit Go.Maps
theorem jii(s:ByteArray)(hs:s.size<=1000)(w:World):Calls Tryz.prog 54 #[.string s] w fun e w'=>e=.returned (.bool (zv s))/\w=w':=by
 by_cases hlen:1<=s.size/\s.size<=20
 ·obtain⟨h1,h2⟩:=hlen
  have d1:decide ((s.size:Int)<1)=false:=decide_eq_false (by omega)
  have d2:decide (20<(s.size:Int))=false:=decide_eq_false (by omega)
  have hg:zv s=s.data.toList.all xn:=by unfold zv;simp[h1,h2]
  rw[hg]
  clear hg
  generalize hB0:s.data.toList.all xn=B
  have HB:=jl9 hB0
  clear hB0
  go_enter Tryz.func54,Tryz.ntmps54
  go_wp2
  go_loopw [3] (fun i wr=>∃k:Nat,k<=s.size/\i=.int .i64 k/\wr=w/\∀c∈s.data.toList.take k,xn c=true) (fun i _=>s.size-(intOf i).toNat)
  case atStart=>exact⟨0,jmo _,rfl,rfl,by simp⟩
  case round =>
  obtain⟨k,hk,rfl,rfl,hpre⟩:=hrel
  by_cases hlt:k<s.size
  ·have hl':k<s.data.toList.length:=by rw[<- jmq];exact hlt
   have HP:=jl9 hpre
   clear hpre
   have hx:s.data.toList[k]=s[k]:=rfl
   have hgd:xn s[k]=true↔(97<=s[k].toNat/\s[k].toNat<=122)\/(48<=s[k].toNat/\s[k].toNat<=57)\/s[k].toNat=46:=by
    unfold xn;simp[or_assoc]
   have HX:=jl9 hx
   clear hx
   by_cases hgc:xn s[k]=true
   ·have HN:Hid (∀c∈s.data.toList.take (k+1),xn c=true):=fun c hc=>by
     rw[jnk hl']at hc
     rcases List.mem_append.1 hc with h|h
     ·exact HP.out c h
     rw[List.mem_singleton.1 h,HX.out];exact hgc
    have hin:=hgd.1 hgc
    clear hgc hgd HP HX
    by_cases a1:97<=s[k].toNat
    all_goals by_cases a2:s[k].toNat<=122
    all_goals by_cases a3:48<=s[k].toNat
    all_goals by_cases a4:s[k].toNat<=57
    all_goals by_cases a5:s[k].toNat=46
    all_goals try omega
    all_goals clear hin
    all_goals
     go_wp2
     go_roundw
     case rel=>exact⟨k+1,by omega,by go_num,trivial,HN.out⟩
     case measure=>simp[intOf];omega
   have hin:¬((97<=s[k].toNat/\s[k].toNat<=122)\/(48<=s[k].toNat/\s[k].toNat<=57)\/s[k].toNat=46):=fun h=>hgc (hgd.2 h)
   have hall:s.data.toList.all xn=false:=by
    rw[List.all_eq_false]
    exact⟨_,jm9 hl',by rw[HX.out];exact hgc⟩
   obtain rfl:B=false:=HB.out.symm.trans hall
   clear hgc hgd HP HX hall HB
   by_cases a1:97<=s[k].toNat
   all_goals by_cases a2:s[k].toNat<=122
   all_goals by_cases a3:48<=s[k].toNat
   all_goals by_cases a4:s[k].toNat<=57
   all_goals by_cases a5:s[k].toNat=46
   all_goals try omega
   all_goals clear hin
   all_goals go_wp2
   all_goals first | (exfalso;rename_i h;simp at h;omega) | (go_ret;exact⟨rfl,rfl⟩)
  obtain rfl:k=s.size:=by omega
  have hall:s.data.toList.all xn=true:=by
   rw[jmR]
   intro c hc
   exact hpre c (by rw[jmH (by rw[<- jmq];exact jma _)];exact hc)
  obtain rfl:B=true:=HB.out.symm.trans hall
  clear hpre hall HB
  go_wp2
  go_ret
  exact⟨rfl,rfl⟩
 have hg:zv s=false:=by unfold zv;simp;omega
 rw[hg]
 rcases(show s.size<1\/(1<=s.size/\20<s.size) by omega) with h|⟨h,h2⟩
 ·have d1:decide ((s.size:Int)<1)=true:=decide_eq_true (by omega)
  go_enter Tryz.func54,Tryz.ntmps54
  go_wp2
  go_ret
  exact⟨rfl,rfl⟩
 have d1:decide ((s.size:Int)<1)=false:=decide_eq_false (by omega)
 have d2:decide (20<(s.size:Int))=true:=decide_eq_true (by omega)
 go_enter Tryz.func54,Tryz.ntmps54
 go_wp2
 go_ret
 exact⟨rfl,rfl⟩
end Go.Proofs.YtpibhbjmcmfnmaaGreatDoor.Vf
namespace Go.Proofs.YtpibhbjmcmfnmaaGreatDoor.Vf
open Go.RowKit Go.Maps Go.Shelf Bk Rp
attribute [local go_sem] jW xW JY
theorem jkO(w:World):Calls Tryz.prog 13 #[.pointer none] w fun e w'=>e=.returned (.string ⟨#[]⟩)/\w=w':=by
 go_enter Tryz.func13,Tryz.ntmps13
 go_wp2_with fail
 go_ret
 exact⟨rfl,rfl⟩
theorem jkQ(w:World):Calls Tryz.prog 23 #[.pointer none] w fun e w'=>e=.returned (.string ⟨#[]⟩)/\w=w':=by
 go_enter Tryz.func23,Tryz.ntmps23
 go_wp2_with fail
 go_ret
 exact⟨rfl,rfl⟩
theorem Wr(w:World):Calls Tryz.prog 19 #[.pointer none] w fun e w'=>e=.returned (qi 3)/\w=w':=by
 go_enter Tryz.func19,Tryz.ntmps19
 go_wp2_with fail
 go_ret
 exact⟨rfl,rfl⟩
theorem nil_append(w:World)(a:Option Addr)(n c:Nat):Calls Tryz.prog 12 #[.pointer none,.slice a n c] w fun e w'=>e=.returned (qi 3)/\w=w':=by
 have K:=jl9 (Wr w)
 rw[JY]at K
 go_enter Tryz.func12,Tryz.ntmps12
 go_wp2_with fail
 refine K.out.mono ?_
 rintro e w' ⟨rfl,rfl⟩
 go_wp2_with fail
 go_ret
 exact⟨rfl,rfl⟩
theorem jkP(w:World)(x:ByteArray):Calls Tryz.prog 11 #[.pointer none,.string x] w fun e w'=>e=.returned (qi 3)/\Below w.heap.size w w':=by
 have K:Hid (∀W,Calls Tryz.prog 19 #[.pointer none] W fun e w'=>e=.returned (.iface 46 (.int .i64 3))/\W=w'):=Wr
 go_enter Tryz.func11,Tryz.ntmps11
 go_wp2_with fail
 refine(K.out _).mono ?_
 rintro e w' ⟨rfl,rfl⟩
 go_wp2_with fail
 go_ret
 exact⟨rfl,(jmc _ _).alloc (jma _) _⟩
theorem jjS(z:ByteArray)(w:World):Calls Tryz.prog 20 #[.string z] w fun e w'=>e=.returned (.bool (Vq z))/\w=w':=by
 by_cases hz:z.size<=16
 ·have hz':(z.size:Int)<=16:=by omega
  have G:Vq z=zv z:=by unfold Vq;rw[decide_eq_true hz];rfl
  have K:=jl9 (jii z (by omega) w)
  rw[G]
  go_enter Tryz.func20,Tryz.ntmps20
  go_wp2_with fail
  refine K.out.mono ?_
  rintro e w' ⟨rfl,rfl⟩
  go_wp2_with fail
  go_ret
  exact⟨rfl,rfl⟩
 have hz':¬(z.size:Int)<=16:=by omega
 have G:Vq z=false:=by unfold Vq;rw[decide_eq_false hz];rfl
 rw[G]
 go_enter Tryz.func20,Tryz.ntmps20
 go_wp2_with fail
 go_ret
 exact⟨rfl,rfl⟩
theorem jkM(z:ByteArray)(w:World):Calls Tryz.prog 9 #[.pointer none,.string z] w fun e w'=>e=.returned (.tuple #[.pointer none,qi 1])/\w=w':=by
 go_enter Tryz.func9,Tryz.ntmps9
 go_wp2_with fail
 go_ret2
 exact⟨rfl,rfl⟩
theorem jkN(p:Nat)(z:ByteArray)(w:World)(hg:Vq z=false):Calls Tryz.prog 9 #[.pointer (some ⟨p,0,none⟩),.string z] w fun e w'=>e=.returned (.tuple #[.pointer none,qi 1])/\Below w.heap.size w w':=by
 have K:=jl9 (jcq z w)
 rw[hg]at K
 go_enter Tryz.func9,Tryz.ntmps9
 go_wp2_with fail
 refine K.out.mono ?_
 rintro e w' ⟨rfl,hb⟩
 go_wp2_with fail
 go_ret2
 exact⟨rfl,hb⟩
structure Ym(D:jk)(z:ByteArray):Prop where
 seen:D.seen=[(z.data.toList,0)]
 files:D.files=[jb8]
 acts:D.acts.length=2
 gone:D.gone=false
theorem jjt(r:Int){z:ByteArray}(hz:zv z=true):Ym (jb9 (jV r) z) z:=by
 have hne:z.data.toList≠[]:=by
  unfold zv at hz
  simp at hz
  have h1:=hz.1.1
  intro e
  have h0:z.size=0:=by rw[jmq z,e];rfl
  omega
 have hs:Uz (jV r) z=false:=rfl
 obtain⟨h1,h2⟩:=Ya (D:=jV r) ⟨rfl,rfl⟩ hz hs
 have e1:(jL (jV r) z).1={GY (jV r) ⟨1,z,⟨#[]⟩,⟨#[]⟩,0⟩ with waits:=[]++[⟨⟨#[]⟩,z,0⟩],files:=[]++[jb8]}:=by
  have e:zw (jV r).gone [z]=0:=by unfold zw;simp[hz,jV]
  unfold jL
  rw[if_neg (by rw[e];exact fun q=>q rfl),if_neg (by show ¬(yq (jV r).seen z.data.toList).isSome=true;exact fun q=>by cases q),if_pos (show xA (jV r)=true from rfl)]
  rfl
 have e2:(jL (jV r) z).1.seen=[(z.data.toList,0)]:=by
  rw[e1]
  show qK ([]:List UInt8) z.data.toList 0 []=_
  unfold qK
  rw[if_neg hne]
  rfl
 unfold jb9
 rw[if_neg (by rw[hs];decide)]
 have e3:(zK (jL (jV r) z).1).1={GY (jL (jV r) z).1 ⟨7,⟨#[]⟩,⟨#[]⟩,⟨#[]⟩,0⟩ with sure:=(jL (jV r) z).1.seen,waits:=[]}:=by
  unfold zK
  rw[if_neg (by rw[h2.gone];decide),if_pos h2.can]
 rw[e3]
 refine⟨e2,?_,?_,?_⟩
 ·show(jL (jV r) z).1.files=_
  rw[e1];rfl
 ·show((jL (jV r) z).1.acts++[_]).length=2
  rw[e1];rfl
 show(jL (jV r) z).1.gone=false
 exact h2.gone
theorem Ym.saw{D:jk}{z:ByteArray}(h:Ym D z):Uz D z=true:=by
 unfold Uz yq;rw[h.seen];simp
theorem Ym.read{D:jk}{z:ByteArray}(h:Ym D z)(hz:zv z=true):JK D z=(B [],0):=by
 have e:zU D z []=(0,0):=by
  rw[Ur h.gone hz]
  unfold yq;rw[h.seen];simp
 unfold JK
 rw[if_neg (by rw[h.gone];decide),if_neg (by rw[e];exact fun q=>q rfl),e,h.files]
 rfl
theorem Ym.rising{D:jk}{z:ByteArray}(h:Ym D z)(hz:zv z=true):Zj D.seen:=by
 have hne:z.data.toList≠[]:=by
  unfold zv at hz
  simp at hz
  have h1:=hz.1.1
  intro e
  have h0:z.size=0:=by rw[jmq z,e];rfl
  omega
 rw[h.seen]
 exact⟨by simp,fun x hx=>by rw[List.mem_singleton.1 hx];exact hne⟩
theorem jjq:yO Dc [] 0 [] [] []:=⟨Hd.gen_short (by decide),⟨_,(by kernel_rfl:jI []=.ok [])⟩,by kernel_rfl,⟨rfl,fun b h=>by cases h⟩,jaN⟩
theorem jla{w:World}{b:Nat}{z:ByteArray}(h:ja w b 9 #[.string z]):Sd.Strs w (.slice (some ⟨b,0,none⟩) 1 1) [z]:=by
 refine⟨_,1,rfl,jma _,fun i s hs => ?_⟩
 match i with
 | 0 =>
  obtain rfl:z=s:=jmf hs
  exact⟨b,0,rfl,h.lt,h.cell 0⟩
 | i+1=>simp at hs
end Go.Proofs.YtpibhbjmcmfnmaaGreatDoor.Vf
