/- Texts put together:YA,YB,YC,ZA,FLA,FLB,FLC,YOA. -/
import Derived.WideShapes
import Derived.WideAt
import Derived.Test.YtpibhbjmcmfnmaaGreatDoorBag5
set_option linter.unusedVariables false
set_option maxRecDepth 100000
set_option maxHeartbeats 16000000
namespace Go.Proofs.YtpibhbjmcmfnmaaGreatDoor
abbrev jng:=@Option.some.inj
abbrev jnK:=@Nat.lt_or_ge
abbrev jnW:=@List.take_add_one
abbrev jnY:=@List.getElem?_eq_none
abbrev jog:=@List.mem_of_mem_take
abbrev jox:=@Int.toNat_natCast
abbrev joA:=@ByteArray.ext
abbrev joS:=@List.mem_cons
abbrev jpc:=@List.not_mem_nil
abbrev jpf:=@List.getElem_of_mem
end Go.Proofs.YtpibhbjmcmfnmaaGreatDoor
namespace Go.Proofs.YtpibhbjmcmfnmaaGreatDoor.Vf
open Go.RowKit Go.Maps
attribute [local go_sem] jT vL xo jjg Kt
theorem jer{w:World}{T:Nat->Nat}{p n:Nat}{D:ji}(hA:zK w T p D)(hf:zJ n D)(hn:n<=300000)(z t:ByteArray)(hz:z.size<=1000000)(ht:t.size<=60000):
  Calls Tryz.prog 29 #[.pointer (some ⟨p,0,none⟩),.string z,.string t] w fun e w'=>e=.returned (qm (zp D z t).2)/\∃T',zK w' T' p (zp D z t).1/\vd w T w' T':=by
 obtain⟨V,hV⟩:=hA
 have R:=xQ (n:=n) hV z [] 1 ((jne _ w).alloc (jnd _) (.cells #[.string z] 9)) (by simp) (jle w z _) (by simpa using hz) (by simp)
 have e0:vy (zm D.gone [z]) (ya D.seen z.data.toList)=zP D z []:=rfl
 rw[e0]at R
 unfold zp
 rcases vo hf z []with ⟨f,ha,hfl,_,_⟩|ha
 ·have ha':=ha
  rw[ha]at R ⊢
  dsimp only at R ⊢
  rw[if_neg (by simp)]
  have HFr:=jnc (fun w1 (hb:Below w.heap.size w w1)=>jce (hV.below hb) hf (by omega))
  have hfr0:0<=qZ D:=by unfold qZ;omega
  have hfr1:qZ D<=9223372036854775807:=by unfold qZ;have:=hf.r1;have:=hf.r0;omega
  by_cases hfree:qZ D<t.size
  ·rw[if_pos hfree]
   have hgt:decide ((t.size:Int)>qZ D)=true:=decide_eq_true (by omega)
   have hgt2:decide (qZ D<(t.size:Int))=true:=decide_eq_true (by omega)
   generalize qZ D=fr at *
   clear e0 ha ha' hfree
   go_enter Tryz.func29,Tryz.ntmps29
   go_wp2_with fail
   refine R.mono ?_
   rintro e w1 ⟨rfl,hb⟩
   go_wp2_with fail
   refine(HFr.out w1 hb).mono ?_
   rintro e w2 ⟨rfl,hb2⟩
   have hb12:Below w.heap.size w w2:=hb.trans (hb2.mono hb.size)
   go_wp2
   go_ret
   exact⟨rfl,T,⟨V,hV.below hb12⟩,vd.below hb12⟩
  rw[if_neg hfree]
  obtain⟨m,hm,hmt,hlast⟩:=KU D n t.size hf
  have hsp:=hm
  rw[hm]
  dsimp only
  rw[jox]
  by_cases hm0:0<m
  ·rw[if_pos hm0]
   exact jcM hV hf hn z t hz ht f ha' hfl hfree m hm hmt hm0
  have hmz:m=0:=by omega
  rw[if_neg hm0]
  have HSp:=jnc (fun w1 (hb:Below w.heap.size w w1)=>by
   have:=XK (hV.below hb) hf (by omega) t.size ht
   rw[hm,hmz]at this
   exact this)
  have hgt:decide ((t.size:Int)>qZ D)=false:=decide_eq_false (by omega)
  have hgt2:decide (qZ D<(t.size:Int))=false:=decide_eq_false (by omega)
  generalize qZ D=fr at *
  subst hmz
  clear e0 ha ha' hfree hm hsp hlast hm0
  by_cases hlt:0<t.size
  all_goals
   first
    | (have hl3:decide ((0:Int)<(t.size:Int))=true:=decide_eq_true (by omega);rw[if_pos hlt])
    | (have hl3:decide ((0:Int)<(t.size:Int))=false:=decide_eq_false (by omega);rw[if_neg hlt])
   go_enter Tryz.func29,Tryz.ntmps29
   go_wp2_with fail
   refine R.mono ?_
   rintro e w1 ⟨rfl,hb⟩
   go_wp2_with fail
   refine(HFr.out w1 hb).mono ?_
   rintro e w2 ⟨rfl,hb2⟩
   have hb12:Below w.heap.size w w2:=hb.trans (hb2.mono hb.size)
   go_wp2_with fail
   refine(HSp.out w2 hb12).mono ?_
   rintro e w3 ⟨rfl,hd3,hs3⟩
   have HD:=jnc hd3
   have HS:=jnc ((vd.below hb12).trans hs3)
   clear hd3 hs3 hb hb2 hb12 R HFr HSp
   go_wp2
   go_ret
   exact⟨rfl,T,⟨V,HD.out⟩,HS.out⟩
 rcases ha with ha|ha|ha
 all_goals
  rw[ha]at R ⊢
  dsimp only at R ⊢
  clear ha e0
  go_enter Tryz.func29,Tryz.ntmps29
  go_wp2_with fail
  refine R.mono ?_
  rintro e w1 ⟨rfl,hb⟩
  go_wp2
  go_ret
  exact⟨rfl,T,⟨V,hV.below hb⟩,vd.below hb⟩
theorem jiB{w:World}{T:Nat->Nat}{p:Nat}{D:ji}(hA:zK w T p D):Calls Tryz.prog 57 #[.pointer (some ⟨p,0,none⟩)] w fun e w'=>e=.returned (.bool D.gone)/\w=w':=by
 obtain⟨V,hV⟩:=hA
 have d3:w.cell? ⟨p,3,none⟩=some (.bool D.gone):=hV.cells.cell 3
 go_enter Tryz.func57,Tryz.ntmps57
 go_wp2
 go_ret
 exact⟨rfl,rfl⟩
def yx(D:ji)(z:ByteArray):ByteArray×Nat :=
 if D.gone then (⟨#[]⟩,3) else if (zP D z []).2≠0 then (⟨#[]⟩,(zP D z []).2) else (match D.files[(zP D z []).1]? with | some f=>⟨f.seen.toArray⟩ | none=>⟨#[]⟩,0)
theorem read_any{w:World}{T:Nat->Nat}{p n:Nat}{D:ji}(hA:zK w T p D)(hf:zJ n D)(hn:n<=300000)(z:ByteArray)(hz:z.size<=1000000):
  Calls Tryz.prog 26 #[.pointer (some ⟨p,0,none⟩),.string z] w fun e w'=>e=.returned (.tuple #[.string (yx D z).1,qm (yx D z).2])/\Below w.heap.size w w':=by
 have DW:=jiB hA
 obtain⟨V,hV⟩:=hA
 have R:=xQ (n:=n) hV z [] 1 ((jne _ w).alloc (jnd _) (.cells #[.string z] 9)) (by simp) (jle w z _) (by simpa using hz) (by simp)
 have e0:vy (zm D.gone [z]) (ya D.seen z.data.toList)=zP D z []:=rfl
 rw[e0]at R
 unfold yx
 cases hg:D.gone
 ·rw[hg]at DW
  rcases vo hf z []with ⟨f,ha,hfl,_,_⟩|ha
  ·rw[ha]at R ⊢
   dsimp only at R ⊢
   rw[jnh hfl]
   obtain⟨g,cap,cur,e8,_,_,_,_,_,_,_⟩:=hV.file (i:=f) hfl
   have hun:=(hf.files _ (jn8 hfl)).units
   have hsn:zu D.files[f].waits 9223372036854775807 D.files[f].sure.data.toList=D.files[f].seen:=Jk _ _ _ (by omega)
   have K:=jnc (fun w1 (hb:Below w.heap.size w w1)=>by
    have:=jeg (hV.below hb) hf (by omega) hfl e8 9223372036854775807 jaI
    rw[hsn]at this
    exact this)
   have D8:=jnc (fun w1 (hb:Below w.heap.size w w1)=>show w1.cell? ⟨p,8,none⟩=some (.slice (some ⟨g,0,none⟩) D.files.length cap) by have:=(hV.below hb).cells.cell 8;rw[e8]at this;exact this)
   have hp:=hV.cells.lt
   have PL:=jnc (fun w1 (hb:Below w.heap.size w w1)=>jnw hp hb.size)
   have hnf:=hf.nfiles
   clear e0 ha hg hsn e8
   go_enter Tryz.func26,Tryz.ntmps26
   go_wp2_with fail
   refine DW.mono ?_
   rintro e w0 ⟨rfl,rfl⟩
   go_wp2_with fail
   refine R.mono ?_
   rintro e w1 ⟨rfl,hb⟩
   have d8:=D8.out w1 hb
   have hp1:=PL.out w1 hb
   go_wp2_with fail
   refine(K.out w1 hb).mono ?_
   rintro e w2 ⟨rfl,hb2⟩
   have HB:=jnc (hb.trans (hb2.mono hb.size))
   clear hb hb2 K D8 PL R DW d8
   go_wp2
   go_ret2
   exact⟨rfl,HB.out⟩
  rcases ha with ha|ha|ha
  all_goals
   rw[ha]at R ⊢
   dsimp only at R ⊢
   clear ha e0 hg
   go_enter Tryz.func26,Tryz.ntmps26
   go_wp2_with fail
   refine DW.mono ?_
   rintro e w0 ⟨rfl,rfl⟩
   go_wp2_with fail
   refine R.mono ?_
   rintro e w1 ⟨rfl,hb⟩
   go_wp2
   go_ret2
   exact⟨rfl,hb⟩
 rw[hg]at DW
 clear R e0 hg
 go_enter Tryz.func26,Tryz.ntmps26
 go_wp2_with fail
 refine DW.mono ?_
 rintro e w0 ⟨rfl,rfl⟩
 go_wp2
 go_ret2
 exact⟨rfl,jne _ _⟩
theorem jb4{n:Nat}{f:jY}(h:xp n f)(u:Int):xp n (f.kept u):=by
 have h1:=vH f.waits u f.sure.data.toList
 have h2:=h.len
 have h3:f.sure.data.toList.length=f.sure.size:=(jnu _).symm
 have h4:(f.kept u).sure.size=(zu f.waits u f.sure.data.toList).length:=by rw[jnu];rfl
 exact⟨trivial,by rw[h4];show _+0<=n;omega,jnt _,jnt _,fun a ha=>by cases ha⟩
theorem Yr(l:List jY)(i:Nat)(g:jY->jY):(QK l i g).length=l.length:=by unfold QK;split<;>simp
theorem jb0{l:List jY}{i:Nat}{g:jY->jY}{x:jY}(h:x∈QK l i g):x∈l\/∃y∈l,x=g y:=by
 unfold QK at h
 split at h
 ·rcases joE h with h|h
  ·exact .inl h
  exact .inr ⟨_,jn8 _,h⟩
 exact .inl h
theorem Ks{n:Nat}{D:ji}(h:zJ n D)(fs:List jY)(hl:fs.length=D.files.length)(hm:∀f∈fs,xp n f):zJ n {D with files:=fs} :=
 ⟨h.u0,h.u1,h.l0,h.l1,h.r0,h.r1,h.dirs,by show fs.length<=n;rw[hl];exact h.nfiles,h.nacts,hm,fun c hc=>by have:=h.changes c hc;exact⟨this.1,this.2.1,by show _<fs.length;rw[hl];exact this.2.2⟩,fun x hx=>by show _<fs.length;rw[hl];exact h.names x hx⟩
theorem Ky{n:Nat}{D:ji}(h:zJ n D)(k:Nat):zJ n {D with sure:=zX (D.waits.take k) D.sure,waits:=[]}:=by
 have h1:=qF (D.waits.take k) D.sure
 have h2:=h.dirs
 refine⟨h.u0,h.u1,h.l0,h.l1,h.r0,h.r1,?_,h.nfiles,h.nacts,h.files,(fun c hc=>by cases hc),fun x hx => ?_⟩
 ·show(zX (D.waits.take k) D.sure).length+0<=n
  rw[jnk]at h1;omega
 rcases YT hx with hx|⟨c,hc,e⟩
 ·exact h.names x hx
 rw[e];exact(h.changes c (jog hc)).2.2
def zZ(fs:List jY)(ks:List Int):Nat->List jY
 | 0=>fs
 | k+1=>QK (zZ fs ks k) k fun f=>f.kept (ks.getD k 0)
theorem Ju(fs:List jY)(ks:List Int):∀k,(zZ fs ks k).length=fs.length
 | 0=>rfl
 | k+1=>by unfold zZ;rw[Yr,Ju fs ks k]
theorem Qh{n:Nat}(fs:List jY)(ks:List Int)(h:∀f∈fs,xp n f):∀k,∀f∈zZ fs ks k,xp n f
 | 0,f,hf=>h f hf
 | k+1,f,hf=>by
  unfold zZ at hf
  rcases jb0 hf with hf|⟨y,hy,rfl⟩
  ·exact Qh fs ks h k f hf
  exact jb4 (Qh fs ks h k y hy) _
def jah(D:ji)(m:Int)(ks:List Int):ji :=
 {D with sure:=zX (D.waits.take (vF m D.waits.length)) D.sure,waits:=[],files:=zZ D.files ks D.files.length,armed:=false,left:=0,gone:=false}
theorem jgl{w:World}{T:Nat->Nat}{p n:Nat}{D:ji}(hA:zK w T p D)(hf:zJ n D)(hn:n<=300000)(m:Int)(hw:(Lit.int .i64 m).wf=true)(ks:List Int)(ao:Option Addr)(ad:Addr)(cap:Nat)(hao:0<ks.length->ao=some ad)
  (hd:∀w',jv (fun r=>T r≠0) w w'->∀j (h:j<ks.length),w'.cell? (ad.add j)=some (.int .i64 ks[j])) (hks:∀k∈ks,(Lit.int .i64 k).wf=true) (hkl:ks.length<=1000000) :
  Calls Tryz.prog 16 #[.pointer (some ⟨p,0,none⟩),.int .i64 m,.slice ao ks.length cap] w fun e w'=>e=.returned (.tuple #[])/\∃T',zK w' T' p (jah D m ks)/\vd w T w' T':=by
 obtain⟨V,hV⟩:=hA
 have K0:=jae hV hf (by omega) m hw
 have F1:=jnc (Ky hf (vF m D.waits.length))
 have FS:=jnc hf.files
 have hnf:=hf.nfiles
 have HDT:=jnc hd
 have HK:=jnc hks
 have HAO:=jnc hao
 have e8:∃ao8 cap8,V.v8=.slice ao8 D.files.length cap8:=by
  rcases hV.r8.2 with ⟨e,h0⟩|⟨g,cap,cur,e,_⟩
  ·exact⟨none,0,by rw[e,h0]⟩
  exact⟨_,cap,e⟩
 obtain⟨ao8,cap8,e8⟩:=e8
 have E8:=jnc e8
 clear hd hks hao e8
 go_enter Tryz.func16,Tryz.ntmps16
 go_wp2_with fail
 refine K0.mono ?_
 rintro e w1 ⟨rfl,T1,v6',hd1,hs1⟩
 have d8:w1.cell? ⟨p,8,none⟩=some (.slice ao8 D.files.length cap8):=by have:=hd1.cells.cell 8;exact this.trans (by show some V.v8=_;rw[E8.out])
 have D1:=jnc hd1
 have S1:=jnc hs1
 clear hd1 hs1 K0
 go_wp2
 go_loopw [20] (fun i wr=>∃(k:Nat) (T':Nat->Nat) (V':JW),k<=D.files.length/\i=.int .i64 k/\zc wr T' p {D with sure:=zX (D.waits.take (vF m D.waits.length)) D.sure,waits:=[],files:=zZ D.files ks k} V'/\vd w T wr T'/\V'.v8=V.v8) (fun i _=>D.files.length-(intOf i).toNat)
 case atStart=>exact⟨0,T1,_,jnt _,rfl,D1.out,S1.out,rfl⟩
 case round =>
 obtain⟨k,T',V',hk,rfl,hdk,hsk,h8k⟩:=hrel
 by_cases hlt:k<D.files.length
 ·have hcl:=Ju D.files ks k
  have hlt2:k<(zZ D.files ks k).length:=by omega
  have fine2:=Ks F1.out (zZ D.files ks k) hcl (Qh _ _ FS.out _)
  obtain⟨g,cap',cur,e8',_,_,_,_,_,_,_⟩:=hdk.file (i:=k) hlt2
  have e8'':V'.v8=.slice (some ⟨g,0,none⟩) D.files.length cap':=by rw[e8'];exact congrArg (fun x=>Value.slice _ x _) hcl
  have d8k:wr.cell? ⟨p,8,none⟩=some (.slice (some ⟨g,0,none⟩) D.files.length cap'):=by have:=hdk.cells.cell 8;exact this.trans (by show some V'.v8=_;rw[e8''])
  have hpk:=hdk.cells.lt
  by_cases hkd:k<ks.length
  ·have hwk:=HK.out ks[k] (jn8 hkd)
   have hcd:=HDT.out wr hsk.only k hkd
   obtain rfl:=HAO.out (by omega)
   have hg:ks.getD k 0=ks[k]:=by rw[jpe,jnh hkd];rfl
   have KK:=Qc hdk fine2 (by omega) hlt2 e8'' ks[k] hwk
   have HKK:=jnc KK
   have HS:=jnc hsk
   have HG:=jnc hg
   have H8:=jnc h8k
   have HC:=jnc hcl
   generalize ks[k]=u at *
   clear KK hsk hg h8k e8' e8'' hwk
   go_wp2_with fail
   refine HKK.out.mono ?_
   rintro e w2 ⟨rfl,T2,V2,hd2,hs2,h82⟩
   have P:=jnc (show zc w2 T2 p {D with sure:=zX (D.waits.take (vF m D.waits.length)) D.sure,waits:=[],files:=zZ D.files ks (k+1)} V2/\vd w T w2 T2/\V2.v8=V.v8 from⟨by
    have:zZ D.files ks (k+1)=(zZ D.files ks k).set k ((zZ D.files ks k)[k].kept u):=by
     show QK _ _ _=_;unfold QK;rw[dif_pos hlt2,HG.out]
    rw[this];exact hd2,HS.out.trans hs2,h82.trans H8.out⟩)
   clear hd2 hs2 h82 HKK
   go_wp2
   go_roundw
   case rel=>exact⟨k+1,T2,V2,by omega,by go_num,P.out⟩
   case measure=>simp[intOf];omega
  have hg:ks.getD k 0=0:=by rw[jpe,jnY (by omega)];rfl
  have KK:=Qc hdk fine2 (by omega) hlt2 e8'' 0 (by decide)
  have HKK:=jnc KK
  have HS:=jnc hsk
  have HG:=jnc hg
  have H8:=jnc h8k
  have HC:=jnc hcl
  clear KK hsk hg h8k e8' e8''
  go_wp2_with fail
  refine HKK.out.mono ?_
  rintro e w2 ⟨rfl,T2,V2,hd2,hs2,h82⟩
  have P:=jnc (show zc w2 T2 p {D with sure:=zX (D.waits.take (vF m D.waits.length)) D.sure,waits:=[],files:=zZ D.files ks (k+1)} V2/\vd w T w2 T2/\V2.v8=V.v8 from⟨by
   have:zZ D.files ks (k+1)=(zZ D.files ks k).set k ((zZ D.files ks k)[k].kept 0):=by
    show QK _ _ _=_;unfold QK;rw[dif_pos hlt2,HG.out]
   rw[this];exact hd2,HS.out.trans hs2,h82.trans H8.out⟩)
  clear hd2 hs2 h82 HKK
  go_wp2
  go_roundw
  case rel=>exact⟨k+1,T2,V2,by omega,by go_num,P.out⟩
  case measure=>simp[intOf];omega
 obtain rfl:k=D.files.length:=by omega
 have c0:wr.cell? ⟨p,0,none⟩=some (.int .i64 D.units):=hdk.cells.cell 0
 have c1:wr.cell? ⟨p,1,none⟩=some (.bool D.armed):=hdk.cells.cell 1
 have c2:wr.cell? ⟨p,2,none⟩=some (.int .i64 D.left):=hdk.cells.cell 2
 have c3:wr.cell? ⟨p,3,none⟩=some (.bool D.gone):=hdk.cells.cell 3
 have f0:=hdk.cells.frozen 0
 have f1:=hdk.cells.frozen 1
 have f2:=hdk.cells.frozen 2
 have f3:=hdk.cells.frozen 3
 have hc4:=(((hdk.cells.set 0 (.int .i64 D.units)).set 1 (.bool false)).set 2 (.int .i64 0)).set 3 (.bool false)
 have P:=jnc (show zc ((((wr.setCell ⟨p,0,none⟩ (.int .i64 D.units)).setCell ⟨p,1,none⟩ (.bool false)).setCell ⟨p,2,none⟩ (.int .i64 0)).setCell ⟨p,3,none⟩ (.bool false)) T' p (jah D m ks) V' from
  hdk.power (by simpa [jh,jah]using hc4) (((((jv.refl (· = p) wr).cellS 0 _).cellS 1 _).cellS 2 _).cellS 3 _) rfl rfl rfl rfl)
 have S:=jnc (hsk.trans (jeD hdk.tp (((((jv.refl (· = p) wr).cellS 0 (.int .i64 D.units)).cellS 1 (.bool false)).cellS 2 (.int .i64 0)).cellS 3 (.bool false))))
 clear hc4 hdk hsk h8k
 go_wp2
 go_end0
 exact⟨rfl,T',⟨V',P.out⟩,S.out⟩
end Go.Proofs.YtpibhbjmcmfnmaaGreatDoor.Vf
namespace Go.Proofs.YtpibhbjmcmfnmaaGreatDoor.Vf
open Go.RowKit Go.Maps
theorem jeH(w:World):(binOp .eql 48 (.slice none 0 0) (.slice none 0 0)).run Tryz.prog w=.ok (.bool true) w:=by kernel_rfl
theorem jc0(a:Addr)(n c:Nat)(w:World):(binOp .eql 48 (.slice (some a) n c) (.slice none 0 0)).run Tryz.prog w=.ok (.bool false) w:=by kernel_rfl
attribute [local go_sem] jeH jc0
theorem jd1(v:Value)(l:List qM)(w:World)(h:w.ownsRow 0 101 5 v l.length (jA l))(hl:l.length<=1000000):
  Calls Tryz.prog 49 #[v] w fun e w'=>∃v',e=.returned v'/\w'.ownsRow 0 101 5 v' l.length (jA l)/\(∀k,v'.ownBlock=some k->w.heap.size<=k)/\(∃ao cap,v'=.slice ao l.length cap)/\(v=.slice none 0 0↔v'=.slice none 0 0)/\Below w.heap.size w w':=by
 obtain⟨i0,hi,hz0,hz1,hz2⟩:=info_parts YF
 rcases h.2 with ⟨rfl,h0⟩|⟨g,cap,cur,rfl,_⟩
 ·go_enter Tryz.func49,Tryz.ntmps49
  go_wp2
  go_ret
  exact⟨.slice none 0 0,rfl,h,(fun k hk=>by cases hk),⟨none,0,by rw[h0]⟩,by simp,jne _ _⟩
 have HO:=jnc h
 clear h
 go_enter Tryz.func49,Tryz.ntmps49
 go_wp2_with (at_builtin;refine wpList_append_own_at _ rfl _ _ 48 rfl w.heap.size 101 i0 _ 5 64 Tryz.underlying48 hi hz0 hz1 hz2 rfl (by decide) (.slice (some ⟨w.heap.size,0,none⟩) 0 0) 0 [] rfl (World.ownsRow_made w #[] 0 (jnd _) (jnt _) rfl) ⟨g,0,none⟩ l.length cap (jA l) rfl HO.out.1 (fun j u hu => ?c1) (fun u hu => ?c2) (by unfold maxLen;omega) (by omega) (by simp) ?_)
 case c1 =>
  have e:(⟨g,0,none⟩:Addr).add j=⟨g,j,none⟩:=by unfold Addr.add;split<;>simp_all
  rw[e]
  have hlt:g<w.heap.size:=(HO.out.lt g rfl).2
  exact(((jne _ w).alloc (jnd _) _).cell (p:=⟨g,j,none⟩) hlt).trans (yH HO.out hu)
 case c2 =>
  have hu:=hu
  unfold jA at hu
  rw[List.mem_flatMap]at hu
  obtain⟨a,_,ha⟩:=hu
  simp only[qM.cells,joS,jpc,or_false]at ha
  rcases ha with rfl|rfl|rfl|rfl|rfl<;>rfl
 intro v' w' ho hgr hnil hbk
 have hbel:Below w.heap.size w w':=((jne _ w).alloc (jnd _) _).grown hgr (by simp) (fun k hk=>by cases hk;exact jnd _)
 have ho':w'.ownsRow 0 101 5 v' l.length (jA l):=by
  refine⟨ho.1,?_⟩
  rcases ho.2 with h|⟨g',cap',cur',e1,_,r⟩
  ·exact .inl h
  exact .inr ⟨g',cap',cur',e1,jnt _,r⟩
 have hge:∀k,v'.ownBlock=some k->w.heap.size<=k:=fun k hk=>(ho.lt k hk).1
 have hnn:v' ≠ .slice none 0 0:=hnil
 obtain⟨ao,cap2,rfl⟩:∃ao cap2,v'=.slice ao l.length cap2:=by
  rcases ho'.2 with ⟨e,_⟩|⟨g',cap',cur',e1,_,r⟩
  ·exact absurd e hnn
  exact⟨_,_,e1⟩
 have P:=jnc (show _/\_/\_/\_ from⟨ho',hge,hnn,hbel⟩)
 clear ho ho' hge hnn hbel hgr hnil hbk
 go_wp2
 go_ret
 exact⟨_,rfl,P.out.1,P.out.2.1,⟨ao,cap2,rfl⟩,⟨(fun e=>by cases e),fun e=>absurd e P.out.2.2.1⟩,P.out.2.2.2⟩
theorem jcG{w:World}{T:Nat->Nat}{p n:Nat}{D:ji}(hA:zK w T p D)(hf:zJ n D)(hn:n<=300000):
  Calls Tryz.prog 18 #[.pointer (some ⟨p,0,none⟩)] w fun e w'=>∃v',e=.returned v'/\w'.ownsRow 0 101 5 v' D.acts.length (jA D.acts)/\(∀k,v'.ownBlock=some k->w.heap.size<=k)/\(∃ao cap,v'=.slice ao D.acts.length cap)/\Below w.heap.size w w':=by
 obtain⟨V,hV⟩:=hA
 have d9:w.cell? ⟨p,9,none⟩=some V.v9:=hV.cells.cell 9
 have C:=jnc (jd1 V.v9 D.acts w hV.r9 (by have:=hf.nacts;omega))
 go_enter Tryz.func18,Tryz.ntmps18
 go_wp2_with fail
 refine C.out.mono ?_
 rintro e w' ⟨v',rfl,ho,hge,⟨ao,cap,rfl⟩,_,hb⟩
 have P:=jnc (show _/\_/\_ from⟨ho,hge,hb⟩)
 clear ho hge hb C
 go_wp2
 go_ret
 exact⟨_,rfl,P.out.1,P.out.2.1,⟨ao,cap,rfl⟩,P.out.2.2⟩
theorem ZB{n:Nat}{D:ji}(h:zJ n D):zJ n (jaa D):=⟨h.u0,h.u1,h.l0,h.l1,h.r0,h.r1,h.dirs,h.nfiles,h.nacts,h.files,h.changes,h.names⟩
theorem Qx{n:Nat}{D:ji}(h:zJ n D):zJ (n+1) (zx D).1:=by
 unfold zx
 split
 ·exact h.mono (jow _)
 split
 ·rename_i hc
  have:=Ky (yt h hc ⟨7,⟨#[]⟩,⟨#[]⟩,⟨#[]⟩,0⟩) D.waits.length
  have e:zX ((jbi D ⟨7,⟨#[]⟩,⟨#[]⟩,⟨#[]⟩,0⟩).waits.take D.waits.length) (jbi D ⟨7,⟨#[]⟩,⟨#[]⟩,⟨#[]⟩,0⟩).sure=D.seen:=by
   show zX (D.waits.take D.waits.length) D.sure=D.seen
   rw[jnP];rfl
  rw[e]at this
  exact this
 exact(ZB h).mono (jow _)
theorem Zd{n:Nat}{D:ji}(h:zJ n D)(z:ByteArray):zJ (n+1) (qx D z).1:=by
 unfold qx
 split
 ·exact h.mono (jow _)
 split
 ·rename_i hc
  have hd:=yt h hc ⟨4,z,⟨#[]⟩,⟨#[]⟩,0⟩
  refine Ks hd (QK D.files _ _) (Yr _ _ _) (fun f hf => ?_)
  rcases jb0 hf with hf|⟨y,hy,rfl⟩
  ·exact hd.files f hf
  exact jb4 (hd.files y hy) _
 exact(ZB h).mono (jow _)
theorem jiW{n:Nat}{D:ji}(hf:zJ n D)(z:ByteArray)(zr:List ByteArray)(h:(zP D z zr).2=0):(zP D z zr).1<D.files.length:=by
 rcases vo hf z zr with ⟨f,e,hl,_⟩|e|e|e
 ·rw[e];exact hl
 ·rw[e]at h;cases h
 ·rw[e]at h;cases h
 rw[e]at h;cases h
theorem jj4(n:Nat):xp n QB:=⟨trivial,jnt _,jnt _,jnt _,fun a ha=>by cases ha⟩
theorem xl{n:Nat}{D:ji}(h:zJ n D)(z:ByteArray)(hz:z.size<=1000000):zJ (n+2) (jJ D z).1:=by
 unfold jJ
 split
 ·exact h.mono (by omega)
 split
 ·exact h.mono (by omega)
 split
 ·rename_i hc
  have hd:=yt h hc ⟨1,z,⟨#[]⟩,⟨#[]⟩,0⟩
  have:=hd.u1
  refine⟨hd.u0,by show D.units+1<=((n+2:Nat):Int);have:D.units+1<=((n+1:Nat):Int):=hd.u1;omega,hd.l0,hd.l1,hd.r0,hd.r1,?_,?_,?_,fun f hf => ?_,fun c hc => ?_,fun x hx => ?_⟩
  ·have:=h.dirs;show D.sure.length+(D.waits++[_]).length<=_;simp;omega
  ·have:=h.nfiles;show(D.files++[_]).length<=_;simp;omega
  ·have:=h.nacts;show(D.acts++[_]).length<=_;simp;omega
  ·rcases List.mem_append.1 hf with hf|hf
   ·exact(h.files f hf).mono (by omega)
   obtain rfl:f=QB:=by simpa using hf
   exact jj4 _
  ·show _/\_/\c.file<(D.files++[QB]).length
   rw[jnf]
   rcases List.mem_append.1 hc with hc|hc
   ·have:=h.changes c hc;exact⟨this.1,this.2.1,by omega⟩
   obtain rfl:c=⟨⟨#[]⟩,z,D.files.length⟩:=by simpa using hc
   exact⟨by show(0:Nat)<=1000000;omega,hz,by show D.files.length<_;simp⟩
  show x.2<(D.files++[QB]).length
  rw[jnf]
  have:=h.names x hx;omega
 exact(ZB h).mono (by omega)
theorem ZL{n:Nat}{D:ji}(h:zJ n D)(z t:ByteArray):zJ (n+2*t.size+2) (zp D z t).1:=by
 unfold zp
 split
 ·exact h.mono (by omega)
 rename_i h0
 split
 ·exact h.mono (by omega)
 have hs:=XJ (k:=t.size) h
 obtain⟨m,hm,hmt,_⟩:=KU D n t.size h
 dsimp only
 split
 ·have hl:=jiW h z [] (by simpa using h0)
  rw[hm,jox]
  have hps:(t.extract 0 m).size<=t.size+1:=by rw[jnu,vA,jnk,<- jnu];omega
  have hmore:=Gj (k:=t.size+1) hs (f:=(zP D z []).1) hl (qi z t m) (.inl rfl) (fun e=>by cases e) hps (by omega)
  have hmf:QK D.files (zP D z []).1 (fun f=>f.more (qi z t m))=(Zf D t.size).files.set (zP D z []).1 ((Zf D t.size).files[(zP D z []).1].more (qi z t m)):=by
   unfold QK;rw[dif_pos hl];rfl
  rw[hmf]
  have hna:=h.nacts
  have h1:=hmore.mono (m:=n+2*t.size+2) (by omega)
  exact⟨h1.u0,h1.u1,h1.l0,h1.l1,h1.r0,h1.r1,h1.dirs,h1.nfiles,by show(D.acts++[_]).length<=_;simp;omega,h1.files,h1.changes,h1.names⟩
 exact hs.mono (by omega)
end Go.Proofs.YtpibhbjmcmfnmaaGreatDoor.Vf
namespace Go.Proofs.YtpibhbjmcmfnmaaGreatDoor.Vf
open Go.RowKit Go.Maps
attribute [local go_sem] jT vL xo Kt
def jcw(z:ByteArray)(m:Nat):qM:=⟨3,z,⟨#[]⟩,⟨#[]⟩,m⟩
def vP(D:ji)(f:Nat):Nat:=vu D.files f
def WU(D:ji)(z:ByteArray)(k:Int):ji×Nat :=
 if (zP D z []).2≠0 then (D,(zP D z []).2) else if k<0\/(vP D (zP D z []).1:Int)<k then (D,1)
 else if xX D then ({jbi D (jcw z k.toNat) with files:=QK D.files (zP D z []).1 fun f=>f.more (jcw z k.toNat)},0) else (jaa D,3)
theorem jkX{w:World}{T:Nat->Nat}{p n:Nat}{D:ji}(hA:zK w T p D)(hf:zJ n D)(hn:n<=400000)(z:ByteArray)(hz:z.size<=1000000)(k:Int)(hk1 : -9223372036854775808<=k)(hk2:k<=9223372036854775807):
  Calls Tryz.prog 72 #[.pointer (some ⟨p,0,none⟩),.string z,.int .i64 k] w fun e w'=>e=.returned (qm (WU D z k).2)/\∃T',zK w' T' p (WU D z k).1/\vd w T w' T':=by
 obtain⟨V,hV⟩:=hA
 have R:=xQ (n:=n) hV z [] 1 ((jne _ w).alloc (jnd _) (.cells #[.string z] 9)) (by simp) (jle w z _) (by simpa using hz) (by simp)
 have e0:vy (zm D.gone [z]) (ya D.seen z.data.toList)=zP D z []:=rfl
 rw[e0]at R
 unfold WU
 rcases vo hf z []with ⟨f,ha,hfl,_,_⟩|ha
 ·rw[ha]at R ⊢
  dsimp only at R ⊢
  obtain⟨g,cap,cur,e8,_,_,_,_,_,tg,hfa⟩:=hV.file (i:=f) hfl
  have d8:w.cell? ⟨p,8,none⟩=some (.slice (some ⟨g,0,none⟩) D.files.length cap):=by have:=hV.cells.cell 8;rw[e8]at this;exact this
  have hsz:vP D f=D.files[f].seen.length:=by unfold vP vu;rw[jnh hfl]
  have hgl:g<w.heap.size:=hV.low g (by omega)
  have hpl:=hV.cells.lt
  have D8:=jnc (fun w1 (hb:Below w.heap.size w w1)=>show w1.cell? ⟨p,8,none⟩=some (.slice (some ⟨g,0,none⟩) D.files.length cap) from(hb.cell (p:=⟨p,8,none⟩) hpl).trans d8)
  have C2:=jnc (fun w1 (hb:Below w.heap.size w w1)=>show w1.cell? ⟨g,f*3+2,none⟩=some (.int .i64 (D.files[f].seen.length:Nat)) from(hb.cell (p:=⟨g,f*3+2,none⟩) hgl).trans hfa.c2)
  have PL:=jnc (fun w1 (hb:Below w.heap.size w w1)=>jnw hpl hb.size)
  have GL:=jnc (fun w1 (hb:Below w.heap.size w w1)=>jnw hgl hb.size)
  have hnf:=hf.nfiles
  have hlen:D.files[f].seen.length<=1000000:=by
   have ok:=hf.files _ (jn8 hfl)
   have hsl:D.files[f].sure.data.toList.length=D.files[f].sure.size:=(jnu _).symm
   have:=qP D.files[f].waits D.files[f].sure.data.toList
   have:=ok.len;unfold jY.seen;omega
  rw[if_neg (by simp),hsz]
  by_cases hbad:k<0\/((D.files[f].seen.length:Nat):Int)<k
  ·rw[if_pos hbad]
   have HV:=jnc hV
   clear hfa d8 e0 ha hV e8
   generalize D.files[f].seen.length=sz at *
   rcases(show k<0\/(0<=k/\(sz:Int)<k) by omega) with hb1|⟨hb1,hb2⟩
   ·have d1:decide (k<0)=true:=decide_eq_true hb1
    go_enter Tryz.func72,Tryz.ntmps72
    go_wp2_with fail
    refine R.mono ?_
    rintro e w1 ⟨rfl,hb⟩
    have q8:=D8.out w1 hb;have q2:=C2.out w1 hb;have qp:=PL.out w1 hb;have qg:=GL.out w1 hb
    go_wp2
    go_ret
    exact⟨rfl,T,⟨V,HV.out.below hb⟩,vd.below hb⟩
   have d1:decide (k<0)=false:=decide_eq_false (by omega)
   have d2:decide ((sz:Int)<k)=true:=decide_eq_true hb2
   go_enter Tryz.func72,Tryz.ntmps72
   go_wp2_with fail
   refine R.mono ?_
   rintro e w1 ⟨rfl,hb⟩
   have q8:=D8.out w1 hb;have q2:=C2.out w1 hb;have qp:=PL.out w1 hb;have qg:=GL.out w1 hb
   go_wp2
   go_ret
   exact⟨rfl,T,⟨V,HV.out.below hb⟩,vd.below hb⟩
  rw[if_neg hbad]
  obtain⟨m,rfl⟩:∃m:Nat,k=(m:Int):=⟨k.toNat,by omega⟩
  rw[jox]
  have hml:m<=D.files[f].seen.length:=by omega
  have d1:decide ((m:Int)<0)=false:=decide_eq_false (by omega)
  have d2:decide (((D.files[f].seen.length:Nat):Int)<(m:Int))=false:=decide_eq_false (by omega)
  have EA:jcw z m=⟨3,z,⟨#[]⟩,⟨#[]⟩,m⟩:=rfl
  rw[EA]
  cases hc:xX D
  ·have HG:=jnc (fun w1 (hb:Below w.heap.size w w1)=>jiC (hV.below hb) hf (by omega) hc (kind:=3) (at_:=m) (name:=z) (other:=⟨#[]⟩) (bytes:=⟨#[]⟩))
   clear hc ha e0 hV hfa d8 e8 hbad EA hsz
   have hml0:m<=1000000:=by omega
   generalize D.files[f].seen.length=sz at *
   go_enter Tryz.func72,Tryz.ntmps72
   go_wp2_with fail
   refine R.mono ?_
   rintro e w1 ⟨rfl,hb⟩
   have q8:=D8.out w1 hb;have q2:=C2.out w1 hb;have qp:=PL.out w1 hb;have qg:=GL.out w1 hb
   have hba:Below w.heap.size w (w1.alloc (.cells #[.int .i64 3,.string z,.string ⟨#[]⟩,.string ⟨#[]⟩,.int .i64 m] 101)):=hb.alloc hb.size _
   go_wp2_with fail
   refine(HG.out _ hba).mono ?_
   rintro e w2 ⟨rfl,hd,hs⟩
   have F:=jnc (show zc w2 T p (jaa D) V/\vd w T w2 T from⟨hd,(vd.below hba).trans hs⟩)
   clear hd hs hba HG hb D8 C2 PL GL q8 q2
   go_wp2
   go_ret
   exact⟨rfl,T,⟨V,F.out.1⟩,F.out.2⟩
  have HG:=jnc (fun w1 (hb:Below w.heap.size w w1)=>jcm (hV.below hb) hf (by omega) hc (kind:=3) (at_:=m) (name:=z) (other:=⟨#[]⟩) (bytes:=⟨#[]⟩))
  have HF:=jnc (yt hf hc ⟨3,z,⟨#[]⟩,⟨#[]⟩,m⟩)
  have HML:=jnc hml
  have LOW:=jnc hV.low
  clear hc ha e0 hV hfa d8 hbad EA hsz
  have hml0:m<=1000000:=by have:=HML.out;omega
  generalize hgs:D.files[f].seen.length=sz at d2 C2 hlen hml
  have HGS:=jnc hgs
  clear hgs
  go_enter Tryz.func72,Tryz.ntmps72
  go_wp2_with fail
  refine R.mono ?_
  rintro e w1 ⟨rfl,hb⟩
  have q8:=D8.out w1 hb;have q2:=C2.out w1 hb;have qp:=PL.out w1 hb;have qg:=GL.out w1 hb
  have hba:Below w.heap.size w (w1.alloc (.cells #[.int .i64 3,.string z,.string ⟨#[]⟩,.string ⟨#[]⟩,.int .i64 m] 101)):=hb.alloc hb.size _
  have NB:=jnc (ja.new w1 101 #[.int .i64 3,.string z,.string ⟨#[]⟩,.string ⟨#[]⟩,.int .i64 m])
  have HBS:=jnc hb.size
  go_wp2_with fail
  refine(HG.out _ hba).mono ?_
  rintro e w2 ⟨rfl,T2,v9',hd,hs⟩
  have bx:ja w2 w1.heap.size 101 #[.int .i64 3,.string z,.string ⟨#[]⟩,.string ⟨#[]⟩,.int .i64 m] :=
   NB.out.only hs.only (fun h=>by have:=LOW.out _ h;have:=HBS.out;omega)
  have b0:=bx.cell 0;have b1:=bx.cell 1;have b2:=bx.cell 2;have b3:=bx.cell 3;have b4:=bx.cell 4
  simp at b0 b1 b2 b3 b4
  have hbl:=bx.lt
  have p8:w2.cell? ⟨p,8,none⟩=some (.slice (some ⟨g,0,none⟩) D.files.length cap):=by have:=hd.cells.cell 8;dsimp only at this;rw[e8]at this;exact this
  have pp:=hd.cells.lt
  have K:=jnc (fun W (hbW:Below w2.heap.size w2 W)=>Ko (hd.below hbW) HF.out (by omega) hfl e8 ⟨3,z,⟨#[]⟩,⟨#[]⟩,m⟩ (.inr rfl) (fun _=>HML.out) (jnt _))
  have HS:=jnc ((vd.below hba).trans hs)
  clear hd hs hba HG hb D8 C2 PL GL q8 q2 bx NB HBS LOW R
  go_wp2
  go_region_law ((go_simp;go_at_call 65;refine(K.out _ ((jne _ w2).drew)).mono ?_;rintro e w4 ⟨rfl,T4,V4,hd4,hs4⟩))
  all_goals
   have HD4:=jnc hd4
   have HS4:=jnc (HS.out.trans hs4.undrew)
   clear hd4 hs4 K HS
   go_wp2
   go_ret
   exact⟨rfl,T4,⟨V4,by unfold QK;rw[dif_pos hfl];exact HD4.out⟩,HS4.out⟩
 rcases ha with ha|ha|ha
 all_goals
  rw[ha]at R ⊢
  dsimp only at R ⊢
  clear ha e0
  go_enter Tryz.func72,Tryz.ntmps72
  go_wp2_with fail
  refine R.mono ?_
  rintro e w1 ⟨rfl,hb⟩
  go_wp2
  go_ret
  exact⟨rfl,T,⟨V,hV.below hb⟩,vd.below hb⟩
end Go.Proofs.YtpibhbjmcmfnmaaGreatDoor.Vf
namespace Go.Proofs.YtpibhbjmcmfnmaaGreatDoor.Vf
open Go.RowKit Go.Maps
def bs(l:List UInt8):ByteArray:=⟨l.toArray⟩
theorem jgs(l:List UInt8):(bs l).data.toList=l:=by unfold bs;simp
theorem jmG(s:ByteArray):bs s.data.toList=s:=by cases s;simp[bs]
structure yw(l:Dir):Prop where
 up:l.Pairwise fun x y=>bytesBefore x.1 y.1=true
 some:∀x∈l,x.1≠[]
theorem yw.nil:yw []:=⟨List.Pairwise.nil,fun x h=>by cases h⟩
def jgZ(t:TypeId):Prop:=t≠94/\t≠118/\t≠98/\t≠101
instance (t:TypeId):Decidable (jgZ t):=by unfold jgZ;infer_instance
def qW(p:Nat)(V:JW):List (Option Nat):=some p::jt V.v5::jt V.v6::V.v7.ownBlock::V.v8.ownBlock::V.v9.ownBlock::V.fvs.map Value.ownBlock
def Uo(T:Nat->Nat)(p:Nat)(V:JW):Nat->Nat:=fun b=>if some b∈qW p V then T b else 0
theorem yE{T:Nat->Nat}{p:Nat}{V:JW}{o:Option Nat}{k:Nat}(h:jH T o k)(ho:o∈qW p V):jH (Uo T p V) o k:=by
 intro b hb
 unfold Uo
 rw[if_pos (by rw[<- hb];exact ho)]
 exact h b hb
theorem zc.trim{w:World}{T:Nat->Nat}{p:Nat}{D:ji}{V:JW}(h:zc w T p D V):zc w (Uo T p V) p D V:=by
 refine⟨h.cells,?_,h.m5,yE h.t5 (by simp[qW]),h.m6,yE h.t6 (by simp[qW]),h.nil56,h.nilw,h.r7,yE h.t7 (by simp[qW]),h.r8,yE h.t8 (by simp[qW]),h.r9,yE h.t9 (by simp[qW]),h.nf,fun i h1 h2=>⟨(h.rf i h1 h2).1,yE (h.rf i h1 h2).2 ?_⟩,fun b hb=>h.low b ?_⟩
 ·unfold Uo;rw[if_pos (by simp[qW])];exact h.tp
 ·unfold qW
  simp only[joS,List.mem_map]
  exact .inr (.inr (.inr (.inr (.inr (.inr ⟨_,jn8 h2,rfl⟩)))))
 unfold Uo at hb
 split at hb
 ·exact hb
 exact absurd rfl hb
theorem KZ{w:World}{lo n size b:Nat}{e:TypeId}{v:Value}{xs:List Value}(h:w.ownsRow lo e size v n xs)(hb:v.ownBlock=some b):∃c,w.heap[b]?=some (.cells c e (0,0)):=by
 rcases h.2 with ⟨q,_⟩|⟨g,cap,c,q,_,hg,_⟩
 ·rw[q]at hb;cases hb
 rw[q]at hb
 have e:g=b:=by injection hb
 subst e
 exact⟨c,hg⟩
theorem jfi{w:World}{n b:Nat}{v:Value}{l:Dir}(h:zR w n v l)(hb:jt v=some b):∃es clock,w.heap[b]?=some (.map es clock):=by
 rcases h with ⟨q,_⟩|⟨b',q,es,clock,hh,_⟩
 ·rw[q]at hb;cases hb
 rw[q]at hb
 have e:b'=b:=by injection hb
 subst e
 exact⟨es,clock,hh⟩
theorem zc.types{w:World}{T:Nat->Nat}{p:Nat}{D:ji}{V:JW}(h:zc w T p D V){b:Nat}(hb:some b∈qW p V){c:Array Value}{t:TypeId}{fr:Nat×Nat}(ho:w.heap[b]?=some (Obj.cells c t fr)):¬jgZ t:=by
 intro hn
 have fin:∀{c':Array Value} {t':TypeId} {fr':Nat×Nat},w.heap[b]?=some (.cells c' t' fr')->t'=t:=fun h'=>by
  rw[ho]at h';injection h' with h';injection h' with _ h' _;exact h'.symm
 have mp:∀{es clock},w.heap[b]?=some (.map es clock)->False:=fun h'=>by rw[ho]at h';injection h' with h';cases h'
 unfold qW at hb
 simp only[joS,List.mem_map]at hb
 rcases hb with hb|hb|hb|hb|hb|hb|⟨v,hv,hb⟩
 ·have e:b=p:=by injection hb
  subst e
  exact hn.1 (fin (show w.heap[b]?=_ from h.cells)).symm
 ·obtain⟨_,_,hh⟩:=jfi h.m5 hb.symm;exact mp hh
 ·obtain⟨_,_,hh⟩:=jfi h.m6 hb.symm;exact mp hh
 ·obtain⟨_,hh⟩:=KZ h.r7 hb.symm;exact hn.2.1 (fin hh).symm
 ·obtain⟨_,hh⟩:=KZ h.r8 hb.symm;exact hn.2.2.1 (fin hh).symm
 ·obtain⟨_,hh⟩:=KZ h.r9 hb.symm;exact hn.2.2.2 (fin hh).symm
 obtain⟨i,hi,rfl⟩:=jpf hv
 obtain⟨_,hh⟩:=KZ (h.rf i (by rw[<- h.nf];exact hi) hi).1 hb;exact hn.2.2.2 (fin hh).symm
def jD(L:Nat)(w:World)(p:Nat)(D:ji):Prop:=∃T,zK w T p D/\∀b,T b≠0->L<=b
theorem jD.below{L:Nat}{w w':World}{p:Nat}{D:ji}(h:jD L w p D)(hb:Below w.heap.size w w'):jD L w' p D:=by
 obtain⟨T,h1,h2⟩:=h;exact⟨T,h1.below hb,h2⟩
structure jO(L:Nat)(w w':World):Prop where
 bel:Below L w w'
 rest:∀(b:Nat) (c:Array Value) (t:TypeId) (fr:Nat×Nat),w.heap[b]?=some (Obj.cells c t fr)->jgZ t->w'.heap[b]?=w.heap[b]?
theorem jO.refl(L:Nat)(w:World):jO L w w:=⟨jne _ _,fun _ _ _ _ _ _=>rfl⟩
theorem jO.trans{L:Nat}{w w1 w2:World}(h:jO L w w1)(g:jO L w1 w2):jO L w w2 :=
 ⟨h.bel.trans g.bel,fun b c t fr ho hn=>by
  have h1:=h.rest b c t fr ho hn
  exact(g.rest b c t fr (h1.trans ho) hn).trans h1⟩
theorem jO.of_below{L:Nat}{w w':World}(h:Below w.heap.size w w')(hL:L<=w.heap.size):jO L w w' :=
 ⟨h.mono hL,fun b c t fr ho _=>h.block b (Array.getElem?_eq_some_iff.1 ho).1⟩
theorem jO.then_{L:Nat}{w w1 w2:World}(h:jO L w w1)(g:Below w1.heap.size w1 w2)(hL:L<=w.heap.size):jO L w w2:=h.trans (jO.of_below g (jns hL h.bel.size))
theorem jO.cells{L:Nat}{w w':World}(h:jO L w w'){b:Nat}{t:TypeId}{cur:Array Value}(hc:ja w b t cur)(ht:jgZ t):ja w' b t cur:=(h.rest b cur t (0,0) hc ht).trans hc
theorem jD.trim{L:Nat}{w:World}{p:Nat}{D:ji}(h:jD L w p D):∃T,zK w T p D/\(∀b,T b≠0->L<=b)/\∀(b:Nat) (c:Array Value) (t:TypeId) (fr:Nat×Nat),w.heap[b]?=some (Obj.cells c t fr)->jgZ t->T b=0:=by
 obtain⟨T,⟨V,hV⟩,h2⟩:=h
 refine⟨Uo T p V,⟨V,hV.trim⟩,fun b hb=>h2 b ?_,fun b c t fr ho hn => ?_⟩
 ·unfold Uo at hb
  split at hb
  ·exact hb
  exact absurd rfl hb
 unfold Uo
 split
 ·rename_i hm;exact absurd hn (hV.types hm ho)
 rfl
theorem jO.of_step{L:Nat}{w w':World}{T T':Nat->Nat}(hs:vd w T w' T')(hL:L<=w.heap.size)(h1:∀b,T b≠0->L<=b)(h2:∀(b:Nat) (c:Array Value) (t:TypeId) (fr:Nat×Nat),w.heap[b]?=some (Obj.cells c t fr)->jgZ t->T b=0):jO L w w' :=
 ⟨hs.only.to_below hL (fun r hr hn=>by have:=h1 r hn;omega),fun b c t fr ho hn=>hs.only.same b (Array.getElem?_eq_some_iff.1 ho).1 (fun h=>h (h2 b c t fr ho hn))⟩
theorem ZX{L:Nat}{w:World}{p F:Nat}{args:Array Value}{D D':ji}{E:Ending}(hO:jD L w p D)(hL:L<=w.heap.size)
  (hC:∀T,zK w T p D->(∀b,T b≠0->L<=b)->(∀(b:Nat) (c:Array Value) (t:TypeId) (fr:Nat×Nat),w.heap[b]?=some (Obj.cells c t fr)->jgZ t->T b=0)->Calls Tryz.prog F args w fun e w'=>e=E/\∃T',zK w' T' p D'/\vd w T w' T') :
  Calls Tryz.prog F args w fun e w'=>e=E/\jD L w' p D'/\jO L w w':=by
 obtain⟨T,h1,h2,h3⟩:=hO.trim
 refine(hC T h1 h2 h3).mono ?_
 rintro e w' ⟨rfl,T',hd,hs⟩
 refine⟨rfl,⟨T',hd,fun b hb => ?_⟩,jO.of_step hs hL h2 h3⟩
 rcases jnK b w.heap.size with h|h
 ·rw[hs.old b h]at hb;exact h2 b hb
 omega
abbrev Fnv:=Nat×Array Value×Array Value
def fnv(x:Fnv):Value:=.func (.func x.1) x.2.1 x.2.2
attribute [local go_sem] fnv
theorem jab(fs:List Fnv)(St:Nat->World->Prop)(Bad:Value->World->Prop)(b:Nat)(hl:fs.length<=1000)
  (hc:∀i W,St i W->∀j x,fs[j]?=some x->W.cell? ⟨b,j,none⟩=some (fnv x))
  (he:∀x∈fs,∀args w,(callFunc x.1 args).run Tryz.prog w=.ok (.enter x.1 args) w)
  (hs:∀i x W,fs[i]?=some x->St i W->Calls Tryz.prog x.1 (x.2.1++x.2.2) W fun e W'=>∃u,e=.returned u/\(u=.nilIface/\St (i+1) W'\/(∃t d,u=.iface t d)/\Bad u W'))
  (w:World) (h0:St 0 w) :
  Calls Tryz.prog 32 #[.slice (some ⟨b,0,none⟩) fs.length fs.length] w fun e w'=>∃u,e=.returned u/\(u=.nilIface/\St fs.length w'\/(∃t d,u=.iface t d)/\Bad u w'):=by
 have HC:=jnc hc
 have HE:=jnc he
 have HS:=jnc hs
 have H0:=jnc h0
 clear hc he hs h0
 go_enter Tryz.func32,Tryz.ntmps32
 go_wp2_with fail
 go_loopw [8] (fun iv wr=>∃i:Nat,i<=fs.length/\iv=.int .i64 (i:Nat)/\St i wr) (fun iv _=>fs.length-(intOf iv).toNat)
 case atStart=>exact⟨0,jnt _,rfl,H0.out⟩
 case round =>
 obtain⟨i,hi,rfl,hst⟩:=hrel
 by_cases hlt:i<fs.length
 ·obtain⟨x,hx⟩:∃x,fs[i]?=some x:=⟨_,jnh hlt⟩
  have C0:=HC.out i wr hst i x hx
  have E0:=HE.out x (jnC hx)
  have S0:=jnc (HS.out i x wr hx hst)
  have HST:=jnc hst
  clear hst hx
  obtain⟨g,cs,rs⟩:=x
  unfold fnv at C0
  dsimp only at C0 E0 S0
  go_wp2_with fail
  refine S0.out.mono ?_
  rintro e w1 ⟨u,rfl,⟨rfl,hst⟩|⟨⟨t,d,rfl⟩,hb⟩⟩
  ·go_wp2_with fail
   go_roundw
   case rel=>exact⟨i+1,hlt,by go_num,hst⟩
   case measure=>simp[intOf];omega
  go_wp2_with fail
  go_ret
  exact⟨_,rfl,.inr ⟨⟨t,d,rfl⟩,hb⟩⟩
 obtain rfl:i=fs.length:=by omega
 go_wp2_with fail
 go_ret
 exact⟨_,rfl,.inl ⟨rfl,hst⟩⟩
end Go.Proofs.YtpibhbjmcmfnmaaGreatDoor.Vf
namespace Go.Proofs.YtpibhbjmcmfnmaaGreatDoor.Vf
open Go.RowKit Go.Maps
def Xl(D:ji)(z:ByteArray):Bool:=(ya D.seen z.data.toList).isSome
def Ud(z:ByteArray):ByteArray:=z ++ ⟨#[46,110,101,119]⟩
def xM(z:ByteArray):Bool:=decide (z.size<=16)&&zy z
structure Uj(D:ji):Prop where
 gone:D.gone=false
 armed:D.armed=false
theorem Uj.can{D:ji}(h:Uj D):xX D=true:=by unfold xX;rw[h.armed];rfl
theorem jav{D:ji}{z:ByteArray}(h:D.gone=false)(hz:zy z=true):zP D z []=(match ya D.seen z.data.toList with | some f=>(f,0) | none=>(0,7)):=by
 unfold zP zm vy
 rw[h]
 simp[hz]
 cases ya D.seen z.data.toList<;>rfl
theorem jcC{D:ji}{z:ByteArray}(h:D.gone=false)(hz:zy z=true)(hs:Xl D z=true):(zP D z []).2=0:=by
 rw[jav h hz]
 unfold Xl at hs
 cases e:ya D.seen z.data.toList with
 | none=>rw[e]at hs;cases hs
 | some f=>rfl
theorem ZC{D:ji}{z:ByteArray}(h:Uj D)(hz:zy z=true)(hn:Xl D z=false):(jJ D z).2=0/\Uj (jJ D z).1:=by
 have e:zm D.gone [z]=0:=by unfold zm;rw[h.gone];simp[hz]
 unfold Xl at hn
 unfold jJ
 rw[if_neg (by rw[e];exact fun q=>q rfl),if_neg (by rw[hn];decide),if_pos h.can]
 exact⟨rfl,⟨h.gone,h.armed⟩⟩
theorem XH{D:ji}(h:Uj D):(zx D).2=0/\Uj (zx D).1:=by
 unfold zx
 rw[if_neg (by rw[h.gone];decide),if_pos h.can]
 exact⟨rfl,⟨h.gone,h.armed⟩⟩
theorem jjA{D:ji}{z:ByteArray}(h:Uj D)(hz:zy z=true)(hs:Xl D z=true):(qx D z).2=0/\Uj (qx D z).1:=by
 unfold qx
 rw[if_neg (by rw[jcC h.gone hz hs];exact fun q=>q rfl),if_pos h.can]
 exact⟨rfl,⟨h.gone,h.armed⟩⟩
theorem jl1{D:ji}{z:ByteArray}(h:Uj D)(hz:zy z=true)(hs:Xl D z=true)(k:Nat)(hk:k<=vP D (zP D z []).1):(WU D z k).2=0/\Uj (WU D z k).1/\Xl (WU D z k).1 z=true:=by
 unfold WU
 rw[if_neg (by rw[jcC h.gone hz hs];exact fun q=>q rfl),if_neg (by omega),if_pos h.can]
 exact⟨rfl,⟨h.gone,h.armed⟩,hs⟩
theorem WS{n:Nat}{D:ji}(h:zJ n D)(z:ByteArray)(k:Int):zJ (n+2) (WU D z k).1:=by
 unfold WU
 split
 ·exact h.mono (by omega)
 rename_i ha
 split
 ·exact h.mono (by omega)
 rename_i hk
 split
 ·rename_i hc
  rcases vo h z []with ⟨f,ea,hfl,_,_⟩|ea
  ·rw[ea]at hk ⊢
   dsimp only at hk ⊢
   have hsz:vP D f=D.files[f].seen.length:=by unfold vP vu;rw[jnh hfl]
   rw[hsz]at hk
   have:=Gj (k:=1) (yt h hc (jcw z k.toNat)) (f:=f) hfl (jcw z k.toNat) (.inr rfl) (fun _=>by show k.toNat<=D.files[f].seen.length;omega) (jnt _) (jnd _)
   unfold QK
   rw[dif_pos hfl]
   exact this
  rcases ea with ea|ea|ea<;>rw[ea]at ha<;>simp at ha
 exact(ZB h).mono (by omega)
def vk(D:ji)(z:ByteArray):ji:=if Xl D z then D else (zx (jJ D z).1).1
theorem Gk{D:ji}{z:ByteArray}(h:Uj D)(hz:zy z=true):Uj (vk D z):=by
 unfold vk
 split
 ·exact h
 rename_i hn
 exact(XH (ZC h hz (by simpa using hn)).2).2
theorem Yt{n:Nat}{D:ji}{z:ByteArray}(h:zJ n D)(hz:z.size<=1000000):zJ (n+3) (vk D z):=by
 unfold vk
 split
 ·exact h.mono (by omega)
 exact Qx (xl h z hz)
def ZW(D:ji)(z:ByteArray)(k:Nat):ji:=(qx (WU D z k).1 z).1
theorem xL{z:ByteArray}(h:zy z=true):z.size<=20:=by
 unfold zy at h
 simp at h
 exact h.1.2
end Go.Proofs.YtpibhbjmcmfnmaaGreatDoor.Vf
namespace Go.Proofs.YtpibhbjmcmfnmaaGreatDoor.Vf.Sd
open Go.RowKit Go.Maps Go.Sort Go.Shelf
theorem qn{B:Nat}{a w:World}(h:Below B a w)(n:Nat):Below B a (w.drewN n):=⟨h.os,h.tape,h.output,h.size,h.block⟩
def Strs(w:World)(v:Value)(ss:List ByteArray):Prop :=
 ∃A cap,v=.slice A ss.length cap/\ss.length<=cap/\∀(i:Nat) (s:ByteArray),ss[i]?=some s->∃b off,A=some ⟨b,off,none⟩/\b<w.heap.size/\w.cell? ⟨b,off+i,none⟩=some (.string s)
theorem Strs.below{w w':World}{v:Value}{ss:List ByteArray}{n:Nat}(h:Strs w v ss)(hb:Below n w w')(hn:w.heap.size<=n):Strs w' v ss:=by
 obtain⟨A,cap,hv,hle,hc⟩:=h
 refine⟨A,cap,hv,hle,fun i s hs => ?_⟩
 obtain⟨b,off,hA,hlt,hcell⟩:=hc i s hs
 exact⟨b,off,hA,jnw hlt hb.size,(hb.cell (p:=⟨b,off+i,none⟩) (jnw hlt hn)).trans hcell⟩
theorem Strs.none(w:World)(c:Nat):Strs w (.slice none 0 c) []:=⟨_,c,rfl,jnt _,fun i s h=>by simp at h⟩
theorem texts_any(v v':Value)(ss zs:List ByteArray)(w:World)(h:Strs w v ss)(h':Strs w v' zs)(hl:ss.length<=1000000)(hl':zs.length<=1000000):
  Calls Tryz.prog 24 #[v,v'] w fun e w'=>e=.returned (.bool (decide (ss=zs)))/\Below w.heap.size w w':=by
 obtain⟨A,cap,rfl,hle,hc⟩:=h
 obtain⟨A',cap',rfl,hle',hc'⟩:=h'
 by_cases hne:ss.length=zs.length
 ·go_enter Tryz.func24,Tryz.ntmps24
  go_wp2
  go_loopw [13] (fun i wr=>∃k:Nat,k<=ss.length/\i=.int .i64 k/\(ss.take k=zs.take k)/\Below w.heap.size w wr) (fun i _=>ss.length-(intOf i).toNat)
  case atStart=>exact⟨0,jnt _,rfl,rfl,jne _ _⟩
  case round =>
  obtain⟨k,hk,rfl,he,hbl⟩:=hrel
  by_cases hlt:k<ss.length
  ·obtain⟨x,e1⟩:∃x,ss[k]?=some x:=⟨_,jnh hlt⟩
   obtain⟨y,e2⟩:∃y,zs[k]?=some y:=⟨_,jnh (by omega)⟩
   obtain⟨b,off,rfl,hb,c1⟩:=hc k _ e1
   obtain⟨b',off',rfl,hb',c2⟩:=hc' k _ e2
   replace c1:=(hbl.cell (p:=⟨b,off+k,none⟩) hb).trans c1
   replace c2:=(hbl.cell (p:=⟨b',off'+k,none⟩) hb').trans c2
   have E:=jnc he
   have T1:Hid (ss.take (k+1)=ss.take k++[x]):=by show _=_;rw[jnW,e1];rfl
   have T2:Hid (zs.take (k+1)=zs.take k++[y]):=by show _=_;rw[jnW,e2];rfl
   have F:=jnc (show x≠y->ss≠zs from fun hn hs=>by subst hs;rw[e1]at e2;exact hn (jng e2))
   have hz:k<zs.length:=by omega
   clear hc hc' e1 e2 he
   by_cases hxy:x=y
   ·subst hxy
    go_wp2_with (go_quiet (fail))
    go_roundw
    case rel=>exact⟨k+1,hlt,by go_num,by rw[T1.out,T2.out,E.out],qn hbl _⟩
    case measure=>simp[intOf];omega
   have hx2:¬x.toList=y.toList:=fun e=>hxy (by apply joA;apply Array.ext';have:=e;rw[jn0,jn0]at this;exact this)
   have F2:=jnc (F.out hxy)
   clear F
   have hx3:(x.toList==y.toList)=false:=by simpa using hx2
   have hx4:(x.toList != y.toList)=true:=by simpa using hx2
   go_wp2_with (go_quiet (fail))
   go_ret
   exact⟨by simp[F2.out],qn hbl _⟩
  obtain rfl:k=ss.length:=by omega
  rw[jnD (jnd _),jnD (by omega)]at he
  clear hc hc'
  go_wp2
  go_ret
  exact⟨by simp[he],hbl⟩
 have hn:¬((ss.length:Int)=zs.length):=by omega
 have F:=jnc (show ss≠zs from fun hs=>by subst hs;exact hne rfl)
 clear hc hc' hne
 go_enter Tryz.func24,Tryz.ntmps24
 go_wp2
 go_ret
 exact⟨by simp[F.out],jne _ _⟩
theorem jjD{w:World}{lo:Nat}{v:Value}{ss:List (List UInt8)}(h:w.ownsRow lo 9 1 v ss.length (ss.map fun s=>.string (bs s))):Strs w v (ss.map bs):=by
 have h0:=h
 rcases h.2 with ⟨q,hn⟩|⟨g,cap,cur,q,hb,hc,hle,_⟩
 ·have:ss=[]:=jn7 (by first | exact hn | exact hn.symm | omega)
  subst this
  rw[q];exact Strs.none w 0
 refine⟨some ⟨g,0,none⟩,cap,by rw[jnI];exact q,by rw[jnI];exact hle,fun i s hs=>⟨g,0,rfl,(Array.getElem?_eq_some_iff.1 hc).1,?_⟩⟩
 rw[jnF]at hs
 obtain⟨x,hx,rfl⟩:=Option.map_eq_some_iff.1 hs
 rw[q]at h0
 have:=yH h0 (j:=i) (u:=.string (bs x)) (by rw[jnF,hx];rfl)
 simpa using this
end Go.Proofs.YtpibhbjmcmfnmaaGreatDoor.Vf.Sd
