/- Texts put together:YA,YB,YC,ZA,FLA,FLB,FLC,YOA,YO. -/
import Derived.WideShapes
import Derived.WideAt
import Derived.Test.YtpibhbjmcmfnmaaGreatDoorSI
import Derived.Test.YtpibhbjmcmfnmaaGreatDoorBfn5
set_option linter.unusedVariables false
set_option maxRecDepth 100000
set_option maxHeartbeats 16000000
namespace Go.Proofs.YtpibhbjmcmfnmaaGreatDoor
abbrev jmf:=@Option.some.inj
abbrev jmF:=@Nat.lt_or_ge
abbrev jmO:=@List.take_add_one
abbrev jmS:=@List.nil_append
abbrev jmW:=@Array.replicate_succ
abbrev jmX:=@Array.replicate_zero
abbrev jm0:=@List.append_toArray
abbrev jm5:=@List.push_toArray
abbrev jng:=@List.mem_of_mem_take
abbrev jns:=@ByteArray.ext
abbrev jnz:=@Int.toNat_natCast
abbrev jnH:=@List.map_map
abbrev jn6:=@List.getElem_of_mem
abbrev jon:=@List.mem_cons
end Go.Proofs.YtpibhbjmcmfnmaaGreatDoor
namespace Go.Proofs.YtpibhbjmcmfnmaaGreatDoor.Vf
open Go.RowKit Go.Maps
attribute [local go_sem] jW xW JY jhI Xr
theorem jdf{w:World}{T:Nat->Nat}{p n:Nat}{D:jk}(hA:zI w T p D)(hf:zX n D)(hn:n<=300000)(z t:ByteArray)(hz:z.size<=1000000)(ht:t.size<=1000):
  Calls Tryz.prog 29 #[.pointer (some ⟨p,0,none⟩),.string z,.string t] w fun e w'=>e=.returned (qi (qx D z t).2)/\∃T',zI w' T' p (qx D z t).1/\vi w T w' T':=by
 obtain⟨V,hV⟩:=hA
 have R:=xr (n:=n) hV z [] 1 ((jmc _ w).alloc (jma _) (.cells #[.string z] 9)) (by simp) (jjo w z _) (by simpa using hz) (by simp)
 have e0:ve (zw D.gone [z]) (yq D.seen z.data.toList)=zU D z []:=rfl
 rw[e0]at R
 unfold qx
 rcases qR hf z []with ⟨f,ha,hfl,_,_⟩|ha
 ·have ha':=ha
  rw[ha]at R ⊢
  dsimp only at R ⊢
  rw[if_neg (by simp)]
  have HFr:=jl9 (fun w1 (hb:Below w.heap.size w w1)=>ja4 (hV.below hb) hf (by omega))
  have hfr0:0<=vm D:=by unfold vm;omega
  have hfr1:vm D<=9223372036854775807:=by unfold vm;have:=hf.r1;have:=hf.r0;omega
  by_cases hfree:vm D<t.size
  ·rw[if_pos hfree]
   have hgt:decide ((t.size:Int)>vm D)=true:=decide_eq_true (by omega)
   have hgt2:decide (vm D<(t.size:Int))=true:=decide_eq_true (by omega)
   generalize vm D=fr at *
   clear e0 ha ha' hfree
   go_enter Tryz.func29,Tryz.ntmps29
   go_wp2_with fail
   refine R.mono ?_
   rintro e w1 ⟨rfl,hb⟩
   go_wp2_with fail
   refine(HFr.out w1 hb).mono ?_
   rintro e w2 ⟨rfl,hb2⟩
   have hb12:Below w.heap.size w w2:=hb.trans (hb2.mono hb.size)
   go_wp2
   go_ret
   exact⟨rfl,T,⟨V,hV.below hb12⟩,vi.below hb12⟩
  rw[if_neg hfree]
  obtain⟨m,hm,hmt,hlast⟩:=XL D n t.size hf
  have hsp:=hm
  rw[hm]
  dsimp only
  rw[jnz]
  by_cases hm0:0<m
  ·rw[if_pos hm0]
   exact jbB hV hf hn z t hz ht f ha' hfl hfree m hm hmt hm0
  have hmz:m=0:=by omega
  rw[if_neg hm0]
  have HSp:=jl9 (fun w1 (hb:Below w.heap.size w w1)=>by
   have:=YP (hV.below hb) hf (by omega) t.size ht
   rw[hm,hmz]at this
   exact this)
  have hgt:decide ((t.size:Int)>vm D)=false:=decide_eq_false (by omega)
  have hgt2:decide (vm D<(t.size:Int))=false:=decide_eq_false (by omega)
  generalize vm D=fr at *
  subst hmz
  clear e0 ha ha' hfree hm hsp hlast hm0
  by_cases hlt:0<t.size
  all_goals
   first
    | (have hl3:decide ((0:Int)<(t.size:Int))=true:=decide_eq_true (by omega);rw[if_pos hlt])
    | (have hl3:decide ((0:Int)<(t.size:Int))=false:=decide_eq_false (by omega);rw[if_neg hlt])
   go_enter Tryz.func29,Tryz.ntmps29
   go_wp2_with fail
   refine R.mono ?_
   rintro e w1 ⟨rfl,hb⟩
   go_wp2_with fail
   refine(HFr.out w1 hb).mono ?_
   rintro e w2 ⟨rfl,hb2⟩
   have hb12:Below w.heap.size w w2:=hb.trans (hb2.mono hb.size)
   go_wp2_with fail
   refine(HSp.out w2 hb12).mono ?_
   rintro e w3 ⟨rfl,hd3,hs3⟩
   have HD:=jl9 hd3
   have HS:=jl9 ((vi.below hb12).trans hs3)
   clear hd3 hs3 hb hb2 hb12 R HFr HSp
   go_wp2
   go_ret
   exact⟨rfl,T,⟨V,HD.out⟩,HS.out⟩
 rcases ha with ha|ha|ha
 all_goals
  rw[ha]at R ⊢
  dsimp only at R ⊢
  clear ha e0
  go_enter Tryz.func29,Tryz.ntmps29
  go_wp2_with fail
  refine R.mono ?_
  rintro e w1 ⟨rfl,hb⟩
  go_wp2
  go_ret
  exact⟨rfl,T,⟨V,hV.below hb⟩,vi.below hb⟩
theorem jg5{w:World}{T:Nat->Nat}{p:Nat}{D:jk}(hA:zI w T p D):Calls Tryz.prog 57 #[.pointer (some ⟨p,0,none⟩)] w fun e w'=>e=.returned (.bool D.gone)/\w=w':=by
 obtain⟨V,hV⟩:=hA
 have d3:w.cell? ⟨p,3,none⟩=some (.bool D.gone):=hV.cells.cell 3
 go_enter Tryz.func57,Tryz.ntmps57
 go_wp2
 go_ret
 exact⟨rfl,rfl⟩
def JK(D:jk)(z:ByteArray):ByteArray×Nat :=
 if D.gone then (⟨#[]⟩,3) else if (zU D z []).2≠0 then (⟨#[]⟩,(zU D z []).2) else (match D.files[(zU D z []).1]? with | some f=>⟨f.seen.toArray⟩ | none=>⟨#[]⟩,0)
theorem read_any{w:World}{T:Nat->Nat}{p n:Nat}{D:jk}(hA:zI w T p D)(hf:zX n D)(hn:n<=300000)(z:ByteArray)(hz:z.size<=1000000):
  Calls Tryz.prog 26 #[.pointer (some ⟨p,0,none⟩),.string z] w fun e w'=>e=.returned (.tuple #[.string (JK D z).1,qi (JK D z).2])/\Below w.heap.size w w':=by
 have DW:=jg5 hA
 obtain⟨V,hV⟩:=hA
 have R:=xr (n:=n) hV z [] 1 ((jmc _ w).alloc (jma _) (.cells #[.string z] 9)) (by simp) (jjo w z _) (by simpa using hz) (by simp)
 have e0:ve (zw D.gone [z]) (yq D.seen z.data.toList)=zU D z []:=rfl
 rw[e0]at R
 unfold JK
 cases hg:D.gone
 ·rw[hg]at DW
  rcases qR hf z []with ⟨f,ha,hfl,_,_⟩|ha
  ·rw[ha]at R ⊢
   dsimp only at R ⊢
   rw[jmd hfl]
   obtain⟨g,cap,cur,e8,_,_,_,_,_,_,_⟩:=hV.file (i:=f) hfl
   have hun:=(hf.files _ (jm9 hfl)).units
   have hsn:zn D.files[f].waits 9223372036854775807 D.files[f].sure.data.toList=D.files[f].seen:=ZH _ _ _ (by omega)
   have K:=jl9 (fun w1 (hb:Below w.heap.size w w1)=>by
    have:=jc3 (hV.below hb) hf (by omega) hfl e8 9223372036854775807 UY
    rw[hsn]at this
    exact this)
   have D8:=jl9 (fun w1 (hb:Below w.heap.size w w1)=>show w1.cell? ⟨p,8,none⟩=some (.slice (some ⟨g,0,none⟩) D.files.length cap) by have:=(hV.below hb).cells.cell 8;rw[e8]at this;exact this)
   have hp:=hV.cells.lt
   have PL:=jl9 (fun w1 (hb:Below w.heap.size w w1)=>jmp hp hb.size)
   have hnf:=hf.nfiles
   clear e0 ha hg hsn e8
   go_enter Tryz.func26,Tryz.ntmps26
   go_wp2_with fail
   refine DW.mono ?_
   rintro e w0 ⟨rfl,rfl⟩
   go_wp2_with fail
   refine R.mono ?_
   rintro e w1 ⟨rfl,hb⟩
   have d8:=D8.out w1 hb
   have hp1:=PL.out w1 hb
   go_wp2_with fail
   refine(K.out w1 hb).mono ?_
   rintro e w2 ⟨rfl,hb2⟩
   have HB:=jl9 (hb.trans (hb2.mono hb.size))
   clear hb hb2 K D8 PL R DW d8
   go_wp2
   go_ret2
   exact⟨rfl,HB.out⟩
  rcases ha with ha|ha|ha
  all_goals
   rw[ha]at R ⊢
   dsimp only at R ⊢
   clear ha e0 hg
   go_enter Tryz.func26,Tryz.ntmps26
   go_wp2_with fail
   refine DW.mono ?_
   rintro e w0 ⟨rfl,rfl⟩
   go_wp2_with fail
   refine R.mono ?_
   rintro e w1 ⟨rfl,hb⟩
   go_wp2
   go_ret2
   exact⟨rfl,hb⟩
 rw[hg]at DW
 clear R e0 hg
 go_enter Tryz.func26,Tryz.ntmps26
 go_wp2_with fail
 refine DW.mono ?_
 rintro e w0 ⟨rfl,rfl⟩
 go_wp2
 go_ret2
 exact⟨rfl,jmc _ _⟩
theorem jgv{n:Nat}{f:zR}(h:Qg n f)(u:Int):Qg n (f.kept u):=by
 have h1:=vo f.waits u f.sure.data.toList
 have h2:=h.len
 have h3:f.sure.data.toList.length=f.sure.size:=(jmq _).symm
 have h4:(f.kept u).sure.size=(zn f.waits u f.sure.data.toList).length:=by rw[jmq];rfl
 exact⟨trivial,by rw[h4];show _+0<=n;omega,jmo _,jmo _,fun a ha=>by cases ha⟩
theorem Gm(l:List zR)(i:Nat)(g:zR->zR):(UU l i g).length=l.length:=by unfold UU;split<;>simp
theorem jgp{l:List zR}{i:Nat}{g:zR->zR}{x:zR}(h:x∈UU l i g):x∈l\/∃y∈l,x=g y:=by
 unfold UU at h
 split at h
 ·rcases jnw h with h|h
  ·exact .inl h
  exact .inr ⟨_,jm9 _,h⟩
 exact .inl h
theorem jcw{n:Nat}{D:jk}(h:zX n D)(fs:List zR)(hl:fs.length=D.files.length)(hm:∀f∈fs,Qg n f):zX n {D with files:=fs} :=
 ⟨h.u0,h.u1,h.l0,h.l1,h.r0,h.r1,h.dirs,by show fs.length<=n;rw[hl];exact h.nfiles,h.nacts,hm,fun c hc=>by have:=h.changes c hc;exact⟨this.1,this.2.1,by show _<fs.length;rw[hl];exact this.2.2⟩,fun x hx=>by show _<fs.length;rw[hl];exact h.names x hx⟩
theorem jcF{n:Nat}{D:jk}(h:zX n D)(k:Nat):zX n {D with sure:=vg (D.waits.take k) D.sure,waits:=[]}:=by
 have h1:=qu (D.waits.take k) D.sure
 have h2:=h.dirs
 refine⟨h.u0,h.u1,h.l0,h.l1,h.r0,h.r1,?_,h.nfiles,h.nacts,h.files,(fun c hc=>by cases hc),fun x hx => ?_⟩
 ·show(vg (D.waits.take k) D.sure).length+0<=n
  rw[jmi]at h1;omega
 rcases Vy hx with hx|⟨c,hc,e⟩
 ·exact h.names x hx
 rw[e];exact(h.changes c (jng hc)).2.2
end Go.Proofs.YtpibhbjmcmfnmaaGreatDoor.Vf
namespace Go.Proofs.YtpibhbjmcmfnmaaGreatDoor.Vf
open Go.RowKit Go.Maps
theorem jdv(w:World):(binOp .eql 48 (.slice none 0 0) (.slice none 0 0)).run Tryz.prog w=.ok (.bool true) w:=by kernel_rfl
theorem jbQ(a:Addr)(n c:Nat)(w:World):(binOp .eql 48 (.slice (some a) n c) (.slice none 0 0)).run Tryz.prog w=.ok (.bool false) w:=by kernel_rfl
attribute [local go_sem] jdv jbQ
theorem jcP(v:Value)(l:List vR)(w:World)(h:w.ownsRow 0 101 5 v l.length (jx l))(hl:l.length<=1000000):
  Calls Tryz.prog 49 #[v] w fun e w'=>∃v',e=.returned v'/\w'.ownsRow 0 101 5 v' l.length (jx l)/\(∀k,v'.ownBlock=some k->w.heap.size<=k)/\(∃ao cap,v'=.slice ao l.length cap)/\(v=.slice none 0 0↔v'=.slice none 0 0)/\Below w.heap.size w w':=by
 obtain⟨i0,hi,hz0,hz1,hz2⟩:=info_parts Vm
 rcases h.2 with ⟨rfl,h0⟩|⟨g,cap,cur,rfl,_⟩
 ·go_enter Tryz.func49,Tryz.ntmps49
  go_wp2
  go_ret
  exact⟨.slice none 0 0,rfl,h,(fun k hk=>by cases hk),⟨none,0,by rw[h0]⟩,by simp,jmc _ _⟩
 have HO:=jl9 h
 clear h
 go_enter Tryz.func49,Tryz.ntmps49
 go_wp2_with (at_builtin;refine wpList_append_own_at _ rfl _ _ 48 rfl w.heap.size 101 i0 _ 5 64 Tryz.underlying48 hi hz0 hz1 hz2 rfl (by decide) (.slice (some ⟨w.heap.size,0,none⟩) 0 0) 0 [] rfl (World.ownsRow_made w #[] 0 (jma _) (jmo _) rfl) ⟨g,0,none⟩ l.length cap (jx l) rfl HO.out.1 (fun j u hu => ?c1) (fun u hu => ?c2) (by unfold maxLen;omega) (by omega) (by simp) ?_)
 case c1 =>
  have e:(⟨g,0,none⟩:Addr).add j=⟨g,j,none⟩:=by unfold Addr.add;split<;>simp_all
  rw[e]
  have hlt:g<w.heap.size:=(HO.out.lt g rfl).2
  exact(((jmc _ w).alloc (jma _) _).cell (p:=⟨g,j,none⟩) hlt).trans (yk HO.out hu)
 case c2 =>
  have hu:=hu
  unfold jx at hu
  rw[List.mem_flatMap]at hu
  obtain⟨a,_,ha⟩:=hu
  simp only[vR.cells,jon,List.not_mem_nil,or_false]at ha
  rcases ha with rfl|rfl|rfl|rfl|rfl<;>rfl
 intro v' w' ho hgr hnil hbk
 have hbel:Below w.heap.size w w':=((jmc _ w).alloc (jma _) _).grown hgr (by simp) (fun k hk=>by cases hk;exact jma _)
 have ho':w'.ownsRow 0 101 5 v' l.length (jx l):=by
  refine⟨ho.1,?_⟩
  rcases ho.2 with h|⟨g',cap',cur',e1,_,r⟩
  ·exact .inl h
  exact .inr ⟨g',cap',cur',e1,jmo _,r⟩
 have hge:∀k,v'.ownBlock=some k->w.heap.size<=k:=fun k hk=>(ho.lt k hk).1
 have hnn:v' ≠ .slice none 0 0:=hnil
 obtain⟨ao,cap2,rfl⟩:∃ao cap2,v'=.slice ao l.length cap2:=by
  rcases ho'.2 with ⟨e,_⟩|⟨g',cap',cur',e1,_,r⟩
  ·exact absurd e hnn
  exact⟨_,_,e1⟩
 have P:=jl9 (show _/\_/\_/\_ from⟨ho',hge,hnn,hbel⟩)
 clear ho ho' hge hnn hbel hgr hnil hbk
 go_wp2
 go_ret
 exact⟨_,rfl,P.out.1,P.out.2.1,⟨ao,cap2,rfl⟩,⟨(fun e=>by cases e),fun e=>absurd e P.out.2.2.1⟩,P.out.2.2.2⟩
theorem jkY{w:World}{T:Nat->Nat}{p n:Nat}{D:jk}(hA:zI w T p D)(hf:zX n D)(hn:n<=300000):
  Calls Tryz.prog 18 #[.pointer (some ⟨p,0,none⟩)] w fun e w'=>∃v',e=.returned v'/\w'.ownsRow 0 101 5 v' D.acts.length (jx D.acts)/\(∀k,v'.ownBlock=some k->w.heap.size<=k)/\(∃ao cap,v'=.slice ao D.acts.length cap)/\Below w.heap.size w w':=by
 obtain⟨V,hV⟩:=hA
 have d9:w.cell? ⟨p,9,none⟩=some V.v9:=hV.cells.cell 9
 have C:=jl9 (jcP V.v9 D.acts w hV.r9 (by have:=hf.nacts;omega))
 go_enter Tryz.func18,Tryz.ntmps18
 go_wp2_with fail
 refine C.out.mono ?_
 rintro e w' ⟨v',rfl,ho,hge,⟨ao,cap,rfl⟩,_,hb⟩
 have P:=jl9 (show _/\_/\_ from⟨ho,hge,hb⟩)
 clear ho hge hb C
 go_wp2
 go_ret
 exact⟨_,rfl,P.out.1,P.out.2.1,⟨ao,cap,rfl⟩,P.out.2.2⟩
theorem Zc{n:Nat}{D:jk}(h:zX n D):zX n (Ub D):=⟨h.u0,h.u1,h.l0,h.l1,h.r0,h.r1,h.dirs,h.nfiles,h.nacts,h.files,h.changes,h.names⟩
theorem ZQ{n:Nat}{D:jk}(h:zX n D):zX (n+1) (zK D).1:=by
 unfold zK
 split
 ·exact h.mono (jnq _)
 split
 ·rename_i hc
  have:=jcF (vY h hc ⟨7,⟨#[]⟩,⟨#[]⟩,⟨#[]⟩,0⟩) D.waits.length
  have e:vg ((GY D ⟨7,⟨#[]⟩,⟨#[]⟩,⟨#[]⟩,0⟩).waits.take D.waits.length) (GY D ⟨7,⟨#[]⟩,⟨#[]⟩,⟨#[]⟩,0⟩).sure=D.seen:=by
   show vg (D.waits.take D.waits.length) D.sure=D.seen
   rw[jmJ];rfl
  rw[e]at this
  exact this
 exact(Zc h).mono (jnq _)
theorem QS{n:Nat}{D:jk}(h:zX n D)(z:ByteArray):zX (n+1) (yb D z).1:=by
 unfold yb
 split
 ·exact h.mono (jnq _)
 split
 ·rename_i hc
  have hd:=vY h hc ⟨4,z,⟨#[]⟩,⟨#[]⟩,0⟩
  refine jcw hd (UU D.files _ _) (Gm _ _ _) (fun f hf => ?_)
  rcases jgp hf with hf|⟨y,hy,rfl⟩
  ·exact hd.files f hf
  exact jgv (hd.files y hy) _
 exact(Zc h).mono (jnq _)
theorem jhp{n:Nat}{D:jk}(hf:zX n D)(z:ByteArray)(zr:List ByteArray)(h:(zU D z zr).2=0):(zU D z zr).1<D.files.length:=by
 rcases qR hf z zr with ⟨f,e,hl,_⟩|e|e|e
 ·rw[e];exact hl
 ·rw[e]at h;cases h
 ·rw[e]at h;cases h
 rw[e]at h;cases h
theorem jiq(n:Nat):Qg n jb8:=⟨trivial,jmo _,jmo _,jmo _,fun a ha=>by cases ha⟩
theorem Jr{n:Nat}{D:jk}(h:zX n D)(z:ByteArray)(hz:z.size<=1000000):zX (n+2) (jL D z).1:=by
 unfold jL
 split
 ·exact h.mono (by omega)
 split
 ·exact h.mono (by omega)
 split
 ·rename_i hc
  have hd:=vY h hc ⟨1,z,⟨#[]⟩,⟨#[]⟩,0⟩
  have:=hd.u1
  refine⟨hd.u0,by show D.units+1<=((n+2:Nat):Int);have:D.units+1<=((n+1:Nat):Int):=hd.u1;omega,hd.l0,hd.l1,hd.r0,hd.r1,?_,?_,?_,fun f hf => ?_,fun c hc => ?_,fun x hx => ?_⟩
  ·have:=h.dirs;show D.sure.length+(D.waits++[_]).length<=_;simp;omega
  ·have:=h.nfiles;show(D.files++[_]).length<=_;simp;omega
  ·have:=h.nacts;show(D.acts++[_]).length<=_;simp;omega
  ·rcases List.mem_append.1 hf with hf|hf
   ·exact(h.files f hf).mono (by omega)
   obtain rfl:f=jb8:=by simpa using hf
   exact jiq _
  ·show _/\_/\c.file<(D.files++[jb8]).length
   rw[jmb]
   rcases List.mem_append.1 hc with hc|hc
   ·have:=h.changes c hc;exact⟨this.1,this.2.1,by omega⟩
   obtain rfl:c=⟨⟨#[]⟩,z,D.files.length⟩:=by simpa using hc
   exact⟨by show(0:Nat)<=1000000;omega,hz,by show D.files.length<_;simp⟩
  show x.2<(D.files++[jb8]).length
  rw[jmb]
  have:=h.names x hx;omega
 exact(Zc h).mono (by omega)
theorem YD{n:Nat}{D:jk}(h:zX n D)(z t:ByteArray):zX (n+2*t.size+2) (qx D z t).1:=by
 unfold qx
 split
 ·exact h.mono (by omega)
 rename_i h0
 split
 ·exact h.mono (by omega)
 have hs:=YN (k:=t.size) h
 obtain⟨m,hm,hmt,_⟩:=XL D n t.size h
 dsimp only
 split
 ·have hl:=jhp h z [] (by simpa using h0)
  rw[hm,jnz]
  have hps:(t.extract 0 m).size<=t.size+1:=by rw[jmq,vX,jmi,<- jmq];omega
  have hmore:=Ws (k:=t.size+1) hs (f:=(zU D z []).1) hl (ZM z t m) (.inl rfl) (fun e=>by cases e) hps (by omega)
  have hmf:UU D.files (zU D z []).1 (fun f=>f.more (ZM z t m))=(JG D t.size).files.set (zU D z []).1 ((JG D t.size).files[(zU D z []).1].more (ZM z t m)):=by
   unfold UU;rw[dif_pos hl];rfl
  rw[hmf]
  have hna:=h.nacts
  have h1:=hmore.mono (m:=n+2*t.size+2) (by omega)
  exact⟨h1.u0,h1.u1,h1.l0,h1.l1,h1.r0,h1.r1,h1.dirs,h1.nfiles,by show(D.acts++[_]).length<=_;simp;omega,h1.files,h1.changes,h1.names⟩
 exact hs.mono (by omega)
end Go.Proofs.YtpibhbjmcmfnmaaGreatDoor.Vf
namespace Go.Proofs.YtpibhbjmcmfnmaaGreatDoor.Vf
open Go.RowKit Go.Maps
attribute [local go_sem] jW xW JY Xr
def jkv(z:ByteArray)(m:Nat):vR:=⟨3,z,⟨#[]⟩,⟨#[]⟩,m⟩
def vS(D:jk)(f:Nat):Nat:=qW D.files f
def jbl(D:jk)(z:ByteArray)(k:Int):jk×Nat :=
 if (zU D z []).2≠0 then (D,(zU D z []).2) else if k<0\/(vS D (zU D z []).1:Int)<k then (D,1)
 else if xA D then ({GY D (jkv z k.toNat) with files:=UU D.files (zU D z []).1 fun f=>f.more (jkv z k.toNat)},0) else (Ub D,3)
theorem ji9{w:World}{T:Nat->Nat}{p n:Nat}{D:jk}(hA:zI w T p D)(hf:zX n D)(hn:n<=400000)(z:ByteArray)(hz:z.size<=1000000)(k:Int)(hk1 : -9223372036854775808<=k)(hk2:k<=9223372036854775807):
  Calls Tryz.prog 72 #[.pointer (some ⟨p,0,none⟩),.string z,.int .i64 k] w fun e w'=>e=.returned (qi (jbl D z k).2)/\∃T',zI w' T' p (jbl D z k).1/\vi w T w' T':=by
 obtain⟨V,hV⟩:=hA
 have R:=xr (n:=n) hV z [] 1 ((jmc _ w).alloc (jma _) (.cells #[.string z] 9)) (by simp) (jjo w z _) (by simpa using hz) (by simp)
 have e0:ve (zw D.gone [z]) (yq D.seen z.data.toList)=zU D z []:=rfl
 rw[e0]at R
 unfold jbl
 rcases qR hf z []with ⟨f,ha,hfl,_,_⟩|ha
 ·rw[ha]at R ⊢
  dsimp only at R ⊢
  obtain⟨g,cap,cur,e8,_,_,_,_,_,tg,hfa⟩:=hV.file (i:=f) hfl
  have d8:w.cell? ⟨p,8,none⟩=some (.slice (some ⟨g,0,none⟩) D.files.length cap):=by have:=hV.cells.cell 8;rw[e8]at this;exact this
  have hsz:vS D f=D.files[f].seen.length:=by unfold vS qW;rw[jmd hfl]
  have hgl:g<w.heap.size:=hV.low g (by omega)
  have hpl:=hV.cells.lt
  have D8:=jl9 (fun w1 (hb:Below w.heap.size w w1)=>show w1.cell? ⟨p,8,none⟩=some (.slice (some ⟨g,0,none⟩) D.files.length cap) from(hb.cell (p:=⟨p,8,none⟩) hpl).trans d8)
  have C2:=jl9 (fun w1 (hb:Below w.heap.size w w1)=>show w1.cell? ⟨g,f*3+2,none⟩=some (.int .i64 (D.files[f].seen.length:Nat)) from(hb.cell (p:=⟨g,f*3+2,none⟩) hgl).trans hfa.c2)
  have PL:=jl9 (fun w1 (hb:Below w.heap.size w w1)=>jmp hpl hb.size)
  have GL:=jl9 (fun w1 (hb:Below w.heap.size w w1)=>jmp hgl hb.size)
  have hnf:=hf.nfiles
  have hlen:D.files[f].seen.length<=1000000:=by
   have ok:=hf.files _ (jm9 hfl)
   have hsl:D.files[f].sure.data.toList.length=D.files[f].sure.size:=(jmq _).symm
   have:=qA D.files[f].waits D.files[f].sure.data.toList
   have:=ok.len;unfold zR.seen;omega
  rw[if_neg (by simp),hsz]
  by_cases hbad:k<0\/((D.files[f].seen.length:Nat):Int)<k
  ·rw[if_pos hbad]
   have HV:=jl9 hV
   clear hfa d8 e0 ha hV e8
   generalize D.files[f].seen.length=sz at *
   rcases(show k<0\/(0<=k/\(sz:Int)<k) by omega) with hb1|⟨hb1,hb2⟩
   ·have d1:decide (k<0)=true:=decide_eq_true hb1
    go_enter Tryz.func72,Tryz.ntmps72
    go_wp2_with fail
    refine R.mono ?_
    rintro e w1 ⟨rfl,hb⟩
    have q8:=D8.out w1 hb;have q2:=C2.out w1 hb;have qp:=PL.out w1 hb;have qg:=GL.out w1 hb
    go_wp2
    go_ret
    exact⟨rfl,T,⟨V,HV.out.below hb⟩,vi.below hb⟩
   have d1:decide (k<0)=false:=decide_eq_false (by omega)
   have d2:decide ((sz:Int)<k)=true:=decide_eq_true hb2
   go_enter Tryz.func72,Tryz.ntmps72
   go_wp2_with fail
   refine R.mono ?_
   rintro e w1 ⟨rfl,hb⟩
   have q8:=D8.out w1 hb;have q2:=C2.out w1 hb;have qp:=PL.out w1 hb;have qg:=GL.out w1 hb
   go_wp2
   go_ret
   exact⟨rfl,T,⟨V,HV.out.below hb⟩,vi.below hb⟩
  rw[if_neg hbad]
  obtain⟨m,rfl⟩:∃m:Nat,k=(m:Int):=⟨k.toNat,by omega⟩
  rw[jnz]
  have hml:m<=D.files[f].seen.length:=by omega
  have d1:decide ((m:Int)<0)=false:=decide_eq_false (by omega)
  have d2:decide (((D.files[f].seen.length:Nat):Int)<(m:Int))=false:=decide_eq_false (by omega)
  have EA:jkv z m=⟨3,z,⟨#[]⟩,⟨#[]⟩,m⟩:=rfl
  rw[EA]
  cases hc:xA D
  ·have HG:=jl9 (fun w1 (hb:Below w.heap.size w w1)=>jg6 (hV.below hb) hf (by omega) hc (kind:=3) (at_:=m) (name:=z) (other:=⟨#[]⟩) (bytes:=⟨#[]⟩))
   clear hc ha e0 hV hfa d8 e8 hbad EA hsz
   have hml0:m<=1000000:=by omega
   generalize D.files[f].seen.length=sz at *
   go_enter Tryz.func72,Tryz.ntmps72
   go_wp2_with fail
   refine R.mono ?_
   rintro e w1 ⟨rfl,hb⟩
   have q8:=D8.out w1 hb;have q2:=C2.out w1 hb;have qp:=PL.out w1 hb;have qg:=GL.out w1 hb
   have hba:Below w.heap.size w (w1.alloc (.cells #[.int .i64 3,.string z,.string ⟨#[]⟩,.string ⟨#[]⟩,.int .i64 m] 101)):=hb.alloc hb.size _
   go_wp2_with fail
   refine(HG.out _ hba).mono ?_
   rintro e w2 ⟨rfl,hd,hs⟩
   have F:=jl9 (show zc w2 T p (Ub D) V/\vi w T w2 T from⟨hd,(vi.below hba).trans hs⟩)
   clear hd hs hba HG hb D8 C2 PL GL q8 q2
   go_wp2
   go_ret
   exact⟨rfl,T,⟨V,F.out.1⟩,F.out.2⟩
  have HG:=jl9 (fun w1 (hb:Below w.heap.size w w1)=>jbd (hV.below hb) hf (by omega) hc (kind:=3) (at_:=m) (name:=z) (other:=⟨#[]⟩) (bytes:=⟨#[]⟩))
  have HF:=jl9 (vY hf hc ⟨3,z,⟨#[]⟩,⟨#[]⟩,m⟩)
  have HML:=jl9 hml
  have LOW:=jl9 hV.low
  clear hc ha e0 hV hfa d8 hbad EA hsz
  have hml0:m<=1000000:=by have:=HML.out;omega
  generalize hgs:D.files[f].seen.length=sz at d2 C2 hlen hml
  have HGS:=jl9 hgs
  clear hgs
  go_enter Tryz.func72,Tryz.ntmps72
  go_wp2_with fail
  refine R.mono ?_
  rintro e w1 ⟨rfl,hb⟩
  have q8:=D8.out w1 hb;have q2:=C2.out w1 hb;have qp:=PL.out w1 hb;have qg:=GL.out w1 hb
  have hba:Below w.heap.size w (w1.alloc (.cells #[.int .i64 3,.string z,.string ⟨#[]⟩,.string ⟨#[]⟩,.int .i64 m] 101)):=hb.alloc hb.size _
  have NB:=jl9 (ja.new w1 101 #[.int .i64 3,.string z,.string ⟨#[]⟩,.string ⟨#[]⟩,.int .i64 m])
  have HBS:=jl9 hb.size
  go_wp2_with fail
  refine(HG.out _ hba).mono ?_
  rintro e w2 ⟨rfl,T2,v9',hd,hs⟩
  have bx:ja w2 w1.heap.size 101 #[.int .i64 3,.string z,.string ⟨#[]⟩,.string ⟨#[]⟩,.int .i64 m] :=
   NB.out.only hs.only (fun h=>by have:=LOW.out _ h;have:=HBS.out;omega)
  have b0:=bx.cell 0;have b1:=bx.cell 1;have b2:=bx.cell 2;have b3:=bx.cell 3;have b4:=bx.cell 4
  simp at b0 b1 b2 b3 b4
  have hbl:=bx.lt
  have p8:w2.cell? ⟨p,8,none⟩=some (.slice (some ⟨g,0,none⟩) D.files.length cap):=by have:=hd.cells.cell 8;dsimp only at this;rw[e8]at this;exact this
  have pp:=hd.cells.lt
  have K:=jl9 (fun W (hbW:Below w2.heap.size w2 W)=>Xp (hd.below hbW) HF.out (by omega) hfl e8 ⟨3,z,⟨#[]⟩,⟨#[]⟩,m⟩ (.inr rfl) (fun _=>HML.out) (jmo _))
  have HS:=jl9 ((vi.below hba).trans hs)
  clear hd hs hba HG hb D8 C2 PL GL q8 q2 bx NB HBS LOW R
  go_wp2
  go_region_law ((go_simp;go_at_call 65;refine(K.out _ ((jmc _ w2).drew)).mono ?_;rintro e w4 ⟨rfl,T4,V4,hd4,hs4⟩))
  all_goals
   have HD4:=jl9 hd4
   have HS4:=jl9 (HS.out.trans hs4.undrew)
   clear hd4 hs4 K HS
   go_wp2
   go_ret
   exact⟨rfl,T4,⟨V4,by unfold UU;rw[dif_pos hfl];exact HD4.out⟩,HS4.out⟩
 rcases ha with ha|ha|ha
 all_goals
  rw[ha]at R ⊢
  dsimp only at R ⊢
  clear ha e0
  go_enter Tryz.func72,Tryz.ntmps72
  go_wp2_with fail
  refine R.mono ?_
  rintro e w1 ⟨rfl,hb⟩
  go_wp2
  go_ret
  exact⟨rfl,T,⟨V,hV.below hb⟩,vi.below hb⟩
end Go.Proofs.YtpibhbjmcmfnmaaGreatDoor.Vf
namespace Go.Proofs.YtpibhbjmcmfnmaaGreatDoor.Vf
open Go.RowKit Go.Maps
def bs(l:List UInt8):ByteArray:=⟨l.toArray⟩
theorem jfa(l:List UInt8):(bs l).data.toList=l:=by unfold bs;simp
theorem jlY(s:ByteArray):bs s.data.toList=s:=by cases s;simp[bs]
structure Zj(l:Dir):Prop where
 up:l.Pairwise fun x y=>bytesBefore x.1 y.1=true
 some:∀x∈l,x.1≠[]
theorem Zj.nil:Zj []:=⟨List.Pairwise.nil,fun x h=>by cases h⟩
def jfF(t:TypeId):Prop:=t≠94/\t≠118/\t≠98/\t≠101
instance (t:TypeId):Decidable (jfF t):=by unfold jfF;infer_instance
def qG(p:Nat)(V:Jw):List (Option Nat):=some p::jo V.v5::jo V.v6::V.v7.ownBlock::V.v8.ownBlock::V.v9.ownBlock::V.fvs.map Value.ownBlock
def KQ(T:Nat->Nat)(p:Nat)(V:Jw):Nat->Nat:=fun b=>if some b∈qG p V then T b else 0
theorem yi{T:Nat->Nat}{p:Nat}{V:Jw}{o:Option Nat}{k:Nat}(h:jD T o k)(ho:o∈qG p V):jD (KQ T p V) o k:=by
 intro b hb
 unfold KQ
 rw[if_pos (by rw[<- hb];exact ho)]
 exact h b hb
theorem zc.trim{w:World}{T:Nat->Nat}{p:Nat}{D:jk}{V:Jw}(h:zc w T p D V):zc w (KQ T p V) p D V:=by
 refine⟨h.cells,?_,h.m5,yi h.t5 (by simp[qG]),h.m6,yi h.t6 (by simp[qG]),h.nil56,h.nilw,h.r7,yi h.t7 (by simp[qG]),h.r8,yi h.t8 (by simp[qG]),h.r9,yi h.t9 (by simp[qG]),h.nf,fun i h1 h2=>⟨(h.rf i h1 h2).1,yi (h.rf i h1 h2).2 ?_⟩,fun b hb=>h.low b ?_⟩
 ·unfold KQ;rw[if_pos (by simp[qG])];exact h.tp
 ·unfold qG
  simp only[jon,List.mem_map]
  exact .inr (.inr (.inr (.inr (.inr (.inr ⟨_,jm9 h2,rfl⟩)))))
 unfold KQ at hb
 split at hb
 ·exact hb
 exact absurd rfl hb
theorem XP{w:World}{lo n size b:Nat}{e:TypeId}{v:Value}{xs:List Value}(h:w.ownsRow lo e size v n xs)(hb:v.ownBlock=some b):∃c,w.heap[b]?=some (.cells c e (0,0)):=by
 rcases h.2 with ⟨q,_⟩|⟨g,cap,c,q,_,hg,_⟩
 ·rw[q]at hb;cases hb
 rw[q]at hb
 have e:g=b:=by injection hb
 subst e
 exact⟨c,hg⟩
theorem jd5{w:World}{n b:Nat}{v:Value}{l:Dir}(h:zF w n v l)(hb:jo v=some b):∃es clock,w.heap[b]?=some (.map es clock):=by
 rcases h with ⟨q,_⟩|⟨b',q,es,clock,hh,_⟩
 ·rw[q]at hb;cases hb
 rw[q]at hb
 have e:b'=b:=by injection hb
 subst e
 exact⟨es,clock,hh⟩
theorem zc.types{w:World}{T:Nat->Nat}{p:Nat}{D:jk}{V:Jw}(h:zc w T p D V){b:Nat}(hb:some b∈qG p V){c:Array Value}{t:TypeId}{fr:Nat×Nat}(ho:w.heap[b]?=some (Obj.cells c t fr)):¬jfF t:=by
 intro hn
 have fin:∀{c':Array Value} {t':TypeId} {fr':Nat×Nat},w.heap[b]?=some (.cells c' t' fr')->t'=t:=fun h'=>by
  rw[ho]at h';injection h' with h';injection h' with _ h' _;exact h'.symm
 have mp:∀{es clock},w.heap[b]?=some (.map es clock)->False:=fun h'=>by rw[ho]at h';injection h' with h';cases h'
 unfold qG at hb
 simp only[jon,List.mem_map]at hb
 rcases hb with hb|hb|hb|hb|hb|hb|⟨v,hv,hb⟩
 ·have e:b=p:=by injection hb
  subst e
  exact hn.1 (fin (show w.heap[b]?=_ from h.cells)).symm
 ·obtain⟨_,_,hh⟩:=jd5 h.m5 hb.symm;exact mp hh
 ·obtain⟨_,_,hh⟩:=jd5 h.m6 hb.symm;exact mp hh
 ·obtain⟨_,hh⟩:=XP h.r7 hb.symm;exact hn.2.1 (fin hh).symm
 ·obtain⟨_,hh⟩:=XP h.r8 hb.symm;exact hn.2.2.1 (fin hh).symm
 ·obtain⟨_,hh⟩:=XP h.r9 hb.symm;exact hn.2.2.2 (fin hh).symm
 obtain⟨i,hi,rfl⟩:=jn6 hv
 obtain⟨_,hh⟩:=XP (h.rf i (by rw[<- h.nf];exact hi) hi).1 hb;exact hn.2.2.2 (fin hh).symm
def zk(L:Nat)(w:World)(p:Nat)(D:jk):Prop:=∃T,zI w T p D/\∀b,T b≠0->L<=b
theorem zk.below{L:Nat}{w w':World}{p:Nat}{D:jk}(h:zk L w p D)(hb:Below w.heap.size w w'):zk L w' p D:=by
 obtain⟨T,h1,h2⟩:=h;exact⟨T,h1.below hb,h2⟩
structure zC(L:Nat)(w w':World):Prop where
 bel:Below L w w'
 rest:∀(b:Nat) (c:Array Value) (t:TypeId) (fr:Nat×Nat),w.heap[b]?=some (Obj.cells c t fr)->jfF t->w'.heap[b]?=w.heap[b]?
theorem zC.refl(L:Nat)(w:World):zC L w w:=⟨jmc _ _,fun _ _ _ _ _ _=>rfl⟩
theorem zC.trans{L:Nat}{w w1 w2:World}(h:zC L w w1)(g:zC L w1 w2):zC L w w2 :=
 ⟨h.bel.trans g.bel,fun b c t fr ho hn=>by
  have h1:=h.rest b c t fr ho hn
  exact(g.rest b c t fr (h1.trans ho) hn).trans h1⟩
theorem zC.of_below{L:Nat}{w w':World}(h:Below w.heap.size w w')(hL:L<=w.heap.size):zC L w w' :=
 ⟨h.mono hL,fun b c t fr ho _=>h.block b (Array.getElem?_eq_some_iff.1 ho).1⟩
theorem zC.then_{L:Nat}{w w1 w2:World}(h:zC L w w1)(g:Below w1.heap.size w1 w2)(hL:L<=w.heap.size):zC L w w2:=h.trans (zC.of_below g (jmy hL h.bel.size))
theorem zC.cells{L:Nat}{w w':World}(h:zC L w w'){b:Nat}{t:TypeId}{cur:Array Value}(hc:ja w b t cur)(ht:jfF t):ja w' b t cur:=(h.rest b cur t (0,0) hc ht).trans hc
theorem zk.trim{L:Nat}{w:World}{p:Nat}{D:jk}(h:zk L w p D):∃T,zI w T p D/\(∀b,T b≠0->L<=b)/\∀(b:Nat) (c:Array Value) (t:TypeId) (fr:Nat×Nat),w.heap[b]?=some (Obj.cells c t fr)->jfF t->T b=0:=by
 obtain⟨T,⟨V,hV⟩,h2⟩:=h
 refine⟨KQ T p V,⟨V,hV.trim⟩,fun b hb=>h2 b ?_,fun b c t fr ho hn => ?_⟩
 ·unfold KQ at hb
  split at hb
  ·exact hb
  exact absurd rfl hb
 unfold KQ
 split
 ·rename_i hm;exact absurd hn (hV.types hm ho)
 rfl
theorem zC.of_step{L:Nat}{w w':World}{T T':Nat->Nat}(hs:vi w T w' T')(hL:L<=w.heap.size)(h1:∀b,T b≠0->L<=b)(h2:∀(b:Nat) (c:Array Value) (t:TypeId) (fr:Nat×Nat),w.heap[b]?=some (Obj.cells c t fr)->jfF t->T b=0):zC L w w' :=
 ⟨hs.only.to_below hL (fun r hr hn=>by have:=h1 r hn;omega),fun b c t fr ho hn=>hs.only.same b (Array.getElem?_eq_some_iff.1 ho).1 (fun h=>h (h2 b c t fr ho hn))⟩
theorem Vk{L:Nat}{w:World}{p F:Nat}{args:Array Value}{D D':jk}{E:Ending}(hO:zk L w p D)(hL:L<=w.heap.size)
  (hC:∀T,zI w T p D->(∀b,T b≠0->L<=b)->(∀(b:Nat) (c:Array Value) (t:TypeId) (fr:Nat×Nat),w.heap[b]?=some (Obj.cells c t fr)->jfF t->T b=0)->Calls Tryz.prog F args w fun e w'=>e=E/\∃T',zI w' T' p D'/\vi w T w' T') :
  Calls Tryz.prog F args w fun e w'=>e=E/\zk L w' p D'/\zC L w w':=by
 obtain⟨T,h1,h2,h3⟩:=hO.trim
 refine(hC T h1 h2 h3).mono ?_
 rintro e w' ⟨rfl,T',hd,hs⟩
 refine⟨rfl,⟨T',hd,fun b hb => ?_⟩,zC.of_step hs hL h2 h3⟩
 rcases jmF b w.heap.size with h|h
 ·rw[hs.old b h]at hb;exact h2 b hb
 omega
abbrev Fnv:=Nat×Array Value×Array Value
def fnv(x:Fnv):Value:=.func (.func x.1) x.2.1 x.2.2
attribute [local go_sem] fnv
theorem jhL(fs:List Fnv)(St:Nat->World->Prop)(Bad:Value->World->Prop)(b:Nat)(hl:fs.length<=1000)
  (hc:∀i W,St i W->∀j x,fs[j]?=some x->W.cell? ⟨b,j,none⟩=some (fnv x))
  (he:∀x∈fs,∀args w,(callFunc x.1 args).run Tryz.prog w=.ok (.enter x.1 args) w)
  (hs:∀i x W,fs[i]?=some x->St i W->Calls Tryz.prog x.1 (x.2.1++x.2.2) W fun e W'=>∃u,e=.returned u/\(u=.nilIface/\St (i+1) W'\/(∃t d,u=.iface t d)/\Bad u W'))
  (w:World) (h0:St 0 w) :
  Calls Tryz.prog 32 #[.slice (some ⟨b,0,none⟩) fs.length fs.length] w fun e w'=>∃u,e=.returned u/\(u=.nilIface/\St fs.length w'\/(∃t d,u=.iface t d)/\Bad u w'):=by
 have HC:=jl9 hc
 have HE:=jl9 he
 have HS:=jl9 hs
 have H0:=jl9 h0
 clear hc he hs h0
 go_enter Tryz.func32,Tryz.ntmps32
 go_wp2_with fail
 go_loopw [8] (fun iv wr=>∃i:Nat,i<=fs.length/\iv=.int .i64 (i:Nat)/\St i wr) (fun iv _=>fs.length-(intOf iv).toNat)
 case atStart=>exact⟨0,jmo _,rfl,H0.out⟩
 case round =>
 obtain⟨i,hi,rfl,hst⟩:=hrel
 by_cases hlt:i<fs.length
 ·obtain⟨x,hx⟩:∃x,fs[i]?=some x:=⟨_,jmd hlt⟩
  have C0:=HC.out i wr hst i x hx
  have E0:=HE.out x (jmx hx)
  have S0:=jl9 (HS.out i x wr hx hst)
  have HST:=jl9 hst
  clear hst hx
  obtain⟨g,cs,rs⟩:=x
  unfold fnv at C0
  dsimp only at C0 E0 S0
  go_wp2_with fail
  refine S0.out.mono ?_
  rintro e w1 ⟨u,rfl,⟨rfl,hst⟩|⟨⟨t,d,rfl⟩,hb⟩⟩
  ·go_wp2_with fail
   go_roundw
   case rel=>exact⟨i+1,hlt,by go_num,hst⟩
   case measure=>simp[intOf];omega
  go_wp2_with fail
  go_ret
  exact⟨_,rfl,.inr ⟨⟨t,d,rfl⟩,hb⟩⟩
 obtain rfl:i=fs.length:=by omega
 go_wp2_with fail
 go_ret
 exact⟨_,rfl,.inl ⟨rfl,hst⟩⟩
end Go.Proofs.YtpibhbjmcmfnmaaGreatDoor.Vf
namespace Go.Proofs.YtpibhbjmcmfnmaaGreatDoor.Vf
open Go.RowKit Go.Maps
def Uz(D:jk)(z:ByteArray):Bool:=(yq D.seen z.data.toList).isSome
def jak(z:ByteArray):ByteArray:=z ++ ⟨#[46,110,101,119]⟩
def Vq(z:ByteArray):Bool:=decide (z.size<=16)&&zv z
structure jc7(D:jk):Prop where
 gone:D.gone=false
 armed:D.armed=false
theorem jc7.can{D:jk}(h:jc7 D):xA D=true:=by unfold xA;rw[h.armed];rfl
theorem Ur{D:jk}{z:ByteArray}(h:D.gone=false)(hz:zv z=true):zU D z []=(match yq D.seen z.data.toList with | some f=>(f,0) | none=>(0,7)):=by
 unfold zU zw ve
 rw[h]
 simp[hz]
 cases yq D.seen z.data.toList<;>rfl
theorem jbt{D:jk}{z:ByteArray}(h:D.gone=false)(hz:zv z=true)(hs:Uz D z=true):(zU D z []).2=0:=by
 rw[Ur h hz]
 unfold Uz at hs
 cases e:yq D.seen z.data.toList with
 | none=>rw[e]at hs;cases hs
 | some f=>rfl
theorem Ya{D:jk}{z:ByteArray}(h:jc7 D)(hz:zv z=true)(hn:Uz D z=false):(jL D z).2=0/\jc7 (jL D z).1:=by
 have e:zw D.gone [z]=0:=by unfold zw;rw[h.gone];simp[hz]
 unfold Uz at hn
 unfold jL
 rw[if_neg (by rw[e];exact fun q=>q rfl),if_neg (by rw[hn];decide),if_pos h.can]
 exact⟨rfl,⟨h.gone,h.armed⟩⟩
theorem jbL{D:jk}(h:jc7 D):(zK D).2=0/\jc7 (zK D).1:=by
 unfold zK
 rw[if_neg (by rw[h.gone];decide),if_pos h.can]
 exact⟨rfl,⟨h.gone,h.armed⟩⟩
theorem jk4{D:jk}{z:ByteArray}(h:jc7 D)(hz:zv z=true)(hs:Uz D z=true):(yb D z).2=0/\jc7 (yb D z).1:=by
 unfold yb
 rw[if_neg (by rw[jbt h.gone hz hs];exact fun q=>q rfl),if_pos h.can]
 exact⟨rfl,⟨h.gone,h.armed⟩⟩
theorem jlH{D:jk}{z:ByteArray}(h:jc7 D)(hz:zv z=true)(hs:Uz D z=true)(k:Nat)(hk:k<=vS D (zU D z []).1):(jbl D z k).2=0/\jc7 (jbl D z k).1/\Uz (jbl D z k).1 z=true:=by
 unfold jbl
 rw[if_neg (by rw[jbt h.gone hz hs];exact fun q=>q rfl),if_neg (by omega),if_pos h.can]
 exact⟨rfl,⟨h.gone,h.armed⟩,hs⟩
theorem jhf{n:Nat}{D:jk}(h:zX n D)(z:ByteArray)(k:Int):zX (n+2) (jbl D z k).1:=by
 unfold jbl
 split
 ·exact h.mono (by omega)
 rename_i ha
 split
 ·exact h.mono (by omega)
 rename_i hk
 split
 ·rename_i hc
  rcases qR h z []with ⟨f,ea,hfl,_,_⟩|ea
  ·rw[ea]at hk ⊢
   dsimp only at hk ⊢
   have hsz:vS D f=D.files[f].seen.length:=by unfold vS qW;rw[jmd hfl]
   rw[hsz]at hk
   have:=Ws (k:=1) (vY h hc (jkv z k.toNat)) (f:=f) hfl (jkv z k.toNat) (.inr rfl) (fun _=>by show k.toNat<=D.files[f].seen.length;omega) (jmo _) (jma _)
   unfold UU
   rw[dif_pos hfl]
   exact this
  rcases ea with ea|ea|ea<;>rw[ea]at ha<;>simp at ha
 exact(Zc h).mono (by omega)
def jb9(D:jk)(z:ByteArray):jk:=if Uz D z then D else (zK (jL D z).1).1
theorem jj3{D:jk}{z:ByteArray}(h:jc7 D)(hz:zv z=true):jc7 (jb9 D z):=by
 unfold jb9
 split
 ·exact h
 rename_i hn
 exact(jbL (Ya h hz (by simpa using hn)).2).2
theorem jj2{n:Nat}{D:jk}{z:ByteArray}(h:zX n D)(hz:z.size<=1000000):zX (n+3) (jb9 D z):=by
 unfold jb9
 split
 ·exact h.mono (by omega)
 exact ZQ (Jr h z hz)
def jld(D:jk)(z:ByteArray)(k:Nat):jk:=(yb (jbl D z k).1 z).1
theorem jkd{z:ByteArray}(h:zv z=true):z.size<=20:=by
 unfold zv at h
 simp at h
 exact h.1.2
end Go.Proofs.YtpibhbjmcmfnmaaGreatDoor.Vf
namespace Go.Proofs.YtpibhbjmcmfnmaaGreatDoor.Vf.Sd
open Go.RowKit Go.Maps Go.Sort Go.Shelf
theorem qd{B:Nat}{a w:World}(h:Below B a w)(n:Nat):Below B a (w.drewN n):=⟨h.os,h.tape,h.output,h.size,h.block⟩
def Strs(w:World)(v:Value)(ss:List ByteArray):Prop :=
 ∃A cap,v=.slice A ss.length cap/\ss.length<=cap/\∀(i:Nat) (s:ByteArray),ss[i]?=some s->∃b off,A=some ⟨b,off,none⟩/\b<w.heap.size/\w.cell? ⟨b,off+i,none⟩=some (.string s)
theorem Strs.below{w w':World}{v:Value}{ss:List ByteArray}{n:Nat}(h:Strs w v ss)(hb:Below n w w')(hn:w.heap.size<=n):Strs w' v ss:=by
 obtain⟨A,cap,hv,hle,hc⟩:=h
 refine⟨A,cap,hv,hle,fun i s hs => ?_⟩
 obtain⟨b,off,hA,hlt,hcell⟩:=hc i s hs
 exact⟨b,off,hA,jmp hlt hb.size,(hb.cell (p:=⟨b,off+i,none⟩) (jmp hlt hn)).trans hcell⟩
theorem Strs.none(w:World)(c:Nat):Strs w (.slice none 0 c) []:=⟨_,c,rfl,jmo _,fun i s h=>by simp at h⟩
theorem jdm(v v':Value)(ss zs:List ByteArray)(w:World)(h:Strs w v ss)(h':Strs w v' zs)(hl:ss.length<=1000000)(hl':zs.length<=1000000):
  Calls Tryz.prog 24 #[v,v'] w fun e w'=>e=.returned (.bool (decide (ss=zs)))/\Below w.heap.size w w':=by
 obtain⟨A,cap,rfl,hle,hc⟩:=h
 obtain⟨A',cap',rfl,hle',hc'⟩:=h'
 by_cases hne:ss.length=zs.length
 ·go_enter Tryz.func24,Tryz.ntmps24
  go_wp2
  go_loopw [13] (fun i wr=>∃k:Nat,k<=ss.length/\i=.int .i64 k/\(ss.take k=zs.take k)/\Below w.heap.size w wr) (fun i _=>ss.length-(intOf i).toNat)
  case atStart=>exact⟨0,jmo _,rfl,rfl,jmc _ _⟩
  case round =>
  obtain⟨k,hk,rfl,he,hbl⟩:=hrel
  by_cases hlt:k<ss.length
  ·obtain⟨x,e1⟩:∃x,ss[k]?=some x:=⟨_,jmd hlt⟩
   obtain⟨y,e2⟩:∃y,zs[k]?=some y:=⟨_,jmd (by omega)⟩
   obtain⟨b,off,rfl,hb,c1⟩:=hc k _ e1
   obtain⟨b',off',rfl,hb',c2⟩:=hc' k _ e2
   replace c1:=(hbl.cell (p:=⟨b,off+k,none⟩) hb).trans c1
   replace c2:=(hbl.cell (p:=⟨b',off'+k,none⟩) hb').trans c2
   have E:=jl9 he
   have T1:Hid (ss.take (k+1)=ss.take k++[x]):=by show _=_;rw[jmO,e1];rfl
   have T2:Hid (zs.take (k+1)=zs.take k++[y]):=by show _=_;rw[jmO,e2];rfl
   have F:=jl9 (show x≠y->ss≠zs from fun hn hs=>by subst hs;rw[e1]at e2;exact hn (jmf e2))
   have hz:k<zs.length:=by omega
   clear hc hc' e1 e2 he
   by_cases hxy:x=y
   ·subst hxy
    go_wp2_with (go_quiet (fail))
    go_roundw
    case rel=>exact⟨k+1,hlt,by go_num,by rw[T1.out,T2.out,E.out],qd hbl _⟩
    case measure=>simp[intOf];omega
   have hx2:¬x.toList=y.toList:=fun e=>hxy (by apply jns;apply Array.ext';have:=e;rw[jmY,jmY]at this;exact this)
   have F2:=jl9 (F.out hxy)
   clear F
   have hx3:(x.toList==y.toList)=false:=by simpa using hx2
   have hx4:(x.toList != y.toList)=true:=by simpa using hx2
   go_wp2_with (go_quiet (fail))
   go_ret
   exact⟨by simp[F2.out],qd hbl _⟩
  obtain rfl:k=ss.length:=by omega
  rw[jmH (jma _),jmH (by omega)]at he
  clear hc hc'
  go_wp2
  go_ret
  exact⟨by simp[he],hbl⟩
 have hn:¬((ss.length:Int)=zs.length):=by omega
 have F:=jl9 (show ss≠zs from fun hs=>by subst hs;exact hne rfl)
 clear hc hc' hne
 go_enter Tryz.func24,Tryz.ntmps24
 go_wp2
 go_ret
 exact⟨by simp[F.out],jmc _ _⟩
theorem jh4{w:World}{lo:Nat}{v:Value}{ss:List (List UInt8)}(h:w.ownsRow lo 9 1 v ss.length (ss.map fun s=>.string (bs s))):Strs w v (ss.map bs):=by
 have h0:=h
 rcases h.2 with ⟨q,hn⟩|⟨g,cap,cur,q,hb,hc,hle,_⟩
 ·have:ss=[]:=jnb (by first | exact hn | exact hn.symm | omega)
  subst this
  rw[q];exact Strs.none w 0
 refine⟨some ⟨g,0,none⟩,cap,by rw[jmE];exact q,by rw[jmE];exact hle,fun i s hs=>⟨g,0,rfl,(Array.getElem?_eq_some_iff.1 hc).1,?_⟩⟩
 rw[jmC]at hs
 obtain⟨x,hx,rfl⟩:=Option.map_eq_some_iff.1 hs
 rw[q]at h0
 have:=yk h0 (j:=i) (u:=.string (bs x)) (by rw[jmC,hx];rfl)
 simpa using this
theorem Um:∀{a b:List UInt8},bytesBefore a b=true->a<=b
 | [],_,_=>List.nil_le _
 | x::a,[],h=>by cases h
 | x::a,y::b,h=>by
  have h':(decide (x<y) || (x==y&&bytesBefore a b))=true:=h
  rw[List.cons_le_cons_iff]
  simp at h'
  rcases h' with h'|⟨h1,h2⟩
  ·exact .inl h'
  exact .inr ⟨h1,Um h2⟩
theorem jg7(l:Dir):strKeys (zO l)=l.map (·.1):=by
 show(l.map jda).map (fun p=>strOf p.1)=_
 rw[jnH];rfl
theorem XQ{l:Dir}(h:Zj l){ss:List (List UInt8)}(hp:ss.Perm (l.map (·.1))):ss.mergeSort (fun x y=>decide (x<=y))=l.map (·.1):=by
 have h1:(ss.mergeSort (fun x y:List UInt8=>decide (x<=y))).Pairwise fun x y=>x<=y:=by
  have:=List.pairwise_mergeSort (le:=fun x y:List UInt8=>decide (x<=y)) (fun a b c h1 h2=>by simp at h1 h2 ⊢;exact List.le_trans h1 h2) (fun a b=>by simp;exact List.le_total a b) ss
  exact this.imp fun h=>by simpa using h
 have h2:(l.map (·.1)).Pairwise fun x y=>x<=y:=List.pairwise_map.2 (h.up.imp fun h=>Um h)
 exact List.Perm.eq_of_pairwise (le:=fun x y:List UInt8=>x<=y) (fun a b _ _ h1 h2=>List.le_antisymm h1 h2) h1 h2 ((List.mergeSort_perm _ _).trans hp)
theorem jhy(m:Nat):AnyZ.SortsIn Tryz.prog Tryz.sortedS_ren Fence.wide m :=
 ⟨fun blk off cap ss W hH hblk hsz=>callsIn_wide.2 (AnyM.slices_Sort_string Tryz.sortS blk off cap ss W hH hblk hsz),fun p cap W=>callsIn_wide.2 (AnyM.slices_Sort_string_none Tryz.sortS p cap W)⟩
theorem Xk(mb:Option Nat)(W:World):CallsIn Fence.wide 5 Tryz.prog 56 #[.map mb] W fun e w'=>e=.returned (.func (.func 94) #[] #[.pointer (some ⟨W.heap.size,0,none⟩)])/\w'=W.alloc (.cells #[.map mb] 88) :=
 AnyZ.keys_in Tryz.keysD Fence.wide 5 trivial rfl mb W
def jlK(w w':World)(v:Value)(ss:List (List UInt8)):Prop :=
 w'.ownsRow w.heap.size 9 1 v ss.length ((ss.mergeSort (fun x y=>decide (x<=y))).map encStr)/\(v=.slice none 0 0↔ss=[])/\Below w.heap.size w w'
theorem jic(b nn:Nat)(D0:DataW Unit)(R:Value->Option (DataW Unit×List MemPlace))(w:World)(hown:w.ownsMap Tryz.prog 9 R b nn D0)(hmax:Maps.size D0<=10000000):
  CallsIn Fence.wide 5 Tryz.prog 55 #[.func (.func 94) #[] #[.pointer (some ⟨w.heap.size,0,none⟩)]] (w.alloc (.cells #[.map (some b)] 88)) fun e w'=>∃(v:Value) (ss:List (List UInt8)),e=.returned v/\ss.Perm (strKeys D0)/\jlK w w' v ss:=by
 have hbl:=hown.lt
 have hseq:SeqGives Fence.wide 2 Tryz.prog 94 #[.pointer (some ⟨w.heap.size,0,none⟩)] encStr (fun ss=>ss.Perm (strKeys D0)) (Maps.size D0) (w.alloc (.cells #[.map (some b)] 88)) :=
  AnyZ.keys_gives (ρ:=Tryz.keysD_ren) {Tryz.keysD with} Fence.wide _ trivial rfl (by omega) w.heap.size b nn D0 _ (by simp) (by simp) (by
   obtain⟨es,clock,hb,Ft,hs,hD⟩:=hown
   exact⟨es,clock,(jnp _ _ b hbl).trans hb,Ft,hs,hD⟩)
 refine(AnyZ.sorted_in Tryz.sortedS Fence.wide 5 trivial trivial trivial trivial rfl (by omega) (jhy _) (enters_of Tryz.func93 (by kernel_rfl) rfl) 94 #[.pointer (some ⟨w.heap.size,0,none⟩)] trivial (enters_of Tryz.func94 (by kernel_rfl) rfl) _ _ (by unfold maxLen;omega) (by omega) _ hseq).mono ?_
 rintro e w' ⟨v,ss,rfl,hS,hrow,hnil,hb⟩
 exact⟨v,ss,rfl,hS,ownsRow_base_a hrow (by simp),hnil,((jmc _ w).alloc (jma _) _).trans (hb.mono (by simp))⟩
theorem Gf(w:World):
  CallsIn Fence.wide 5 Tryz.prog 55 #[.func (.func 94) #[] #[.pointer (some ⟨w.heap.size,0,none⟩)]] (w.alloc (.cells #[.map none] 88)) fun e w'=>e=.returned (.slice none 0 0)/\Below w.heap.size w w':=by
 have hseq:SeqGives Fence.wide 2 Tryz.prog 94 #[.pointer (some ⟨w.heap.size,0,none⟩)] encStr (fun ss:List (List UInt8)=>ss=[]) 0 (w.alloc (.cells #[.map none] 88)) :=
  AnyZ.keys_gives_nil (ρ:=Tryz.keysD_ren) {Tryz.keysD with} Fence.wide _ trivial rfl w.heap.size _ (by simp) (by simp)
 refine(AnyZ.sorted_in Tryz.sortedS Fence.wide 5 trivial trivial trivial trivial rfl (by omega) (jhy _) (enters_of Tryz.func93 (by kernel_rfl) rfl) 94 #[.pointer (some ⟨w.heap.size,0,none⟩)] trivial (enters_of Tryz.func94 (by kernel_rfl) rfl) _ 0 (jmo _) (by omega) _ hseq).mono ?_
 rintro e w' ⟨v,ss,rfl,hS,hrow,hnil,hb⟩
 exact⟨by rw[hnil.2 hS],((jmc _ w).alloc (jma _) _).trans (hb.mono (by simp))⟩
theorem jl1{w w':World}{v:Value}{ss:List (List UInt8)}{l:Dir}(hr:Zj l)(hp:ss.Perm (l.map (·.1)))(h:jlK w w' v ss):Strs w' v (l.map fun x=>bs x.1):=by
 have h1:=h.1
 rw[XQ hr hp]at h1
 have hl:ss.length=(l.map (·.1)).length:=hp.length_eq
 rw[hl]at h1
 have e:(l.map fun x=>bs x.1)=(l.map (·.1)).map bs:=by rw[jnH];rfl
 rw[e]
 exact jh4 h1
theorem names_any{w:World}{T:Nat->Nat}{p n:Nat}{D:jk}(hA:zI w T p D)(hf:zX n D)(hn:n<=300000)(hr:Zj D.seen):
  Calls Tryz.prog 25 #[.pointer (some ⟨p,0,none⟩)] w fun e w'=>∃v,e=.returned v/\Strs w' v (D.seen.map fun x=>bs x.1)/\Below w.heap.size w w':=by
 obtain⟨V,hV⟩:=hA
 have hp:=hV.cells.lt
 have d6:w.cell? ⟨p,6,none⟩=some V.v6:=hV.cells.cell 6
 have hfK:Fence.wide.fn 56:=trivial
 have hfS:Fence.wide.fn 55:=trivial
 have hlen:D.seen.length<=1000000:=by
  have h1:=qu D.waits D.sure
  have h2:=hf.dirs
  unfold jk.seen;omega
 refine(callsIn_wide (n:=6)).1 ?_
 rcases hV.m6 with ⟨e6,hs⟩|⟨b6,e6,ho⟩
 ·rw[e6]at d6
  rw[hs]
  have cS:=Gf w
  clear hV hf hr hs hlen
  refine callsIn_of_wp Tryz.func25 rfl trivial ?_ rfl
  simp only[Tryz.ntmps25,jmN,jme,jmB,Nat.reduceAdd,Nat.reduceSub,jmW,jmX,jm5,jm0,jmS,jmu]
  gi_wp2_with (first
   | (gi_at_call 56;refine(Xk _ _).mono ?_;rintro e w' ⟨rfl,rfl⟩)
   | (gi_at_call 55;refine cS.mono ?_;rintro e w' ⟨rfl,hb⟩))
  go_ret
  exact⟨_,rfl,Strs.none _ _,hb⟩
 rw[e6]at d6
 have cS:=jic b6 D.seen.length (zO D.seen) (plainElem Tryz.prog 3) w ho (by have:=ho.size_le;omega)
 rw[jg7]at cS
 have HR:=jl9 hr
 clear hV hf hr hlen ho
 refine callsIn_of_wp Tryz.func25 rfl trivial ?_ rfl
 simp only[Tryz.ntmps25,jmN,jme,jmB,Nat.reduceAdd,Nat.reduceSub,jmW,jmX,jm5,jm0,jmS,jmu]
 gi_wp2_with (first
  | (gi_at_call 56;refine(Xk _ _).mono ?_;rintro e w' ⟨rfl,rfl⟩)
  | (gi_at_call 55;refine cS.mono ?_;rintro e w' ⟨v,ss,rfl,hS,ha⟩))
 go_ret
 exact⟨v,rfl,jl1 HR.out hS ha,ha.2.2⟩
end Go.Proofs.YtpibhbjmcmfnmaaGreatDoor.Vf.Sd
