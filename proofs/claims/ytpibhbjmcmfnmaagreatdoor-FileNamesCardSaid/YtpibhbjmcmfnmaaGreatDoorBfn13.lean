/- Texts put together:TB,TC,FP,FQ,FR,TD,TE,TL,UA,UK,UB,UC. -/
import Derived.Test.YtpibhbjmcmfnmaaGreatDoorBfn12
set_option linter.unusedVariables false
set_option maxRecDepth 100000
set_option maxHeartbeats 16000000
namespace Go.Proofs.YtpibhbjmcmfnmaaGreatDoor
open Go.RowKit Go.Shelf Tryz
abbrev jm6:=@List.mem_of_mem_drop
abbrev jm7:=@List.getElem?_drop
abbrev jnt:=@List.filter_cons
abbrev jn4:=@List.getElem?_modify
section
def Yi:List Fld->Nat
 | []=>0
 | f::r=>if zl f.1 f.2=0 then Yi r+1 else 0
def vn(fs:List Fld):Nat:=if fs.length=0 then 2 else if 40<fs.length then 11 else foldN fs
def jjd(fs:List Fld):Prop:=fs.length=0\/40<fs.length\/foldN fs=0
instance (fs:List Fld):Decidable (jjd fs):=by unfold jjd;infer_instance
def Yc(fs:List Fld):Int:=if jjd fs then -9 else (Yi fs:Nat)
def xG(lo:Nat)(w:World)(u:Value)(fs:List Fld):Prop:=if jjd fs then u=qi (vn fs) else jn lo w u (Yi fs) (foldN fs)
theorem Kx(fs:List Fld):vn fs<=11:=by
 unfold vn
 have:=ja7 fs
 split
 ·decide
 split
 ·decide
 omega
theorem xz{fs:List Fld}(h:vn fs=0):fs.length≠0/\fs.length<=40/\foldN fs=0:=by
 unfold vn at h
 split at h
 ·cases h
 split at h
 ·cases h
 exact⟨by assumption,by omega,h⟩
theorem xG.zero{lo:Nat}{w:World}{u:Value}{fs:List Fld}(h:xG lo w u fs)(h0:vn fs=0):u=.nilIface:=by
 obtain⟨_,_,c⟩:=xz h0
 unfold xG at h
 rw[if_pos (.inr (.inr c)),h0]at h
 exact h
theorem xG.pos{lo:Nat}{w:World}{u:Value}{fs:List Fld}(h:xG lo w u fs)(h0:vn fs≠0):u=.iface 46 (.int .i64 (vn fs:Nat))\/∃q,u=.iface 133 (.pointer q):=by
 unfold xG at h
 split at h
 ·rw[jX _ (by omega)]at h;exact .inl h
 obtain⟨q,_,e,_⟩:=h;exact .inr ⟨_,e⟩
theorem xG.below{lo:Nat}{w w':World}{u:Value}{fs:List Fld}{N:Nat}(h:xG lo w u fs)(hb:Below N w w')(hN:w.heap.size<=N):xG lo w' u fs:=by
 unfold xG at h ⊢
 split
 ·rename_i hx;rw[if_pos hx]at h;exact h
 rename_i hx;rw[if_neg hx]at h;exact h.below hb hN
theorem xG.mono{lo lo':Nat}{w:World}{u:Value}{fs:List Fld}(h:xG lo w u fs)(hl:lo'<=lo):xG lo' w u fs:=by
 unfold xG at h ⊢
 split
 ·rename_i hx;rw[if_pos hx]at h;exact h
 rename_i hx;rw[if_neg hx]at h;exact h.mono hl
theorem xG.set{lo:Nat}{w:World}{u:Value}{fs:List Fld}(h:xG lo w u fs)(p:Addr)(hp:p.block<lo)(x:Value):xG lo (w.setCell p x) u fs:=by
 unfold xG at h ⊢
 split
 ·rename_i hx;rw[if_pos hx]at h;exact h
 rename_i hx
 rw[if_neg hx]at h
 obtain⟨q,hq,e,hc⟩:=h
 exact⟨q,hq,e,ja.other hc (by omega) _⟩
attribute [local go_sem] jW
theorem je5(fs:List Fld)(v:Value)(w:World)(hs:Yo w v fs)(hn:fs.length<=1000000)(hl:∀f∈fs,f.1.length<=1000000/\f.2.length<=1000000):
  Calls prog 203 #[v] w fun e w'=>∃u,e=.returned u/\Below w.heap.size w w'/\xG w.heap.size w' u fs:=by
 obtain⟨A,cap,rfl,hle,hc⟩:=hs
 have PC:=jl9 hc
 have HL:=jl9 hl
 clear hc hl
 by_cases h0:fs.length=0
 ·have FIN:Hid (∀W,xG w.heap.size W (.iface 46 (.int .i64 2)) fs):=by
   intro W
   unfold xG;rw[if_pos (.inl h0)];unfold vn;rw[if_pos h0];rfl
  rw[h0]
  go_enter func203,ntmps203
  go_wp2_with fail
  go_ret
  exact⟨_,rfl,jmc _ _,FIN.out _⟩
 by_cases h40:40<fs.length
 ·have FIN:Hid (∀W,xG w.heap.size W (.iface 46 (.int .i64 11)) fs):=by
   intro W
   unfold xG;rw[if_pos (.inr (.inl h40))];unfold vn;rw[if_neg h0,if_pos h40];rfl
  have c0:((fs.length:Int)==0)=false:=by simp;intro h;exact h0 (by rw[h];rfl)
  go_enter func203,ntmps203
  go_wp2_with fail
  go_ret
  exact⟨_,rfl,jmc _ _,FIN.out _⟩
 have FINZ:Hid (∀W,foldN fs=0->xG w.heap.size W .nilIface fs):=by
  intro W hz
  unfold xG;rw[if_pos (.inr (.inr hz))];unfold vn;rw[if_neg h0,if_neg h40,hz];rfl
 have FINB:Hid (∀(W:World) (k n:Nat),w.heap.size<=W.heap.size->foldN fs=n->n≠0->Yi fs=k->xG w.heap.size (W.alloc (.cells #[.int .i64 (k:Nat),.iface 46 (.int .i64 (n:Nat))] 135)) (.iface 133 (.pointer (some ⟨W.heap.size,0,none⟩))) fs):=by
  intro W k n hW hf hnz hk
  unfold xG
  rw[if_neg (by unfold jjd;rintro(h | h | h)<;>omega),hf,hk,<- jX n (by omega)]
  exact jn.new W k n _ _ rfl hW
 have c0:((fs.length:Int)==0)=false:=by simp;intro h;exact h0 (by rw[h];rfl)
 go_enter func203,ntmps203
 go_wp2_with fail
 go_loopw [18] (fun i wr=>∃k:Nat,k<=fs.length/\i=.int .i64 k/\foldN fs=foldN (fs.drop k)/\Yi fs=Yi (fs.drop k)+k/\Below w.heap.size w wr) (fun i _=>fs.length-(intOf i).toNat)
 case atStart=>exact⟨0,jmo _,rfl,rfl,rfl,jmc _ _⟩
 case round =>
 obtain⟨k,hk,rfl,hN,hA,hb⟩:=hrel
 by_cases hlt:k<fs.length
 ·obtain⟨f,hf⟩:∃f,fs[k]?=some f:=⟨_,jmd hlt⟩
  obtain⟨b,off,rfl,hbb,c0',c1⟩:=PC.out k f hf
  replace c0':=(hb.cell (p:=⟨b,off+k*2,none⟩) hbb).trans c0'
  replace c1:=(hb.cell (p:=⟨b,off+k*2+1,none⟩) hbb).trans c1
  obtain⟨hl1,hl2⟩:=HL.out f (jmx hf)
  have hdrop:fs.drop k=f::fs.drop (k+1):=by
   rw[jnn hlt]
   rw[jmd hlt]at hf
   rw[jmf hf]
  have hs1:=hb.size
  have hba:=hb.alloc hs1 (.cells #[.string (B f.1),.string (B f.2)] 155)
  have hza:(wr.alloc (.cells #[.string (B f.1),.string (B f.2)] 155)).heap.size=wr.heap.size+1:=by simp
  have CK:=fun W=>Zd f.1 f.2 hl1 hl2 W
  unfold vf at CK
  rw[hdrop]at hN hA
  by_cases hck:zl f.1 f.2=0
  ·have G1:Hid (foldN fs=foldN (fs.drop (k+1))):=by
    show _=_
    rw[hN];show(if zl f.1 f.2=0 then foldN (fs.drop (k+1)) else _)=_;rw[if_pos hck]
   have G2:Hid (Yi fs=Yi (fs.drop (k+1))+(k+1)):=by
    show _=_
    rw[hA];show(if zl f.1 f.2=0 then Yi (fs.drop (k+1))+1 else _)+k=_;rw[if_pos hck];omega
   rw[hck]at CK
   clear hdrop hN hA hf hck FINB FINZ PC HL
   go_wp2_with fail
   refine(CK _).mono ?_
   rintro e w2 ⟨rfl,b2⟩
   have hb2:=hba.trans (b2.mono (by omega))
   clear b2 CK
   go_wp2_with fail
   go_roundw
   case rel=>exact⟨k+1,hlt,by go_num,G1.out,G2.out,hb2⟩
   case measure=>simp[intOf];omega
  have hfn:foldN fs=zl f.1 f.2:=by rw[hN];unfold foldN;rw[if_neg hck]
  have hbn:Yi fs=k:=by rw[hA];unfold Yi;rw[if_neg hck];omega
  have FIN:=jl9 (fun W hW=>FINB.out W k (zl f.1 f.2) hW hfn hck hbn)
  rw[jX _ (jnu hck)]at CK
  clear hdrop hN hA hf hck FINB FINZ PC HL hfn hbn
  generalize zl f.1 f.2=cn at *
  go_wp2_with fail
  refine(CK _).mono ?_
  rintro e w2 ⟨rfl,b2⟩
  have hb2:=hba.trans (b2.mono (by omega))
  have hz2:=hb2.size
  clear b2 CK
  go_wp2_with fail
  go_ret
  exact⟨_,rfl,hb2.alloc hz2 _,FIN.out w2 hz2⟩
 obtain rfl:k=fs.length:=by omega
 rw[jnC]at hN
 have F0:=jl9 (fun W=>FINZ.out W hN)
 clear hN hA FINB FINZ PC HL
 go_wp2_with fail
 go_ret
 exact⟨_,rfl,hb,F0.out _⟩
def jbM(fs:List Fld):List UInt8:=if vn fs=0 then jU fs else []
theorem jbN(fs:List Fld)(v:Value)(w:World)(hs:Yo w v fs)(hn:fs.length<=1000000)(hl:∀f∈fs,f.1.length<=100000/\f.2.length<=100000):
  Calls prog 254 #[v] w fun e w'=>∃u,e=.returned (.tuple #[.string (B (jbM fs)),u])/\Below w.heap.size w w'/\xG w.heap.size w' u fs:=by
 have CK:=jl9 (je5 fs v w hs hn (fun f hf=>by have:=hl f hf;omega))
 by_cases h0:vn fs=0
 ·obtain⟨a1,a2,a3⟩:=xz h0
  have FO:=jl9 (fun w' (h:Yo w' v fs)=>ja6 fs v w' h (by omega) hl)
  rw[a3]at FO
  have T1:Hid (jbM fs=foldT fs):=by
   show _=_
   unfold jbM foldT;rw[if_pos h0,if_pos a3]
  have HS:=jl9 hs
  obtain⟨A,cap,rfl,hle,_⟩:=id hs
  have H0:=jl9 h0
  clear hs hl h0 a3
  go_enter func254,ntmps254
  go_wp2_with fail
  refine CK.out.mono ?_
  rintro e w1 ⟨u,rfl,b1,hu⟩
  obtain rfl:=hu.zero H0.out
  have HU:=jl9 hu
  have hz1:=b1.size
  have F2:=jl9 (FO.out w1 (HS.out.below b1 (jma _)))
  clear hu CK FO
  go_wp2_with fail
  refine F2.out.mono ?_
  rintro e w2 ⟨rfl,b2⟩
  have hb2:=b1.trans (b2.mono hz1)
  have HU2:=jl9 (HU.out.below b2 (jma _))
  clear F2
  go_wp2_with fail
  go_ret2
  exact⟨_,by rw[T1.out];rfl,hb2,HU2.out⟩
 have T1:Hid (jbM fs=[]):=by
  show _=_
  unfold jbM;rw[if_neg h0]
 obtain⟨A,cap,rfl,hle,_⟩:=id hs
 have H0:=jl9 h0
 clear hs hl h0
 go_enter func254,ntmps254
 go_wp2_with fail
 refine CK.out.mono ?_
 rintro e w1 ⟨u,rfl,b1,hu⟩
 have hp:=hu.pos H0.out
 have HU:=jl9 hu
 clear hu CK
 rcases hp with rfl|⟨q,rfl⟩
 all_goals
  go_wp2_with fail
  go_ret2
  exact⟨_,by rw[T1.out];rfl,b1,HU.out⟩
end
section
theorem jhA{fn:Func}{p u:Tmp}(h:fn.results=#[.cell p 236,.tmp u])(tmps:Array Value)(w:World)(b:Nat)(cur:Array Value)(hp:tmps.getD p undef=.pointer (some ⟨b,0,none⟩))
  (hc:ja w b 236 cur) (hz:cur.size=3):(results fn tmps).run prog w=.ok (.tuple #[.agg cur,tmps.getD u undef]) w:=by
 have L:=run_loadVar_row (P:=prog) w b 236 236 cur (0,0) _ hc underlying236 rfl (by rw[hz];kernel_rfl)
 rw[results_cell_tmp h,hp]
 show((loadVar _ _).run _ _).andThen _=_
 rw[L];rfl
theorem jk7(c0 c1 c2 v0 v1 v2:Value):(((#[c0,c1,c2].setIfInBounds 0 v0).setIfInBounds 1 v1).setIfInBounds 2 v2)=#[v0,v1,v2]:=by
 simp[List.setIfInBounds_toArray,List.set]
def Kc(fs:List Fld):Int:=if vn fs=0 then 3 else 0
structure jlv(w:World)(fs:List Fld)(e:Ending)(w':World)(u x:Value):Prop where
 ret:e=.returned (.tuple #[.agg #[.int .i64 (Kc fs),.string (B (jbM fs)),x],u])
 below:Below w.heap.size w w'
 chk:xG w.heap.size w' u fs
 own:vn fs=0->w'.ownsRow w.heap.size 155 2 x fs.length (jG fs)
 none_:vn fs≠0->x=.slice none 0 0
attribute [local go_sem] jW
theorem jaV(fs:List Fld)(v:Value)(w:World)(hs:Yo w v fs)(hnil:∀n c,v=.slice none n c->c=0)(hn:fs.length<=1000000)(hl:∀f∈fs,f.1.length<=100000/\f.2.length<=100000):
  Calls prog 206 #[v] w fun e w'=>∃u x,jlv w fs e w' u x:=by
 have ST:=jl9 (fun w' (h:Yo w' v fs)=>jbN fs v w' h hn hl)
 have CL:=jl9 (fun w' (h:Yo w' v fs)=>xy fs v w' h hnil hn)
 have HS:=jl9 hs
 obtain⟨A,cap,rfl,hle,_⟩:=id hs
 have hba:Below w.heap.size w (w.alloc (.cells #[.int .i64 0,.string ⟨#[]⟩,.slice none 0 0] 236)):=(jmc _ _).alloc (jma _) _
 have hza:(w.alloc (.cells #[.int .i64 0,.string ⟨#[]⟩,.slice none 0 0] 236)).heap.size=w.heap.size+1:=by simp
 have ST1:=jl9 (ST.out _ (HS.out.below hba (jma _)))
 have BX:=jl9 (ja.new w 236 #[.int .i64 0,.string ⟨#[]⟩,.slice none 0 0])
 clear hs hl hnil ST
 go_enter func206,ntmps206
 go_wp2_with fail
 refine ST1.out.mono ?_
 rintro e w1 ⟨u,rfl,b1,hu⟩
 have R1:=jd BX.out b1 (by omega)
 have hb1:Below w.heap.size w w1:=hba.trans (b1.mono (by omega))
 have hz1:=b1.size
 by_cases h0:vn fs=0
 ·obtain rfl:=hu.zero h0
  have HU:=jl9 hu
  have CL1:=jl9 (CL.out w1 (HS.out.below hb1 (jma _)))
  have KI:Hid (Kc fs=3):=by show _=_;unfold Kc;rw[if_pos h0]
  have H0:=jl9 h0
  have hzw:=hb1.size
  clear hu h0 CL ST1 b1 BX HS
  generalize hT:jbM fs=T at *
  replace hT:=jl9 hT
  go_wp2_with fail
  refine CL1.out.mono ?_
  rintro e w2 ⟨x,rfl,hx,b2⟩
  obtain⟨xa,xc,hxe,_⟩:=jf hx
  subst hxe
  have R2:=jd R1 b2 (by omega)
  have hb2:=hb1.trans (b2.mono hzw)
  have c0:=R2.cell 0
  have c1:=R2.cell 1
  have c2:=R2.cell 2
  have f0:=R2.frozen 0
  have f1:=R2.frozen 1
  have f2:=R2.frozen 2
  simp only[jmh,jmm,jmg]at c0 c1 c2
  have RE:=((R2.set 0 (.int .i64 3)).set 1 (.string (B T))).set 2 (.slice xa fs.length xc)
  rw[jk7]at RE
  have HB:Below w.heap.size w (((w2.setCell ⟨w.heap.size,0,none⟩ (.int .i64 3)).setCell ⟨w.heap.size,1,none⟩ (.string (B T))).setCell ⟨w.heap.size,2,none⟩ (.slice xa fs.length xc)) :=
   ((hb2.setCell (p:=⟨w.heap.size,0,none⟩) (jma _) _).setCell (p:=⟨w.heap.size,1,none⟩) (jma _) _).setCell (p:=⟨w.heap.size,2,none⟩) (jma _) _
  have HX:=jl9 hx
  have HBH:=jl9 HB
  have U2:=jl9 (HU.out.below b2 (jma _))
  clear HU hb2 b2 hb1 CL1 hx HB
  go_wp2_with fail
  refine bodyPost_ret (jhA rfl _ _ w.heap.size _ rfl RE rfl) rfl ?_
  refine⟨_,.slice xa fs.length xc,by rw[KI.out,hT.out],HBH.out,?_,fun _ => ?_,fun h=>absurd H0.out h⟩
  ·have h:=U2.out
   unfold xG at h ⊢
   have hb:jjd fs:=.inr (.inr (xz H0.out).2.2)
   rw[if_pos hb]at h ⊢
   exact h
  have hne:∀k,Value.ownBlock (.slice xa fs.length xc)=some k->k≠w.heap.size:=fun k e=>by have:=(HX.out.lt k e).1;omega
  exact jF (p:=⟨w.heap.size,2,none⟩) (jF (p:=⟨w.heap.size,1,none⟩) (jF (p:=⟨w.heap.size,0,none⟩) (ze HX.out (by omega)) (fun e=>hne _ e rfl) _) (fun e=>hne _ e rfl) _) (fun e=>hne _ e rfl) _
 have hp:=hu.pos h0
 have HU:=jl9 hu
 have KI:Hid (Kc fs=0):=by show _=_;unfold Kc;rw[if_neg h0]
 have TI:Hid (jbM fs=[]):=by show _=_;unfold jbM;rw[if_neg h0]
 have H0:=jl9 h0
 have c0:=R1.cell 0
 have c1:=R1.cell 1
 have c2:=R1.cell 2
 have f0:=R1.frozen 0
 have f1:=R1.frozen 1
 have f2:=R1.frozen 2
 simp only[jmh,jmm,jmg]at c0 c1 c2
 have RE:=((R1.set 0 (.int .i64 0)).set 1 (.string ⟨#[]⟩)).set 2 (.slice none 0 0)
 rw[jk7]at RE
 have HB:Below w.heap.size w (((w1.setCell ⟨w.heap.size,0,none⟩ (.int .i64 0)).setCell ⟨w.heap.size,1,none⟩ (.string ⟨#[]⟩)).setCell ⟨w.heap.size,2,none⟩ (.slice none 0 0)) :=
  ((hb1.setCell (p:=⟨w.heap.size,0,none⟩) (jma _) _).setCell (p:=⟨w.heap.size,1,none⟩) (jma _) _).setCell (p:=⟨w.heap.size,2,none⟩) (jma _) _
 have HBH:=jl9 HB
 clear hu h0 CL ST1 b1 BX HS hb1 HB
 have FIN:Hid (xG w.heap.size (((w1.setCell ⟨w.heap.size,0,none⟩ (.int .i64 0)).setCell ⟨w.heap.size,1,none⟩ (.string ⟨#[]⟩)).setCell ⟨w.heap.size,2,none⟩ (.slice none 0 0)) u fs) :=
  (((HU.out.set ⟨w.heap.size,0,none⟩ (by show w.heap.size<_;omega) _).set ⟨w.heap.size,1,none⟩ (by show w.heap.size<_;omega) _).set ⟨w.heap.size,2,none⟩ (by show w.heap.size<_;omega) _).mono (by omega)
 rcases hp with rfl|⟨q,rfl⟩
 all_goals
  go_wp2_with fail
  refine bodyPost_ret (jhA rfl _ _ w.heap.size _ rfl RE rfl) rfl ?_
  exact⟨_,.slice none 0 0,by rw[KI.out,TI.out];rfl,HBH.out,FIN.out,fun h=>absurd h H0.out,fun _=>rfl⟩
end
section
attribute [local go_sem] jW
end
section
def jj8(rs:List (List Fld)):List UInt8:=vM (rs.map jU)
def jlq(rs:List (List Fld)):Option (List Fld):=rs.find? fun r=>vn r != 0
theorem jfg{rs:List (List Fld)}(h:∀r∈rs,vn r=0):jlq rs=none:=by
 unfold jlq
 rw[List.find?_eq_none]
 intro r hr
 simp[h r hr]
def jc4(w:World)(rs:List (List Fld))(e:Ending)(w':World):Prop :=
 Below w.heap.size w w'/\match jlq rs with
  | some r=>∃u,e=.returned (.tuple #[.string (B []),u])/\xG w.heap.size w' u r/\vn r≠0
  | none=>e=.returned (.tuple #[.string (B (jj8 rs)),.nilIface])/\∀r∈rs,vn r=0
theorem jc4.yes{w w':World}{rs:List (List Fld)}(h:∀r∈rs,vn r=0)(hb:Below w.heap.size w w'):jc4 w rs (.returned (.tuple #[.string (B (jj8 rs)),.nilIface])) w' :=
 ⟨hb,by rw[jfg h];exact⟨rfl,h⟩⟩
attribute [local go_sem] jW
end
section
def zH(fs:List Fld):It:=⟨3,jU fs,fs⟩
theorem GG(fs:List Fld):jU fs=jl (jz fs):=by
 unfold jU jz jl
 rw[List.flatMap_assoc]
abbrev En:=It×Int
structure LS where
 es:List En
 next:Int
def Qh{α:Type}(κ:α->Int):Nat->List α->List (Nat×α)
 | _,[]=>[]
 | k,e::r=>if κ e=3 then (k,e)::Qh κ (k+1) r else Qh κ (k+1) r
section
variable {α:Type} {κ:α->Int}
theorem XJ:∀(k:Nat) (es:List α),(Qh κ k es).length<=es.length
 | k,[]=>jma _
 | k,e::r=>by
  have ih:=XJ (k+1) r
  show(if κ e=3 then (k,e)::Qh κ (k+1) r else Qh κ (k+1) r).length<=_
  split
  ·simp only[jme];omega
  simp only[jme];omega
theorem JF:∀(k:Nat) (es:List α) (x:Nat×α),x∈Qh κ k es->k<=x.1/\es[x.1-k]?=some x.2/\κ x.2=3
 | k,[],x,h=>by cases h
 | k,e::r,x,h=>by
  have ih:=JF (k+1) r x
  have go:x∈Qh κ (k+1) r->k<=x.1/\(e::r)[x.1-k]?=some x.2/\κ x.2=3:=fun q=>by
   obtain⟨a,b,c⟩:=ih q
   refine⟨by omega,?_,c⟩
   rw[show x.1-k=(x.1-(k+1))+1 by omega,jmg];exact b
  unfold Qh at h
  split at h
  ·rename_i hk
   rcases List.mem_cons.1 h with rfl|h
   ·exact⟨jma _,by simp,hk⟩
   exact go h
  exact go h
theorem KY:∀(es:List α) (k j:Nat) (e:α),es[j]?=some e->Qh κ (k+j) (es.drop j)=if κ e=3 then (k+j,e)::Qh κ (k+(j+1)) (es.drop (j+1)) else Qh κ (k+(j+1)) (es.drop (j+1))
 | [],k,j,e,h=>by simp at h
 | a::r,k,0,e,h=>by simp at h;subst h;rfl
 | a::r,k,j+1,e,h=>by
  have ih:=KY r (k+1) j e (by simpa using h)
  rw[show k+1+j=k+(j+1) by omega,show k+1+(j+1)=k+(j+1+1) by omega]at ih
  exact ih
theorem XI{β:Type}(f:β->α):∀(k:Nat) (es:List β),(Qh (fun b=>κ (f b)) k es).map (fun x=>(x.1,f x.2))=Qh κ k (es.map f)
 | k,[]=>rfl
 | k,e::r=>by
  have ih:=XI f (k+1) r
  show((if κ (f e)=3 then (k,e)::Qh _ (k+1) r else Qh _ (k+1) r).map _)=if κ (f e)=3 then (k,f e)::Qh κ (k+1) (r.map f) else Qh κ (k+1) (r.map f)
  split
  ·rw[jmD,ih]
  exact ih
end
abbrev Ge:Nat->List En->List (Nat×En):=Qh fun e=>e.1.kind
abbrev jkJ(es:List En):List (Nat×En):=Ge 0 es
def jgT(es:List En)(id:Int):Option Nat:=((jkJ es).find? fun x=>x.2.2==id).map Prod.fst
def ve(es:List En)(id:Int):Option Nat:=if 0<id then es.findIdx? fun e=>e.2==id else none
def WF(es:List En):Prop:=∀e∈es,(e.1.kind=3/\0<e.2)\/(e.1.kind≠3/\e.2=0)
theorem jeJ:∀(k:Nat) (es:List En) (id:Int),WF es->0<id->((Ge k es).find? fun x=>x.2.2==id).map Prod.fst=(es.findIdx? fun e=>e.2==id).map (· + k)
 | k,[],id,_,_=>rfl
 | k,e::r,id,h,hid=>by
  have ih:=jeJ (k+1) r id (fun y hy=>h y (jmj _ hy)) hid
  have he:=h e jml
  unfold Qh
  rw[List.findIdx?_cons]
  by_cases hk:e.1.kind=3
  ·rw[if_pos hk,List.find?_cons]
   cases hq:e.2==id with
   | true=>simp
   | false =>
   simp only
   rw[ih]
   cases List.findIdx? (fun e=>e.2==id) r with
   | none=>rfl
   | some q=>simp;omega
  rw[if_neg hk]
  have h0:e.2=0:=by
   rcases he with he|he
   ·exact absurd he.1 hk
   exact he.2
  have hq:(e.2==id)=false:=by rw[h0];exact beq_eq_false_iff_ne.2 (by omega)
  rw[ih,hq]
  cases List.findIdx? (fun e=>e.2==id) r with
  | none=>rfl
  | some q=>simp;omega
theorem Vv:∀(k:Nat) (es:List En) (id:Int),WF es->id<=0->((Ge k es).find? fun x=>x.2.2==id)=none
 | k,[],id,_,_=>rfl
 | k,e::r,id,h,hid=>by
  have ih:=Vv (k+1) r id (fun y hy=>h y (jmj _ hy)) hid
  have he:=h e jml
  unfold Qh
  split
  ·rename_i hk
   have h0:0<e.2:=by
    rcases he with he|he
    ·exact he.2
    exact absurd hk he.1
   have hq:(e.2==id)=false:=beq_eq_false_iff_ne.2 (by omega)
   rw[List.find?_cons]
   simp only[hq]
   exact ih
  exact ih
theorem jeL{es:List En}(h:WF es)(id:Int):jgT es id=ve es id:=by
 unfold jgT ve
 split
 ·rename_i hid
  have:=jeJ 0 es id h hid
  rw[this]
  cases List.findIdx? (fun e=>e.2==id) es with
  | none=>rfl
  | some q=>rfl
 rename_i hid
 show Option.map _ ((Ge 0 es).find? _)=none
 rw[Vv 0 es id h (by omega)];rfl
def UV(es:List En):Nat:=(es.filter fun e=>decide (0<e.2)).length
theorem YM:∀(k:Nat) (es:List En),WF es->(Ge k es).map Prod.snd=es.filter fun e=>decide (0<e.2)
 | k,[],_=>rfl
 | k,e::r,h=>by
  have ih:=YM (k+1) r (fun y hy=>h y (jmj _ hy))
  unfold Qh
  rw[jnt]
  rcases h e jml with ⟨a,b⟩|⟨a,b⟩
  ·rw[if_pos a,if_pos (by simpa using b),jmD,ih]
  rw[if_neg a,if_neg (by simp;omega),ih]
theorem jgs{es:List En}(h:WF es):(jkJ es).length=UV es:=by
 have:=congrArg List.length (YM 0 es h)
 rw[jmE]at this
 exact this
def XM(es:List En)(k:Nat)(it:It):List En:=es.modify k fun e=>(it,e.2)
def jcL(es:List En)(k:Nat):List En:=es.take k++es.drop (k+1)
def Gi(es:List En)(k:Nat)(e:En):List En:=es.take k++e::es.drop k
theorem WF.set{es:List En}(h:WF es)(k:Nat)(it:It)(hk:it.kind=3)(e:En)(he:es[k]?=some e)(hn:e.1.kind=3):WF (XM es k it):=by
 intro x hx
 obtain⟨j,hj⟩:=List.mem_iff_getElem?.1 hx
 unfold XM at hj
 rw[jn4]at hj
 rcases hjj:es[j]? with _|y
 ·rw[hjj]at hj;simp at hj
 rw[hjj]at hj
 simp only[Option.map_eq_map,jnJ,Option.some.injEq]at hj
 have hy:=h y (jmx hjj)
 by_cases e1:k=j
 ·rw[if_pos e1]at hj
  subst hj
  subst e1
  rw[he]at hjj
  cases hjj
  rcases h e (jmx he) with q|q
  ·exact .inl ⟨hk,q.2⟩
  exact absurd hn q.1
 rw[if_neg e1]at hj
 subst hj;exact hy
theorem WF.cut{es:List En}(h:WF es)(k:Nat):WF (jcL es k):=by
 intro x hx
 rcases List.mem_append.1 hx with q|q
 ·exact h x (jng q)
 exact h x (jm6 q)
theorem WF.put{es:List En}(h:WF es)(k:Nat){e:En}(he:(e.1.kind=3/\0<e.2)):WF (Gi es k e):=by
 intro x hx
 rcases List.mem_append.1 hx with q|q
 ·exact h x (jng q)
 rcases List.mem_cons.1 q with rfl|q
 ·exact .inl he
 exact h x (jm6 q)
theorem jfY(es:List En)(k:Nat)(it:It):(XM es k it).length=es.length:=by unfold XM;simp
structure Did where
 ls:LS
 at_:Int
 bad:Nat
 id:Int
def qe(l:LS)(id:Int)(fs:List Fld):Did :=
 match ve l.es id with
 | none=>⟨l,-9,7,0⟩
 | some k=>if vn fs=0 then ⟨⟨XM l.es k (zH fs),l.next⟩,-9,0,0⟩ else ⟨l,Yc fs,vn fs,0⟩
def qQ(l:LS)(id:Int):Did :=
 match ve l.es id with
 | none=>⟨l,-9,7,0⟩
 | some k=>⟨⟨jcL l.es k,l.next⟩,-9,0,0⟩
def jjs(es:List En)(behind:Int):Option Nat:=if behind=0 then some 0 else (ve es behind).map (· + 1)
def qD(l:LS)(behind:Int)(fs:List Fld):Did :=
 match jjs l.es behind with
 | none=>⟨l,-9,7,0⟩
 | some k=>if vn fs=0 then (if 400<=UV l.es then ⟨l,-9,11,0⟩ else ⟨⟨Gi l.es k (zH fs,l.next),l.next+1⟩,-9,0,l.next⟩) else ⟨l,Yc fs,vn fs,0⟩
def xw(l:LS)(kind id:Int)(fs:List Fld):Did :=
 if kind=1 then qe l id fs else if kind=2 then qQ l id else qD l id fs
theorem jgS{es:List En}{id:Int}{k:Nat}(h:ve es id=some k):k<es.length/\∃e,es[k]?=some e/\e.2=id/\0<id:=by
 unfold ve at h
 split at h
 ·rename_i hid
  obtain⟨a,b,_⟩:=List.findIdx?_eq_some_iff_getElem.1 h
  exact⟨a,_,jmd a,by simpa using b,hid⟩
 cases h
def zV:Int->List It->List En
 | _,[]=>[]
 | n,it::r=>if it.kind=3 then (it,n)::zV (n+1) r else (it,0)::zV n r
def jR:Int->List It->Int
 | n,[]=>n
 | n,it::r=>if it.kind=3 then jR (n+1) r else jR n r
def vd(its:List It):LS:=⟨zV 1 its,jR 1 its⟩
theorem Vs:∀(n:Int) (l:List It) (it:It),zV n (l++[it])=zV n l++[(it,if it.kind=3 then jR n l else 0)]/\jR n (l++[it])=if it.kind=3 then jR n l+1 else jR n l
 | n,[],it=>by
  simp only[jmS,zV,jR]
  split<;>simp
 | n,a::l,it=>by
  obtain⟨h1,h2⟩:=Vs (n+1) l it
  obtain⟨g1,g2⟩:=Vs n l it
  simp only[jmu,zV,jR]
  split
  ·rw[h1,h2];exact⟨rfl,rfl⟩
  rw[g1,g2];exact⟨rfl,rfl⟩
theorem Qy:∀(n:Int) (l:List It),(zV n l).length=l.length
 | n,[]=>rfl
 | n,a::l=>by
  unfold zV
  split
  ·rw[jme,Qy];rfl
  rw[jme,Qy];rfl
theorem Zv:∀(n:Int) (l:List It),(zV n l).map Prod.fst=l
 | n,[]=>rfl
 | n,a::l=>by
  unfold zV
  split
  ·rw[jmD,Zv]
  rw[jmD,Zv]
theorem JW:∀(n:Int) (l:List It),n<=jR n l/\jR n l<=n+l.length
 | n,[]=>by simp[jR]
 | n,a::l=>by
  have h1:=JW (n+1) l
  have h2:=JW n l
  unfold jR
  rw[jme]
  split<;>omega
theorem GC:∀(n:Int) (l:List It),0<n->WF (zV n l)
 | n,[],_=>fun e h=>by cases h
 | n,a::l,hn=>by
  unfold zV
  split
  ·rename_i hk
   intro e he
   rcases List.mem_cons.1 he with rfl|he
   ·exact .inl ⟨hk,hn⟩
   exact GC (n+1) l (by omega) e he
  rename_i hk
  intro e he
  rcases List.mem_cons.1 he with rfl|he
  ·exact .inr ⟨hk,rfl⟩
  exact GC n l hn e he
end
section
variable {P:Program}
theorem QM{α:Type}{g:Operand}{ps:Array Tmp}{assign body:Code}{Q:Exit->Act->World->Prop}{a:Act}{w:World}
  {gf:Nat} {lb:Array Value} (hg:a.eval g=.func (.func gf) #[] lb) (eg:∀args w,(callFunc gf args).run P w=.ok (.enter gf args) w)
  {encs:α->Array Value} {k:Nat} {xs:List α} {K:World->Prop} (hseq:jfs P gf lb encs k xs K w) (hps:∀x,(encs x).size=ps.size)
  (I:List α->World->Prop) (Ix:Code->List α->World->Prop) (hI:zD w.heap.size (k+2) I) (hIx:∀c,zD w.heap.size 2 (Ix c)) (h0:I [] w) (hK:∀pre W,I pre W->K W)
  (M:Act->List α->α->Act->World->Prop) (hM:∀a pre x a',zD w.heap.size 2 (fun(_:Unit) W=>M a pre x a' W))
  (hassign:∀(l:Nat) (pre:List α) (x:α) (post:List α) (W:World),xs=pre++x::post->w.heap.size+(k+2)<=W.heap.size->I pre W ->
   assign.wpIn (Fence.wide.inRound l) 7 P (QK w.heap.size (k+2) (M a pre x) W) {tmps:=(ps.zip (encs x)).foldl (fun t (p,v)=>t.setIfInBounds p v) a.tmps,defers:=[]} W)
  (hbody:∀(l:Nat) (pre:List α) (x:α) (post:List α) (a':Act) (W:World),xs=pre++x::post->w.heap.size+(k+2)<=W.heap.size->M a pre x a' W ->
   body.wpIn (Fence.wide.inRound l) 7 P (left w.heap.size (k+2) I Ix (pre++[x]) W) a' W)
  (hdone:∀(W:World),I xs W->W.heap[w.heap.size]?=some (.deferred (some []))->Q .normal {a with defers:={target:=.collected w.heap.size,args:=#[]}::a.defers} W)
  (hstop:∀(c:Code) (pre:List α) (W:World),pre <+: xs->Ix c pre W->W.heap[w.heap.size]?=some (.deferred (some []))->c.wpIn Fence.wide 9 P Q {a with defers:={target:=.collected w.heap.size,args:=#[]}::a.defers} W) :
  (Code.rangeFunc g ps assign body).wpIn Fence.wide 9 P Q a w :=
 YE hg eg hseq hps I Ix hI hIx h0 hK (M a) (hM a) hassign hbody hdone hstop
abbrev Pr:=En×Value
def zt(p:Pr):List Value:=[.int .i64 p.1.1.kind,.string (B p.1.1.raw),p.2,.int .i64 p.1.2]
def jh(ps:List Pr):List Value:=ps.flatMap zt
theorem JZ(ps:List Pr)(p:Pr):jh (ps++[p])=jh ps++zt p:=by unfold jh;simp
theorem vO(ps qs:List Pr):jh (ps++qs)=jh ps++jh qs:=by unfold jh;simp
theorem vx:∀(ps:List Pr) (k:Nat),jh (ps.take k)=(jh ps).take (k*4)
 | [],k=>by simp[jh]
 | p::r,0=>by simp[jh]
 | p::r,k+1=>by
  have ih:=vx r k
  have e:jh (p::r)=zt p++jh r:=rfl
  rw[jn8,e,show jh (p::r.take k)=zt p++jh (r.take k) from rfl,ih,List.take_append]
  have hl:(zt p).length=4:=rfl
  rw[hl,jmH (l:=zt p) (by rw[hl];omega),show(k+1)*4-4=k*4 by omega]
theorem vy:∀(ps:List Pr) (k:Nat),jh (ps.drop k)=(jh ps).drop (k*4)
 | [],k=>by simp[jh]
 | p::r,0=>by simp
 | p::r,k+1=>by
  have ih:=vy r k
  have e:jh (p::r)=zt p++jh r:=rfl
  have hl:(zt p).length=4:=rfl
  rw[jnR,e,ih,List.drop_append,hl,jm1 (l:=zt p) (by rw[hl];omega),show(k+1)*4-4=k*4 by omega,jmS]
theorem Jm:∀(ps:List Pr) (i:Nat) (p:Pr),ps[i]?=some p->∀j u,(zt p)[j]?=some u->(jh ps)[i*4+j]?=some u
 | [],i,p,h=>by simp at h
 | q::r,0,p,h=>by
  simp at h;subst h
  intro j u hj
  have e:jh (q::r)=zt q++jh r:=rfl
  rw[e,Nat.zero_mul,jmP,jmI (by have:=(List.getElem?_eq_some_iff.1 hj).1;exact this)]
  exact hj
 | q::r,i+1,p,h=>by
  intro j u hj
  have ih:=Jm r i p (by simpa using h) j u hj
  have e:jh (q::r)=zt q++jh r:=rfl
  have hl:(zt q).length=4:=rfl
  rw[e,jmr (by rw[hl];omega),hl,show(i+1)*4+j-4=i*4+j by omega]
  exact ih
theorem WX{ps:List Pr}(h:∀p∈ps,p.2.oneCell'=true):∀u∈jh ps,u.oneCell'=true:=by
 intro u hu
 obtain⟨p,hp,hu⟩:=List.mem_flatMap.1 hu
 unfold zt at hu
 simp at hu
 rcases hu with rfl|rfl|rfl|rfl
 ·rfl
 ·rfl
 ·exact h p hp
 rfl
def Zl(w:World)(v:Value)(fs:List Fld):Prop:=Yo w v fs/\∀n c,v=.slice none n c->c=0
theorem Zl.below{w w':World}{v:Value}{fs:List Fld}{n:Nat}(h:Zl w v fs)(hb:Below n w w')(hn:w.heap.size<=n):Zl w' v fs:=⟨h.1.below hb hn,h.2⟩
theorem Zl.form{w:World}{v:Value}{fs:List Fld}(h:Zl w v fs):∃A c,v=.slice A fs.length c:=by
 obtain⟨A,c,e,_⟩:=h.1
 exact⟨A,c,e⟩
theorem Zl.own{w:World}{base:Nat}{v:Value}{fs:List Fld}(h:w.ownsRow base 155 2 v fs.length (jG fs)):Zl w v fs :=
 ⟨Vt h,fun n c e=>by
  rcases h.2 with ⟨q,_⟩|⟨g,cap,cur,q,_⟩
  ·rw[q]at e;cases e;rfl
  rw[q]at e;cases e⟩
structure ZK(w:World)(v:Value)(ps:List Pr):Prop where
 row:w.ownsRow 0 238 4 v ps.length (jh ps)
 each:∀p∈ps,Zl w p.2 p.1.1.fields
theorem ZK.below{w w':World}{v:Value}{ps:List Pr}{n:Nat}(h:ZK w v ps)(hb:Below n w w')(hn:w.heap.size<=n):ZK w' v ps :=
 ⟨qT h.row hb hn,fun p hp=>(h.each p hp).below hb hn⟩
theorem ZK.here{w:World}{v:Value}{ps:List Pr}(h:ZK w v ps){i:Nat}{p:Pr}(hi:ps[i]?=some p):∃g cap A c,v=.slice (some ⟨g,0,none⟩) ps.length cap/\ps.length<=cap/\g<w.heap.size/\p.2=.slice A p.1.1.fields.length c /\
  w.cell? ⟨g,i*4,none⟩=some (.int .i64 p.1.1.kind)/\w.cell? ⟨g,i*4+1,none⟩=some (.string (B p.1.1.raw))/\w.cell? ⟨g,i*4+1+1,none⟩=some p.2/\w.cell? ⟨g,i*4+1+1+1,none⟩=some (.int .i64 p.1.2):=by
 have hlt:i<ps.length:=(List.getElem?_eq_some_iff.1 hi).1
 obtain⟨A,c,hA⟩:=(h.each p (jmx hi)).form
 have hr:=h.row
 rcases h.row.2 with ⟨_,hn⟩|⟨g,cap,cur,e,_,hg,hle,_⟩
 ·omega
 rw[e]at hr
 have at_:=Jm ps i p hi
 refine⟨g,cap,A,c,e,hle,(jnE hr g rfl).2,hA,?_,?_,?_,?_⟩
 ·rw[jmG hr (i*4) (by omega)];exact at_ 0 _ rfl
 ·rw[jmG hr (i*4+1) (by omega)];exact at_ 1 _ rfl
 ·rw[jmG hr (i*4+1+1) (by omega)];exact at_ 2 _ rfl
 rw[jmG hr (i*4+1+1+1) (by omega)];exact at_ 3 _ rfl
theorem ZK.empty{w:World}{v:Value}{ps:List Pr}(h:ZK w v ps):∃A cap,v=.slice A ps.length cap/\ps.length<=cap:=by
 rcases h.row.2 with ⟨e,hn⟩|⟨g,cap,cur,e,_,hg,hle,_⟩
 ·exact⟨none,0,by rw[e,hn],by omega⟩
 exact⟨_,cap,e,hle⟩
def jfA(p:Pr):Value:=.agg #[.int .i64 p.1.1.kind,.string (B p.1.1.raw),p.2,.int .i64 p.1.2]
abbrev Zn:Nat->List Pr->List (Nat×Pr):=Qh fun p=>p.1.1.kind
theorem jez(v:Value)(w:World)(A:Option Addr)(n c:Nat)(hv:v=.slice A n c):
  Calls prog 275 #[v] w fun e w'=>e=.returned (.func (.func 289) #[] #[.pointer (some ⟨w.heap.size+1,0,none⟩),.pointer (some ⟨w.heap.size,0,none⟩)]) /\
   w'=(w.alloc (.cells #[v] 232)).alloc (.cells #[.int .i64 0] 3):=by
 subst hv
 go_enter func275,ntmps275
 go_wp2
 go_ret
 exact⟨rfl,rfl⟩
def jlt(ps:List Pr)(n:Nat)(Bn:Nat)(w:World)(e:Ending)(w':World):Prop :=
 ∃n',Boxed w' Bn 3 (.int .i64 (n':Nat))/\jt (· = Bn) w w'/\n'<=ps.length /\
  ((e=.returned (.tuple #[.int .i64 0,.bool false])/\Zn n (ps.drop n)=[]) \/
   ∃k p,n<=k/\n'=k+1/\e=.returned (.tuple #[.int .i64 (k:Nat),.bool true])/\ps[k]?=some p/\Zn n (ps.drop n)=(k,p)::Zn n' (ps.drop n'))
theorem jdY(ps:List Pr)(v:Value)(n Bn Be:Nat)(w:World)(hn:n<=ps.length)(hps:ps.length<=1000000)(hbn:Boxed w Bn 3 (.int .i64 (n:Nat)))(hbe:Boxed w Be 232 v)(hne:Be≠Bn)(hE:ZK w v ps)(hg:∀g,v.ownBlock=some g->g≠Bn):
  Calls prog 289 #[.pointer (some ⟨Bn,0,none⟩),.pointer (some ⟨Be,0,none⟩)] w fun e w'=>jlt ps n Bn w e w':=by
 obtain⟨A,cap,rfl,hle⟩:=hE.empty
 have HE:=jl9 hE
 have HG:=jl9 hg
 have HBE:=jl9 hbe
 have HN:=jl9 hne
 have HBN:=jl9 hbn
 clear hE hg hbe hbn
 go_enter func289,ntmps289
 go_wp2_with fail
 go_loopw [4] (fun _ wr=>∃k:Nat,n<=k/\k<=ps.length/\Boxed wr Bn 3 (.int .i64 (k:Nat))/\jt (· = Bn) w wr/\Zn n (ps.drop n)=Zn k (ps.drop k)) (fun _ wr=>ps.length-jkA Bn wr)
 case atStart=>exact⟨n,jma _,hn,HBN.out,jt.refl _ _,rfl⟩
 case round =>
 obtain⟨k,hk1,hk2,hb,ho,hs⟩:=hrel
 have c0:=hb.cell
 have f0:=hb.frozen
 have c1:wr.cell? ⟨Be,0,none⟩=some (.slice A ps.length cap):=Boxed.cell (show Boxed wr Be _ _ from(ho.same Be HBE.out.lt HN.out).trans HBE.out)
 have HB:=jl9 hb
 have HO:=jl9 ho
 have HS:=jl9 hs
 have hk3:k<=1000000:=by omega
 clear hb ho hs
 by_cases hlt:k<ps.length
 ·obtain⟨p,hp⟩:∃p,ps[k]?=some p:=⟨_,jmd hlt⟩
  obtain⟨g,cap',pa,pc,e,_,hgl,_,d0,_⟩:=HE.out.here hp
  cases e
  have hgn:g≠Bn:=HG.out g rfl
  replace d0:wr.cell? ⟨g,k*4,none⟩=some (.int .i64 p.1.1.kind):=(jnf (w:=w) (a:=⟨g,k*4,none⟩) (HO.out.same g hgl hgn)).trans d0
  have hbe2:Be≠Bn:=HN.out
  have SD:=jl9 (KY (κ:=fun p:Pr=>p.1.1.kind) ps 0 k p hp)
  have HP:=jl9 hp
  clear hp
  by_cases hk:p.1.1.kind=3
  ·rw[hk]at d0
   go_wp2_with fail
   go_ret2
   refine⟨k+1,?_,HO.out.cellS 0 _,hlt,.inr ⟨k,p,hk1,rfl,rfl,HP.out,?_⟩⟩
   ·exact jnd _ HB.out
   rw[HS.out]
   have:=SD.out
   rw[if_pos hk,jmP,jmP]at this
   exact this
  have hk':((p.1.1.kind:Int)==3)=false:=beq_eq_false_iff_ne.2 hk
  go_wp2_with fail
  go_roundw
  case rel =>
   refine⟨k+1,by omega,hlt,jnd _ HB.out,HO.out.cellS 0 _,?_⟩
   rw[HS.out]
   have:=SD.out
   rw[if_neg hk,jmP,jmP]at this
   exact this
  case measure =>
  rw[ZE HB.out,ZE (B:=Bn) (n:=k+1) (w:=wr.setCell ⟨Bn,0,none⟩ (.int .i64 ((k:Int)+1))) (jnd (.int .i64 ((k:Int)+1)) HB.out)]
  omega
 obtain rfl:k=ps.length:=by omega
 go_wp2_with fail
 go_ret2
 refine⟨ps.length,HB.out,HO.out,jma _,.inl ⟨rfl,?_⟩⟩
 rw[HS.out,jm1 (jma _)];rfl
end
section
attribute [local go_sem] jmk
theorem jaE(v:Value)(w:World)(A:Option Addr)(n c:Nat)(hv:v=.slice A n c):
  Calls prog 252 #[v] w fun e w'=>e=.returned (.func (.func 274) #[] #[.pointer (some ⟨w.heap.size,0,none⟩)])/\w'=w.alloc (.cells #[v] 232):=by
 subst hv
 go_enter func252,ntmps252
 go_wp2
 go_ret
 exact⟨rfl,rfl⟩
theorem KW(ps:List Pr)(v:Value)(Be:Nat)(w:World)(hbox:Boxed w Be 232 v)(hps:ps.length<=1000000)(hE:ZK w v ps):
  jfs prog 274 #[.pointer (some ⟨Be,0,none⟩)] (fun x=>#[.int .i64 (x.1:Nat),jfA x.2]) 2 (Zn 0 ps) (fun W=>ZK W v ps/\Boxed W Be 232 v) w:=by
 intro l J Jx W hW hJ hK hY h0
 have hb:Boxed W Be 232 v:=(hW.block Be hbox.lt).trans hbox
 have hEW:=hE.below hW (jma _)
 have hgw:∀g,v.ownBlock=some g->g<W.heap.size:=fun g e=>(hEW.row.lt g e).2
 obtain⟨A,cap,hv,hle⟩:=hE.empty
 have c0:=hb.cell
 have hbw:=hb.lt
 have FR:=callsIn_wide (n:=7).2 (jez v W A ps.length cap hv)
 clear hE hEW hv
 refine callsIn_of_wp func274 rfl trivial ?_ rfl
 simp only[ntmps274,jmN,jme,jmB,Nat.reduceAdd,Nat.reduceSub,jmW,jmX,jm5,jm0,jmS,jmu]
 gi_wp2_with (refine⟨trivial,?_⟩;gi_at_call 275;refine FR.mono ?_;rintro e w' ⟨rfl,rfl⟩)
 gi_loopw [4,5] (fun _ _ wr=>∃(pre:List (Nat×Pr)) (n:Nat),n<=ps.length/\Zn 0 ps=pre++Zn n (ps.drop n)/\Boxed wr W.heap.size 232 v/\Boxed wr (W.heap.size+1) 3 (.int .i64 (n:Nat))/\J pre wr)
  (fun _ _ wr=>ps.length-jkA (W.heap.size+1) wr)
 case atStart =>
  refine⟨[],0,jmo _,rfl,?_,?_,hJ.alloc _ (hJ.alloc _ h0)⟩
  ·exact(jnr W _ _).alloc _
  have:=jnr (W.alloc (.cells #[v] 232)) 3 (.int .i64 0)
  rw[jmw]at this;exact this
 case round =>
 obtain⟨pre,n,hn,hx,b1,b2,hj⟩:=hrel
 obtain⟨hE1,hb1⟩:=hK _ _ hj
 have NX0:=jdY ps v n (W.heap.size+1) W.heap.size wr hn hps b2 b1 (by omega) hE1 (fun g e=>by have:=hgw g e;omega)
 have HX:=jl9 hx
 have HE1:=jl9 hE1
 have HB1:=jl9 hb1
 have B1:=jl9 b1
 have B2:=jl9 b2
 clear hE1 hb1 hx b1 b2
 have turn:∀(w':World),jt (· = W.heap.size+1) wr w'->jY W.heap.size 2 wr w':=fun w' ho=>⟨ho.os,ho.tape,ho.output,ho.size,fun r a b=>ho.same r a (by omega)⟩
 cases hq:Zn n (ps.drop n) with
 | nil =>
  have NX:=callsIn_wide (n:=7).2 (NX0.mono (R':=fun e w'=>e=.returned (.tuple #[.int .i64 0,.bool false])/\jt (· = W.heap.size+1) wr w') (by
   rintro e w' ⟨n',b2',ho,hn',(⟨rfl,hs⟩|⟨k,p,hk,hk2,rfl,hp,hs⟩)⟩
   ·exact⟨rfl,ho⟩
   rw[hs]at hq;cases hq))
  have HQ:=jl9 hq
  clear NX0 hq
  gi_wp2_with (refine⟨trivial,?_⟩;gi_at_call 289;refine NX.mono ?_;clear NX;rintro e w' ⟨rfl,ho⟩)
  refine⟨fun _ h=>(by cases h),?_⟩
  gi_wp2
  refine bodyPost_ret (results_none rfl _ _ _) rfl ⟨⟨_,rfl⟩,.inl ?_⟩
  have e0:Zn 0 ps=pre:=by rw[HX.out,HQ.out,jmT]
  rw[e0]
  exact hJ _ _ _ hj (turn _ ho)
 | cons x post =>
 obtain⟨k,p⟩:=x
 have NX:=callsIn_wide (n:=7).2 (NX0.mono (R':=fun e w'=>e=.returned (.tuple #[.int .i64 (k:Nat),.bool true])/\jt (· = W.heap.size+1) wr w'/\n<=k/\k<ps.length/\Boxed w' (W.heap.size+1) 3 (.int .i64 (k+1:Nat))/\ps[k]?=some p/\post=Zn (k+1) (ps.drop (k+1))) (by
  rintro e w' ⟨n',b2',ho,hn',(⟨rfl,hs⟩|⟨k',p',hk,hk2,rfl,hp,hs⟩)⟩
  ·rw[hs]at hq;cases hq
  rw[hs]at hq
  cases hq
  subst hk2
  exact⟨rfl,ho,hk,hn',b2',hp,rfl⟩))
 have HQ:=jl9 hq
 have hpk:ps[k]?=some p:=by
  have:=(JF n (ps.drop n) (k,p) (by rw[show Qh (fun p:Pr=>p.1.1.kind) n (ps.drop n)=_ from hq];exact jml)).2.1
  have h2:=(JF n (ps.drop n) (k,p) (by rw[show Qh (fun p:Pr=>p.1.1.kind) n (ps.drop n)=_ from hq];exact jml)).1
  rw[jm7,show n+((k,p).1-n)=k by simp only at h2 ⊢;omega]at this
  exact this
 have hkl0:=(List.getElem?_eq_some_iff.1 hpk).1
 obtain⟨g,cap',pa,pc,e1,_,hg,e2,d0,d1,d2,d3⟩:=HE1.out.here hpk
 have q0:wr.cell? ⟨Be,0,none⟩=some v:=HB1.out.cell
 have hgw':=hgw g (by rw[e1];rfl)
 rw[e2]at d2
 rw[e1]at q0
 have Ql:∀(w':World),jt (· = W.heap.size+1) wr w'->w'.cell? ⟨Be,0,none⟩=some (.slice (some ⟨g,0,none⟩) ps.length cap')/\w'.cell? ⟨g,k*4,none⟩=some (.int .i64 p.1.1.kind)/\w'.cell? ⟨g,k*4+1,none⟩=some (.string (B p.1.1.raw))/\w'.cell? ⟨g,k*4+1+1,none⟩=some (.slice pa p.1.1.fields.length pc)/\w'.cell? ⟨g,k*4+1+1+1,none⟩=some (.int .i64 p.1.2):=fun w' ho =>
  ⟨(jnf (w:=wr) (a:=⟨Be,0,none⟩) (ho.same Be HB1.out.lt (by omega))).trans q0,(jnf (w:=wr) (a:=⟨g,k*4,none⟩) (ho.same g hg (by omega))).trans d0,(jnf (w:=wr) (a:=⟨g,k*4+1,none⟩) (ho.same g hg (by omega))).trans d1,(jnf (w:=wr) (a:=⟨g,k*4+1+1,none⟩) (ho.same g hg (by omega))).trans d2,(jnf (w:=wr) (a:=⟨g,k*4+1+1+1,none⟩) (ho.same g hg (by omega))).trans d3⟩
 have MV:=jl9 Ql
 have T:=jl9 turn
 have E2:=jl9 e2
 clear NX0 hq Ql d0 d1 d2 d3 e1 e2 q0 hpk turn
 gi_wp2_with (refine⟨trivial,?_⟩;gi_at_call 289;refine NX.mono ?_;clear NX;rintro e w' ⟨rfl,ho,hk,hkl,b2',hp,hpost⟩;obtain⟨m0,m1,m2,m3,m4⟩:=MV.out _ ho;clear hp;have HPO:=jl9 hpost;clear hpost)
 have jw:J pre w':=hJ _ _ _ hj (T.out _ ho)
 have hz:=ho.size
 have hz1:=B1.out.lt
 have hz2:=B2.out.lt
 have hxp:Zn 0 ps=pre++(k,p)::post:=by rw[HX.out,HQ.out]
 obtain⟨fn,tmps,assign,body,hy,hR⟩:=hY pre (k,p) post w' hxp (by omega) jw
 dsimp only[jfA]at hy
 rw[E2.out]at hy
 rw[hy,Oper.uponIn_round]
 refine⟨fun h=>(by cases h),hR.mono ?_⟩
 clear hR hy
 rintro e W3 (⟨rfl,hJ3,hk3⟩|⟨rfl,hJx3⟩)
 ·gi_wp2
  go_roundw
  case rel =>
   refine⟨pre++[(k,p)],k+1,hkl,?_,?_,?_,hJ3⟩
   ·rw[hxp,HPO.out,jmA,jnZ]
   ·exact(hk3.same _ (by omega) (by omega)).trans ((ho.same _ hz1 (by omega)).trans B1.out)
   exact(hk3.same _ (by omega) (by omega)).trans b2'
  case measure =>
  rw[ZE B2.out,ZE (B:=W.heap.size+1) (w:=W3) (n:=k+1) ((hk3.same _ (by omega) (by omega)).trans b2')]
  omega
 gi_wp2
 refine bodyPost_ret (results_none rfl _ _ _) rfl ⟨⟨_,rfl⟩,.inr ⟨_,⟨post,?_⟩,hJx3⟩⟩
 rw[hxp,jmA,jnZ]
end
end Go.Proofs.YtpibhbjmcmfnmaaGreatDoor
