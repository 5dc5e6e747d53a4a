/- Texts put together:FO,TB,TC,FP,FQ,FR,TD,TE,TL,UA,UK,UB,UC. -/
import Derived.Test.YtpibhbjmcmfnmaaGreatDoorBag12
set_option linter.unusedVariables false
set_option maxRecDepth 100000
set_option maxHeartbeats 16000000
namespace Go.Proofs.YtpibhbjmcmfnmaaGreatDoor
open Go.RowKit Go.Shelf Tryz
abbrev job:=@List.mem_of_mem_drop
abbrev joc:=@List.getElem?_drop
abbrev joB:=@List.filter_cons
abbrev jpd:=@List.getElem?_modify
abbrev jpF:=@List.find?_cons
section
attribute [local go_sem] jT
theorem jcg(fs:List (List UInt8×List UInt8))(v:Value)(w:World)(hs:Xj w v fs)(hn:fs.length<=1000)(hl:∀f∈fs,f.1.length<=100000/\f.2.length<=100000):
  Calls prog 120 #[v] w fun e w'=>e=.returned (.tuple #[.string (B (foldT fs)),qm (foldN fs)])/\Below w.heap.size w w':=by
 obtain⟨A,cap,rfl,hle,hc⟩:=hs
 have PC:=jnc hc
 clear hc
 have B0:=Bld.new w (w.heap.size+1)
 go_enter func120,ntmps120
 go_wp2_with fail
 go_loopw [13] (fun i wr=>∃k:Nat,k<=fs.length/\i=.int .i64 k/\foldN fs=foldN (fs.drop k)/\Bld w.heap.size (w.heap.size+1) (zb (fs.take k)) wr/\(zb (fs.take k)).length<=4000*k/\Below w.heap.size w wr) (fun i _=>fs.length-(intOf i).toNat)
 case atStart=>exact⟨0,jnt _,rfl,rfl,B0,jnd _,(jne _ _).alloc (jnd _) _⟩
 case round =>
 obtain⟨k,hk,rfl,hN,hbl,hle4,hb⟩:=hrel
 by_cases hlt:k<fs.length
 ·obtain⟨f,hf⟩:∃f,fs[k]?=some f:=⟨_,jnh hlt⟩
  obtain⟨b,off,rfl,hbb,c0,c1⟩:=PC.out k f hf
  replace c0:=(hb.cell (p:=⟨b,off+k*2,none⟩) hbb).trans c0
  replace c1:=(hb.cell (p:=⟨b,off+k*2+1,none⟩) hbb).trans c1
  obtain⟨hl1,hl2⟩:=hl f (jnC hf)
  have hdrop:fs.drop k=f::fs.drop (k+1):=by
   rw[jot hlt]
   rw[jnh hlt]at hf
   rw[jng hf]
  have htake:fs.take (k+1)=fs.take k++[f]:=by rw[jnW,hf];rfl
  rw[hdrop]at hN
  have NH:=jnc hN
  have TH:=jnc htake
  have hs1:=hb.size
  have hbs:=hbl.lt
  have HB:=jnc (hbl.alloc (.cells #[.string (B f.1),.string (B f.2)] 155))
  have hba:=hb.alloc hs1 (.cells #[.string (B f.1),.string (B f.2)] 155)
  by_cases hck:zw f.1 f.2=0
  ·have LG:=fun w=>jfl f.1 f.2 hl1 hl2 w hck
   clear hdrop htake hN hf
   unfold vz at LG
   go_wp2_with fail
   refine(LG _).mono ?_
   rintro e w2 ⟨sv,base,rfl,hown,b2⟩
   have hb2:=hba.trans (b2.mono (by simp;omega))
   have hbl2:=HB.out.kept b2 (jnd _)
   have htl:=jex hck
   have hm1:1<=(zA f.1 f.2).length:=by rw[jdm];omega
   have hm2:(zA f.1 f.2).length<=4000:=by rw[Ya]at htl;omega
   have G1:Hid (zb (fs.take (k+1))=zb (fs.take k)++jn (zA f.1 f.2)):=by
    show _=_
    rw[TH.out,jdE]
   have G2:Hid (foldN fs=foldN (fs.drop (k+1))):=by
    show _=_
    rw[NH.out];show(if zw f.1 f.2=0 then foldN (fs.drop (k+1)) else _)=_;rw[if_pos hck]
   clear HB b2 hba LG hbl hb c0 c1 TH NH hck
   obtain⟨g,cap',rfl⟩:=joD hown (by simp;omega)
   rw[jnI]at hown ⊢
   generalize zA f.1 f.2=ls at *
   generalize zb (fs.take k)=pre at *
   go_wp2_with fail
   go_loopw [27] (fun i wq=>∃j:Nat,j<=ls.length/\i=.int .i64 j/\Bld w.heap.size (w.heap.size+1) (pre++jn (ls.take j)) wq/\wq.ownsRow base 9 1 (.slice (some ⟨g,0,none⟩) ls.length cap') ls.length ((ls.map B).map Value.string)/\Below w.heap.size w wq) (fun i _=>ls.length-(intOf i).toNat)
   case atStart=>exact⟨0,jnt _,rfl,by simpa [jn]using hbl2,by simpa [Vd]using hown,hb2⟩
   case round =>
   obtain⟨j,hj,rfl,hblj,hownj,hbj⟩:=hrel
   have hsj:=hbj.size
   by_cases hjl:j<ls.length
   ·obtain⟨x,hx⟩:∃x,ls[j]?=some x:=⟨_,jnh hjl⟩
    have hcx:=hownj.cellAt j (by omega)
    rw[jnF,jnF,hx]at hcx
    simp only[joP]at hcx
    have T1:Hid (jn (ls.take (j+1))=(jn (ls.take j)++x)++[10]):=by
     show _=_
     rw[jnW,hx];exact jcT _ _
    have t1:=jcS ls (j+1)
    rw[T1.out,jnf,jnf]at t1
    simp only[List.length_singleton]at t1
    have hlj:=hblj.lt
    clear hx
    go_wp2_with fail
    refine(Qv w.heap.size (w.heap.size+1) _ (B x) wr hblj (by omega) (by omega) (by rw[jm,jnf];omega)).mono ?_
    rintro e w5 ⟨rfl,hbl5,hw5⟩
    obtain⟨cs,hcs⟩:=hblj.cells
    have hownS:Vd wr base (.slice (some ⟨g,0,none⟩) ls.length cap') (ls.map B):=by unfold Vd;rw[jnI];exact hownj
    have hown5:=hownS.wrote hw5 hcs
    have hb5:=hbj.trans (hw5.below (jnd _) (by omega) hsj)
    rw[ju]at hbl5
    have hs5:=hb5.size
    have hl5:=hbl5.lt
    clear hw5 hownS hownj hblj hcs hbj hcx
    go_wp2_with fail
    refine(Qv w.heap.size (w.heap.size+1) _ ⟨#[10]⟩ w5 hbl5 (by omega) (by omega) (by simp only[jnf];show _+1<=_;omega)).mono ?_
    rintro e w6 ⟨rfl,hbl6,hw6⟩
    obtain⟨cs,hcs⟩:=hbl5.cells
    have hown6:=hown5.wrote hw6 hcs
    have hb6:=hb5.trans (hw6.below (jnd _) (by omega) hs5)
    clear hw6 hown5 hbl5 hcs hb5
    go_wp2_with fail
    go_roundw
    case rel =>
     refine⟨j+1,hjl,by go_num,?_,?_,hb6⟩
     ·rw[T1.out,<- jnx,<- jnx];exact hbl6
     unfold Vd at hown6;rw[jnI]at hown6;exact hown6
    case measure=>simp[intOf];omega
   obtain rfl:j=ls.length:=by omega
   rw[jnP]at hblj
   go_wp2_with fail
   go_roundw
   case rel =>
    refine⟨k+1,hlt,by go_num,G2.out,by rw[G1.out];exact hblj,?_,hbj⟩
    rw[G1.out,jnf];omega
   case measure=>simp[intOf];omega
  have LB:=fun w=>jfm f.1 f.2 hl1 hl2 w hck
  have hfn:foldN fs=zw f.1 f.2:=by rw[NH.out];unfold foldN;rw[if_neg hck]
  have hft:foldT fs=[]:=by unfold foldT;rw[hfn,if_neg hck]
  rw[ze _ (joC hck)]at LB
  have hev:qm (foldN fs)=.iface 46 (.int .i64 (zw f.1 f.2:Int)):=by rw[hfn,ze _ (joC hck)]
  have FTH:=jnc hft
  have FNH:=jnc hev
  clear hdrop htake hN hf hfn hft NH hck hev
  generalize zw f.1 f.2=cn at *
  unfold vz at LB
  go_wp2_with fail
  refine(LB _).mono ?_
  rintro e w2 ⟨rfl,b2⟩
  have hb2:=hba.trans (b2.mono (by simp;omega))
  clear b2 LB
  go_wp2_with fail
  go_ret2
  exact⟨by rw[FNH.out,FTH.out];rfl,hb2⟩
 obtain rfl:k=fs.length:=by omega
 rw[jnP]at hbl
 rw[joI]at hN
 have h0:foldN fs=0:=hN
 have hft:foldT fs=zb fs:=by unfold foldT;rw[if_pos h0]
 have FTH:=jnc hft
 have FNH:=jnc h0
 have hbs:=hbl.lt
 clear hN h0 hft PC hle4
 go_wp2_with fail
 refine(Tryz.Builder_String_any_k w.heap.size w.heap.size _ wr (hbl.library (jnd _) (by omega)) (by omega)).mono ?_
 rintro e w5 ⟨rfl,_,b5,_⟩
 go_wp2_with fail
 go_ret2
 exact⟨by rw[FTH.out,FNH.out];rfl,hb.trans b5⟩
end
section
def Xc:List Fld->Nat
 | []=>0
 | f::r=>if zw f.1 f.2=0 then Xc r+1 else 0
def vG(fs:List Fld):Nat:=if fs.length=0 then 2 else if 40<fs.length then 11 else foldN fs
def jk2(fs:List Fld):Prop:=fs.length=0\/40<fs.length\/foldN fs=0
instance (fs:List Fld):Decidable (jk2 fs):=by unfold jk2;infer_instance
def YW(fs:List Fld):Int:=if jk2 fs then -9 else (Xc fs:Nat)
def Jb(lo:Nat)(w:World)(u:Value)(fs:List Fld):Prop:=if jk2 fs then u=qm (vG fs) else jr lo w u (Xc fs) (foldN fs)
theorem WW(fs:List Fld):vG fs<=11:=by
 unfold vG
 have:=jch fs
 split
 ·decide
 split
 ·decide
 omega
theorem xW{fs:List Fld}(h:vG fs=0):fs.length≠0/\fs.length<=40/\foldN fs=0:=by
 unfold vG at h
 split at h
 ·cases h
 split at h
 ·cases h
 exact⟨by assumption,by omega,h⟩
theorem Jb.zero{lo:Nat}{w:World}{u:Value}{fs:List Fld}(h:Jb lo w u fs)(h0:vG fs=0):u=.nilIface:=by
 obtain⟨_,_,c⟩:=xW h0
 unfold Jb at h
 rw[if_pos (.inr (.inr c)),h0]at h
 exact h
theorem Jb.pos{lo:Nat}{w:World}{u:Value}{fs:List Fld}(h:Jb lo w u fs)(h0:vG fs≠0):u=.iface 46 (.int .i64 (vG fs:Nat))\/∃q,u=.iface 133 (.pointer q):=by
 unfold Jb at h
 split at h
 ·rw[ze _ (by omega)]at h;exact .inl h
 obtain⟨q,_,e,_⟩:=h;exact .inr ⟨_,e⟩
theorem Jb.below{lo:Nat}{w w':World}{u:Value}{fs:List Fld}{N:Nat}(h:Jb lo w u fs)(hb:Below N w w')(hN:w.heap.size<=N):Jb lo w' u fs:=by
 unfold Jb at h ⊢
 split
 ·rename_i hx;rw[if_pos hx]at h;exact h
 rename_i hx;rw[if_neg hx]at h;exact h.below hb hN
theorem Jb.mono{lo lo':Nat}{w:World}{u:Value}{fs:List Fld}(h:Jb lo w u fs)(hl:lo'<=lo):Jb lo' w u fs:=by
 unfold Jb at h ⊢
 split
 ·rename_i hx;rw[if_pos hx]at h;exact h
 rename_i hx;rw[if_neg hx]at h;exact h.mono hl
theorem Jb.set{lo:Nat}{w:World}{u:Value}{fs:List Fld}(h:Jb lo w u fs)(p:Addr)(hp:p.block<lo)(x:Value):Jb lo (w.setCell p x) u fs:=by
 unfold Jb at h ⊢
 split
 ·rename_i hx;rw[if_pos hx]at h;exact h
 rename_i hx
 rw[if_neg hx]at h
 obtain⟨q,hq,e,hc⟩:=h
 exact⟨q,hq,e,ja.other hc (by omega) _⟩
attribute [local go_sem] jT
theorem jgn(fs:List Fld)(v:Value)(w:World)(hs:Xj w v fs)(hn:fs.length<=1000000)(hl:∀f∈fs,f.1.length<=1000000/\f.2.length<=1000000):
  Calls prog 203 #[v] w fun e w'=>∃u,e=.returned u/\Below w.heap.size w w'/\Jb w.heap.size w' u fs:=by
 obtain⟨A,cap,rfl,hle,hc⟩:=hs
 have PC:=jnc hc
 have HL:=jnc hl
 clear hc hl
 by_cases h0:fs.length=0
 ·have FIN:Hid (∀W,Jb w.heap.size W (.iface 46 (.int .i64 2)) fs):=by
   intro W
   unfold Jb;rw[if_pos (.inl h0)];unfold vG;rw[if_pos h0];rfl
  rw[h0]
  go_enter func203,ntmps203
  go_wp2_with fail
  go_ret
  exact⟨_,rfl,jne _ _,FIN.out _⟩
 by_cases h40:40<fs.length
 ·have FIN:Hid (∀W,Jb w.heap.size W (.iface 46 (.int .i64 11)) fs):=by
   intro W
   unfold Jb;rw[if_pos (.inr (.inl h40))];unfold vG;rw[if_neg h0,if_pos h40];rfl
  have c0:((fs.length:Int)==0)=false:=by simp;intro h;exact h0 (by rw[h];rfl)
  go_enter func203,ntmps203
  go_wp2_with fail
  go_ret
  exact⟨_,rfl,jne _ _,FIN.out _⟩
 have FINZ:Hid (∀W,foldN fs=0->Jb w.heap.size W .nilIface fs):=by
  intro W hz
  unfold Jb;rw[if_pos (.inr (.inr hz))];unfold vG;rw[if_neg h0,if_neg h40,hz];rfl
 have FINB:Hid (∀(W:World) (k n:Nat),w.heap.size<=W.heap.size->foldN fs=n->n≠0->Xc fs=k->Jb w.heap.size (W.alloc (.cells #[.int .i64 (k:Nat),.iface 46 (.int .i64 (n:Nat))] 135)) (.iface 133 (.pointer (some ⟨W.heap.size,0,none⟩))) fs):=by
  intro W k n hW hf hnz hk
  unfold Jb
  rw[if_neg (by unfold jk2;rintro(h | h | h)<;>omega),hf,hk,<- ze n (by omega)]
  exact jr.new W k n _ _ rfl hW
 have c0:((fs.length:Int)==0)=false:=by simp;intro h;exact h0 (by rw[h];rfl)
 go_enter func203,ntmps203
 go_wp2_with fail
 go_loopw [18] (fun i wr=>∃k:Nat,k<=fs.length/\i=.int .i64 k/\foldN fs=foldN (fs.drop k)/\Xc fs=Xc (fs.drop k)+k/\Below w.heap.size w wr) (fun i _=>fs.length-(intOf i).toNat)
 case atStart=>exact⟨0,jnt _,rfl,rfl,rfl,jne _ _⟩
 case round =>
 obtain⟨k,hk,rfl,hN,hA,hb⟩:=hrel
 by_cases hlt:k<fs.length
 ·obtain⟨f,hf⟩:∃f,fs[k]?=some f:=⟨_,jnh hlt⟩
  obtain⟨b,off,rfl,hbb,c0',c1⟩:=PC.out k f hf
  replace c0':=(hb.cell (p:=⟨b,off+k*2,none⟩) hbb).trans c0'
  replace c1:=(hb.cell (p:=⟨b,off+k*2+1,none⟩) hbb).trans c1
  obtain⟨hl1,hl2⟩:=HL.out f (jnC hf)
  have hdrop:fs.drop k=f::fs.drop (k+1):=by
   rw[jot hlt]
   rw[jnh hlt]at hf
   rw[jng hf]
  have hs1:=hb.size
  have hba:=hb.alloc hs1 (.cells #[.string (B f.1),.string (B f.2)] 155)
  have hza:(wr.alloc (.cells #[.string (B f.1),.string (B f.2)] 155)).heap.size=wr.heap.size+1:=by simp
  have CK:=fun W=>ZD f.1 f.2 hl1 hl2 W
  unfold vz at CK
  rw[hdrop]at hN hA
  by_cases hck:zw f.1 f.2=0
  ·have G1:Hid (foldN fs=foldN (fs.drop (k+1))):=by
    show _=_
    rw[hN];show(if zw f.1 f.2=0 then foldN (fs.drop (k+1)) else _)=_;rw[if_pos hck]
   have G2:Hid (Xc fs=Xc (fs.drop (k+1))+(k+1)):=by
    show _=_
    rw[hA];show(if zw f.1 f.2=0 then Xc (fs.drop (k+1))+1 else _)+k=_;rw[if_pos hck];omega
   rw[hck]at CK
   clear hdrop hN hA hf hck FINB FINZ PC HL
   go_wp2_with fail
   refine(CK _).mono ?_
   rintro e w2 ⟨rfl,b2⟩
   have hb2:=hba.trans (b2.mono (by omega))
   clear b2 CK
   go_wp2_with fail
   go_roundw
   case rel=>exact⟨k+1,hlt,by go_num,G1.out,G2.out,hb2⟩
   case measure=>simp[intOf];omega
  have hfn:foldN fs=zw f.1 f.2:=by rw[hN];unfold foldN;rw[if_neg hck]
  have hbn:Xc fs=k:=by rw[hA];unfold Xc;rw[if_neg hck];omega
  have FIN:=jnc (fun W hW=>FINB.out W k (zw f.1 f.2) hW hfn hck hbn)
  rw[ze _ (joC hck)]at CK
  clear hdrop hN hA hf hck FINB FINZ PC HL hfn hbn
  generalize zw f.1 f.2=cn at *
  go_wp2_with fail
  refine(CK _).mono ?_
  rintro e w2 ⟨rfl,b2⟩
  have hb2:=hba.trans (b2.mono (by omega))
  have hz2:=hb2.size
  clear b2 CK
  go_wp2_with fail
  go_ret
  exact⟨_,rfl,hb2.alloc hz2 _,FIN.out w2 hz2⟩
 obtain rfl:k=fs.length:=by omega
 rw[joI]at hN
 have F0:=jnc (fun W=>FINZ.out W hN)
 clear hN hA FINB FINZ PC HL
 go_wp2_with fail
 go_ret
 exact⟨_,rfl,hb,F0.out _⟩
def jcX(fs:List Fld):List UInt8:=if vG fs=0 then zb fs else []
theorem jcY(fs:List Fld)(v:Value)(w:World)(hs:Xj w v fs)(hn:fs.length<=1000000)(hl:∀f∈fs,f.1.length<=100000/\f.2.length<=100000):
  Calls prog 254 #[v] w fun e w'=>∃u,e=.returned (.tuple #[.string (B (jcX fs)),u])/\Below w.heap.size w w'/\Jb w.heap.size w' u fs:=by
 have CK:=jnc (jgn fs v w hs hn (fun f hf=>by have:=hl f hf;omega))
 by_cases h0:vG fs=0
 ·obtain⟨a1,a2,a3⟩:=xW h0
  have FO:=jnc (fun w' (h:Xj w' v fs)=>jcg fs v w' h (by omega) hl)
  rw[a3]at FO
  have T1:Hid (jcX fs=foldT fs):=by
   show _=_
   unfold jcX foldT;rw[if_pos h0,if_pos a3]
  have HS:=jnc hs
  obtain⟨A,cap,rfl,hle,_⟩:=id hs
  have H0:=jnc h0
  clear hs hl h0 a3
  go_enter func254,ntmps254
  go_wp2_with fail
  refine CK.out.mono ?_
  rintro e w1 ⟨u,rfl,b1,hu⟩
  obtain rfl:=hu.zero H0.out
  have HU:=jnc hu
  have hz1:=b1.size
  have F2:=jnc (FO.out w1 (HS.out.below b1 (jnd _)))
  clear hu CK FO
  go_wp2_with fail
  refine F2.out.mono ?_
  rintro e w2 ⟨rfl,b2⟩
  have hb2:=b1.trans (b2.mono hz1)
  have HU2:=jnc (HU.out.below b2 (jnd _))
  clear F2
  go_wp2_with fail
  go_ret2
  exact⟨_,by rw[T1.out];rfl,hb2,HU2.out⟩
 have T1:Hid (jcX fs=[]):=by
  show _=_
  unfold jcX;rw[if_neg h0]
 obtain⟨A,cap,rfl,hle,_⟩:=id hs
 have H0:=jnc h0
 clear hs hl h0
 go_enter func254,ntmps254
 go_wp2_with fail
 refine CK.out.mono ?_
 rintro e w1 ⟨u,rfl,b1,hu⟩
 have hp:=hu.pos H0.out
 have HU:=jnc hu
 clear hu CK
 rcases hp with rfl|⟨q,rfl⟩
 all_goals
  go_wp2_with fail
  go_ret2
  exact⟨_,by rw[T1.out];rfl,b1,HU.out⟩
end
section
theorem ji7{fn:Func}{p u:Tmp}(h:fn.results=#[.cell p 236,.tmp u])(tmps:Array Value)(w:World)(b:Nat)(cur:Array Value)(hp:tmps.getD p undef=.pointer (some ⟨b,0,none⟩))
  (hc:ja w b 236 cur) (hz:cur.size=3):(results fn tmps).run prog w=.ok (.tuple #[.agg cur,tmps.getD u undef]) w:=by
 have L:=run_loadVar_row (P:=prog) w b 236 236 cur (0,0) _ hc underlying236 rfl (by rw[hz];kernel_rfl)
 rw[results_cell_tmp h,hp]
 show((loadVar _ _).run _ _).andThen _=_
 rw[L];rfl
theorem jmp(c0 c1 c2 v0 v1 v2:Value):(((#[c0,c1,c2].setIfInBounds 0 v0).setIfInBounds 1 v1).setIfInBounds 2 v2)=#[v0,v1,v2]:=by
 simp[List.setIfInBounds_toArray,List.set]
def Wo(fs:List Fld):Int:=if vG fs=0 then 3 else 0
structure jmM(w:World)(fs:List Fld)(e:Ending)(w':World)(u x:Value):Prop where
 ret:e=.returned (.tuple #[.agg #[.int .i64 (Wo fs),.string (B (jcX fs)),x],u])
 below:Below w.heap.size w w'
 chk:Jb w.heap.size w' u fs
 own:vG fs=0->w'.ownsRow w.heap.size 155 2 x fs.length (jM fs)
 none_:vG fs≠0->x=.slice none 0 0
attribute [local go_sem] jT
theorem jb5(fs:List Fld)(v:Value)(w:World)(hs:Xj w v fs)(hnil:∀n c,v=.slice none n c->c=0)(hn:fs.length<=1000000)(hl:∀f∈fs,f.1.length<=100000/\f.2.length<=100000):
  Calls prog 206 #[v] w fun e w'=>∃u x,jmM w fs e w' u x:=by
 have ST:=jnc (fun w' (h:Xj w' v fs)=>jcY fs v w' h hn hl)
 have CL:=jnc (fun w' (h:Xj w' v fs)=>xV fs v w' h hnil hn)
 have HS:=jnc hs
 obtain⟨A,cap,rfl,hle,_⟩:=id hs
 have hba:Below w.heap.size w (w.alloc (.cells #[.int .i64 0,.string ⟨#[]⟩,.slice none 0 0] 236)):=(jne _ _).alloc (jnd _) _
 have hza:(w.alloc (.cells #[.int .i64 0,.string ⟨#[]⟩,.slice none 0 0] 236)).heap.size=w.heap.size+1:=by simp
 have ST1:=jnc (ST.out _ (HS.out.below hba (jnd _)))
 have BX:=jnc (ja.new w 236 #[.int .i64 0,.string ⟨#[]⟩,.slice none 0 0])
 clear hs hl hnil ST
 go_enter func206,ntmps206
 go_wp2_with fail
 refine ST1.out.mono ?_
 rintro e w1 ⟨u,rfl,b1,hu⟩
 have R1:=je BX.out b1 (by omega)
 have hb1:Below w.heap.size w w1:=hba.trans (b1.mono (by omega))
 have hz1:=b1.size
 by_cases h0:vG fs=0
 ·obtain rfl:=hu.zero h0
  have HU:=jnc hu
  have CL1:=jnc (CL.out w1 (HS.out.below hb1 (jnd _)))
  have KI:Hid (Wo fs=3):=by show _=_;unfold Wo;rw[if_pos h0]
  have H0:=jnc h0
  have hzw:=hb1.size
  clear hu h0 CL ST1 b1 BX HS
  generalize hT:jcX fs=T at *
  replace hT:=jnc hT
  go_wp2_with fail
  refine CL1.out.mono ?_
  rintro e w2 ⟨x,rfl,hx,b2⟩
  obtain⟨xa,xc,hxe,_⟩:=jg hx
  subst hxe
  have R2:=je R1 b2 (by omega)
  have hb2:=hb1.trans (b2.mono hzw)
  have c0:=R2.cell 0
  have c1:=R2.cell 1
  have c2:=R2.cell 2
  have f0:=R2.frozen 0
  have f1:=R2.frozen 1
  have f2:=R2.frozen 2
  simp only[jnl,jnp,jnj]at c0 c1 c2
  have RE:=((R2.set 0 (.int .i64 3)).set 1 (.string (B T))).set 2 (.slice xa fs.length xc)
  rw[jmp]at RE
  have HB:Below w.heap.size w (((w2.setCell ⟨w.heap.size,0,none⟩ (.int .i64 3)).setCell ⟨w.heap.size,1,none⟩ (.string (B T))).setCell ⟨w.heap.size,2,none⟩ (.slice xa fs.length xc)) :=
   ((hb2.setCell (p:=⟨w.heap.size,0,none⟩) (jnd _) _).setCell (p:=⟨w.heap.size,1,none⟩) (jnd _) _).setCell (p:=⟨w.heap.size,2,none⟩) (jnd _) _
  have HX:=jnc hx
  have HBH:=jnc HB
  have U2:=jnc (HU.out.below b2 (jnd _))
  clear HU hb2 b2 hb1 CL1 hx HB
  go_wp2_with fail
  refine bodyPost_ret (ji7 rfl _ _ w.heap.size _ rfl RE rfl) rfl ?_
  refine⟨_,.slice xa fs.length xc,by rw[KI.out,hT.out],HBH.out,?_,fun _ => ?_,fun h=>absurd H0.out h⟩
  ·have h:=U2.out
   unfold Jb at h ⊢
   have hb:jk2 fs:=.inr (.inr (xW H0.out).2.2)
   rw[if_pos hb]at h ⊢
   exact h
  have hne:∀k,Value.ownBlock (.slice xa fs.length xc)=some k->k≠w.heap.size:=fun k e=>by have:=(HX.out.lt k e).1;omega
  exact jK (p:=⟨w.heap.size,2,none⟩) (jK (p:=⟨w.heap.size,1,none⟩) (jK (p:=⟨w.heap.size,0,none⟩) (zk HX.out (by omega)) (fun e=>hne _ e rfl) _) (fun e=>hne _ e rfl) _) (fun e=>hne _ e rfl) _
 have hp:=hu.pos h0
 have HU:=jnc hu
 have KI:Hid (Wo fs=0):=by show _=_;unfold Wo;rw[if_neg h0]
 have TI:Hid (jcX fs=[]):=by show _=_;unfold jcX;rw[if_neg h0]
 have H0:=jnc h0
 have c0:=R1.cell 0
 have c1:=R1.cell 1
 have c2:=R1.cell 2
 have f0:=R1.frozen 0
 have f1:=R1.frozen 1
 have f2:=R1.frozen 2
 simp only[jnl,jnp,jnj]at c0 c1 c2
 have RE:=((R1.set 0 (.int .i64 0)).set 1 (.string ⟨#[]⟩)).set 2 (.slice none 0 0)
 rw[jmp]at RE
 have HB:Below w.heap.size w (((w1.setCell ⟨w.heap.size,0,none⟩ (.int .i64 0)).setCell ⟨w.heap.size,1,none⟩ (.string ⟨#[]⟩)).setCell ⟨w.heap.size,2,none⟩ (.slice none 0 0)) :=
  ((hb1.setCell (p:=⟨w.heap.size,0,none⟩) (jnd _) _).setCell (p:=⟨w.heap.size,1,none⟩) (jnd _) _).setCell (p:=⟨w.heap.size,2,none⟩) (jnd _) _
 have HBH:=jnc HB
 clear hu h0 CL ST1 b1 BX HS hb1 HB
 have FIN:Hid (Jb w.heap.size (((w1.setCell ⟨w.heap.size,0,none⟩ (.int .i64 0)).setCell ⟨w.heap.size,1,none⟩ (.string ⟨#[]⟩)).setCell ⟨w.heap.size,2,none⟩ (.slice none 0 0)) u fs) :=
  (((HU.out.set ⟨w.heap.size,0,none⟩ (by show w.heap.size<_;omega) _).set ⟨w.heap.size,1,none⟩ (by show w.heap.size<_;omega) _).set ⟨w.heap.size,2,none⟩ (by show w.heap.size<_;omega) _).mono (by omega)
 rcases hp with rfl|⟨q,rfl⟩
 all_goals
  go_wp2_with fail
  refine bodyPost_ret (ji7 rfl _ _ w.heap.size _ rfl RE rfl) rfl ?_
  exact⟨_,.slice none 0 0,by rw[KI.out,TI.out];rfl,HBH.out,FIN.out,fun h=>absurd h H0.out,fun _=>rfl⟩
end
section
attribute [local go_sem] jT
end
section
def jlM(rs:List (List Fld)):List UInt8:=yg (rs.map zb)
def jmH(rs:List (List Fld)):Option (List Fld):=rs.find? fun r=>vG r != 0
theorem jgz{rs:List (List Fld)}(h:∀r∈rs,vG r=0):jmH rs=none:=by
 unfold jmH
 rw[List.find?_eq_none]
 intro r hr
 simp[h r hr]
def jeh(w:World)(rs:List (List Fld))(e:Ending)(w':World):Prop :=
 Below w.heap.size w w'/\match jmH rs with
  | some r=>∃u,e=.returned (.tuple #[.string (B []),u])/\Jb w.heap.size w' u r/\vG r≠0
  | none=>e=.returned (.tuple #[.string (B (jlM rs)),.nilIface])/\∀r∈rs,vG r=0
theorem jeh.yes{w w':World}{rs:List (List Fld)}(h:∀r∈rs,vG r=0)(hb:Below w.heap.size w w'):jeh w rs (.returned (.tuple #[.string (B (jlM rs)),.nilIface])) w' :=
 ⟨hb,by rw[jgz h];exact⟨rfl,h⟩⟩
attribute [local go_sem] jT
end
section
def zS(fs:List Fld):It:=⟨3,zb fs,fs⟩
theorem jba(fs:List Fld):zb fs=jn (jC fs):=by
 unfold zb jC jn
 rw[List.flatMap_assoc]
abbrev En:=It×Int
structure LS where
 es:List En
 next:Int
def QY{α:Type}(κ:α->Int):Nat->List α->List (Nat×α)
 | _,[]=>[]
 | k,e::r=>if κ e=3 then (k,e)::QY κ (k+1) r else QY κ (k+1) r
section
variable {α:Type} {κ:α->Int}
theorem KS:∀(k:Nat) (es:List α),(QY κ k es).length<=es.length
 | k,[]=>jnd _
 | k,e::r=>by
  have ih:=KS (k+1) r
  show(if κ e=3 then (k,e)::QY κ (k+1) r else QY κ (k+1) r).length<=_
  split
  ·simp only[jni];omega
  simp only[jni];omega
theorem Ze:∀(k:Nat) (es:List α) (x:Nat×α),x∈QY κ k es->k<=x.1/\es[x.1-k]?=some x.2/\κ x.2=3
 | k,[],x,h=>by cases h
 | k,e::r,x,h=>by
  have ih:=Ze (k+1) r x
  have go:x∈QY κ (k+1) r->k<=x.1/\(e::r)[x.1-k]?=some x.2/\κ x.2=3:=fun q=>by
   obtain⟨a,b,c⟩:=ih q
   refine⟨by omega,?_,c⟩
   rw[show x.1-k=(x.1-(k+1))+1 by omega,jnj];exact b
  unfold QY at h
  split at h
  ·rename_i hk
   rcases List.mem_cons.1 h with rfl|h
   ·exact⟨jnd _,by simp,hk⟩
   exact go h
  exact go h
theorem Uv:∀(es:List α) (k j:Nat) (e:α),es[j]?=some e->QY κ (k+j) (es.drop j)=if κ e=3 then (k+j,e)::QY κ (k+(j+1)) (es.drop (j+1)) else QY κ (k+(j+1)) (es.drop (j+1))
 | [],k,j,e,h=>by simp at h
 | a::r,k,0,e,h=>by simp at h;subst h;rfl
 | a::r,k,j+1,e,h=>by
  have ih:=Uv r (k+1) j e (by simpa using h)
  rw[show k+1+j=k+(j+1) by omega,show k+1+(j+1)=k+(j+1+1) by omega]at ih
  exact ih
theorem KR{β:Type}(f:β->α):∀(k:Nat) (es:List β),(QY (fun b=>κ (f b)) k es).map (fun x=>(x.1,f x.2))=QY κ k (es.map f)
 | k,[]=>rfl
 | k,e::r=>by
  have ih:=KR f (k+1) r
  show((if κ (f e)=3 then (k,e)::QY _ (k+1) r else QY _ (k+1) r).map _)=if κ (f e)=3 then (k,f e)::QY κ (k+1) (r.map f) else QY κ (k+1) (r.map f)
  split
  ·rw[jnH,ih]
  exact ih
end
abbrev jaO:Nat->List En->List (Nat×En):=QY fun e=>e.1.kind
abbrev jme(es:List En):List (Nat×En):=jaO 0 es
def jil(es:List En)(id:Int):Option Nat:=((jme es).find? fun x=>x.2.2==id).map Prod.fst
def vy(es:List En)(id:Int):Option Nat:=if 0<id then es.findIdx? fun e=>e.2==id else none
def WF(es:List En):Prop:=∀e∈es,(e.1.kind=3/\0<e.2)\/(e.1.kind≠3/\e.2=0)
theorem jfX:∀(k:Nat) (es:List En) (id:Int),WF es->0<id->((jaO k es).find? fun x=>x.2.2==id).map Prod.fst=(es.findIdx? fun e=>e.2==id).map (· + k)
 | k,[],id,_,_=>rfl
 | k,e::r,id,h,hid=>by
  have ih:=jfX (k+1) r id (fun y hy=>h y (jnm _ hy)) hid
  have he:=h e jno
  unfold QY
  rw[List.findIdx?_cons]
  by_cases hk:e.1.kind=3
  ·rw[if_pos hk,jpF]
   cases hq:e.2==id with
   | true=>simp
   | false =>
   simp only
   rw[ih]
   cases List.findIdx? (fun e=>e.2==id) r with
   | none=>rfl
   | some q=>simp;omega
  rw[if_neg hk]
  have h0:e.2=0:=by
   rcases he with he|he
   ·exact absurd he.1 hk
   exact he.2
  have hq:(e.2==id)=false:=by rw[h0];exact beq_eq_false_iff_ne.2 (by omega)
  rw[ih,hq]
  cases List.findIdx? (fun e=>e.2==id) r with
  | none=>rfl
  | some q=>simp;omega
theorem YP:∀(k:Nat) (es:List En) (id:Int),WF es->id<=0->((jaO k es).find? fun x=>x.2.2==id)=none
 | k,[],id,_,_=>rfl
 | k,e::r,id,h,hid=>by
  have ih:=YP (k+1) r id (fun y hy=>h y (jnm _ hy)) hid
  have he:=h e jno
  unfold QY
  split
  ·rename_i hk
   have h0:0<e.2:=by
    rcases he with he|he
    ·exact he.2
    exact absurd hk he.1
   have hq:(e.2==id)=false:=beq_eq_false_iff_ne.2 (by omega)
   rw[jpF]
   simp only[hq]
   exact ih
  exact ih
theorem jfZ{es:List En}(h:WF es)(id:Int):jil es id=vy es id:=by
 unfold jil vy
 split
 ·rename_i hid
  have:=jfX 0 es id h hid
  rw[this]
  cases List.findIdx? (fun e=>e.2==id) es with
  | none=>rfl
  | some q=>rfl
 rename_i hid
 show Option.map _ ((jaO 0 es).find? _)=none
 rw[YP 0 es id h (by omega)];rfl
def jaE(es:List En):Nat:=(es.filter fun e=>decide (0<e.2)).length
theorem XI:∀(k:Nat) (es:List En),WF es->(jaO k es).map Prod.snd=es.filter fun e=>decide (0<e.2)
 | k,[],_=>rfl
 | k,e::r,h=>by
  have ih:=XI (k+1) r (fun y hy=>h y (jnm _ hy))
  unfold QY
  rw[joB]
  rcases h e jno with ⟨a,b⟩|⟨a,b⟩
  ·rw[if_pos a,if_pos (by simpa using b),jnH,ih]
  rw[if_neg a,if_neg (by simp;omega),ih]
theorem jhQ{es:List En}(h:WF es):(jme es).length=jaE es:=by
 have:=congrArg List.length (XI 0 es h)
 rw[jnI]at this
 exact this
def KV(es:List En)(k:Nat)(it:It):List En:=es.modify k fun e=>(it,e.2)
def jdX(es:List En)(k:Nat):List En:=es.take k++es.drop (k+1)
def jaS(es:List En)(k:Nat)(e:En):List En:=es.take k++e::es.drop k
theorem WF.set{es:List En}(h:WF es)(k:Nat)(it:It)(hk:it.kind=3)(e:En)(he:es[k]?=some e)(hn:e.1.kind=3):WF (KV es k it):=by
 intro x hx
 obtain⟨j,hj⟩:=List.mem_iff_getElem?.1 hx
 unfold KV at hj
 rw[jpd]at hj
 rcases hjj:es[j]? with _|y
 ·rw[hjj]at hj;simp at hj
 rw[hjj]at hj
 simp only[Option.map_eq_map,joP,Option.some.injEq]at hj
 have hy:=h y (jnC hjj)
 by_cases e1:k=j
 ·rw[if_pos e1]at hj
  subst hj
  subst e1
  rw[he]at hjj
  cases hjj
  rcases h e (jnC he) with q|q
  ·exact .inl ⟨hk,q.2⟩
  exact absurd hn q.1
 rw[if_neg e1]at hj
 subst hj;exact hy
theorem WF.cut{es:List En}(h:WF es)(k:Nat):WF (jdX es k):=by
 intro x hx
 rcases List.mem_append.1 hx with q|q
 ·exact h x (jog q)
 exact h x (job q)
theorem WF.put{es:List En}(h:WF es)(k:Nat){e:En}(he:(e.1.kind=3/\0<e.2)):WF (jaS es k e):=by
 intro x hx
 rcases List.mem_append.1 hx with q|q
 ·exact h x (jog q)
 rcases List.mem_cons.1 q with rfl|q
 ·exact .inl he
 exact h x (job q)
theorem jhi(es:List En)(k:Nat)(it:It):(KV es k it).length=es.length:=by unfold KV;simp
structure Did where
 ls:LS
 at_:Int
 bad:Nat
 id:Int
def qo(l:LS)(id:Int)(fs:List Fld):Did :=
 match vy l.es id with
 | none=>⟨l,-9,7,0⟩
 | some k=>if vG fs=0 then ⟨⟨KV l.es k (zS fs),l.next⟩,-9,0,0⟩ else ⟨l,YW fs,vG fs,0⟩
def vm(l:LS)(id:Int):Did :=
 match vy l.es id with
 | none=>⟨l,-9,7,0⟩
 | some k=>⟨⟨jdX l.es k,l.next⟩,-9,0,0⟩
def jlg(es:List En)(behind:Int):Option Nat:=if behind=0 then some 0 else (vy es behind).map (· + 1)
def qT(l:LS)(behind:Int)(fs:List Fld):Did :=
 match jlg l.es behind with
 | none=>⟨l,-9,7,0⟩
 | some k=>if vG fs=0 then (if 400<=jaE l.es then ⟨l,-9,11,0⟩ else ⟨⟨jaS l.es k (zS fs,l.next),l.next+1⟩,-9,0,l.next⟩) else ⟨l,YW fs,vG fs,0⟩
def xU(l:LS)(kind id:Int)(fs:List Fld):Did :=
 if kind=1 then qo l id fs else if kind=2 then vm l id else qT l id fs
theorem jik{es:List En}{id:Int}{k:Nat}(h:vy es id=some k):k<es.length/\∃e,es[k]?=some e/\e.2=id/\0<id:=by
 unfold vy at h
 split at h
 ·rename_i hid
  obtain⟨a,b,_⟩:=List.findIdx?_eq_some_iff_getElem.1 h
  exact⟨a,_,jnh a,by simpa using b,hid⟩
 cases h
def qj:Int->List It->List En
 | _,[]=>[]
 | n,it::r=>if it.kind=3 then (it,n)::qj (n+1) r else (it,0)::qj n r
def jX:Int->List It->Int
 | n,[]=>n
 | n,it::r=>if it.kind=3 then jX (n+1) r else jX n r
def qE(its:List It):LS:=⟨qj 1 its,jX 1 its⟩
theorem YL:∀(n:Int) (l:List It) (it:It),qj n (l++[it])=qj n l++[(it,if it.kind=3 then jX n l else 0)]/\jX n (l++[it])=if it.kind=3 then jX n l+1 else jX n l
 | n,[],it=>by
  simp only[jnU,qj,jX]
  split<;>simp
 | n,a::l,it=>by
  obtain⟨h1,h2⟩:=YL (n+1) l it
  obtain⟨g1,g2⟩:=YL n l it
  simp only[jny,qj,jX]
  split
  ·rw[h1,h2];exact⟨rfl,rfl⟩
  rw[g1,g2];exact⟨rfl,rfl⟩
theorem Vo:∀(n:Int) (l:List It),(qj n l).length=l.length
 | n,[]=>rfl
 | n,a::l=>by
  unfold qj
  split
  ·rw[jni,Vo];rfl
  rw[jni,Vo];rfl
theorem Qa:∀(n:Int) (l:List It),(qj n l).map Prod.fst=l
 | n,[]=>rfl
 | n,a::l=>by
  unfold qj
  split
  ·rw[jnH,Qa]
  rw[jnH,Qa]
theorem Zu:∀(n:Int) (l:List It),n<=jX n l/\jX n l<=n+l.length
 | n,[]=>by simp[jX]
 | n,a::l=>by
  have h1:=Zu (n+1) l
  have h2:=Zu n l
  unfold jX
  rw[jni]
  split<;>omega
theorem ja9:∀(n:Int) (l:List It),0<n->WF (qj n l)
 | n,[],_=>fun e h=>by cases h
 | n,a::l,hn=>by
  unfold qj
  split
  ·rename_i hk
   intro e he
   rcases List.mem_cons.1 he with rfl|he
   ·exact .inl ⟨hk,hn⟩
   exact ja9 (n+1) l (by omega) e he
  rename_i hk
  intro e he
  rcases List.mem_cons.1 he with rfl|he
  ·exact .inr ⟨hk,rfl⟩
  exact ja9 n l hn e he
end
section
variable {P:Program}
theorem Vu{α:Type}{g:Operand}{ps:Array Tmp}{assign body:Code}{Q:Exit->Act->World->Prop}{a:Act}{w:World}
  {gf:Nat} {lb:Array Value} (hg:a.eval g=.func (.func gf) #[] lb) (eg:∀args w,(callFunc gf args).run P w=.ok (.enter gf args) w)
  {encs:α->Array Value} {k:Nat} {xs:List α} {K:World->Prop} (hseq:jgP P gf lb encs k xs K w) (hps:∀x,(encs x).size=ps.size)
  (I:List α->World->Prop) (Ix:Code->List α->World->Prop) (hI:zN w.heap.size (k+2) I) (hIx:∀c,zN w.heap.size 2 (Ix c)) (h0:I [] w) (hK:∀pre W,I pre W->K W)
  (M:Act->List α->α->Act->World->Prop) (hM:∀a pre x a',zN w.heap.size 2 (fun(_:Unit) W=>M a pre x a' W))
  (hassign:∀(l:Nat) (pre:List α) (x:α) (post:List α) (W:World),xs=pre++x::post->w.heap.size+(k+2)<=W.heap.size->I pre W ->
   assign.wpIn (Fence.wide.inRound l) 7 P (Vs w.heap.size (k+2) (M a pre x) W) {tmps:=(ps.zip (encs x)).foldl (fun t (p,v)=>t.setIfInBounds p v) a.tmps,defers:=[]} W)
  (hbody:∀(l:Nat) (pre:List α) (x:α) (post:List α) (a':Act) (W:World),xs=pre++x::post->w.heap.size+(k+2)<=W.heap.size->M a pre x a' W ->
   body.wpIn (Fence.wide.inRound l) 7 P (left w.heap.size (k+2) I Ix (pre++[x]) W) a' W)
  (hdone:∀(W:World),I xs W->W.heap[w.heap.size]?=some (.deferred (some []))->Q .normal {a with defers:={target:=.collected w.heap.size,args:=#[]}::a.defers} W)
  (hstop:∀(c:Code) (pre:List α) (W:World),pre <+: xs->Ix c pre W->W.heap[w.heap.size]?=some (.deferred (some []))->c.wpIn Fence.wide 9 P Q {a with defers:={target:=.collected w.heap.size,args:=#[]}::a.defers} W) :
  (Code.rangeFunc g ps assign body).wpIn Fence.wide 9 P Q a w :=
 Xx hg eg hseq hps I Ix hI hIx h0 hK (M a) (hM a) hassign hbody hdone hstop
abbrev Pr:=En×Value
def zF(p:Pr):List Value:=[.int .i64 p.1.1.kind,.string (B p.1.1.raw),p.2,.int .i64 p.1.2]
def jj(ps:List Pr):List Value:=ps.flatMap zF
theorem Zx(ps:List Pr)(p:Pr):jj (ps++[p])=jj ps++zF p:=by unfold jj;simp
theorem yh(ps qs:List Pr):jj (ps++qs)=jj ps++jj qs:=by unfold jj;simp
theorem vQ:∀(ps:List Pr) (k:Nat),jj (ps.take k)=(jj ps).take (k*4)
 | [],k=>by simp[jj]
 | p::r,0=>by simp[jj]
 | p::r,k+1=>by
  have ih:=vQ r k
  have e:jj (p::r)=zF p++jj r:=rfl
  rw[jph,e,show jj (p::r.take k)=zF p++jj (r.take k) from rfl,ih,List.take_append]
  have hl:(zF p).length=4:=rfl
  rw[hl,jnD (l:=zF p) (by rw[hl];omega),show(k+1)*4-4=k*4 by omega]
theorem vR:∀(ps:List Pr) (k:Nat),jj (ps.drop k)=(jj ps).drop (k*4)
 | [],k=>by simp[jj]
 | p::r,0=>by simp
 | p::r,k+1=>by
  have ih:=vR r k
  have e:jj (p::r)=zF p++jj r:=rfl
  have hl:(zF p).length=4:=rfl
  rw[joh,e,ih,List.drop_append,hl,jn6 (l:=zF p) (by rw[hl];omega),show(k+1)*4-4=k*4 by omega,jnU]
theorem JM:∀(ps:List Pr) (i:Nat) (p:Pr),ps[i]?=some p->∀j u,(zF p)[j]?=some u->(jj ps)[i*4+j]?=some u
 | [],i,p,h=>by simp at h
 | q::r,0,p,h=>by
  simp at h;subst h
  intro j u hj
  have e:jj (q::r)=zF q++jj r:=rfl
  rw[e,Nat.zero_mul,jnX,jnJ (by have:=(List.getElem?_eq_some_iff.1 hj).1;exact this)]
  exact hj
 | q::r,i+1,p,h=>by
  intro j u hj
  have ih:=JM r i p (by simpa using h) j u hj
  have e:jj (q::r)=zF q++jj r:=rfl
  have hl:(zF q).length=4:=rfl
  rw[e,jnz (by rw[hl];omega),hl,show(i+1)*4+j-4=i*4+j by omega]
  exact ih
theorem GV{ps:List Pr}(h:∀p∈ps,p.2.oneCell'=true):∀u∈jj ps,u.oneCell'=true:=by
 intro u hu
 obtain⟨p,hp,hu⟩:=List.mem_flatMap.1 hu
 unfold zF at hu
 simp at hu
 rcases hu with rfl|rfl|rfl|rfl
 ·rfl
 ·rfl
 ·exact h p hp
 rfl
def ZK(w:World)(v:Value)(fs:List Fld):Prop:=Xj w v fs/\∀n c,v=.slice none n c->c=0
theorem ZK.below{w w':World}{v:Value}{fs:List Fld}{n:Nat}(h:ZK w v fs)(hb:Below n w w')(hn:w.heap.size<=n):ZK w' v fs:=⟨h.1.below hb hn,h.2⟩
theorem ZK.form{w:World}{v:Value}{fs:List Fld}(h:ZK w v fs):∃A c,v=.slice A fs.length c:=by
 obtain⟨A,c,e,_⟩:=h.1
 exact⟨A,c,e⟩
theorem ZK.own{w:World}{base:Nat}{v:Value}{fs:List Fld}(h:w.ownsRow base 155 2 v fs.length (jM fs)):ZK w v fs :=
 ⟨YM h,fun n c e=>by
  rcases h.2 with ⟨q,_⟩|⟨g,cap,cur,q,_⟩
  ·rw[q]at e;cases e;rfl
  rw[q]at e;cases e⟩
structure Qt(w:World)(v:Value)(ps:List Pr):Prop where
 row:w.ownsRow 0 238 4 v ps.length (jj ps)
 each:∀p∈ps,ZK w p.2 p.1.1.fields
theorem Qt.below{w w':World}{v:Value}{ps:List Pr}{n:Nat}(h:Qt w v ps)(hb:Below n w w')(hn:w.heap.size<=n):Qt w' v ps :=
 ⟨vq h.row hb hn,fun p hp=>(h.each p hp).below hb hn⟩
theorem Qt.here{w:World}{v:Value}{ps:List Pr}(h:Qt w v ps){i:Nat}{p:Pr}(hi:ps[i]?=some p):∃g cap A c,v=.slice (some ⟨g,0,none⟩) ps.length cap/\ps.length<=cap/\g<w.heap.size/\p.2=.slice A p.1.1.fields.length c /\
  w.cell? ⟨g,i*4,none⟩=some (.int .i64 p.1.1.kind)/\w.cell? ⟨g,i*4+1,none⟩=some (.string (B p.1.1.raw))/\w.cell? ⟨g,i*4+1+1,none⟩=some p.2/\w.cell? ⟨g,i*4+1+1+1,none⟩=some (.int .i64 p.1.2):=by
 have hlt:i<ps.length:=(List.getElem?_eq_some_iff.1 hi).1
 obtain⟨A,c,hA⟩:=(h.each p (jnC hi)).form
 have hr:=h.row
 rcases h.row.2 with ⟨_,hn⟩|⟨g,cap,cur,e,_,hg,hle,_⟩
 ·omega
 rw[e]at hr
 have at_:=JM ps i p hi
 refine⟨g,cap,A,c,e,hle,(joK hr g rfl).2,hA,?_,?_,?_,?_⟩
 ·rw[jnL hr (i*4) (by omega)];exact at_ 0 _ rfl
 ·rw[jnL hr (i*4+1) (by omega)];exact at_ 1 _ rfl
 ·rw[jnL hr (i*4+1+1) (by omega)];exact at_ 2 _ rfl
 rw[jnL hr (i*4+1+1+1) (by omega)];exact at_ 3 _ rfl
theorem Qt.empty{w:World}{v:Value}{ps:List Pr}(h:Qt w v ps):∃A cap,v=.slice A ps.length cap/\ps.length<=cap:=by
 rcases h.row.2 with ⟨e,hn⟩|⟨g,cap,cur,e,_,hg,hle,_⟩
 ·exact⟨none,0,by rw[e,hn],by omega⟩
 exact⟨_,cap,e,hle⟩
def jgX(p:Pr):Value:=.agg #[.int .i64 p.1.1.kind,.string (B p.1.1.raw),p.2,.int .i64 p.1.2]
abbrev ZN:Nat->List Pr->List (Nat×Pr):=QY fun p=>p.1.1.kind
theorem jfM(v:Value)(w:World)(A:Option Addr)(n c:Nat)(hv:v=.slice A n c):
  Calls prog 275 #[v] w fun e w'=>e=.returned (.func (.func 289) #[] #[.pointer (some ⟨w.heap.size+1,0,none⟩),.pointer (some ⟨w.heap.size,0,none⟩)]) /\
   w'=(w.alloc (.cells #[v] 232)).alloc (.cells #[.int .i64 0] 3):=by
 subst hv
 go_enter func275,ntmps275
 go_wp2
 go_ret
 exact⟨rfl,rfl⟩
def jmK(ps:List Pr)(n:Nat)(Bn:Nat)(w:World)(e:Ending)(w':World):Prop :=
 ∃n',Boxed w' Bn 3 (.int .i64 (n':Nat))/\jv (· = Bn) w w'/\n'<=ps.length /\
  ((e=.returned (.tuple #[.int .i64 0,.bool false])/\ZN n (ps.drop n)=[]) \/
   ∃k p,n<=k/\n'=k+1/\e=.returned (.tuple #[.int .i64 (k:Nat),.bool true])/\ps[k]?=some p/\ZN n (ps.drop n)=(k,p)::ZN n' (ps.drop n'))
theorem jfd(ps:List Pr)(v:Value)(n Bn Be:Nat)(w:World)(hn:n<=ps.length)(hps:ps.length<=1000000)(hbn:Boxed w Bn 3 (.int .i64 (n:Nat)))(hbe:Boxed w Be 232 v)(hne:Be≠Bn)(hE:Qt w v ps)(hg:∀g,v.ownBlock=some g->g≠Bn):
  Calls prog 289 #[.pointer (some ⟨Bn,0,none⟩),.pointer (some ⟨Be,0,none⟩)] w fun e w'=>jmK ps n Bn w e w':=by
 obtain⟨A,cap,rfl,hle⟩:=hE.empty
 have HE:=jnc hE
 have HG:=jnc hg
 have HBE:=jnc hbe
 have HN:=jnc hne
 have HBN:=jnc hbn
 clear hE hg hbe hbn
 go_enter func289,ntmps289
 go_wp2_with fail
 go_loopw [4] (fun _ wr=>∃k:Nat,n<=k/\k<=ps.length/\Boxed wr Bn 3 (.int .i64 (k:Nat))/\jv (· = Bn) w wr/\ZN n (ps.drop n)=ZN k (ps.drop k)) (fun _ wr=>ps.length-jl8 Bn wr)
 case atStart=>exact⟨n,jnd _,hn,HBN.out,jv.refl _ _,rfl⟩
 case round =>
 obtain⟨k,hk1,hk2,hb,ho,hs⟩:=hrel
 have c0:=hb.cell
 have f0:=hb.frozen
 have c1:wr.cell? ⟨Be,0,none⟩=some (.slice A ps.length cap):=Boxed.cell (show Boxed wr Be _ _ from(ho.same Be HBE.out.lt HN.out).trans HBE.out)
 have HB:=jnc hb
 have HO:=jnc ho
 have HS:=jnc hs
 have hk3:k<=1000000:=by omega
 clear hb ho hs
 by_cases hlt:k<ps.length
 ·obtain⟨p,hp⟩:∃p,ps[k]?=some p:=⟨_,jnh hlt⟩
  obtain⟨g,cap',pa,pc,e,_,hgl,_,d0,_⟩:=HE.out.here hp
  cases e
  have hgn:g≠Bn:=HG.out g rfl
  replace d0:wr.cell? ⟨g,k*4,none⟩=some (.int .i64 p.1.1.kind):=(jok (w:=w) (a:=⟨g,k*4,none⟩) (HO.out.same g hgl hgn)).trans d0
  have hbe2:Be≠Bn:=HN.out
  have SD:=jnc (Uv (κ:=fun p:Pr=>p.1.1.kind) ps 0 k p hp)
  have HP:=jnc hp
  clear hp
  by_cases hk:p.1.1.kind=3
  ·rw[hk]at d0
   go_wp2_with fail
   go_ret2
   refine⟨k+1,?_,HO.out.cellS 0 _,hlt,.inr ⟨k,p,hk1,rfl,rfl,HP.out,?_⟩⟩
   ·exact joi _ HB.out
   rw[HS.out]
   have:=SD.out
   rw[if_pos hk,jnX,jnX]at this
   exact this
  have hk':((p.1.1.kind:Int)==3)=false:=beq_eq_false_iff_ne.2 hk
  go_wp2_with fail
  go_roundw
  case rel =>
   refine⟨k+1,by omega,hlt,joi _ HB.out,HO.out.cellS 0 _,?_⟩
   rw[HS.out]
   have:=SD.out
   rw[if_neg hk,jnX,jnX]at this
   exact this
  case measure =>
  rw[Qn HB.out,Qn (B:=Bn) (n:=k+1) (w:=wr.setCell ⟨Bn,0,none⟩ (.int .i64 ((k:Int)+1))) (joi (.int .i64 ((k:Int)+1)) HB.out)]
  omega
 obtain rfl:k=ps.length:=by omega
 go_wp2_with fail
 go_ret2
 refine⟨ps.length,HB.out,HO.out,jnd _,.inl ⟨rfl,?_⟩⟩
 rw[HS.out,jn6 (jnd _)];rfl
end
section
attribute [local go_sem] jnn
theorem jbM(v:Value)(w:World)(A:Option Addr)(n c:Nat)(hv:v=.slice A n c):
  Calls prog 252 #[v] w fun e w'=>e=.returned (.func (.func 274) #[] #[.pointer (some ⟨w.heap.size,0,none⟩)])/\w'=w.alloc (.cells #[v] 232):=by
 subst hv
 go_enter func252,ntmps252
 go_wp2
 go_ret
 exact⟨rfl,rfl⟩
theorem Uu(ps:List Pr)(v:Value)(Be:Nat)(w:World)(hbox:Boxed w Be 232 v)(hps:ps.length<=1000000)(hE:Qt w v ps):
  jgP prog 274 #[.pointer (some ⟨Be,0,none⟩)] (fun x=>#[.int .i64 (x.1:Nat),jgX x.2]) 2 (ZN 0 ps) (fun W=>Qt W v ps/\Boxed W Be 232 v) w:=by
 intro l J Jx W hW hJ hK hY h0
 have hb:Boxed W Be 232 v:=(hW.block Be hbox.lt).trans hbox
 have hEW:=hE.below hW (jnd _)
 have hgw:∀g,v.ownBlock=some g->g<W.heap.size:=fun g e=>(hEW.row.lt g e).2
 obtain⟨A,cap,hv,hle⟩:=hE.empty
 have c0:=hb.cell
 have hbw:=hb.lt
 have FR:=callsIn_wide (n:=7).2 (jfM v W A ps.length cap hv)
 clear hE hEW hv
 refine callsIn_of_wp func274 rfl trivial ?_ rfl
 simp only[ntmps274,jnV,jni,jnG,Nat.reduceAdd,Nat.reduceSub,jn3,jn4,joa,jn5,jnU,jny]
 gi_wp2_with (refine⟨trivial,?_⟩;gi_at_call 275;refine FR.mono ?_;rintro e w' ⟨rfl,rfl⟩)
 gi_loopw [4,5] (fun _ _ wr=>∃(pre:List (Nat×Pr)) (n:Nat),n<=ps.length/\ZN 0 ps=pre++ZN n (ps.drop n)/\Boxed wr W.heap.size 232 v/\Boxed wr (W.heap.size+1) 3 (.int .i64 (n:Nat))/\J pre wr)
  (fun _ _ wr=>ps.length-jl8 (W.heap.size+1) wr)
 case atStart =>
  refine⟨[],0,jnt _,rfl,?_,?_,hJ.alloc _ (hJ.alloc _ h0)⟩
  ·exact(joy W _ _).alloc _
  have:=joy (W.alloc (.cells #[v] 232)) 3 (.int .i64 0)
  rw[jnB]at this;exact this
 case round =>
 obtain⟨pre,n,hn,hx,b1,b2,hj⟩:=hrel
 obtain⟨hE1,hb1⟩:=hK _ _ hj
 have NX0:=jfd ps v n (W.heap.size+1) W.heap.size wr hn hps b2 b1 (by omega) hE1 (fun g e=>by have:=hgw g e;omega)
 have HX:=jnc hx
 have HE1:=jnc hE1
 have HB1:=jnc hb1
 have B1:=jnc b1
 have B2:=jnc b2
 clear hE1 hb1 hx b1 b2
 have turn:∀(w':World),jv (· = W.heap.size+1) wr w'->zh W.heap.size 2 wr w':=fun w' ho=>⟨ho.os,ho.tape,ho.output,ho.size,fun r a b=>ho.same r a (by omega)⟩
 cases hq:ZN n (ps.drop n) with
 | nil =>
  have NX:=callsIn_wide (n:=7).2 (NX0.mono (R':=fun e w'=>e=.returned (.tuple #[.int .i64 0,.bool false])/\jv (· = W.heap.size+1) wr w') (by
   rintro e w' ⟨n',b2',ho,hn',(⟨rfl,hs⟩|⟨k,p,hk,hk2,rfl,hp,hs⟩)⟩
   ·exact⟨rfl,ho⟩
   rw[hs]at hq;cases hq))
  have HQ:=jnc hq
  clear NX0 hq
  gi_wp2_with (refine⟨trivial,?_⟩;gi_at_call 289;refine NX.mono ?_;clear NX;rintro e w' ⟨rfl,ho⟩)
  refine⟨fun _ h=>(by cases h),?_⟩
  gi_wp2
  refine bodyPost_ret (results_none rfl _ _ _) rfl ⟨⟨_,rfl⟩,.inl ?_⟩
  have e0:ZN 0 ps=pre:=by rw[HX.out,HQ.out,jnR]
  rw[e0]
  exact hJ _ _ _ hj (turn _ ho)
 | cons x post =>
 obtain⟨k,p⟩:=x
 have NX:=callsIn_wide (n:=7).2 (NX0.mono (R':=fun e w'=>e=.returned (.tuple #[.int .i64 (k:Nat),.bool true])/\jv (· = W.heap.size+1) wr w'/\n<=k/\k<ps.length/\Boxed w' (W.heap.size+1) 3 (.int .i64 (k+1:Nat))/\ps[k]?=some p/\post=ZN (k+1) (ps.drop (k+1))) (by
  rintro e w' ⟨n',b2',ho,hn',(⟨rfl,hs⟩|⟨k',p',hk,hk2,rfl,hp,hs⟩)⟩
  ·rw[hs]at hq;cases hq
  rw[hs]at hq
  cases hq
  subst hk2
  exact⟨rfl,ho,hk,hn',b2',hp,rfl⟩))
 have HQ:=jnc hq
 have hpk:ps[k]?=some p:=by
  have:=(Ze n (ps.drop n) (k,p) (by rw[show QY (fun p:Pr=>p.1.1.kind) n (ps.drop n)=_ from hq];exact jno)).2.1
  have h2:=(Ze n (ps.drop n) (k,p) (by rw[show QY (fun p:Pr=>p.1.1.kind) n (ps.drop n)=_ from hq];exact jno)).1
  rw[joc,show n+((k,p).1-n)=k by simp only at h2 ⊢;omega]at this
  exact this
 have hkl0:=(List.getElem?_eq_some_iff.1 hpk).1
 obtain⟨g,cap',pa,pc,e1,_,hg,e2,d0,d1,d2,d3⟩:=HE1.out.here hpk
 have q0:wr.cell? ⟨Be,0,none⟩=some v:=HB1.out.cell
 have hgw':=hgw g (by rw[e1];rfl)
 rw[e2]at d2
 rw[e1]at q0
 have Vb:∀(w':World),jv (· = W.heap.size+1) wr w'->w'.cell? ⟨Be,0,none⟩=some (.slice (some ⟨g,0,none⟩) ps.length cap')/\w'.cell? ⟨g,k*4,none⟩=some (.int .i64 p.1.1.kind)/\w'.cell? ⟨g,k*4+1,none⟩=some (.string (B p.1.1.raw))/\w'.cell? ⟨g,k*4+1+1,none⟩=some (.slice pa p.1.1.fields.length pc)/\w'.cell? ⟨g,k*4+1+1+1,none⟩=some (.int .i64 p.1.2):=fun w' ho =>
  ⟨(jok (w:=wr) (a:=⟨Be,0,none⟩) (ho.same Be HB1.out.lt (by omega))).trans q0,(jok (w:=wr) (a:=⟨g,k*4,none⟩) (ho.same g hg (by omega))).trans d0,(jok (w:=wr) (a:=⟨g,k*4+1,none⟩) (ho.same g hg (by omega))).trans d1,(jok (w:=wr) (a:=⟨g,k*4+1+1,none⟩) (ho.same g hg (by omega))).trans d2,(jok (w:=wr) (a:=⟨g,k*4+1+1+1,none⟩) (ho.same g hg (by omega))).trans d3⟩
 have MV:=jnc Vb
 have T:=jnc turn
 have E2:=jnc e2
 clear NX0 hq Vb d0 d1 d2 d3 e1 e2 q0 hpk turn
 gi_wp2_with (refine⟨trivial,?_⟩;gi_at_call 289;refine NX.mono ?_;clear NX;rintro e w' ⟨rfl,ho,hk,hkl,b2',hp,hpost⟩;obtain⟨m0,m1,m2,m3,m4⟩:=MV.out _ ho;clear hp;have HPO:=jnc hpost;clear hpost)
 have jw:J pre w':=hJ _ _ _ hj (T.out _ ho)
 have hz:=ho.size
 have hz1:=B1.out.lt
 have hz2:=B2.out.lt
 have hxp:ZN 0 ps=pre++(k,p)::post:=by rw[HX.out,HQ.out]
 obtain⟨fn,tmps,assign,body,hy,hR⟩:=hY pre (k,p) post w' hxp (by omega) jw
 dsimp only[jgX]at hy
 rw[E2.out]at hy
 rw[hy,Oper.uponIn_round]
 refine⟨fun h=>(by cases h),hR.mono ?_⟩
 clear hR hy
 rintro e W3 (⟨rfl,hJ3,hk3⟩|⟨rfl,hJx3⟩)
 ·gi_wp2
  go_roundw
  case rel =>
   refine⟨pre++[(k,p)],k+1,hkl,?_,?_,?_,hJ3⟩
   ·rw[hxp,HPO.out,jnx,jo6]
   ·exact(hk3.same _ (by omega) (by omega)).trans ((ho.same _ hz1 (by omega)).trans B1.out)
   exact(hk3.same _ (by omega) (by omega)).trans b2'
  case measure =>
  rw[Qn B2.out,Qn (B:=W.heap.size+1) (w:=W3) (n:=k+1) ((hk3.same _ (by omega) (by omega)).trans b2')]
  omega
 gi_wp2
 refine bodyPost_ret (results_none rfl _ _ _) rfl ⟨⟨_,rfl⟩,.inr ⟨_,⟨post,?_⟩,hJx3⟩⟩
 rw[hxp,jnx,jo6]
end
end Go.Proofs.YtpibhbjmcmfnmaaGreatDoor
