/- Texts put together:TB,TC,FP,FQ,FR,TD,TE,TL,UA,UK. -/
import Derived.Test.YtbapfpekklcicaaGreatDoorBbx7
set_option linter.unusedVariables false
set_option maxRecDepth 100000
set_option maxHeartbeats 16000000
namespace Go.Proofs.YtbapfpekklcicaaGreatDoor
open Go.RowKit Go.Shelf Tryz
abbrev jox:=@List.getElem?_drop
abbrev joJ:=@List.mem_of_mem_drop
abbrev joP:=@List.filter_cons
abbrev joR:=@List.mem_of_mem_take
abbrev jqb:=@List.getElem?_modify
abbrev jqh:=@List.find?_cons
section
def xH:List Fld->Nat
 | []=>0
 | f::r=>if ze f.1 f.2=0 then xH r+1 else 0
def qA(fs:List Fld):Nat:=if fs.length=0 then 2 else if 40<fs.length then 11 else foldN fs
def jki(fs:List Fld):Prop:=fs.length=0\/40<fs.length\/foldN fs=0
instance (fs:List Fld):Decidable (jki fs):=by unfold jki;infer_instance
def vv(fs:List Fld):Int:=if jki fs then -9 else (xH fs:Nat)
def Jw(lo:Nat)(w:World)(u:Value)(fs:List Fld):Prop:=if jki fs then u=Zv (qA fs) else jz lo w u (xH fs) (foldN fs)
theorem QZ(fs:List Fld):qA fs<=11:=by
 unfold qA;have:=jdr fs
 split
 ·decide
 split
 ·decide
 omega
theorem Jq{fs:List Fld}(h:qA fs=0):fs.length≠0/\fs.length<=40/\foldN fs=0:=by
 unfold qA at h;split at h
 ·cases h
 split at h
 ·cases h
 exact⟨by assumption,by omega,h⟩
theorem Jw.zero{lo:Nat}{w:World}{u:Value}{fs:List Fld}(h:Jw lo w u fs)(a:qA fs=0):u=.nilIface:=by obtain⟨_,_,c⟩:=Jq a;unfold Jw at h;rw[if_pos (.inr (.inr c)),a]at h;exact h
theorem Jw.pos{lo:Nat}{w:World}{u:Value}{fs:List Fld}(h:Jw lo w u fs)(a:qA fs≠0):u=.iface 54 (.int .i64 (qA fs:Nat))\/∃q,u=.iface 87 (.pointer q):=by
 unfold Jw at h;split at h
 ·rw[zn _ (by omega)]at h;exact .inl h
 obtain⟨q,_,e,_⟩:=h;exact .inr ⟨_,e⟩
theorem Jw.below{lo:Nat}{w w':World}{u:Value}{fs:List Fld}{N:Nat}(h:Jw lo w u fs)(a:Below N w w')(b:w.heap.size<=N):Jw lo w' u fs:=by
 unfold Jw at h ⊢;split
 ·rename_i hx;rw[if_pos hx]at h;exact h
 rename_i hx;rw[if_neg hx]at h;exact h.below a b
theorem Jw.mono{lo a:Nat}{w:World}{u:Value}{fs:List Fld}(h:Jw lo w u fs)(hl:a<=lo):Jw a w u fs:=by
 unfold Jw at h ⊢;split
 ·rename_i hx;rw[if_pos hx]at h;exact h
 rename_i hx;rw[if_neg hx]at h;exact h.mono hl
theorem Jw.set{lo:Nat}{w:World}{u:Value}{fs:List Fld}(h:Jw lo w u fs)(p:Addr)(c:p.block<lo)(x:Value):Jw lo (w.setCell p x) u fs:=by
 unfold Jw at h ⊢;split
 ·rename_i hx;rw[if_pos hx]at h;exact h
 rename_i hx;rw[if_neg hx]at h;obtain⟨q,a,e,b⟩:=h;exact⟨q,a,e,jd.other b (by omega) _⟩
attribute [local go_sem] qS
theorem jhj(fs:List Fld)(v:Value)(w:World)(hs:vK w v fs)(hn:fs.length<=1000000)(hl:∀f∈fs,f.1.length<=1000000/\f.2.length<=1000000):
  Calls prog 200 #[v] w fun e w'=>∃u,e=.returned u/\Below w.heap.size w w'/\Jw w.heap.size w' u fs:=by
 obtain⟨A,cap,rfl,hle,hc⟩:=hs
 have PC:=jnS hc
 have HL:=jnS hl
 clear hc hl
 by_cases h0:fs.length=0
 ·have FIN:Hid (∀W,Jw w.heap.size W (.iface 54 (.int .i64 2)) fs):=by
   intro W
   unfold Jw;rw[if_pos (.inl h0)];unfold qA;rw[if_pos h0];rfl
  rw[h0]
  go_enter func200,ntmps200
  go_wp2_with fail
  go_ret
  exact⟨_,rfl,jnV _ _,FIN.out _⟩
 by_cases h40:40<fs.length
 ·have FIN:Hid (∀W,Jw w.heap.size W (.iface 54 (.int .i64 11)) fs):=by
   intro W
   unfold Jw;rw[if_pos (.inr (.inl h40))];unfold qA;rw[if_neg h0,if_pos h40];rfl
  have c0:((fs.length:Int)==0)=false:=by simp;intro h;exact h0 (by rw[h];rfl)
  go_enter func200,ntmps200
  go_wp2_with fail
  go_ret
  exact⟨_,rfl,jnV _ _,FIN.out _⟩
 have FINZ:Hid (∀W,foldN fs=0->Jw w.heap.size W .nilIface fs):=by
  intro W hz
  unfold Jw;rw[if_pos (.inr (.inr hz))];unfold qA;rw[if_neg h0,if_neg h40,hz];rfl
 have FINB:Hid (∀(W:World) (k n:Nat),w.heap.size<=W.heap.size->foldN fs=n->n≠0->xH fs=k->Jw w.heap.size (W.alloc (.cells #[.int .i64 (k:Nat),.iface 54 (.int .i64 (n:Nat))] 90)) (.iface 87 (.pointer (some ⟨W.heap.size,0,none⟩))) fs):=by
  intro W k n hW hf hnz hk
  unfold Jw
  rw[if_neg (by unfold jki;rintro(h | h | h)<;>omega),hf,hk,<- zn n (by omega)]
  exact jz.new W k n _ _ rfl hW
 have c0:((fs.length:Int)==0)=false:=by simp;intro h;exact h0 (by rw[h];rfl)
 go_enter func200,ntmps200
 go_wp2_with fail
 go_loopw [18] (fun i wr=>∃k:Nat,k<=fs.length/\i=.int .i64 k/\foldN fs=foldN (fs.drop k)/\xH fs=xH (fs.drop k)+k/\Below w.heap.size w wr) (fun i _=>fs.length-(intOf i).toNat)
 case atStart=>exact⟨0,jn3 _,rfl,rfl,rfl,jnV _ _⟩
 case round =>
 obtain⟨k,hk,rfl,hN,hA,hb⟩:=hrel
 by_cases hlt:k<fs.length
 ·obtain⟨f,hf⟩:∃f,fs[k]?=some f:=⟨_,jnW hlt⟩
  obtain⟨b,off,rfl,hbb,c0',c1⟩:=PC.out k f hf
  replace c0':=(hb.cell (p:=⟨b,off+k*2,none⟩) hbb).trans c0'
  replace c1:=(hb.cell (p:=⟨b,off+k*2+1,none⟩) hbb).trans c1
  obtain⟨hl1,hl2⟩:=HL.out f (jn7 hf)
  have hdrop:fs.drop k=f::fs.drop (k+1):=by
   rw[jou hlt]
   rw[jnW hlt]at hf
   rw[jnY hf]
  have hs1:=hb.size
  have hba:=hb.alloc hs1 (.cells #[.string (B f.1),.string (B f.2)] 148)
  have hza:(wr.alloc (.cells #[.string (B f.1),.string (B f.2)] 148)).heap.size=wr.heap.size+1:=by simp
  have CK:=fun W=>Qf f.1 f.2 hl1 hl2 W
  unfold zC at CK
  rw[hdrop]at hN hA
  by_cases hck:ze f.1 f.2=0
  ·have G1:Hid (foldN fs=foldN (fs.drop (k+1))):=by
    show _=_
    rw[hN];show(if ze f.1 f.2=0 then foldN (fs.drop (k+1)) else _)=_;rw[if_pos hck]
   have G2:Hid (xH fs=xH (fs.drop (k+1))+(k+1)):=by
    show _=_
    rw[hA];show(if ze f.1 f.2=0 then xH (fs.drop (k+1))+1 else _)+k=_;rw[if_pos hck];omega
   rw[hck]at CK
   clear hdrop hN hA hf hck FINB FINZ PC HL
   go_wp2_with fail
   refine(CK _).mono ?_
   rintro e w2 ⟨rfl,b2⟩
   have hb2:=hba.trans (b2.mono (by omega))
   clear b2 CK
   go_wp2_with fail
   go_roundw
   case rel=>exact⟨k+1,hlt,by go_num,G1.out,G2.out,hb2⟩
   case measure=>simp[intOf];omega
  have hfn:foldN fs=ze f.1 f.2:=by rw[hN];unfold foldN;rw[if_neg hck]
  have hbn:xH fs=k:=by rw[hA];unfold xH;rw[if_neg hck];omega
  have FIN:=jnS (fun W hW=>FINB.out W k (ze f.1 f.2) hW hfn hck hbn)
  rw[zn _ (jpy hck)]at CK
  clear hdrop hN hA hf hck FINB FINZ PC HL hfn hbn
  generalize ze f.1 f.2=cn at *
  go_wp2_with fail
  refine(CK _).mono ?_
  rintro e w2 ⟨rfl,b2⟩
  have hb2:=hba.trans (b2.mono (by omega))
  have hz2:=hb2.size
  clear b2 CK
  go_wp2_with fail
  go_ret
  exact⟨_,rfl,hb2.alloc hz2 _,FIN.out w2 hz2⟩
 obtain rfl:k=fs.length:=by omega
 rw[jpc]at hN
 have F0:=jnS (fun W=>FINZ.out W hN)
 clear hN hA FINB FINZ PC HL
 go_wp2_with fail
 go_ret
 exact⟨_,rfl,hb,F0.out _⟩
def jdQ(fs:List Fld):List UInt8:=if qA fs=0 then jM fs else []
theorem jdS(fs:List Fld)(v:Value)(w:World)(c:vK w v fs)(E:fs.length<=1000000)(hl:∀f∈fs,f.1.length<=100000/\f.2.length<=100000):
  Calls prog 282 #[v] w fun e g=>∃u,e=.returned (.tuple #[.string (B (jdQ fs)),u])/\Below w.heap.size w g/\Jw w.heap.size g u fs:=by
 have i:=jnS (jhj fs v w c E (fun f z=>by have:=hl f z;omega));by_cases a:qA fs=0
 ·obtain⟨a1,a2,a3⟩:=Jq a;have p:=jnS (fun g (h:vK g v fs)=>jdq fs v g h (by omega) hl)
  rw[a3]at p;have r:Hid (jdQ fs=foldT fs):=by show _=_;unfold jdQ foldT;rw[if_pos a,if_pos a3]
  have D:=jnS c;obtain⟨A,o,rfl,k,_⟩:=id c;have l:=jnS a
  clear c hl a a3;go_enter func282,ntmps282;go_wp2_with fail;refine i.out.mono ?_;rintro e t ⟨u,rfl,d,b⟩;obtain rfl:=b.zero l.out;have m:=jnS b
  have n:=d.size;have x:=jnS (p.out t (D.out.below d (jnT _)))
  clear b i p;go_wp2_with fail;refine x.out.mono ?_;rintro e G ⟨rfl,y⟩;have s:=d.trans (y.mono n)
  have j:=jnS (m.out.below y (jnT _));clear x;go_wp2_with fail;go_ret2;exact⟨_,by rw[r.out];rfl,s,j.out⟩
 have r:Hid (jdQ fs=[]):=by show _=_;unfold jdQ;rw[if_neg a]
 obtain⟨A,o,rfl,k,_⟩:=id c;have l:=jnS a
 clear c hl a;go_enter func282,ntmps282;go_wp2_with fail;refine i.out.mono ?_;rintro e t ⟨u,rfl,d,b⟩;have C:=b.pos l.out
 have m:=jnS b;clear b i;rcases C with rfl|⟨q,rfl⟩
 all_goals
  go_wp2_with fail;go_ret2;exact⟨_,by rw[r.out];rfl,d,m.out⟩
end
section
theorem jj1{c:Func}{p u:Tmp}(h:c.results=#[.cell p 107,.tmp u])(tmps:Array Value)(w:World)(b:Nat)(a:Array Value)(d:tmps.getD p undef=.pointer (some ⟨b,0,none⟩))
  (f:jd w b 107 a) (e:a.size=3):(results c tmps).run prog w=.ok (.tuple #[.agg a,tmps.getD u undef]) w:=by
 have L:=run_loadVar_row (P:=prog) w b 107 107 a (0,0) _ f underlying107 rfl (by rw[e];kernel_rfl);rw[results_cell_tmp h,d];show((loadVar _ _).run _ _).andThen _=_
 rw[L];rfl
theorem jmZ(d c e v0 a b:Value):(((#[d,c,e].setIfInBounds 0 v0).setIfInBounds 1 a).setIfInBounds 2 b)=#[v0,a,b]:=by simp[List.setIfInBounds_toArray,List.set]
def Us(fs:List Fld):Int:=if qA fs=0 then 3 else 0
structure jnt(w:World)(fs:List Fld)(e:Ending)(w':World)(u x:Value):Prop where
 ret:e=.returned (.tuple #[.agg #[.int .i64 (Us fs),.string (B (jdQ fs)),x],u])
 below:Below w.heap.size w w'
 chk:Jw w.heap.size w' u fs
 own:qA fs=0->w'.ownsRow w.heap.size 148 2 x fs.length (jA fs)
 none_:qA fs≠0->x=.slice none 0 0
attribute [local go_sem] qS
theorem jdf(fs:List Fld)(v:Value)(w:World)(W:vK w v fs)(g:∀n c,v=.slice none n c->c=0)(hn:fs.length<=1000000)(hl:∀f∈fs,f.1.length<=100000/\f.2.length<=100000):
  Calls prog 265 #[v] w fun e o=>∃u x,jnt w fs e o u x:=by
 have ST:=jnS (fun o (h:vK o v fs)=>jdS fs v o h hn hl);have R:=jnS (fun o (h:vK o v fs)=>Xz fs v o h g hn)
 have I:=jnS W;obtain⟨A,aa,rfl,a7,_⟩:=id W;have z:Below w.heap.size w (w.alloc (.cells #[.int .i64 0,.string ⟨#[]⟩,.slice none 0 0] 107)):=(jnV _ _).alloc (jnT _) _
 have ae:(w.alloc (.cells #[.int .i64 0,.string ⟨#[]⟩,.slice none 0 0] 107)).heap.size=w.heap.size+1:=by simp
 have l:=jnS (ST.out _ (I.out.below z (jnT _)));have V:=jnS (jd.new w 107 #[.int .i64 0,.string ⟨#[]⟩,.slice none 0 0])
 clear W hl g ST;go_enter func265,ntmps265;go_wp2_with fail;refine l.out.mono ?_;rintro e H ⟨u,rfl,t,r⟩;have d:=jb V.out t (by omega)
 have a:Below w.heap.size w H:=z.trans (t.mono (by omega));have a8:=t.size
 by_cases b:qA fs=0
 ·obtain rfl:=r.zero b;have G:=jnS r
  have s:=jnS (R.out H (I.out.below a (jnT _)));have O:Hid (Us fs=3):=by show _=_;unfold Us;rw[if_pos b]
  have E:=jnS b;have U:=a.size
  clear r b R l t V I;generalize Y:jdQ fs=T at *
  replace Y:=jnS Y;go_wp2_with fail;refine s.out.mono ?_;rintro e w2 ⟨x,rfl,hx,L⟩;obtain⟨K,J,N,_⟩:=je hx;subst N;have j:=jb d L (by omega)
  have D:=a.trans (L.mono U);have X:=j.cell 0
  have Q:=j.cell 1;have Z:=j.cell 2
  have f0:=j.frozen 0;have f1:=j.frozen 1
  have f2:=j.frozen 2;simp only[jn0,jnZ,jnX]at X Q Z;have C:=((j.set 0 (.int .i64 3)).set 1 (.string (B T))).set 2 (.slice K fs.length J)
  rw[jmZ]at C;have y:Below w.heap.size w (((w2.setCell ⟨w.heap.size,0,none⟩ (.int .i64 3)).setCell ⟨w.heap.size,1,none⟩ (.string (B T))).setCell ⟨w.heap.size,2,none⟩ (.slice K fs.length J)) :=
   ((D.setCell (p:=⟨w.heap.size,0,none⟩) (jnT _) _).setCell (p:=⟨w.heap.size,1,none⟩) (jnT _) _).setCell (p:=⟨w.heap.size,2,none⟩) (jnT _) _
  have HX:=jnS hx;have i:=jnS y
  have U2:=jnS (G.out.below L (jnT _));clear G D L a s hx y;go_wp2_with fail;refine bodyPost_ret (jj1 rfl _ _ w.heap.size _ rfl C rfl) rfl ?_;refine⟨_,.slice K fs.length J,by rw[O.out,Y.out],i.out,?_,fun _ => ?_,fun h=>absurd E.out h⟩
  ·have h:=U2.out;unfold Jw at h ⊢;have hb:jki fs:=.inr (.inr (Jq E.out).2.2)
   rw[if_pos hb]at h ⊢;exact h
  have m:∀k,Value.ownBlock (.slice K fs.length J)=some k->k≠w.heap.size:=fun k e=>by have:=(HX.out.lt k e).1;omega
  exact jy (p:=⟨w.heap.size,2,none⟩) (jy (p:=⟨w.heap.size,1,none⟩) (jy (p:=⟨w.heap.size,0,none⟩) (jE HX.out (by omega)) (fun e=>m _ e rfl) _) (fun e=>m _ e rfl) _) (fun e=>m _ e rfl) _
 have hp:=r.pos b;have G:=jnS r
 have O:Hid (Us fs=0):=by show _=_;unfold Us;rw[if_neg b]
 have TI:Hid (jdQ fs=[]):=by show _=_;unfold jdQ;rw[if_neg b]
 have E:=jnS b;have X:=d.cell 0
 have Q:=d.cell 1;have Z:=d.cell 2
 have f0:=d.frozen 0;have f1:=d.frozen 1
 have f2:=d.frozen 2;simp only[jn0,jnZ,jnX]at X Q Z;have C:=((d.set 0 (.int .i64 0)).set 1 (.string ⟨#[]⟩)).set 2 (.slice none 0 0)
 rw[jmZ]at C;have y:Below w.heap.size w (((H.setCell ⟨w.heap.size,0,none⟩ (.int .i64 0)).setCell ⟨w.heap.size,1,none⟩ (.string ⟨#[]⟩)).setCell ⟨w.heap.size,2,none⟩ (.slice none 0 0)) :=
  ((a.setCell (p:=⟨w.heap.size,0,none⟩) (jnT _) _).setCell (p:=⟨w.heap.size,1,none⟩) (jnT _) _).setCell (p:=⟨w.heap.size,2,none⟩) (jnT _) _
 have i:=jnS y;clear r b R l t V I a y;have P:Hid (Jw w.heap.size (((H.setCell ⟨w.heap.size,0,none⟩ (.int .i64 0)).setCell ⟨w.heap.size,1,none⟩ (.string ⟨#[]⟩)).setCell ⟨w.heap.size,2,none⟩ (.slice none 0 0)) u fs) :=
  (((G.out.set ⟨w.heap.size,0,none⟩ (by show w.heap.size<_;omega) _).set ⟨w.heap.size,1,none⟩ (by show w.heap.size<_;omega) _).set ⟨w.heap.size,2,none⟩ (by show w.heap.size<_;omega) _).mono (by omega)
 rcases hp with rfl|⟨q,rfl⟩
 all_goals
  go_wp2_with fail;refine bodyPost_ret (jj1 rfl _ _ w.heap.size _ rfl C rfl) rfl ?_;exact⟨_,.slice none 0 0,by rw[O.out,TI.out];rfl,i.out,P.out,fun h=>absurd h E.out,fun _=>rfl⟩
end
theorem ym.grow{b:World}{base c a:Nat}{ls:List ByteArray}{y:ByteArray}{n:Nat}(h:b.ownsRow base 9 1 (.slice (some ⟨c,0,none⟩) (n+1) a) (n+1) (ls.map Value.string++[Value.string y]))(hl:ls.length=n):ym b base (.slice (some ⟨c,0,none⟩) (n+1) a) (ls++[y]):=by unfold ym;rw[jnU,joB,hl];exact h
theorem ym.form{w:World}{base:Nat}{v:Value}{ls:List ByteArray}(h:ym w base v ls)(b:0<ls.length):∃g a,v=.slice (some ⟨g,0,none⟩) ls.length a/\base<=g/\g<w.heap.size:=by
 obtain⟨g,a,e⟩:=joW h b;have:=joV h g (by rw[e];rfl)
 exact⟨g,a,e,this⟩
theorem ym.cell{w:World}{base g cap n:Nat}{ls:List ByteArray}(h:ym w base (.slice (some ⟨g,0,none⟩) n cap) ls)(a:ls.length=n)(j:Nat)(x:ByteArray)(hx:ls[j]?=some x):w.cell? ⟨g,j,none⟩=some (.string x):=by
 subst a;have b:j<ls.length:=by
  rcases joo j ls.length with q|q
  ·exact q
  rw[jon q]at hx;cases hx
 rw[job h j (by omega),joI,hx];rfl
theorem jat(l:List UInt8)(hl:l.length<=1000000)(w:World):
  Calls prog 234 #[.string (B l)] w fun e w'=>∃v,e=.returned v/\ym w' w.heap.size v ((jr l).map B)/\Below w.heap.size w w':=by
 obtain⟨i0,hi,hz0,hz1,hz2⟩:=info_parts Xf
 have hsz:=jg l
 have hd:=jj l
 generalize B l=s at *
 have HD:=jnS hd
 go_enter func234,ntmps234
 go_wp2_with fail
 go_loopw [3,4] (fun v i wr=>∃k:Nat,k<=s.size/\i=.int .i64 k/\ym wr w.heap.size v ((jr (l.take k)).map B)/\(jr (l.take k)).length<=k+1/\Below w.heap.size w wr) (fun _ i _=>s.size-(intOf i).toNat)
 case atStart=>exact⟨0,jn3 _,rfl,ym.one w _ (jnT _) _,by simp[jr],(jnV _ _).alloc (jnT _) _⟩
 case round =>
 obtain⟨k,hk,rfl,hown,hlen,hb⟩:=hrel
 by_cases hlt:k<s.size
 ·have e:l[k]?=some s[k]:=by
   rw[<- HD.out,jnW (by rw[<- joa];exact hlt)];rfl
  have htk:l.take (k+1)=l.take k++[s[k]]:=by rw[jor,e];rfl
  have hex:s.extract k (k+1)=B [s[k]]:=by
   rw[<- je8 (s.extract k (k+1)),jo3,HD.out]
   congr 1
   rw[show k+1-k=1 by omega]
   have:(l.drop k)[0]?=some s[k]:=by rw[jox];exact e
   cases hdl:l.drop k with
   | nil=>rw[hdl]at this;simp at this
   | cons a b=>rw[hdl]at this;simp at this;subst this;rfl
  have q2:=qQ (c:=s[k]) (d:=10) 10 rfl
  have hs3:=hb.size
  have hn0:0<((jr (l.take k)).map B).length:=by rw[joi];exact List.length_pos_iff.2 (jaC _)
  cases h5:(s[k]==10) with
  | true =>
   rw[h5]at q2
   have h10:s[k]=10:=by simpa using h5
   have T1:Hid ((jr (l.take (k+1))).map B=(jr (l.take k)).map B++[⟨#[]⟩]):=by
    show _=_
    rw[htk,h10,yz,joB];rfl
   have T2:Hid ((jr (l.take (k+1))).length=((jr (l.take k)).map B).length+1):=by
    show _=_
    rw[htk,h10,yz,jnU,joi];rfl
   rw[<- joi (f:=B)]at hlen
   clear htk hex h10 e h5 hd
   generalize (jr (l.take k)).map B=ls at *
   obtain⟨g,cap,rfl,hg1,hg2⟩:=hown.form hn0
   have HC:=jnS (WK wr ⟨#[]⟩ 9)
   have hown4:wr.ownsRow w.heap.size 9 1 (.slice (some ⟨g,0,none⟩) ls.length cap) ls.length (ls.map Value.string):=hown
   obtain⟨n,hn⟩:∃n,ls.length=n:=⟨_,rfl⟩
   rw[hn]at hown4 hlen hn0
   have HN:=jnS hn
   simp only[hn]
   clear hown hn
   go_wp2_with (at_builtin;refine wpList_append_own _ rfl _ _ 158 rfl w.heap.size 9 i0 _ 1 16 underlying158 hi hz0 hz1 hz2 rfl (by decide) _ _ _ rfl (hown4.alloc _) ⟨wr.heap.size,0,none⟩ 1 1 _ rfl rfl HC.out ?c2 ?c3 ?c4 ?c5 ?_)
   case c2=>intro u hu;simp at hu;subst hu;rfl
   case c3=>unfold maxLen;omega
   case c4=>omega
   case c5=>simp;omega
   intro v' w5 hown' hgrow _
   obtain⟨g',cap',rfl⟩:=ownsRow_succ hown'
   have hb5:Below w.heap.size w w5:=(hb.alloc (by omega) _).grown hgrow (by simp;omega) (fun j ej=>(hown4.lt j ej).1)
   have hown6:=ym.grow (ls:=ls) (y:=⟨#[]⟩) hown' HN.out
   rw[<- T1.out]at hown6
   go_wp2_with fail
   go_roundw
   case rel=>exact⟨k+1,hlt,by go_num,hown6,by rw[T2.out,HN.out];omega,hb5⟩
   case measure=>simp[intOf];omega
  | false =>
  rw[h5]at q2
  have h10:s[k]≠10:=by simpa using h5
  obtain⟨pre,p,p1,p2⟩:=YJ (l.take k) s[k] h10
  have hm:((jr (l.take k)).map B).length=pre.length+1:=by rw[p1];simp
  rw[p1,jnU]at hlen
  simp only[joN]at hlen
  obtain⟨g,cap,rfl,hg1,hg2⟩:=hown.form hn0
  rw[hm]at hown ⊢
  have hcell:=hown.cell hm pre.length (B p) (by rw[p1,joB,joh (by simp)];simp)
  have hown4:wr.ownsRow w.heap.size 9 1 (.slice (some ⟨g,0,none⟩) (pre.length+1) cap) (pre.length+1) ((pre.map B).map Value.string++[.string (B p)]):=by
   have:=hown
   unfold ym at this
   rw[hm,p1]at this
   simpa using this
  have hfz:=hown4.frozenAt pre.length
  have hst:=hown4.stored pre.length (.string (B p++B [s[k]]))
  rw[List.set_append_right _ _ (by simp)]at hst
  simp only[joi,Nat.sub_self,joT,jn]at hst
  have T1:Hid ((jr (l.take (k+1))).map B=pre.map B++[B (p++[s[k]])]):=by
   show _=_
   rw[htk,p2,joB];rfl
  have T2:Hid ((jr (l.take (k+1))).length=pre.length+1):=by
   show _=_
   rw[htk,p2,jnU];rfl
  obtain⟨hst1,hst2⟩:=hst
  have hown6:=ym.grow (ls:=pre.map B) (y:=B (p++[s[k]])) hst1 (by simp)
  rw[<- T1.out]at hown6
  have hb6:=hb.setCell (p:=⟨g,pre.length,none⟩) hg1 (.string (B (p++[s[k]])))
  have HB1:=jnS hown6
  have HB2:=jnS hb6
  have hpre:pre.length<=1000000:=by omega
  have hwr:IntKind.i64.wrap (pre.length:Int)=pre.length:=jos _ (by omega)
  have hlt2:(pre.length:Int)<(pre.length:Int)+1:=by omega
  have hwk:IntKind.i64.wrap ((k:Int)+1)=(k:Int)+1:=jos _ (by omega)
  have hk1:(k:Int)+1<=(l.length:Int):=by omega
  have hk2:(k:Int)<=(k:Int)+1:=by omega
  have hba:=jn p [s[k]]
  have z1:=jg p
  have z2:=jg [s[k]]
  have hpl:p.length<=1000000:=by
   have:=(Yd (l.take k));rw[p1]at this;simp at this;omega
  simp only[joN]at z2
  rw[<- hex]at hba z2
  clear hown hown4 hst1 hst2 hown6 hb6 p1 p2 htk e hd hm h10 hex
  have hcat:¬9223372036854775807<p.length+1:=by omega
  generalize B (p++[s[k]])=np at *
  generalize B p=bp at *
  go_wp2_with fail
  refine wp_region_still_tail 17 (by kernel_rfl) (by kernel_rfl) ?_
  simp only[jpX,List.take_zero,jqd,jpe]
  repeat still_step
  refine wpStill_nil ?_
  change wpList _ _ _ _ _ wr.drew
  go_wp2_with fail
  go_roundw
  case rel=>exact⟨k+1,hlt,by go_num,HB1.out,by rw[T2.out];omega,HB2.out.drew⟩
  case measure=>simp[intOf];omega
 obtain rfl:k=s.size:=by omega
 rw[jol (by omega)]at hown
 go_wp2_with fail
 go_ret
 exact⟨_,rfl,hown,hb⟩
theorem jel{l:List UInt8}(h:(10:UInt8)∉l):(jm l=1↔jR l=true):=by
 unfold jm;rw[UU h,if_neg (by decide)];cases a:jR l with
 | true=>simp
 | false =>
 rw[if_neg (by decide)];constructor
 ·intro h;split at h
  ·cases h
  split at h
  ·cases h
  split at h<;>cases h
 intro h;cases h
theorem jaw(k v:List UInt8)(hk:k.length<=100000)(hv:v.length<=100000)(w:World):
  Calls prog 199 #[zC k v] w fun e w'=>∃sv a7,e=.returned sv/\ym w' a7 sv ((jW k v).map B)/\Below w.heap.size w w':=by
 obtain⟨i0,hi,aq,aj,au⟩:=info_parts Xf;have PA:=fun w=>jat v (by omega) w
 obtain⟨p,r,hp⟩:∃p r,jr v=p::r:=⟨_,_,zj v⟩
 rw[hp]at PA;obtain⟨z1,z2,z3⟩:=jc1 hp;have ag:∀q∈p::r,(10:UInt8)∉q:=by rw[<- hp];exact yt v
 have HL:=jnS (jdc (k:=k) hp);clear hp;unfold zC;have aH:=jg k
 have h1:(B k ++ ⟨#[58]⟩)=B (k++[58]):=jn k [58];have h2:(B (k++[58]) ++ ⟨#[32]⟩)=B ((k++[58])++[32]):=jn _ [32]
 have h3:(B ((k++[58])++[32])++B p)=B (((k++[58])++[32])++p):=jn _ p;have y1:(B (k++[58])).size=k.length+1:=by rw[jg];simp
 have y2:(B ((k++[58])++[32])).size=k.length+2:=by rw[jg];simp
 have O:=jg p;have G:p=[]->B (zM k p)=B (k++[58]):=fun h=>by unfold zM;rw[if_pos h]
 have E:p≠[]->B (zM k p)=B (((k++[58])++[32])++p):=fun h=>by unfold zM;rw[if_neg h];simp
 go_enter func199,ntmps199;go_wp2_with fail;refine(PA _).mono ?_;rintro e l ⟨v1,rfl,a,b1⟩;obtain⟨g,aD,rfl,ar,ae⟩:=a.form (by simp);have c0:=b1.cell (p:=⟨w.heap.size,0,none⟩) (by simp)
 have J:Below w.heap.size w l:=((jnV _ _).alloc (jnT _) _).trans (b1.mono (by simp));have PC:∀(j:Nat) x,(p::r)[j]?=some x->l.cell? ⟨g,j,none⟩=some (.string (B x)):=fun j x hx=>a.cell rfl j (B x) (by rw[joI,hx];rfl)
 have e0:=PC 0 p rfl;simp only[joi,jn1];simp only[jpq _ _ _ _ rfl]at c0;have am:=jnS (fun(j:Nat) x (hx:r[j]?=some x)=>PC (j+1) x (by simpa using hx))
 have V:=jnS (fun q hq=>ag q (jn4 _ hq));have BW:=jnS J
 replace c0:l.cell? ⟨w.heap.size,0,none⟩=some (.string (B k)):=c0;have ak:=J.size
 clear PC PA b1 a ar ag J;generalize R:B (zM k p)=C at *
 have aw:Hid (((jW k v).map B)=C::(r.map js).map B):=by show _=_;rw[HL.out,joy,R]
 clear R HL;have ah:(p=[]/\C=B (k++[58]))\/(p≠[]/\C=B (((k++[58])++[32])++p)):=by
  by_cases b:p=[]
  ·exact .inl ⟨b,G b⟩
  exact .inr ⟨b,E b⟩
 clear G E;rcases ah with ⟨b,W⟩|⟨b,W⟩
 case' inl =>
  subst b;rw[show B []=⟨#[]⟩ from rfl]at *
  rw[<- W]at h1;clear W h2 h3 y1 y2 O z1;generalize B k=K at *
  go_wp2_with fail
 case' inr =>
  obtain⟨n1,n2⟩:=jhL b;rw[<- W]at h3;clear W b;generalize B k=K at *
  generalize B (k++[58])=K1 at *
  generalize B ((k++[58])++[32])=K2 at *
  generalize B p=P at *
  go_wp2_with fail;clear h1 h2 h3 y1 y2 O n1 n2
 all_goals
  go_loopw [5,6] (fun v5 i wr=>∃n:Nat,n<=r.length/\i=.int .i64 ((n:Int)+1)/\ym wr l.heap.size v5 (C::((r.take n).map js).map B)/\Below l.heap.size l wr) (fun _ i _=>r.length+1-(intOf i).toNat)
  case atStart=>exact⟨0,jn3 _,rfl,ym.one l _ (jnT _) _,(jnV _ _).alloc (jnT _) _⟩
  case round =>
  obtain⟨n,hn,rfl,a,hb⟩:=hrel;by_cases aa:n<r.length
  ·obtain⟨x,hx⟩:∃x,r[n]?=some x:=⟨_,jnW aa⟩
   have U:=(hb.cell (p:=⟨g,n+1,none⟩) ae).trans (am.out n x hx);have z:=jn7 hx
   have ai:=z2 x z;have D:=V.out x z
   have N:=jg x;have RK:=fun w=>vr (B x) (by omega) w
   rw[jj]at RK;have TK:Hid (C::((r.take (n+1)).map js).map B=(C::((r.take n).map js).map B)++[B (js x)]):=by show _=_;rw[jor,hx];simp
   have a8:Hid ((C::((r.take n).map js).map B).length=n+1):=by show _=_;simp;omega
   have af:=hb.size;have kc:=jel D
   cases f:jR x
   case' true =>
    have s:=kc.2 f;have Q:⟨#[32,46]⟩++B x=B (js x):=by unfold js Jp;rw[f];exact jn [32,46] x
    rw[s]at RK;clear hx s kc f D z;generalize (C::((r.take n).map js).map B)=ls at *
    generalize B (js x)=Y at *
    generalize B x=X at *
   case' false =>
    have s:jm x≠1:=fun e=>by rw[kc.1 e]at f;cases f
    obtain⟨c,t,rfl⟩:=JW f;have aE:((jm (c::t):Int)==1)=false:=by rw[beq_eq_false_iff_ne];omega
    have q2:=qQ (c:=c) (d:=46) 46 rfl;have aC:∀h:0<(B (c::t)).size,(B (c::t))[0]'h=c:=fun _=>rfl
    have ax:(B (c::t)).size=t.length+1:=N;have aF:t.length<=1000000:=by simp only[jn1]at ai;omega
    have aB:0<(B (c::t)).size:=by omega
    clear N;by_cases L:c=46
   case' pos =>
    have Q:⟨#[32,46]⟩++B (c::t)=B (js (c::t)):=by unfold js Jp;rw[L];simp;exact jn [32,46] (46::t)
    have I:(c==46)=true:=by simp[L]
    rw[I]at q2;clear hx s kc f D z L;generalize (C::((r.take n).map js).map B)=ls at *
    generalize jm (c::t)=kx at *
    generalize B (js (c::t))=Y at *
    generalize B (c::t)=X at *
   case' neg =>
    have Q:⟨#[32]⟩++B (c::t)=B (js (c::t)):=by unfold js Jp;rw[f];simp[L];exact jn [32] (c::t)
    have I:(c==46)=false:=by simp[L]
    rw[I]at q2;clear hx s kc f D z L;generalize (C::((r.take n).map js).map B)=ls at *
    generalize jm (c::t)=kx at *
    generalize B (js (c::t))=Y at *
    generalize B (c::t)=X at *
   all_goals
    go_wp2_with fail;refine(RK _).mono ?_;rintro e w4 ⟨rfl,Z⟩;have aA:=(Z.cell (p:=⟨g,n+1,none⟩) (jod ae af)).trans U
    have m:w4.ownsRow l.heap.size 9 1 u5 (n+1) (ls.map Value.string):=by rw[<- a8.out];exact a.kept Z (jnT _)
    have aG:=Z.size;have HC:=jnS (WK w4 Y 9)
    have av:Below l.heap.size l w4:=hb.trans (Z.mono af);clear a Z U;go_wp2_with (at_builtin;refine wpList_append_own _ rfl _ _ 158 rfl l.heap.size 9 i0 _ 1 16 underlying158 hi aq aj au rfl (by decide) _ _ _ rfl (m.alloc _) ⟨w4.heap.size,0,none⟩ 1 1 _ rfl rfl HC.out ?c2 ?c3 ?c4 ?c5 ?_)
    case c2=>intro u hu;simp at hu;subst hu;rfl
    case c3=>unfold maxLen;omega
    case c4=>omega
    case c5=>simp;omega
    intro v' w5 A H _;obtain⟨g',ay,rfl⟩:=ownsRow_succ A;have ap:Below l.heap.size l w5:=(av.alloc (by omega) _).grown H (by simp;omega) (fun j ej=>(m.lt j ej).1)
    have o:=ym.grow (ls:=ls) (y:=Y) A a8.out;rw[<- TK.out]at o;go_wp2_with fail;go_roundw
    case rel=>exact⟨n+1,aa,by go_num,o,ap⟩
    case measure=>simp[intOf];omega
  obtain rfl:n=r.length:=by omega
  rw[jom]at a;go_wp2_with fail;go_ret;exact⟨_,_,rfl,by rw[aw.out];exact a,BW.out.trans (hb.mono ak)⟩
theorem jbF(k v:List UInt8)(a:k.length<=100000)(b:v.length<=100000):(jp (jW k v)).length<=500000:=by
 rw[xR];have:=jaJ k v
 omega
theorem YG(fs:List (List UInt8×List UInt8))(v:Value)(w:World)(hs:vK w v fs)(hn:fs.length<=1000)(hl:∀f∈fs,f.1.length<=100000/\f.2.length<=100000):
  Calls prog 160 #[v] w fun e w'=>e=.returned (.string (B (jM fs)))/\Below w.heap.size w w':=by
 obtain⟨A,V,rfl,O,J⟩:=hs;have W:=jnS J
 clear J;go_enter func160,ntmps160;go_wp2_with fail;go_loopw [3,4] (fun s i Z=>∃k:Nat,k<=fs.length/\i=.int .i64 k/\s=.string (B (jM (fs.take k)))/\(jM (fs.take k)).length<=500000*k/\Below w.heap.size w Z) (fun _ i _=>fs.length-(intOf i).toNat)
 case atStart=>exact⟨0,jn3 _,rfl,rfl,jnT _,jnV _ _⟩
 case round =>
 obtain⟨k,hk,rfl,rfl,D,r⟩:=hrel;by_cases l:k<fs.length
 ·obtain⟨f,u⟩:∃f,fs[k]?=some f:=⟨_,jnW l⟩
  obtain⟨b,q,rfl,o,N,H⟩:=W.out k f u;replace N:=(r.cell (p:=⟨b,q+k*2,none⟩) o).trans N;replace H:=(r.cell (p:=⟨b,q+k*2+1,none⟩) o).trans H;obtain⟨m,t⟩:=hl f (jn7 u);have h:fs.take (k+1)=fs.take k++[f]:=by rw[jor,u];rfl
  have K:Hid (jM (fs.take (k+1))=jM (fs.take k)++jp (jW f.1 f.2)):=by show _=_;rw[h,Wk]
  have z:=fun w=>jaw f.1 f.2 m t w;have y:=jbF f.1 f.2 m t
  have P:1<=(jW f.1 f.2).length:=by rw[Wc];omega
  have Y:(jW f.1 f.2).length<=500000:=by rw[xR]at y;omega
  unfold zC at z;clear h u;generalize jM (fs.take k)=a at *
  go_wp2_with fail;refine(z _).mono ?_;rintro e w2 ⟨sv,I,rfl,d,L⟩;have C:=r.trans (L.mono r.size)
  obtain⟨g,E,rfl,_,_⟩:=d.form (by simp;omega);have CL:=jnS (fun(j:Nat) x (hx:(jW f.1 f.2)[j]?=some x)=>d.cell rfl j (B x) (by rw[joI,hx];rfl))
  rw[joi]at *
  clear d L z;generalize jW f.1 f.2=c at *
  go_wp2_with fail;go_loopw [3,19] (fun s i U=>∃j:Nat,j<=c.length/\i=.int .i64 j/\s=.string (B (a++jp (c.take j)))/\w2=U) (fun _ i _=>c.length-(intOf i).toNat)
  case atStart=>exact⟨0,jn3 _,rfl,by simp[jp],rfl⟩
  case round =>
  obtain⟨j,hj,rfl,rfl,rfl⟩:=hrel;by_cases n:j<c.length
  ·obtain⟨x,hx⟩:∃x,c[j]?=some x:=⟨_,jnW n⟩
   have a7:=CL.out j x hx;have T1:Hid (B (a++jp (c.take (j+1)))=(B (a++jp (c.take j))++B x) ++ ⟨#[10]⟩):=by show _=_;rw[jor,hx,show(some x).toList=[x] from rfl,Qq,show(⟨#[10]⟩:ByteArray)=B [10] from rfl,jn,jn];simp
   have G:=Ko c (j+1);rw[jor,hx,show(some x).toList=[x] from rfl,Qq,jnU,jnU]at G;simp only[joN]at G;have R:=jg (a++jp (c.take j))
   rw[jnU]at R;have y2:=jg x
   have y3:(B (a++jp (c.take j))++B x).size=a.length+(jp (c.take j)).length+x.length:=by rw[jn,jg,jnU,jnU]
   clear hx;generalize B (a++jp (c.take j))=Q at *
   generalize B x=X at *
   go_wp2_with fail;go_roundw
   case rel=>exact⟨j+1,n,by go_num,by rw[T1.out],trivial⟩
   case measure=>simp[intOf];omega
  obtain rfl:j=c.length:=by omega
  rw[jom];go_wp2_with fail;go_roundw
  case rel =>
   refine⟨k+1,l,by go_num,by rw[K.out],?_,C⟩;rw[K.out,jnU];omega
  case measure=>simp[intOf];omega
 obtain rfl:k=fs.length:=by omega
 rw[jom];go_wp2_with fail;go_ret;exact⟨rfl,r⟩
section
attribute [local go_sem] qS
theorem yH(fs:List Fld)(v:Value)(w:World)(hs:vK w v fs)(hn:fs.length<=1000000)(hl:∀f∈fs,f.1.length<=1000000/\f.2.length<=1000000):
  Calls prog 173 #[v] w fun e w'=>e=.returned (.tuple #[.int .i64 (vv fs),.int .i64 (qA fs:Nat)])/\Below w.heap.size w w':=by
 obtain⟨A,aa,rfl,a7,X⟩:=hs;have N:=jnS X
 have O:=jnS hl;clear X hl;by_cases x:fs.length=0
 ·have Q:vv fs = -9:=by unfold vv;rw[if_pos (.inl x)]
  have r:qA fs=2:=by unfold qA;rw[if_pos x]
  rw[Q,r,x];go_enter func173,ntmps173;go_wp2_with fail;go_ret2;exact⟨rfl,jnV _ _⟩
 have c0:((fs.length:Int)==0)=false:=by simp;intro h;exact x (by rw[h];rfl)
 by_cases q:40<fs.length
 ·have Q:vv fs = -9:=by unfold vv;rw[if_pos (.inr (.inl q))]
  have r:qA fs=11:=by unfold qA;rw[if_neg x,if_pos q]
  rw[Q,r];go_enter func173,ntmps173;go_wp2_with fail;go_ret2;exact⟨rfl,jnV _ _⟩
 have r:qA fs=foldN fs:=by unfold qA;rw[if_neg x,if_neg q]
 have d:Hid (foldN fs=0->vv fs = -9/\qA fs=0):=by intro V;exact⟨by unfold vv;rw[if_pos (.inr (.inr V))],by rw[r,V]⟩
 have g:Hid (∀(k n:Nat),foldN fs=n->n≠0->xH fs=k->vv fs=(k:Nat)/\qA fs=n):=by intro k n l Z Y;refine⟨?_,by rw[r,l]⟩;unfold vv;rw[if_neg (by unfold jki;rintro(h | h | h)<;>omega),Y]
 clear r;go_enter func173,ntmps173;go_wp2_with fail;go_loopw [4] (fun i wr=>∃k:Nat,k<=fs.length/\i=.int .i64 k/\foldN fs=foldN (fs.drop k)/\xH fs=xH (fs.drop k)+k/\Below w.heap.size w wr) (fun i _=>fs.length-(intOf i).toNat)
 case atStart=>exact⟨0,jn3 _,rfl,rfl,rfl,jnV _ _⟩
 case round =>
 obtain⟨k,Y,rfl,m,u,z⟩:=hrel;by_cases j:k<fs.length
 ·obtain⟨f,l⟩:∃f,fs[k]?=some f:=⟨_,jnW j⟩
  obtain⟨b,E,rfl,D,C,U⟩:=N.out k f l;replace C:=(z.cell (p:=⟨b,E+k*2,none⟩) D).trans C;replace U:=(z.cell (p:=⟨b,E+k*2+1,none⟩) D).trans U;obtain⟨P,R⟩:=O.out f (jn7 l);have a:fs.drop k=f::fs.drop (k+1):=by rw[jou j];rw[jnW j]at l;rw[jnY l]
  have I:=z.size;have y:=fun W=>jay f.1 f.2 P R W
  unfold zC at y;rw[a]at m u;by_cases c:ze f.1 f.2=0
  ·have G1:Hid (foldN fs=foldN (fs.drop (k+1))):=by show _=_;rw[m];show(if ze f.1 f.2=0 then foldN (fs.drop (k+1)) else _)=_;rw[if_pos c]
   have G2:Hid (xH fs=xH (fs.drop (k+1))+(k+1)):=by show _=_;rw[u];show(if ze f.1 f.2=0 then xH (fs.drop (k+1))+1 else _)+k=_;rw[if_pos c];omega
   rw[c]at y;clear a m u l c g d N O;go_wp2_with fail;refine(y _).mono ?_;rintro e w2 ⟨rfl,L⟩;have t:=z.trans (L.mono I)
   clear L y;go_wp2_with fail;go_roundw
   case rel=>exact⟨k+1,j,by go_num,G1.out,G2.out,t⟩
   case measure=>simp[intOf];omega
  have G:foldN fs=ze f.1 f.2:=by rw[m];unfold foldN;rw[if_neg c]
  have K:xH fs=k:=by rw[u];unfold xH;rw[if_neg c];omega
  obtain⟨J,H⟩:=g.out k (ze f.1 f.2) G c K;have a8:((ze f.1 f.2:Int) != 0)=true:=by simp;omega
  have s:=jnS J;have o:=jnS H
  clear a m u l g d N O G K J H;generalize ze f.1 f.2=cn at *
  go_wp2_with fail;refine(y _).mono ?_;rintro e w2 ⟨rfl,L⟩;have t:=z.trans (L.mono I)
  clear L y;go_wp2_with fail;go_ret2;exact⟨by rw[s.out,o.out];rfl,t⟩
 obtain rfl:k=fs.length:=by omega
 rw[jpc]at m;obtain⟨J,H⟩:=d.out m;have s:=jnS J
 have o:=jnS H;clear m u g d N O J H;go_wp2_with fail;go_ret2;exact⟨by rw[s.out,o.out];rfl,z⟩
end
section
def jmo(rs:List (List Fld)):List UInt8:=zX (rs.map jM)
def jnp(rs:List (List Fld)):Option (List Fld):=rs.find? fun r=>qA r != 0
theorem jhw{a:List (List Fld)}(h:∀r∈a,qA r=0):jnp a=none:=by unfold jnp;rw[List.find?_eq_none];intro r b;simp[h r b]
def je4(w:World)(rs:List (List Fld))(e:Ending)(w':World):Prop :=
 Below w.heap.size w w'/\match jnp rs with
  | some r=>∃u,e=.returned (.tuple #[.string (B []),u])/\Jw w.heap.size w' u r/\qA r≠0
  | none=>e=.returned (.tuple #[.string (B (jmo rs)),.nilIface])/\∀r∈rs,qA r=0
theorem je4.yes{w w':World}{a:List (List Fld)}(h:∀r∈a,qA r=0)(b:Below w.heap.size w w'):je4 w a (.returned (.tuple #[.string (B (jmo a)),.nilIface])) w' :=
 ⟨b,by rw[jhw h];exact⟨rfl,h⟩⟩
attribute [local go_sem] qS
end
section
def zx(fs:List Fld):It:=⟨3,jM fs,fs⟩
theorem jcb(fs:List Fld):jM fs=jp (jD fs):=by unfold jM jD jp;rw[List.flatMap_assoc]
abbrev En:=It×Int
structure LS where
 es:List En
 next:Int
def VR{α:Type}(κ:α->Int):Nat->List α->List (Nat×α)
 | _,[]=>[]
 | k,e::r=>if κ e=3 then (k,e)::VR κ (k+1) r else VR κ (k+1) r
section
variable {α:Type} {κ:α->Int}
theorem WJ:∀(k:Nat) (a:List α),(VR κ k a).length<=a.length
 | k,[]=>jnT _
 | k,e::r=>by
  have b:=WJ (k+1) r;show(if κ e=3 then (k,e)::VR κ (k+1) r else VR κ (k+1) r).length<=_
  split
  ·simp only[jn1];omega
  simp only[jn1];omega
theorem Zy:∀(k:Nat) (d:List α) (x:Nat×α),x∈VR κ k d->k<=x.1/\d[x.1-k]?=some x.2/\κ x.2=3
 | k,[],x,h=>by cases h
 | k,e::r,x,h=>by
  have g:=Zy (k+1) r x;have f:x∈VR κ (k+1) r->k<=x.1/\(e::r)[x.1-k]?=some x.2/\κ x.2=3:=fun q=>by obtain⟨a,b,c⟩:=g q;refine⟨by omega,?_,c⟩;rw[show x.1-k=(x.1-(k+1))+1 by omega,jnX];exact b
  unfold VR at h;split at h
  ·rename_i i;rcases List.mem_cons.1 h with rfl|h
   ·exact⟨jnT _,by simp,i⟩
   exact f h
  exact f h
theorem jaf:∀(b:List α) (k j:Nat) (e:α),b[j]?=some e->VR κ (k+j) (b.drop j)=if κ e=3 then (k+j,e)::VR κ (k+(j+1)) (b.drop (j+1)) else VR κ (k+(j+1)) (b.drop (j+1))
 | [],k,j,e,h=>by simp at h
 | a::r,k,0,e,h=>by simp at h;subst h;rfl
 | a::r,k,j+1,e,h=>by have c:=jaf r (k+1) j e (by simpa using h);rw[show k+1+j=k+(j+1) by omega,show k+1+(j+1)=k+(j+1+1) by omega]at c;exact c
theorem WI{d:Type}(f:d->α):∀(k:Nat) (c:List d),(VR (fun b=>κ (f b)) k c).map (fun x=>(x.1,f x.2))=VR κ k (c.map f)
 | k,[]=>rfl
 | k,e::r=>by
  have a:=WI f (k+1) r;show((if κ (f e)=3 then (k,e)::VR _ (k+1) r else VR _ (k+1) r).map _)=if κ (f e)=3 then (k,f e)::VR κ (k+1) (r.map f) else VR κ (k+1) (r.map f)
  split
  ·rw[joy,a]
  exact a
end
abbrev jbG:Nat->List En->List (Nat×En):=VR fun e=>e.1.kind
abbrev jmY(es:List En):List (Nat×En):=jbG 0 es
def jjb(es:List En)(id:Int):Option Nat:=((jmY es).find? fun x=>x.2.2==id).map Prod.fst
def vu(es:List En)(id:Int):Option Nat:=if 0<id then es.findIdx? fun e=>e.2==id else none
def WF(es:List En):Prop:=∀e∈es,(e.1.kind=3/\0<e.2)\/(e.1.kind≠3/\e.2=0)
theorem jgN:∀(k:Nat) (f:List En) (a:Int),WF f->0<a->((jbG k f).find? fun x=>x.2.2==a).map Prod.fst=(f.findIdx? fun e=>e.2==a).map (· + k)
 | k,[],a,_,_=>rfl
 | k,e::r,a,h,d=>by
  have g:=jgN (k+1) r a (fun y j=>h y (jn4 _ j)) d;have b:=h e jn5
  unfold VR;rw[List.findIdx?_cons];by_cases c:e.1.kind=3
  ·rw[if_pos c,jqh];cases i:e.2==a with
   | true=>simp
   | false =>
   simp only;rw[g];cases List.findIdx? (fun e=>e.2==a) r with
   | none=>rfl
   | some q=>simp;omega
  rw[if_neg c];have l:e.2=0:=by
   rcases b with b|b
   ·exact absurd b.1 c
   exact b.2
  have i:(e.2==a)=false:=by rw[l];exact beq_eq_false_iff_ne.2 (by omega)
  rw[g,i];cases List.findIdx? (fun e=>e.2==a) r with
  | none=>rfl
  | some q=>simp;omega
theorem Xt:∀(k:Nat) (f:List En) (a:Int),WF f->a<=0->((jbG k f).find? fun x=>x.2.2==a)=none
 | k,[],a,_,_=>rfl
 | k,e::r,a,h,c=>by
  have d:=Xt (k+1) r a (fun y g=>h y (jn4 _ g)) c;have b:=h e jn5
  unfold VR;split
  ·rename_i j;have l:0<e.2:=by
    rcases b with b|b
    ·exact b.2
    exact absurd j b.1
   have i:(e.2==a)=false:=beq_eq_false_iff_ne.2 (by omega);rw[jqh];simp only[i];exact d
  exact d
theorem jgP{es:List En}(h:WF es)(id:Int):jjb es id=vu es id:=by
 unfold jjb vu;split
 ·rename_i a;have:=jgN 0 es id h a
  rw[this];cases List.findIdx? (fun e=>e.2==id) es with
  | none=>rfl
  | some q=>rfl
 rename_i a;show Option.map _ ((jbG 0 es).find? _)=none
 rw[Xt 0 es id h (by omega)];rfl
def xp(es:List En):Nat:=(es.filter fun e=>decide (0<e.2)).length
theorem Kr:∀(k:Nat) (c:List En),WF c->(jbG k c).map Prod.snd=c.filter fun e=>decide (0<e.2)
 | k,[],_=>rfl
 | k,e::r,h=>by
  have d:=Kr (k+1) r (fun y f=>h y (jn4 _ f));unfold VR;rw[joP];rcases h e jn5 with ⟨a,b⟩|⟨a,b⟩
  ·rw[if_pos a,if_pos (by simpa using b),joy,d]
  rw[if_neg a,if_neg (by simp;omega),d]
theorem jiB{es:List En}(h:WF es):(jmY es).length=xp es:=by have:=congrArg List.length (Kr 0 es h);rw[joi]at this;exact this
def XP(es:List En)(k:Nat)(it:It):List En:=es.modify k fun e=>(it,e.2)
def GG(es:List En)(k:Nat):List En:=es.take k++es.drop (k+1)
def Ui(es:List En)(k:Nat)(e:En):List En:=es.take k++e::es.drop k
theorem WF.set{es:List En}(h:WF es)(k:Nat)(it:It)(g:it.kind=3)(e:En)(d:es[k]?=some e)(i:e.1.kind=3):WF (XP es k it):=by
 intro x hx;obtain⟨j,b⟩:=List.mem_iff_getElem?.1 hx;unfold XP at b;rw[jqb]at b;rcases a:es[j]? with _|y
 ·rw[a]at b;simp at b
 rw[a]at b;simp only[Option.map_eq_map,jqy,Option.some.injEq]at b;have f:=h y (jn7 a)
 by_cases c:k=j
 ·rw[if_pos c]at b;subst b;subst c;rw[d]at a;cases a;rcases h e (jn7 d) with q|q
  ·exact .inl ⟨g,q.2⟩
  exact absurd i q.1
 rw[if_neg c]at b;subst b;exact f
theorem WF.cut{es:List En}(h:WF es)(k:Nat):WF (GG es k):=by
 intro x hx;rcases List.mem_append.1 hx with q|q
 ·exact h x (joR q)
 exact h x (joJ q)
theorem WF.put{es:List En}(h:WF es)(k:Nat){e:En}(a:(e.1.kind=3/\0<e.2)):WF (Ui es k e):=by
 intro x hx;rcases List.mem_append.1 hx with q|q
 ·exact h x (joR q)
 rcases List.mem_cons.1 q with rfl|q
 ·exact .inl a
 exact h x (joJ q)
theorem jh6(es:List En)(k:Nat)(it:It):(XP es k it).length=es.length:=by unfold XP;simp
structure Did where
 ls:LS
 at_:Int
 bad:Nat
 id:Int
def zu(l:LS)(id:Int)(fs:List Fld):Did :=
 match vu l.es id with
 | none=>⟨l,-9,7,0⟩
 | some k=>if qA fs=0 then ⟨⟨XP l.es k (zx fs),l.next⟩,-9,0,0⟩ else ⟨l,vv fs,qA fs,0⟩
def zR(l:LS)(id:Int):Did :=
 match vu l.es id with
 | none=>⟨l,-9,7,0⟩
 | some k=>⟨⟨GG l.es k,l.next⟩,-9,0,0⟩
def jgC(es:List En)(behind:Int):Option Nat:=if behind=0 then some 0 else (vu es behind).map (· + 1)
def zh(l:LS)(behind:Int)(fs:List Fld):Did :=
 match jgC l.es behind with
 | none=>⟨l,-9,7,0⟩
 | some k=>if qA fs=0 then (if 400<=xp l.es then ⟨l,-9,11,0⟩ else ⟨⟨Ui l.es k (zx fs,l.next),l.next+1⟩,-9,0,l.next⟩) else ⟨l,vv fs,qA fs,0⟩
def vU(l:LS)(kind id:Int)(fs:List Fld):Did :=
 if kind=1 then zu l id fs else if kind=2 then zR l id else zh l id fs
theorem xx{es:List En}{id:Int}{k:Nat}(h:vu es id=some k):k<es.length/\∃e,es[k]?=some e/\e.2=id/\0<id:=by
 unfold vu at h;split at h
 ·rename_i c;obtain⟨a,b,_⟩:=List.findIdx?_eq_some_iff_getElem.1 h;exact⟨a,_,jnW a,by simpa using b,c⟩
 cases h
def zq:Int->List It->List En
 | _,[]=>[]
 | n,it::r=>if it.kind=3 then (it,n)::zq (n+1) r else (it,0)::zq n r
def jB:Int->List It->Int
 | n,[]=>n
 | n,it::r=>if it.kind=3 then jB (n+1) r else jB n r
def jQ(its:List It):LS:=⟨zq 1 its,jB 1 its⟩
theorem ZW:∀(n:Int) (l:List It) (b:It),zq n (l++[b])=zq n l++[(b,if b.kind=3 then jB n l else 0)]/\jB n (l++[b])=if b.kind=3 then jB n l+1 else jB n l
 | n,[],b=>by simp only[joL,zq,jB];split<;>simp
 | n,a::l,b=>by
  obtain⟨f,d⟩:=ZW (n+1) l b;obtain⟨e,c⟩:=ZW n l b;simp only[jog,zq,jB];split
  ·rw[f,d];exact⟨rfl,rfl⟩
  rw[e,c];exact⟨rfl,rfl⟩
theorem xv:∀(n:Int) (l:List It),(zq n l).length=l.length
 | n,[]=>rfl
 | n,a::l=>by
  unfold zq;split
  ·rw[jn1,xv];rfl
  rw[jn1,xv];rfl
theorem QR:∀(n:Int) (l:List It),(zq n l).map Prod.fst=l
 | n,[]=>rfl
 | n,a::l=>by
  unfold zq;split
  ·rw[joy,QR]
  rw[joy,QR]
theorem yP:∀(n:Int) (l:List It),n<=jB n l/\jB n l<=n+l.length
 | n,[]=>by simp[jB]
 | n,a::l=>by
  have c:=yP (n+1) l;have b:=yP n l
  unfold jB;rw[jn1];split<;>omega
theorem jb8:∀(n:Int) (l:List It),0<n->WF (zq n l)
 | n,[],_=>fun e h=>by cases h
 | n,a::l,d=>by
  unfold zq;split
  ·rename_i c;intro e b;rcases List.mem_cons.1 b with rfl|b
   ·exact .inl ⟨c,d⟩
   exact jb8 (n+1) l (by omega) e b
  rename_i c;intro e b;rcases List.mem_cons.1 b with rfl|b
  ·exact .inr ⟨c,rfl⟩
  exact jb8 n l d e b
end
section
variable {P:Program}
theorem Ys{d:Type}{g:Operand}{s:Array Tmp}{assign body:Code}{Q:Exit->Act->World->Prop}{a:Act}{w:World}
  {gf:Nat} {lb:Array Value} (y:a.eval g=.func (.func gf) #[] lb) (C:∀args w,(callFunc gf args).run P w=.ok (.enter gf args) w)
  {e:d->Array Value} {k:Nat} {xs:List d} {K:World->Prop} (n:jhI P gf lb e k xs K w) (u:∀x,(e x).size=s.size)
  (I:List d->World->Prop) (o:Code->List d->World->Prop) (D:zT w.heap.size (k+2) I) (r:∀c,zT w.heap.size 2 (o c)) (z:I [] w) (A:∀b W,I b W->K W)
  (M:Act->List d->d->Act->World->Prop) (hM:∀a b x q,zT w.heap.size 2 (fun(_:Unit) W=>M a b x q W))
  (f:∀(l:Nat) (b:List d) (x:d) (h:List d) (W:World),xs=b++x::h->w.heap.size+(k+2)<=W.heap.size->I b W ->
   assign.wpIn (Fence.wide.inRound l) 7 P (Yn w.heap.size (k+2) (M a b x) W) {tmps:=(s.zip (e x)).foldl (fun t (p,v)=>t.setIfInBounds p v) a.tmps,defers:=[]} W)
  (m:∀(l:Nat) (b:List d) (x:d) (h:List d) (q:Act) (W:World),xs=b++x::h->w.heap.size+(k+2)<=W.heap.size->M a b x q W ->
   body.wpIn (Fence.wide.inRound l) 7 P (left w.heap.size (k+2) I o (b++[x]) W) q W)
  (j:∀(W:World),I xs W->W.heap[w.heap.size]?=some (.deferred (some []))->Q .normal {a with defers:={target:=.collected w.heap.size,args:=#[]}::a.defers} W)
  (i:∀(c:Code) (b:List d) (W:World),b <+: xs->o c b W->W.heap[w.heap.size]?=some (.deferred (some []))->c.wpIn Fence.wide 9 P Q {a with defers:={target:=.collected w.heap.size,args:=#[]}::a.defers} W) :
  (Code.rangeFunc g s assign body).wpIn Fence.wide 9 P Q a w :=
 Kk y C n u I o D r z A (M a) (hM a) f m j i
end
end Go.Proofs.YtbapfpekklcicaaGreatDoor
