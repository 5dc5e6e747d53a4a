/- Texts put together:FO,TB,TC,FP,FQ,FR,TD,TE,TL,UA,UK,UB,UC,UD,UE,TG,TJ,UF,RI. -/
import Derived.Orders
import Derived.Test.YtmdhainabeljpaaGreatDoorBxr12
set_option linter.unusedVariables false
set_option maxRecDepth 100000
set_option maxHeartbeats 16000000
namespace Go.Proofs.YtmdhainabeljpaaGreatDoor
open Go.RowKit Go.Shelf
attribute [local go_sem] qL
theorem jeg(fs:List (List UInt8×List UInt8))(v:Value)(w:World)(hs:Wo w v fs)(hn:fs.length<=1000)(hl:∀f∈fs,f.1.length<=100000/\f.2.length<=100000):
  Calls Tryz.prog 90 #[v] w fun e w'=>e=.returned (.tuple #[.string (B (foldT fs)),Zy (foldN fs)])/\Below w.heap.size w w':=by
 obtain⟨A,cap,rfl,hle,hc⟩:=hs
 have PC:=jh5 hc
 clear hc
 have B0:=Bld.new w (w.heap.size+1)
 go_enter Tryz.func90,Tryz.ntmps90
 go_wp2_with fail
 go_loopw [13] (fun i wr=>∃k:Nat,k<=fs.length/\i=.int .i64 k/\foldN fs=foldN (fs.drop k)/\Bld w.heap.size (w.heap.size+1) (zo (fs.take k)) wr/\(zo (fs.take k)).length<=4000*k/\Below w.heap.size w wr) (fun i _=>fs.length-(intOf i).toNat)
 case atStart=>exact⟨0,jii _,rfl,rfl,B0,jh6 _,(jh8 _ _).alloc (jh6 _) _⟩
 case round =>
 obtain⟨k,hk,rfl,hN,hbl,hle4,hb⟩:=hrel
 by_cases hlt:k<fs.length
 ·obtain⟨f,hf⟩:∃f,fs[k]?=some f:=⟨_,jia hlt⟩
  obtain⟨b,off,rfl,hbb,c0,c1⟩:=PC.out k f hf
  replace c0:=(hb.cell (p:=⟨b,off+k*2,none⟩) hbb).trans c0
  replace c1:=(hb.cell (p:=⟨b,off+k*2+1,none⟩) hbb).trans c1
  obtain⟨hl1,hl2⟩:=hl f (jim hf)
  have hdrop:fs.drop k=f::fs.drop (k+1):=by
   rw[jiB hlt]
   rw[jia hlt]at hf
   rw[jh9 hf]
  have htake:fs.take (k+1)=fs.take k++[f]:=by rw[jiK,hf];rfl
  rw[hdrop]at hN
  have NH:=jh5 hN
  have TH:=jh5 htake
  have hs1:=hb.size
  have hbs:=hbl.lt
  have HB:=jh5 (hbl.alloc (.cells #[.string (B f.1),.string (B f.2)] 71))
  have hba:=hb.alloc hs1 (.cells #[.string (B f.1),.string (B f.2)] 71)
  by_cases hck:jR f.1 f.2=0
  ·have LG:=fun w=>jcc f.1 f.2 hl1 hl2 w hck
   clear hdrop htake hN hf
   unfold zi at LG
   go_wp2_with fail
   refine(LG _).mono ?_
   rintro e w2 ⟨sv,base,rfl,hown,b2⟩
   have hb2:=hba.trans (b2.mono (by simp;omega))
   have hbl2:=HB.out.kept b2 (jh6 _)
   have htl:=jbz hck
   have hm1:1<=(jO f.1 f.2).length:=by rw[Yy];omega
   have hm2:(jO f.1 f.2).length<=4000:=by rw[yW]at htl;omega
   have G1:Hid (zo (fs.take (k+1))=zo (fs.take k)++jr (jO f.1 f.2)):=by
    show _=_
    rw[TH.out,YD]
   have G2:Hid (foldN fs=foldN (fs.drop (k+1))):=by
    show _=_
    rw[NH.out];show(if jR f.1 f.2=0 then foldN (fs.drop (k+1)) else _)=_;rw[if_pos hck]
   clear HB b2 hba LG hbl hb c0 c1 TH NH hck
   obtain⟨g,cap',rfl⟩:=jjd hown (by simp;omega)
   rw[jiA]at hown ⊢
   generalize jO f.1 f.2=ls at *
   generalize zo (fs.take k)=pre at *
   go_wp2_with fail
   go_loopw [27] (fun i wq=>∃j:Nat,j<=ls.length/\i=.int .i64 j/\Bld w.heap.size (w.heap.size+1) (pre++jr (ls.take j)) wq/\wq.ownsRow base 9 1 (.slice (some ⟨g,0,none⟩) ls.length cap') ls.length ((ls.map B).map Value.string)/\Below w.heap.size w wq) (fun i _=>ls.length-(intOf i).toNat)
   case atStart=>exact⟨0,jii _,rfl,by simpa [jr]using hbl2,by simpa [qY]using hown,hb2⟩
   case round =>
   obtain⟨j,hj,rfl,hblj,hownj,hbj⟩:=hrel
   have hsj:=hbj.size
   by_cases hjl:j<ls.length
   ·obtain⟨x,hx⟩:∃x,ls[j]?=some x:=⟨_,jia hjl⟩
    have hcx:=hownj.cellAt j (by omega)
    rw[ji3,ji3,hx]at hcx
    simp only[Option.map_some]at hcx
    have T1:Hid (jr (ls.take (j+1))=(jr (ls.take j)++x)++[10]):=by
     show _=_
     rw[jiK,hx];exact Zg _ _
    have t1:=VY ls (j+1)
    rw[T1.out,jh7,jh7]at t1
    simp only[jiS]at t1
    have hlj:=hblj.lt
    clear hx
    go_wp2_with fail
    refine(ZF w.heap.size (w.heap.size+1) _ (B x) wr hblj (by omega) (by omega) (by rw[je,jh7];omega)).mono ?_
    rintro e w5 ⟨rfl,hbl5,hw5⟩
    obtain⟨cs,hcs⟩:=hblj.cells
    have hownS:qY wr base (.slice (some ⟨g,0,none⟩) ls.length cap') (ls.map B):=by unfold qY;rw[jiA];exact hownj
    have hown5:=hownS.wrote hw5 hcs
    have hb5:=hbj.trans (hw5.below (jh6 _) (by omega) hsj)
    rw[ji]at hbl5
    have hs5:=hb5.size
    have hl5:=hbl5.lt
    clear hw5 hownS hownj hblj hcs hbj hcx
    go_wp2_with fail
    refine(ZF w.heap.size (w.heap.size+1) _ ⟨#[10]⟩ w5 hbl5 (by omega) (by omega) (by simp only[jh7];show _+1<=_;omega)).mono ?_
    rintro e w6 ⟨rfl,hbl6,hw6⟩
    obtain⟨cs,hcs⟩:=hbl5.cells
    have hown6:=hown5.wrote hw6 hcs
    have hb6:=hb5.trans (hw6.below (jh6 _) (by omega) hs5)
    clear hw6 hown5 hbl5 hcs hb5
    go_wp2_with fail
    go_roundw
    case rel =>
     refine⟨j+1,hjl,by go_num,?_,?_,hb6⟩
     ·rw[T1.out,<- jip,<- jip];exact hbl6
     unfold qY at hown6;rw[jiA]at hown6;exact hown6
    case measure=>simp[intOf];omega
   obtain rfl:j=ls.length:=by omega
   rw[jiF]at hblj
   go_wp2_with fail
   go_roundw
   case rel =>
    refine⟨k+1,hlt,by go_num,G2.out,by rw[G1.out];exact hblj,?_,hbj⟩
    rw[G1.out,jh7];omega
   case measure=>simp[intOf];omega
  have LB:=fun w=>jcd f.1 f.2 hl1 hl2 w hck
  have hfn:foldN fs=jR f.1 f.2:=by rw[NH.out];unfold foldN;rw[if_neg hck]
  have hft:foldT fs=[]:=by unfold foldT;rw[hfn,if_neg hck]
  rw[zk _ (jjr hck)]at LB
  have hev:Zy (foldN fs)=.iface 43 (.int .i64 (jR f.1 f.2:Int)):=by rw[hfn,zk _ (jjr hck)]
  have FTH:=jh5 hft
  have FNH:=jh5 hev
  clear hdrop htake hN hf hfn hft NH hck hev
  generalize jR f.1 f.2=cn at *
  unfold zi at LB
  go_wp2_with fail
  refine(LB _).mono ?_
  rintro e w2 ⟨rfl,b2⟩
  have hb2:=hba.trans (b2.mono (by simp;omega))
  clear b2 LB
  go_wp2_with fail
  go_ret2
  exact⟨by rw[FNH.out,FTH.out];rfl,hb2⟩
 obtain rfl:k=fs.length:=by omega
 rw[jiF]at hbl
 rw[ji6]at hN
 have h0:foldN fs=0:=hN
 have hft:foldT fs=zo fs:=by unfold foldT;rw[if_pos h0]
 have FTH:=jh5 hft
 have FNH:=jh5 h0
 have hbs:=hbl.lt
 clear hN h0 hft PC hle4
 go_wp2_with fail
 refine(Tryz.Builder_String_any_k w.heap.size w.heap.size _ wr (hbl.library (jh6 _) (by omega)) (by omega)).mono ?_
 rintro e w5 ⟨rfl,_,b5,_⟩
 go_wp2_with fail
 go_ret2
 exact⟨by rw[FTH.out,FNH.out];rfl,hb.trans b5⟩
end Go.Proofs.YtmdhainabeljpaaGreatDoor
namespace Go.Proofs.YtmdhainabeljpaaGreatDoor
open Go.RowKit Go.Shelf
def yP:List Fld->Nat
 | []=>0
 | f::r=>if jR f.1 f.2=0 then yP r+1 else 0
def Ju(fs:List Fld):Nat:=if fs.length=0 then 2 else if 40<fs.length then 11 else foldN fs
def jgq(fs:List Fld):Prop:=fs.length=0\/40<fs.length\/foldN fs=0
instance (fs:List Fld):Decidable (jgq fs):=by unfold jgq;infer_instance
def Jo(fs:List Fld):Int:=if jgq fs then -9 else (yP fs:Nat)
def jbn(lo:Nat)(w:World)(u:Value)(fs:List Fld):Prop:=if jgq fs then u=Zy (Ju fs) else jz lo w u (yP fs) (foldN fs)
theorem jc1(fs:List Fld):Ju fs<=11:=by
 unfold Ju
 have:=GK fs
 split
 ·decide
 split
 ·decide
 omega
theorem Wd{fs:List Fld}(h:Ju fs=0):fs.length≠0/\fs.length<=40/\foldN fs=0:=by
 unfold Ju at h
 split at h
 ·cases h
 split at h
 ·cases h
 exact⟨by assumption,by omega,h⟩
attribute [local go_sem] qL
theorem jgn(fs:List Fld)(v:Value)(w:World)(hs:Wo w v fs)(hn:fs.length<=1000000)(hl:∀f∈fs,f.1.length<=1000000/\f.2.length<=1000000):
  Calls Tryz.prog 158 #[v] w fun e w'=>∃u,e=.returned u/\Below w.heap.size w w'/\jbn w.heap.size w' u fs:=by
 obtain⟨A,cap,rfl,hle,hc⟩:=hs
 have PC:=jh5 hc
 have HL:=jh5 hl
 clear hc hl
 by_cases h0:fs.length=0
 ·have FIN:Hid (∀W,jbn w.heap.size W (.iface 43 (.int .i64 2)) fs):=by
   intro W
   unfold jbn;rw[if_pos (.inl h0)];unfold Ju;rw[if_pos h0];rfl
  rw[h0]
  go_enter Tryz.func158,Tryz.ntmps158
  go_wp2_with fail
  go_ret
  exact⟨_,rfl,jh8 _ _,FIN.out _⟩
 by_cases h40:40<fs.length
 ·have FIN:Hid (∀W,jbn w.heap.size W (.iface 43 (.int .i64 11)) fs):=by
   intro W
   unfold jbn;rw[if_pos (.inr (.inl h40))];unfold Ju;rw[if_neg h0,if_pos h40];rfl
  have c0:((fs.length:Int)==0)=false:=by simp;intro h;exact h0 (by rw[h];rfl)
  go_enter Tryz.func158,Tryz.ntmps158
  go_wp2_with fail
  go_ret
  exact⟨_,rfl,jh8 _ _,FIN.out _⟩
 have FINZ:Hid (∀W,foldN fs=0->jbn w.heap.size W .nilIface fs):=by
  intro W hz
  unfold jbn;rw[if_pos (.inr (.inr hz))];unfold Ju;rw[if_neg h0,if_neg h40,hz];rfl
 have FINB:Hid (∀(W:World) (k n:Nat),w.heap.size<=W.heap.size->foldN fs=n->n≠0->yP fs=k->jbn w.heap.size (W.alloc (.cells #[.int .i64 (k:Nat),.iface 43 (.int .i64 (n:Nat))] 56)) (.iface 54 (.pointer (some ⟨W.heap.size,0,none⟩))) fs):=by
  intro W k n hW hf hnz hk
  unfold jbn
  rw[if_neg (by unfold jgq;rintro(h | h | h)<;>omega),hf,hk,<- zk n (by omega)]
  exact jz.new W k n _ _ rfl hW
 have c0:((fs.length:Int)==0)=false:=by simp;intro h;exact h0 (by rw[h];rfl)
 go_enter Tryz.func158,Tryz.ntmps158
 go_wp2_with fail
 go_loopw [18] (fun i wr=>∃k:Nat,k<=fs.length/\i=.int .i64 k/\foldN fs=foldN (fs.drop k)/\yP fs=yP (fs.drop k)+k/\Below w.heap.size w wr) (fun i _=>fs.length-(intOf i).toNat)
 case atStart=>exact⟨0,jii _,rfl,rfl,rfl,jh8 _ _⟩
 case round =>
 obtain⟨k,hk,rfl,hN,hA,hb⟩:=hrel
 by_cases hlt:k<fs.length
 ·obtain⟨f,hf⟩:∃f,fs[k]?=some f:=⟨_,jia hlt⟩
  obtain⟨b,off,rfl,hbb,c0',c1⟩:=PC.out k f hf
  replace c0':=(hb.cell (p:=⟨b,off+k*2,none⟩) hbb).trans c0'
  replace c1:=(hb.cell (p:=⟨b,off+k*2+1,none⟩) hbb).trans c1
  obtain⟨hl1,hl2⟩:=HL.out f (jim hf)
  have hdrop:fs.drop k=f::fs.drop (k+1):=by
   rw[jiB hlt]
   rw[jia hlt]at hf
   rw[jh9 hf]
  have hs1:=hb.size
  have hba:=hb.alloc hs1 (.cells #[.string (B f.1),.string (B f.2)] 71)
  have hza:(wr.alloc (.cells #[.string (B f.1),.string (B f.2)] 71)).heap.size=wr.heap.size+1:=by simp
  have CK:=fun W=>JV f.1 f.2 hl1 hl2 W
  unfold zi at CK
  rw[hdrop]at hN hA
  by_cases hck:jR f.1 f.2=0
  ·have G1:Hid (foldN fs=foldN (fs.drop (k+1))):=by
    show _=_
    rw[hN];show(if jR f.1 f.2=0 then foldN (fs.drop (k+1)) else _)=_;rw[if_pos hck]
   have G2:Hid (yP fs=yP (fs.drop (k+1))+(k+1)):=by
    show _=_
    rw[hA];show(if jR f.1 f.2=0 then yP (fs.drop (k+1))+1 else _)+k=_;rw[if_pos hck];omega
   rw[hck]at CK
   clear hdrop hN hA hf hck FINB FINZ PC HL
   go_wp2_with fail
   refine(CK _).mono ?_
   rintro e w2 ⟨rfl,b2⟩
   have hb2:=hba.trans (b2.mono (by omega))
   clear b2 CK
   go_wp2_with fail
   go_roundw
   case rel=>exact⟨k+1,hlt,by go_num,G1.out,G2.out,hb2⟩
   case measure=>simp[intOf];omega
  have hfn:foldN fs=jR f.1 f.2:=by rw[hN];unfold foldN;rw[if_neg hck]
  have hbn:yP fs=k:=by rw[hA];unfold yP;rw[if_neg hck];omega
  have FIN:=jh5 (fun W hW=>FINB.out W k (jR f.1 f.2) hW hfn hck hbn)
  rw[zk _ (jjr hck)]at CK
  clear hdrop hN hA hf hck FINB FINZ PC HL hfn hbn
  generalize jR f.1 f.2=cn at *
  go_wp2_with fail
  refine(CK _).mono ?_
  rintro e w2 ⟨rfl,b2⟩
  have hb2:=hba.trans (b2.mono (by omega))
  have hz2:=hb2.size
  clear b2 CK
  go_wp2_with fail
  go_ret
  exact⟨_,rfl,hb2.alloc hz2 _,FIN.out w2 hz2⟩
 obtain rfl:k=fs.length:=by omega
 rw[ji6]at hN
 have F0:=jh5 (fun W=>FINZ.out W hN)
 clear hN hA FINB FINZ PC HL
 go_wp2_with fail
 go_ret
 exact⟨_,rfl,hb,F0.out _⟩
end Go.Proofs.YtmdhainabeljpaaGreatDoor
namespace Go.Proofs.YtmdhainabeljpaaGreatDoor
open Go.RowKit Go.Shelf
theorem qY.grow{w5:World}{base g' cap':Nat}{ls:List ByteArray}{y:ByteArray}{n:Nat}(h:w5.ownsRow base 9 1 (.slice (some ⟨g',0,none⟩) (n+1) cap') (n+1) (ls.map Value.string++[Value.string y]))(hl:ls.length=n):qY w5 base (.slice (some ⟨g',0,none⟩) (n+1) cap') (ls++[y]):=by
 unfold qY
 rw[jh7,ji1,hl];exact h
theorem qY.form{w:World}{base:Nat}{v:Value}{ls:List ByteArray}(h:qY w base v ls)(hn:0<ls.length):∃g cap,v=.slice (some ⟨g,0,none⟩) ls.length cap/\base<=g/\g<w.heap.size:=by
 obtain⟨g,cap,e⟩:=jjd h hn
 have:=jje h g (by rw[e];rfl)
 exact⟨g,cap,e,this⟩
theorem qY.cell{w:World}{base g cap n:Nat}{ls:List ByteArray}(h:qY w base (.slice (some ⟨g,0,none⟩) n cap) ls)(hn:ls.length=n)(j:Nat)(x:ByteArray)(hx:ls[j]?=some x):w.cell? ⟨g,j,none⟩=some (.string x):=by
 subst hn
 have hj:j<ls.length:=by
  rcases jir j ls.length with q|q
  ·exact q
  rw[jis q]at hx;cases hx
 rw[jin h j (by omega),ji3,hx];rfl
theorem Kg(l:List UInt8)(hl:l.length<=1000000)(w:World):
  Calls Tryz.prog 165 #[.string (B l)] w fun e w'=>∃v,e=.returned v/\qY w' w.heap.size v ((jp l).map B)/\Below w.heap.size w w':=by
 obtain⟨i0,hi,hz0,hz1,hz2⟩:=info_parts QZ
 have hsz:=je l
 have hd:=ji l
 generalize B l=s at *
 have HD:=jh5 hd
 go_enter Tryz.func165,Tryz.ntmps165
 go_wp2_with fail
 go_loopw [3,4] (fun v i wr=>∃k:Nat,k<=s.size/\i=.int .i64 k/\qY wr w.heap.size v ((jp (l.take k)).map B)/\(jp (l.take k)).length<=k+1/\Below w.heap.size w wr) (fun _ i _=>s.size-(intOf i).toNat)
 case atStart=>exact⟨0,jii _,rfl,qY.one w _ (jh6 _) _,by simp[jp],(jh8 _ _).alloc (jh6 _) _⟩
 case round =>
 obtain⟨k,hk,rfl,hown,hlen,hb⟩:=hrel
 by_cases hlt:k<s.size
 ·have e:l[k]?=some s[k]:=by
   rw[<- HD.out,jia (by rw[<- jij];exact hlt)];rfl
  have htk:l.take (k+1)=l.take k++[s[k]]:=by rw[jiK,e];rfl
  have hex:s.extract k (k+1)=B [s[k]]:=by
   rw[<- jbh (s.extract k (k+1)),ji7,HD.out]
   congr 1
   rw[show k+1-k=1 by omega]
   have:(l.drop k)[0]?=some s[k]:=by rw[jiZ];exact e
   cases hdl:l.drop k with
   | nil=>rw[hdl]at this;simp at this
   | cons a b=>rw[hdl]at this;simp at this;subst this;rfl
  have q2:=zV (c:=s[k]) (d:=10) 10 rfl
  have hs3:=hb.size
  have hn0:0<((jp (l.take k)).map B).length:=by rw[jiA];exact List.length_pos_iff.2 (Kp _)
  cases h5:(s[k]==10) with
  | true =>
   rw[h5]at q2
   have h10:s[k]=10:=by simpa using h5
   have T1:Hid ((jp (l.take (k+1))).map B=(jp (l.take k)).map B++[⟨#[]⟩]):=by
    show _=_
    rw[htk,h10,yb,ji1];rfl
   have T2:Hid ((jp (l.take (k+1))).length=((jp (l.take k)).map B).length+1):=by
    show _=_
    rw[htk,h10,yb,jh7,jiA];rfl
   rw[<- jiA (f:=B)]at hlen
   clear htk hex h10 e h5 hd
   generalize (jp (l.take k)).map B=ls at *
   obtain⟨g,cap,rfl,hg1,hg2⟩:=hown.form hn0
   have HC:=jh5 (yy wr ⟨#[]⟩ 9)
   have hown4:wr.ownsRow w.heap.size 9 1 (.slice (some ⟨g,0,none⟩) ls.length cap) ls.length (ls.map Value.string):=hown
   obtain⟨n,hn⟩:∃n,ls.length=n:=⟨_,rfl⟩
   rw[hn]at hown4 hlen hn0
   have HN:=jh5 hn
   simp only[hn]
   clear hown hn
   go_wp2_with (at_builtin;refine wpList_append_own _ rfl _ _ 77 rfl w.heap.size 9 i0 _ 1 16 Tryz.underlying77 hi hz0 hz1 hz2 rfl (by decide) _ _ _ rfl (hown4.alloc _) ⟨wr.heap.size,0,none⟩ 1 1 _ rfl rfl HC.out ?c2 ?c3 ?c4 ?c5 ?_)
   case c2=>intro u hu;simp at hu;subst hu;rfl
   case c3=>unfold maxLen;omega
   case c4=>omega
   case c5=>simp;omega
   intro v' w5 hown' hgrow _
   obtain⟨g',cap',rfl⟩:=ownsRow_succ hown'
   have hb5:Below w.heap.size w w5:=(hb.alloc (by omega) _).grown hgrow (by simp;omega) (fun j ej=>(hown4.lt j ej).1)
   have hown6:=qY.grow (ls:=ls) (y:=⟨#[]⟩) hown' HN.out
   rw[<- T1.out]at hown6
   go_wp2_with fail
   go_roundw
   case rel=>exact⟨k+1,hlt,by go_num,hown6,by rw[T2.out,HN.out];omega,hb5⟩
   case measure=>simp[intOf];omega
  | false =>
  rw[h5]at q2
  have h10:s[k]≠10:=by simpa using h5
  obtain⟨pre,p,p1,p2⟩:=QM (l.take k) s[k] h10
  have hm:((jp (l.take k)).map B).length=pre.length+1:=by rw[p1];simp
  rw[p1,jh7]at hlen
  simp only[jiS]at hlen
  obtain⟨g,cap,rfl,hg1,hg2⟩:=hown.form hn0
  rw[hm]at hown ⊢
  have hcell:=hown.cell hm pre.length (B p) (by rw[p1,ji1,jiD (by simp)];simp)
  have hown4:wr.ownsRow w.heap.size 9 1 (.slice (some ⟨g,0,none⟩) (pre.length+1) cap) (pre.length+1) ((pre.map B).map Value.string++[.string (B p)]):=by
   have:=hown
   unfold qY at this
   rw[hm,p1]at this
   simpa using this
  have hfz:=hown4.frozenAt pre.length
  have hst:=hown4.stored pre.length (.string (B p++B [s[k]]))
  rw[List.set_append_right _ _ (by simp)]at hst
  simp only[jiA,Nat.sub_self,jiU,jj]at hst
  have T1:Hid ((jp (l.take (k+1))).map B=pre.map B++[B (p++[s[k]])]):=by
   show _=_
   rw[htk,p2,ji1];rfl
  have T2:Hid ((jp (l.take (k+1))).length=pre.length+1):=by
   show _=_
   rw[htk,p2,jh7];rfl
  obtain⟨hst1,hst2⟩:=hst
  have hown6:=qY.grow (ls:=pre.map B) (y:=B (p++[s[k]])) hst1 (by simp)
  rw[<- T1.out]at hown6
  have hb6:=hb.setCell (p:=⟨g,pre.length,none⟩) hg1 (.string (B (p++[s[k]])))
  have HB1:=jh5 hown6
  have HB2:=jh5 hb6
  have hpre:pre.length<=1000000:=by omega
  have hwr:IntKind.i64.wrap (pre.length:Int)=pre.length:=jiz _ (by omega)
  have hlt2:(pre.length:Int)<(pre.length:Int)+1:=by omega
  have hwk:IntKind.i64.wrap ((k:Int)+1)=(k:Int)+1:=jiz _ (by omega)
  have hk1:(k:Int)+1<=(l.length:Int):=by omega
  have hk2:(k:Int)<=(k:Int)+1:=by omega
  have hk3:(k:Int)+1<=(s.size:Int):=by omega
  have hba:=jj p [s[k]]
  have z1:=je p
  have z2:=je [s[k]]
  have hpl:p.length<=1000000:=by
   have:=(Qk (l.take k));rw[p1]at this;simp at this;omega
  simp only[jiS]at z2
  rw[<- hex]at hba z2
  clear hown hown4 hst1 hst2 hown6 hb6 p1 p2 htk e hd hm h10 hex
  have hcat:¬9223372036854775807<p.length+1:=by omega
  generalize B (p++[s[k]])=np at *
  generalize B p=bp at *
  go_wp2_with fail
  refine wp_region_still_tail 17 (by kernel_rfl) (by kernel_rfl) ?_
  simp only[jj9,List.take_zero,List.drop_succ_cons,jjl]
  repeat still_step
  refine wpStill_nil ?_
  change wpList _ _ _ _ _ wr.drew
  go_wp2_with fail
  go_roundw
  case rel=>exact⟨k+1,hlt,by go_num,HB1.out,by rw[T2.out];omega,HB2.out.drew⟩
  case measure=>simp[intOf];omega
 obtain rfl:k=s.size:=by omega
 rw[jiC (by omega)]at hown
 go_wp2_with fail
 go_ret
 exact⟨_,rfl,hown,hb⟩
theorem YA{l:List UInt8}(h:(10:UInt8)∉l):(jk l=1↔jI l=true):=by
 unfold jk
 rw[Xt h,if_neg (by decide)]
 cases hb:jI l with
 | true=>simp
 | false =>
 rw[if_neg (by decide)]
 constructor
 ·intro h
  split at h
  ·cases h
  split at h
  ·cases h
  split at h<;>cases h
 intro h;cases h
theorem Kj(k v:List UInt8)(hk:k.length<=100000)(hv:v.length<=100000)(w:World):
  Calls Tryz.prog 132 #[zi k v] w fun e w'=>∃sv base,e=.returned sv/\qY w' base sv ((jO k v).map B)/\Below w.heap.size w w':=by
 obtain⟨i0,hi,hz0,hz1,hz2⟩:=info_parts QZ
 have PA:=fun w=>Kg v (by omega) w
 obtain⟨p,r,hp⟩:∃p r,jp v=p::r:=⟨_,_,jU v⟩
 rw[hp]at PA
 obtain⟨z1,z2,z3⟩:=Gp hp
 have hcl:∀q∈p::r,(10:UInt8)∉q:=by rw[<- hp];exact vS v
 have HL:=jh5 (Gw (k:=k) hp)
 clear hp
 unfold zi
 have hzk:=je k
 have h1:(B k ++ ⟨#[58]⟩)=B (k++[58]):=jj k [58]
 have h2:(B (k++[58]) ++ ⟨#[32]⟩)=B ((k++[58])++[32]):=jj _ [32]
 have h3:(B ((k++[58])++[32])++B p)=B (((k++[58])++[32])++p):=jj _ p
 have y1:(B (k++[58])).size=k.length+1:=by rw[je];simp
 have y2:(B ((k++[58])++[32])).size=k.length+2:=by rw[je];simp
 have hzp:=je p
 have hfl1:p=[]->B (zE k p)=B (k++[58]):=fun h=>by unfold zE;rw[if_pos h]
 have hfl2:p≠[]->B (zE k p)=B (((k++[58])++[32])++p):=fun h=>by unfold zE;rw[if_neg h];simp
 go_enter Tryz.func132,Tryz.ntmps132
 go_wp2_with fail
 refine(PA _).mono ?_
 rintro e w1 ⟨v1,rfl,hown,b1⟩
 obtain⟨g,cap,rfl,hg1,hg2⟩:=hown.form (by simp)
 have c0:=b1.cell (p:=⟨w.heap.size,0,none⟩) (by simp)
 have hb1:Below w.heap.size w w1:=((jh8 _ _).alloc (jh6 _) _).trans (b1.mono (by simp))
 have PC:∀(j:Nat) x,(p::r)[j]?=some x->w1.cell? ⟨g,j,none⟩=some (.string (B x)):=fun j x hx=>hown.cell rfl j (B x) (by rw[ji3,hx];rfl)
 have e0:=PC 0 p rfl
 simp only[jiA,jic]
 simp only[jjk _ _ _ _ rfl]at c0
 have PCH:=jh5 (fun(j:Nat) x (hx:r[j]?=some x)=>PC (j+1) x (by simpa using hx))
 have hcl2:=jh5 (fun q hq=>hcl q (jif _ hq))
 have BW:=jh5 hb1
 replace c0:w1.cell? ⟨w.heap.size,0,none⟩=some (.string (B k)):=c0
 have hw1:=hb1.size
 clear PC PA b1 hown hg1 hcl hb1
 generalize hfl:B (zE k p)=FL at *
 have HFL:Hid (((jO k v).map B)=FL::(r.map jl).map B):=by
  show _=_
  rw[HL.out,jiP,hfl]
 clear hfl HL
 have hpp:(p=[]/\FL=B (k++[58]))\/(p≠[]/\FL=B (((k++[58])++[32])++p)):=by
  by_cases hpe:p=[]
  ·exact .inl ⟨hpe,hfl1 hpe⟩
  exact .inr ⟨hpe,hfl2 hpe⟩
 clear hfl1 hfl2
 rcases hpp with ⟨hpe,hf⟩|⟨hpe,hf⟩
 ·subst hpe
  rw[show B []=⟨#[]⟩ from rfl]at *
  rw[<- hf]at h1
  clear hf h2 h3 y1 y2 hzp z1
  generalize B k=K at *
  go_wp2_with fail
  go_loopw [5,6] (fun v5 i wr=>∃n:Nat,n<=r.length/\i=.int .i64 ((n:Int)+1)/\qY wr w1.heap.size v5 (FL::((r.take n).map jl).map B)/\Below w1.heap.size w1 wr) (fun _ i _=>r.length+1-(intOf i).toNat)
  case atStart=>exact⟨0,jii _,rfl,qY.one w1 _ (jh6 _) _,(jh8 _ _).alloc (jh6 _) _⟩
  case round =>
  obtain⟨n,hn,rfl,hown,hb⟩:=hrel
  by_cases hlt:n<r.length
  ·obtain⟨x,hx⟩:∃x,r[n]?=some x:=⟨_,jia hlt⟩
   have hcx:=(hb.cell (p:=⟨g,n+1,none⟩) hg2).trans (PCH.out n x hx)
   have hxm:=jim hx
   have hxl:=z2 x hxm
   have hxc:=hcl2.out x hxm
   have hxz:=je x
   have RK:=fun w=>zL (B x) (by omega) w
   rw[ji]at RK
   have TK:Hid (FL::((r.take (n+1)).map jl).map B=(FL::((r.take n).map jl).map B)++[B (jl x)]):=by
    show _=_
    rw[jiK,hx];simp
   have HLL:Hid ((FL::((r.take n).map jl).map B).length=n+1):=by
    show _=_
    simp;omega
   have hs3:=hb.size
   have kc:=YA hxc
   cases hbl:jI x with
   | true =>
    have hk1:=kc.2 hbl
    have hfx:⟨#[32,46]⟩++B x=B (jl x):=by unfold jl vX;rw[hbl];exact jj [32,46] x
    rw[hk1]at RK
    clear hx hk1 kc hbl hxc hxm
    generalize (FL::((r.take n).map jl).map B)=ls at *
    generalize B (jl x)=Y at *
    generalize B x=X at *
    go_wp2_with fail
    refine(RK _).mono ?_
    rintro e w4 ⟨rfl,b4⟩
    have hcx4:=(b4.cell (p:=⟨g,n+1,none⟩) (jih hg2 hs3)).trans hcx
    have hown4:w4.ownsRow w1.heap.size 9 1 u5 (n+1) (ls.map Value.string):=by rw[<- HLL.out];exact hown.kept b4 (jh6 _)
    have hs4:=b4.size
    have HC:=jh5 (yy w4 Y 9)
    have hb4:Below w1.heap.size w1 w4:=hb.trans (b4.mono hs3)
    clear hown b4 hcx
    go_wp2_with (at_builtin;refine wpList_append_own _ rfl _ _ 77 rfl w1.heap.size 9 i0 _ 1 16 Tryz.underlying77 hi hz0 hz1 hz2 rfl (by decide) _ _ _ rfl (hown4.alloc _) ⟨w4.heap.size,0,none⟩ 1 1 _ rfl rfl HC.out ?c2 ?c3 ?c4 ?c5 ?_)
    case c2=>intro u hu;simp at hu;subst hu;rfl
    case c3=>unfold maxLen;omega
    case c4=>omega
    case c5=>simp;omega
    intro v' w5 hown' hgrow _
    obtain⟨g',cap',rfl⟩:=ownsRow_succ hown'
    have hb5:Below w1.heap.size w1 w5:=(hb4.alloc (by omega) _).grown hgrow (by simp;omega) (fun j ej=>(hown4.lt j ej).1)
    have hown6:=qY.grow (ls:=ls) (y:=Y) hown' HLL.out
    rw[<- TK.out]at hown6
    go_wp2_with fail
    go_roundw
    case rel=>exact⟨n+1,hlt,by go_num,hown6,hb5⟩
    case measure=>simp[intOf];omega
   | false =>
   have hk1:jk x≠1:=fun e=>by rw[kc.1 e]at hbl;cases hbl
   obtain⟨c,t,rfl⟩:=yf hbl
   have hki:((jk (c::t):Int)==1)=false:=by rw[beq_eq_false_iff_ne];omega
   have q2:=zV (c:=c) (d:=46) 46 rfl
   have hXc:∀h:0<(B (c::t)).size,(B (c::t))[0]'h=c:=fun _=>rfl
   have hxz2:(B (c::t)).size=t.length+1:=hxz
   have htl:t.length<=1000000:=by simp only[jic]at hxl;omega
   have hxp:0<(B (c::t)).size:=by omega
   clear hxz
   by_cases hc:c=46
   ·have hfx:⟨#[32,46]⟩++B (c::t)=B (jl (c::t)):=by unfold jl vX;rw[hc];simp;exact jj [32,46] (46::t)
    have hcb:(c==46)=true:=by simp[hc]
    rw[hcb]at q2
    clear hx hk1 kc hbl hxc hxm hc
    generalize (FL::((r.take n).map jl).map B)=ls at *
    generalize jk (c::t)=kx at *
    generalize B (jl (c::t))=Y at *
    generalize B (c::t)=X at *
    go_wp2_with fail
    refine(RK _).mono ?_
    rintro e w4 ⟨rfl,b4⟩
    have hcx4:=(b4.cell (p:=⟨g,n+1,none⟩) (jih hg2 hs3)).trans hcx
    have hown4:w4.ownsRow w1.heap.size 9 1 u5 (n+1) (ls.map Value.string):=by rw[<- HLL.out];exact hown.kept b4 (jh6 _)
    have hs4:=b4.size
    have HC:=jh5 (yy w4 Y 9)
    have hb4:Below w1.heap.size w1 w4:=hb.trans (b4.mono hs3)
    clear hown b4 hcx
    go_wp2_with (at_builtin;refine wpList_append_own _ rfl _ _ 77 rfl w1.heap.size 9 i0 _ 1 16 Tryz.underlying77 hi hz0 hz1 hz2 rfl (by decide) _ _ _ rfl (hown4.alloc _) ⟨w4.heap.size,0,none⟩ 1 1 _ rfl rfl HC.out ?c2 ?c3 ?c4 ?c5 ?_)
    case c2=>intro u hu;simp at hu;subst hu;rfl
    case c3=>unfold maxLen;omega
    case c4=>omega
    case c5=>simp;omega
    intro v' w5 hown' hgrow _
    obtain⟨g',cap',rfl⟩:=ownsRow_succ hown'
    have hb5:Below w1.heap.size w1 w5:=(hb4.alloc (by omega) _).grown hgrow (by simp;omega) (fun j ej=>(hown4.lt j ej).1)
    have hown6:=qY.grow (ls:=ls) (y:=Y) hown' HLL.out
    rw[<- TK.out]at hown6
    go_wp2_with fail
    go_roundw
    case rel=>exact⟨n+1,hlt,by go_num,hown6,hb5⟩
    case measure=>simp[intOf];omega
   have hfx:⟨#[32]⟩++B (c::t)=B (jl (c::t)):=by unfold jl vX;rw[hbl];simp[hc];exact jj [32] (c::t)
   have hcb:(c==46)=false:=by simp[hc]
   rw[hcb]at q2
   clear hx hk1 kc hbl hxc hxm hc
   generalize (FL::((r.take n).map jl).map B)=ls at *
   generalize jk (c::t)=kx at *
   generalize B (jl (c::t))=Y at *
   generalize B (c::t)=X at *
   go_wp2_with fail
   refine(RK _).mono ?_
   rintro e w4 ⟨rfl,b4⟩
   have hcx4:=(b4.cell (p:=⟨g,n+1,none⟩) (jih hg2 hs3)).trans hcx
   have hown4:w4.ownsRow w1.heap.size 9 1 u5 (n+1) (ls.map Value.string):=by rw[<- HLL.out];exact hown.kept b4 (jh6 _)
   have hs4:=b4.size
   have HC:=jh5 (yy w4 Y 9)
   have hb4:Below w1.heap.size w1 w4:=hb.trans (b4.mono hs3)
   clear hown b4 hcx
   go_wp2_with (at_builtin;refine wpList_append_own _ rfl _ _ 77 rfl w1.heap.size 9 i0 _ 1 16 Tryz.underlying77 hi hz0 hz1 hz2 rfl (by decide) _ _ _ rfl (hown4.alloc _) ⟨w4.heap.size,0,none⟩ 1 1 _ rfl rfl HC.out ?c2 ?c3 ?c4 ?c5 ?_)
   case c2=>intro u hu;simp at hu;subst hu;rfl
   case c3=>unfold maxLen;omega
   case c4=>omega
   case c5=>simp;omega
   intro v' w5 hown' hgrow _
   obtain⟨g',cap',rfl⟩:=ownsRow_succ hown'
   have hb5:Below w1.heap.size w1 w5:=(hb4.alloc (by omega) _).grown hgrow (by simp;omega) (fun j ej=>(hown4.lt j ej).1)
   have hown6:=qY.grow (ls:=ls) (y:=Y) hown' HLL.out
   rw[<- TK.out]at hown6
   go_wp2_with fail
   go_roundw
   case rel=>exact⟨n+1,hlt,by go_num,hown6,hb5⟩
   case measure=>simp[intOf];omega
  obtain rfl:n=r.length:=by omega
  rw[jiF]at hown
  go_wp2_with fail
  go_ret
  exact⟨_,_,rfl,by rw[HFL.out];exact hown,BW.out.trans (hb.mono hw1)⟩
 obtain⟨n1,n2⟩:=jdk hpe
 rw[<- hf]at h3
 clear hf hpe
 generalize B k=K at *
 generalize B (k++[58])=K1 at *
 generalize B ((k++[58])++[32])=K2 at *
 generalize B p=P at *
 go_wp2_with fail
 clear h1 h2 h3 y1 y2 hzp n1 n2
 go_loopw [5,6] (fun v5 i wr=>∃n:Nat,n<=r.length/\i=.int .i64 ((n:Int)+1)/\qY wr w1.heap.size v5 (FL::((r.take n).map jl).map B)/\Below w1.heap.size w1 wr) (fun _ i _=>r.length+1-(intOf i).toNat)
 case atStart=>exact⟨0,jii _,rfl,qY.one w1 _ (jh6 _) _,(jh8 _ _).alloc (jh6 _) _⟩
 case round =>
 obtain⟨n,hn,rfl,hown,hb⟩:=hrel
 by_cases hlt:n<r.length
 ·obtain⟨x,hx⟩:∃x,r[n]?=some x:=⟨_,jia hlt⟩
  have hcx:=(hb.cell (p:=⟨g,n+1,none⟩) hg2).trans (PCH.out n x hx)
  have hxm:=jim hx
  have hxl:=z2 x hxm
  have hxc:=hcl2.out x hxm
  have hxz:=je x
  have RK:=fun w=>zL (B x) (by omega) w
  rw[ji]at RK
  have TK:Hid (FL::((r.take (n+1)).map jl).map B=(FL::((r.take n).map jl).map B)++[B (jl x)]):=by
   show _=_
   rw[jiK,hx];simp
  have HLL:Hid ((FL::((r.take n).map jl).map B).length=n+1):=by
   show _=_
   simp;omega
  have hs3:=hb.size
  have kc:=YA hxc
  cases hbl:jI x with
  | true =>
   have hk1:=kc.2 hbl
   have hfx:⟨#[32,46]⟩++B x=B (jl x):=by unfold jl vX;rw[hbl];exact jj [32,46] x
   rw[hk1]at RK
   clear hx hk1 kc hbl hxc hxm
   generalize (FL::((r.take n).map jl).map B)=ls at *
   generalize B (jl x)=Y at *
   generalize B x=X at *
   go_wp2_with fail
   refine(RK _).mono ?_
   rintro e w4 ⟨rfl,b4⟩
   have hcx4:=(b4.cell (p:=⟨g,n+1,none⟩) (jih hg2 hs3)).trans hcx
   have hown4:w4.ownsRow w1.heap.size 9 1 u5 (n+1) (ls.map Value.string):=by rw[<- HLL.out];exact hown.kept b4 (jh6 _)
   have hs4:=b4.size
   have HC:=jh5 (yy w4 Y 9)
   have hb4:Below w1.heap.size w1 w4:=hb.trans (b4.mono hs3)
   clear hown b4 hcx
   go_wp2_with (at_builtin;refine wpList_append_own _ rfl _ _ 77 rfl w1.heap.size 9 i0 _ 1 16 Tryz.underlying77 hi hz0 hz1 hz2 rfl (by decide) _ _ _ rfl (hown4.alloc _) ⟨w4.heap.size,0,none⟩ 1 1 _ rfl rfl HC.out ?c2 ?c3 ?c4 ?c5 ?_)
   case c2=>intro u hu;simp at hu;subst hu;rfl
   case c3=>unfold maxLen;omega
   case c4=>omega
   case c5=>simp;omega
   intro v' w5 hown' hgrow _
   obtain⟨g',cap',rfl⟩:=ownsRow_succ hown'
   have hb5:Below w1.heap.size w1 w5:=(hb4.alloc (by omega) _).grown hgrow (by simp;omega) (fun j ej=>(hown4.lt j ej).1)
   have hown6:=qY.grow (ls:=ls) (y:=Y) hown' HLL.out
   rw[<- TK.out]at hown6
   go_wp2_with fail
   go_roundw
   case rel=>exact⟨n+1,hlt,by go_num,hown6,hb5⟩
   case measure=>simp[intOf];omega
  | false =>
  have hk1:jk x≠1:=fun e=>by rw[kc.1 e]at hbl;cases hbl
  obtain⟨c,t,rfl⟩:=yf hbl
  have hki:((jk (c::t):Int)==1)=false:=by rw[beq_eq_false_iff_ne];omega
  have q2:=zV (c:=c) (d:=46) 46 rfl
  have hXc:∀h:0<(B (c::t)).size,(B (c::t))[0]'h=c:=fun _=>rfl
  have hxz2:(B (c::t)).size=t.length+1:=hxz
  have htl:t.length<=1000000:=by simp only[jic]at hxl;omega
  have hxp:0<(B (c::t)).size:=by omega
  clear hxz
  by_cases hc:c=46
  ·have hfx:⟨#[32,46]⟩++B (c::t)=B (jl (c::t)):=by unfold jl vX;rw[hc];simp;exact jj [32,46] (46::t)
   have hcb:(c==46)=true:=by simp[hc]
   rw[hcb]at q2
   clear hx hk1 kc hbl hxc hxm hc
   generalize (FL::((r.take n).map jl).map B)=ls at *
   generalize jk (c::t)=kx at *
   generalize B (jl (c::t))=Y at *
   generalize B (c::t)=X at *
   go_wp2_with fail
   refine(RK _).mono ?_
   rintro e w4 ⟨rfl,b4⟩
   have hcx4:=(b4.cell (p:=⟨g,n+1,none⟩) (jih hg2 hs3)).trans hcx
   have hown4:w4.ownsRow w1.heap.size 9 1 u5 (n+1) (ls.map Value.string):=by rw[<- HLL.out];exact hown.kept b4 (jh6 _)
   have hs4:=b4.size
   have HC:=jh5 (yy w4 Y 9)
   have hb4:Below w1.heap.size w1 w4:=hb.trans (b4.mono hs3)
   clear hown b4 hcx
   go_wp2_with (at_builtin;refine wpList_append_own _ rfl _ _ 77 rfl w1.heap.size 9 i0 _ 1 16 Tryz.underlying77 hi hz0 hz1 hz2 rfl (by decide) _ _ _ rfl (hown4.alloc _) ⟨w4.heap.size,0,none⟩ 1 1 _ rfl rfl HC.out ?c2 ?c3 ?c4 ?c5 ?_)
   case c2=>intro u hu;simp at hu;subst hu;rfl
   case c3=>unfold maxLen;omega
   case c4=>omega
   case c5=>simp;omega
   intro v' w5 hown' hgrow _
   obtain⟨g',cap',rfl⟩:=ownsRow_succ hown'
   have hb5:Below w1.heap.size w1 w5:=(hb4.alloc (by omega) _).grown hgrow (by simp;omega) (fun j ej=>(hown4.lt j ej).1)
   have hown6:=qY.grow (ls:=ls) (y:=Y) hown' HLL.out
   rw[<- TK.out]at hown6
   go_wp2_with fail
   go_roundw
   case rel=>exact⟨n+1,hlt,by go_num,hown6,hb5⟩
   case measure=>simp[intOf];omega
  have hfx:⟨#[32]⟩++B (c::t)=B (jl (c::t)):=by unfold jl vX;rw[hbl];simp[hc];exact jj [32] (c::t)
  have hcb:(c==46)=false:=by simp[hc]
  rw[hcb]at q2
  clear hx hk1 kc hbl hxc hxm hc
  generalize (FL::((r.take n).map jl).map B)=ls at *
  generalize jk (c::t)=kx at *
  generalize B (jl (c::t))=Y at *
  generalize B (c::t)=X at *
  go_wp2_with fail
  refine(RK _).mono ?_
  rintro e w4 ⟨rfl,b4⟩
  have hcx4:=(b4.cell (p:=⟨g,n+1,none⟩) (jih hg2 hs3)).trans hcx
  have hown4:w4.ownsRow w1.heap.size 9 1 u5 (n+1) (ls.map Value.string):=by rw[<- HLL.out];exact hown.kept b4 (jh6 _)
  have hs4:=b4.size
  have HC:=jh5 (yy w4 Y 9)
  have hb4:Below w1.heap.size w1 w4:=hb.trans (b4.mono hs3)
  clear hown b4 hcx
  go_wp2_with (at_builtin;refine wpList_append_own _ rfl _ _ 77 rfl w1.heap.size 9 i0 _ 1 16 Tryz.underlying77 hi hz0 hz1 hz2 rfl (by decide) _ _ _ rfl (hown4.alloc _) ⟨w4.heap.size,0,none⟩ 1 1 _ rfl rfl HC.out ?c2 ?c3 ?c4 ?c5 ?_)
  case c2=>intro u hu;simp at hu;subst hu;rfl
  case c3=>unfold maxLen;omega
  case c4=>omega
  case c5=>simp;omega
  intro v' w5 hown' hgrow _
  obtain⟨g',cap',rfl⟩:=ownsRow_succ hown'
  have hb5:Below w1.heap.size w1 w5:=(hb4.alloc (by omega) _).grown hgrow (by simp;omega) (fun j ej=>(hown4.lt j ej).1)
  have hown6:=qY.grow (ls:=ls) (y:=Y) hown' HLL.out
  rw[<- TK.out]at hown6
  go_wp2_with fail
  go_roundw
  case rel=>exact⟨n+1,hlt,by go_num,hown6,hb5⟩
  case measure=>simp[intOf];omega
 obtain rfl:n=r.length:=by omega
 rw[jiF]at hown
 go_wp2_with fail
 go_ret
 exact⟨_,_,rfl,by rw[HFL.out];exact hown,BW.out.trans (hb.mono hw1)⟩
theorem Wv(k v:List UInt8)(hk:k.length<=100000)(hv:v.length<=100000):(jr (jO k v)).length<=500000:=by
 rw[yW]
 have:=Ky k v
 omega
theorem WI(fs:List (List UInt8×List UInt8))(v:Value)(w:World)(hs:Wo w v fs)(hn:fs.length<=1000)(hl:∀f∈fs,f.1.length<=100000/\f.2.length<=100000):
  Calls Tryz.prog 100 #[v] w fun e w'=>e=.returned (.string (B (zo fs)))/\Below w.heap.size w w':=by
 obtain⟨A,cap,rfl,hle,hc⟩:=hs
 have PC:=jh5 hc
 clear hc
 go_enter Tryz.func100,Tryz.ntmps100
 go_wp2_with fail
 go_loopw [3,4] (fun s i wr=>∃k:Nat,k<=fs.length/\i=.int .i64 k/\s=.string (B (zo (fs.take k)))/\(zo (fs.take k)).length<=500000*k/\Below w.heap.size w wr) (fun _ i _=>fs.length-(intOf i).toNat)
 case atStart=>exact⟨0,jii _,rfl,rfl,jh6 _,jh8 _ _⟩
 case round =>
 obtain⟨k,hk,rfl,rfl,hlen,hb⟩:=hrel
 by_cases hlt:k<fs.length
 ·obtain⟨f,hf⟩:∃f,fs[k]?=some f:=⟨_,jia hlt⟩
  obtain⟨b,off,rfl,hbb,c0,c1⟩:=PC.out k f hf
  replace c0:=(hb.cell (p:=⟨b,off+k*2,none⟩) hbb).trans c0
  replace c1:=(hb.cell (p:=⟨b,off+k*2+1,none⟩) hbb).trans c1
  obtain⟨hl1,hl2⟩:=hl f (jim hf)
  have htake:fs.take (k+1)=fs.take k++[f]:=by rw[jiK,hf];rfl
  have G1:Hid (zo (fs.take (k+1))=zo (fs.take k)++jr (jO f.1 f.2)):=by
   show _=_
   rw[htake,YD]
  have RL:=fun w=>Kj f.1 f.2 hl1 hl2 w
  have htl:=Wv f.1 f.2 hl1 hl2
  have hm1:1<=(jO f.1 f.2).length:=by rw[Yy];omega
  have hm2:(jO f.1 f.2).length<=500000:=by rw[yW]at htl;omega
  unfold zi at RL
  clear htake hf
  generalize zo (fs.take k)=pre at *
  go_wp2_with fail
  refine(RL _).mono ?_
  rintro e w2 ⟨sv,base,rfl,hown,b2⟩
  have hb2:=hb.trans (b2.mono hb.size)
  obtain⟨g,cap',rfl,_,_⟩:=hown.form (by simp;omega)
  have CL:=jh5 (fun(j:Nat) x (hx:(jO f.1 f.2)[j]?=some x)=>hown.cell rfl j (B x) (by rw[ji3,hx];rfl))
  rw[jiA]at *
  clear hown b2 RL
  generalize jO f.1 f.2=ls at *
  go_wp2_with fail
  go_loopw [3,19] (fun s i wq=>∃j:Nat,j<=ls.length/\i=.int .i64 j/\s=.string (B (pre++jr (ls.take j)))/\w2=wq) (fun _ i _=>ls.length-(intOf i).toNat)
  case atStart=>exact⟨0,jii _,rfl,by simp[jr],rfl⟩
  case round =>
  obtain⟨j,hj,rfl,rfl,rfl⟩:=hrel
  by_cases hjl:j<ls.length
  ·obtain⟨x,hx⟩:∃x,ls[j]?=some x:=⟨_,jia hjl⟩
   have hcx:=CL.out j x hx
   have T1:Hid (B (pre++jr (ls.take (j+1)))=(B (pre++jr (ls.take j))++B x) ++ ⟨#[10]⟩):=by
    show _=_
    rw[jiK,hx,show(some x).toList=[x] from rfl,Zg,show(⟨#[10]⟩:ByteArray)=B [10] from rfl,jj,jj];simp
   have t1:=VY ls (j+1)
   rw[jiK,hx,show(some x).toList=[x] from rfl,Zg,jh7,jh7]at t1
   simp only[jiS]at t1
   have y1:=je (pre++jr (ls.take j))
   rw[jh7]at y1
   have y2:=je x
   have y3:(B (pre++jr (ls.take j))++B x).size=pre.length+(jr (ls.take j)).length+x.length:=by
    rw[jj,je,jh7,jh7]
   clear hx
   generalize B (pre++jr (ls.take j))=acc at *
   generalize B x=X at *
   go_wp2_with fail
   go_roundw
   case rel=>exact⟨j+1,hjl,by go_num,by rw[T1.out],trivial⟩
   case measure=>simp[intOf];omega
  obtain rfl:j=ls.length:=by omega
  rw[jiF]
  go_wp2_with fail
  go_roundw
  case rel =>
   refine⟨k+1,hlt,by go_num,by rw[G1.out],?_,hb2⟩
   rw[G1.out,jh7];omega
  case measure=>simp[intOf];omega
 obtain rfl:k=fs.length:=by omega
 rw[jiF]
 go_wp2_with fail
 go_ret
 exact⟨rfl,hb⟩
end Go.Proofs.YtmdhainabeljpaaGreatDoor
namespace Go.Proofs.YtmdhainabeljpaaGreatDoor
open Go.RowKit Go.Shelf
attribute [local go_sem] qL
theorem jau(fs:List Fld)(v:Value)(w:World)(hs:Wo w v fs)(hn:fs.length<=1000000)(hl:∀f∈fs,f.1.length<=1000000/\f.2.length<=1000000):
  Calls Tryz.prog 131 #[v] w fun e w'=>e=.returned (.tuple #[.int .i64 (Jo fs),.int .i64 (Ju fs:Nat)])/\Below w.heap.size w w':=by
 obtain⟨A,cap,rfl,hle,hc⟩:=hs
 have PC:=jh5 hc
 have HL:=jh5 hl
 clear hc hl
 by_cases h0:fs.length=0
 ·have e1:Jo fs = -9:=by unfold Jo;rw[if_pos (.inl h0)]
  have e2:Ju fs=2:=by unfold Ju;rw[if_pos h0]
  rw[e1,e2,h0]
  go_enter Tryz.func131,Tryz.ntmps131
  go_wp2_with fail
  go_ret2
  exact⟨rfl,jh8 _ _⟩
 have c0:((fs.length:Int)==0)=false:=by simp;intro h;exact h0 (by rw[h];rfl)
 by_cases h40:40<fs.length
 ·have e1:Jo fs = -9:=by unfold Jo;rw[if_pos (.inr (.inl h40))]
  have e2:Ju fs=11:=by unfold Ju;rw[if_neg h0,if_pos h40]
  rw[e1,e2]
  go_enter Tryz.func131,Tryz.ntmps131
  go_wp2_with fail
  go_ret2
  exact⟨rfl,jh8 _ _⟩
 have e2:Ju fs=foldN fs:=by unfold Ju;rw[if_neg h0,if_neg h40]
 have FINZ:Hid (foldN fs=0->Jo fs = -9/\Ju fs=0):=by
  intro hz
  exact⟨by unfold Jo;rw[if_pos (.inr (.inr hz))],by rw[e2,hz]⟩
 have FINB:Hid (∀(k n:Nat),foldN fs=n->n≠0->yP fs=k->Jo fs=(k:Nat)/\Ju fs=n):=by
  intro k n hf hnz hk
  refine⟨?_,by rw[e2,hf]⟩
  unfold Jo
  rw[if_neg (by unfold jgq;rintro(h | h | h)<;>omega),hk]
 clear e2
 go_enter Tryz.func131,Tryz.ntmps131
 go_wp2_with fail
 go_loopw [4] (fun i wr=>∃k:Nat,k<=fs.length/\i=.int .i64 k/\foldN fs=foldN (fs.drop k)/\yP fs=yP (fs.drop k)+k/\Below w.heap.size w wr) (fun i _=>fs.length-(intOf i).toNat)
 case atStart=>exact⟨0,jii _,rfl,rfl,rfl,jh8 _ _⟩
 case round =>
 obtain⟨k,hk,rfl,hN,hA,hb⟩:=hrel
 by_cases hlt:k<fs.length
 ·obtain⟨f,hf⟩:∃f,fs[k]?=some f:=⟨_,jia hlt⟩
  obtain⟨b,off,rfl,hbb,c0',c1⟩:=PC.out k f hf
  replace c0':=(hb.cell (p:=⟨b,off+k*2,none⟩) hbb).trans c0'
  replace c1:=(hb.cell (p:=⟨b,off+k*2+1,none⟩) hbb).trans c1
  obtain⟨hl1,hl2⟩:=HL.out f (jim hf)
  have hdrop:fs.drop k=f::fs.drop (k+1):=by
   rw[jiB hlt]
   rw[jia hlt]at hf
   rw[jh9 hf]
  have hs1:=hb.size
  have CK:=fun W=>Kl f.1 f.2 hl1 hl2 W
  unfold zi at CK
  rw[hdrop]at hN hA
  by_cases hck:jR f.1 f.2=0
  ·have G1:Hid (foldN fs=foldN (fs.drop (k+1))):=by
    show _=_
    rw[hN];show(if jR f.1 f.2=0 then foldN (fs.drop (k+1)) else _)=_;rw[if_pos hck]
   have G2:Hid (yP fs=yP (fs.drop (k+1))+(k+1)):=by
    show _=_
    rw[hA];show(if jR f.1 f.2=0 then yP (fs.drop (k+1))+1 else _)+k=_;rw[if_pos hck];omega
   rw[hck]at CK
   clear hdrop hN hA hf hck FINB FINZ PC HL
   go_wp2_with fail
   refine(CK _).mono ?_
   rintro e w2 ⟨rfl,b2⟩
   have hb2:=hb.trans (b2.mono hs1)
   clear b2 CK
   go_wp2_with fail
   go_roundw
   case rel=>exact⟨k+1,hlt,by go_num,G1.out,G2.out,hb2⟩
   case measure=>simp[intOf];omega
  have hfn:foldN fs=jR f.1 f.2:=by rw[hN];unfold foldN;rw[if_neg hck]
  have hbn:yP fs=k:=by rw[hA];unfold yP;rw[if_neg hck];omega
  obtain⟨F1,F2⟩:=FINB.out k (jR f.1 f.2) hfn hck hbn
  have hcn:((jR f.1 f.2:Int) != 0)=true:=by simp;omega
  have FH1:=jh5 F1
  have FH2:=jh5 F2
  clear hdrop hN hA hf FINB FINZ PC HL hfn hbn F1 F2
  generalize jR f.1 f.2=cn at *
  go_wp2_with fail
  refine(CK _).mono ?_
  rintro e w2 ⟨rfl,b2⟩
  have hb2:=hb.trans (b2.mono hs1)
  clear b2 CK
  go_wp2_with fail
  go_ret2
  exact⟨by rw[FH1.out,FH2.out];rfl,hb2⟩
 obtain rfl:k=fs.length:=by omega
 rw[ji6]at hN
 obtain⟨F1,F2⟩:=FINZ.out hN
 have FH1:=jh5 F1
 have FH2:=jh5 F2
 clear hN hA FINB FINZ PC HL F1 F2
 go_wp2_with fail
 go_ret2
 exact⟨by rw[FH1.out,FH2.out];rfl,hb⟩
end Go.Proofs.YtmdhainabeljpaaGreatDoor
namespace Go.Proofs.YtmdhainabeljpaaGreatDoor
abbrev En:=It×Int
section
variable {α:Type} {κ:α->Int}
end
def jdm(es:List En):Nat:=(es.filter fun e=>decide (0<e.2)).length
end Go.Proofs.YtmdhainabeljpaaGreatDoor
namespace Go.Proofs.YtmdhainabeljpaaGreatDoor
open Go.RowKit Go.Shelf
variable {P:Program}
abbrev Pr:=En×Value
def jhx(w:World)(v:Value)(fs:List Fld):Prop:=Wo w v fs/\∀n c,v=.slice none n c->c=0
theorem jhx.own{w:World}{base:Nat}{v:Value}{fs:List Fld}(h:w.ownsRow base 71 2 v fs.length (jt fs)):jhx w v fs :=
 ⟨Jf h,fun n c e=>by
  rcases h.2 with ⟨q,_⟩|⟨g,cap,cur,q,_⟩
  ·rw[q]at e;cases e;rfl
  rw[q]at e;cases e⟩
end Go.Proofs.YtmdhainabeljpaaGreatDoor
namespace Go.Proofs.YtmdhainabeljpaaGreatDoor
open Go.RowKit Go.Shelf
attribute [local go_sem] jil
end Go.Proofs.YtmdhainabeljpaaGreatDoor
namespace Go.Proofs.YtmdhainabeljpaaGreatDoor
open Go.RowKit Go.Shelf
end Go.Proofs.YtmdhainabeljpaaGreatDoor
namespace Go.Proofs.YtmdhainabeljpaaGreatDoor
open Go.RowKit Go.Shelf
attribute [local go_sem] jil
end Go.Proofs.YtmdhainabeljpaaGreatDoor
namespace Go.Proofs.YtmdhainabeljpaaGreatDoor
open Go.RowKit
def jby(l:Array Bool):Nat:=(l.toList.filter (fun b => !b)).length
theorem Zm{ops:Array Oper}{l:Array Bool}{i:Nat}(h:i∈Region.ready .any ops l):
  ∃o,ops[i]?=some o/\l.getD i true=false/\∀e∈o.after,Region.binds .any e=true->l.getD e.on false=true:=by
 unfold Region.ready at h
 rw[List.mem_filter]at h
 obtain⟨hi,h⟩:=h
 rw[List.mem_range]at hi
 have ho:ops[i]?=some ops[i]:=jiQ hi
 rw[ho]at h
 simp only[Option.map_some,Option.getD_some,jiL,jkh]at h
 refine⟨_,ho,h.1,fun e he hb => ?_⟩
 have:=(Array.all_eq_true_iff_forall_mem.1 h.2) e he
 simpa [hb]using this
theorem XQ{P:Program}{ops:Array Oper}{Q:Exit->Act->World->Prop}(I:Array Bool->Act->World->Prop)
  (step:∀l i o a w,I l a w->l.size=ops.size->ops[i]?=some o->l.getD i true=false->(∀e∈o.after,Region.binds .any e=true->l.getD e.on false=true) ->
   wpOp P ops Q i (fun a' w'=>I (l.setIfInBounds i true) a' w') a w)
  (done:∀l a w,I l a w->l.size=ops.size->Region.ready .any ops l=[]->Q .normal a w) :
  ∀(n:Nat) (l:Array Bool) (a:Act) (w:World),I l a w->l.size=ops.size->jby l<=n->wpAny P .any ops Q n l a w:=by
 intro n
 induction n with
 | zero =>
  intro l a w hI hs hn
  have hr:Region.ready .any ops l=[]:=by
   cases hq:Region.ready .any ops l with
   | nil=>rfl
   | cons i rs =>
   obtain⟨o,ho,hl,_⟩:=Zm (show i∈Region.ready .any ops l by rw[hq];simp)
   exfalso
   have hi:i<l.size:=by
    rcases jir i l.size with h|h
    ·exact h
    simp[Array.getD,Nat.not_lt.2 h]at hl
   have hm:l[i]∈l.toList.filter (fun b => !b):=by
    rw[List.mem_filter]
    refine⟨by simp,?_⟩
    simp[Array.getD,hi]at hl
    simp[hl]
   have:0<jby l:=List.length_pos_of_mem hm
   omega
  exact⟨hr,done l a w hI hs hr⟩
 | succ n ih =>
 intro l a w hI hs hn
 refine⟨fun hr=>done l a w hI hs hr,fun i hi => ?_⟩
 obtain⟨o,ho,hl,he⟩:=Zm hi
 refine wpOp_mono (fun a' w' hI'=>ih _ _ _ hI' (by simpa using hs) ?_) (step l i o a w hI hs ho hl he)
 have hi':i<l.size:=by
  rcases jir i l.size with h|h
  ·exact h
  simp[Array.getD,Nat.not_lt.2 h]at hl
 have hlf:l[i]=false:=by simpa [Array.getD,hi']using hl
 have key:∀(xs:List Bool) (j:Nat) (hj:j<xs.length),xs[j]=false->((xs.set j true).filter (fun b => !b)).length+1=(xs.filter (fun b => !b)).length:=by
  intro xs
  induction xs with
  | nil=>intro j hj;simp at hj
  | cons x xs ih2 =>
  intro j hj hx
  cases j with
  | zero=>simp at hx;subst hx;simp
  | succ j =>
  have:=ih2 j (by simpa using hj) (by simpa using hx)
  cases x<;>simp at this ⊢ <;> omega
 have h2:=key l.toList i (by simpa using hi') (by simpa using hlf)
 unfold jby at hn ⊢
 have e:(l.setIfInBounds i true).toList=l.toList.set i true:=by simp
 rw[e]
 omega
theorem Jv{P:Program}{id:Nat}{ops:Array Oper}{Q:Exit->Act->World->Prop}{a:Act}{w:World}(hm:P.follows .mixedOrders=true)(I:Array Bool->Act->World->Prop)
  (start:I (Array.replicate ops.size false) a w.drew)
  (step:∀l i o a w,I l a w->l.size=ops.size->ops[i]?=some o->l.getD i true=false->(∀e∈o.after,Region.binds .any e=true->l.getD e.on false=true) ->
   wpOp P ops Q i (fun a' w'=>I (l.setIfInBounds i true) a' w') a w)
  (done:∀l a w,I l a w->l.size=ops.size->Region.ready .any ops l=[]->Q .normal a w) :
  (Code.region id ops true).wp P Q a w :=
 wp_region_any hm (XQ I step done ops.size _ a _ start (by simp) (by
  unfold jby
  simp))
end Go.Proofs.YtmdhainabeljpaaGreatDoor
