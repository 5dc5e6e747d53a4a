/- Texts put together:YO,FLD,FLE,RI,RT,RM,LM,KM,FM. -/
import Derived.Test.YtpibhbjmcmfnmaaGreatDoorSI
import Derived.Orders
import Derived.Test.YtpibhbjmcmfnmaaGreatDoorBag6
set_option linter.unusedVariables false
set_option maxRecDepth 100000
set_option maxHeartbeats 16000000
namespace Go.Proofs.YtpibhbjmcmfnmaaGreatDoor
abbrev jnr:=@List.length_drop
abbrev jnv:=@Bool.and_eq_true
abbrev jnA:=@List.flatMap_cons
abbrev jnR:=@List.append_nil
abbrev jnU:=@List.nil_append
abbrev jnZ:=@List.all_eq_true
abbrev jn2:=@Array.getElem?_eq_none
abbrev jn3:=@Array.replicate_succ
abbrev jn4:=@Array.replicate_zero
abbrev jn5:=@List.append_toArray
abbrev jn9:=@Array.getElem?_setIfInBounds
abbrev joa:=@List.push_toArray
abbrev joe:=@List.takeWhile_cons
abbrev joh:=@List.drop_succ_cons
abbrev jon:=@Array.getD_eq_getD_getElem?
abbrev joN:=@List.map_map
abbrev joP:=@Option.map_some
abbrev jo1:=@List.all_takeWhile
abbrev jo5:=@List.takeWhile_append_of_pos
abbrev jpg:=@List.map_congr_left
abbrev jpo:=@Ne.symm
abbrev jpt:=@Bool.not_eq_true'
abbrev jpy:=@List.any_eq_true
end Go.Proofs.YtpibhbjmcmfnmaaGreatDoor
namespace Go.Proofs.YtpibhbjmcmfnmaaGreatDoor.Vf.Sd
open Go.RowKit Go.Maps Go.Sort Go.Shelf
theorem jaq:∀{a b:List UInt8},bytesBefore a b=true->a<=b
 | [],_,_=>List.nil_le _
 | x::a,[],h=>by cases h
 | x::a,y::b,h=>by
  have h':(decide (x<y) || (x==y&&bytesBefore a b))=true:=h
  rw[List.cons_le_cons_iff]
  simp at h'
  rcases h' with h'|⟨h1,h2⟩
  ·exact .inl h'
  exact .inr ⟨h1,jaq h2⟩
theorem jiD(l:Dir):strKeys (zY l)=l.map (·.1):=by
 show(l.map jem).map (fun p=>strOf p.1)=_
 rw[joN];rfl
theorem Wb{l:Dir}(h:yw l){ss:List (List UInt8)}(hp:ss.Perm (l.map (·.1))):ss.mergeSort (fun x y=>decide (x<=y))=l.map (·.1):=by
 have h1:(ss.mergeSort (fun x y:List UInt8=>decide (x<=y))).Pairwise fun x y=>x<=y:=by
  have:=List.pairwise_mergeSort (le:=fun x y:List UInt8=>decide (x<=y)) (fun a b c h1 h2=>by simp at h1 h2 ⊢;exact List.le_trans h1 h2) (fun a b=>by simp;exact List.le_total a b) ss
  exact this.imp fun h=>by simpa using h
 have h2:(l.map (·.1)).Pairwise fun x y=>x<=y:=List.pairwise_map.2 (h.up.imp fun h=>jaq h)
 exact List.Perm.eq_of_pairwise (le:=fun x y:List UInt8=>x<=y) (fun a b _ _ h1 h2=>List.le_antisymm h1 h2) h1 h2 ((List.mergeSort_perm _ _).trans hp)
theorem ji5(m:Nat):AnyZ.SortsIn Tryz.prog Tryz.sortedS_ren Fence.wide m :=
 ⟨fun blk off cap ss W hH hblk hsz=>callsIn_wide.2 (AnyM.slices_Sort_string Tryz.sortS blk off cap ss W hH hblk hsz),fun p cap W=>callsIn_wide.2 (AnyM.slices_Sort_string_none Tryz.sortS p cap W)⟩
theorem Ki(mb:Option Nat)(W:World):CallsIn Fence.wide 5 Tryz.prog 56 #[.map mb] W fun e w'=>e=.returned (.func (.func 94) #[] #[.pointer (some ⟨W.heap.size,0,none⟩)])/\w'=W.alloc (.cells #[.map mb] 88) :=
 AnyZ.keys_in Tryz.keysD Fence.wide 5 trivial rfl mb W
def jmW(w w':World)(v:Value)(ss:List (List UInt8)):Prop :=
 w'.ownsRow w.heap.size 9 1 v ss.length ((ss.mergeSort (fun x y=>decide (x<=y))).map encStr)/\(v=.slice none 0 0↔ss=[])/\Below w.heap.size w w'
theorem jjM(b nn:Nat)(D0:DataW Unit)(R:Value->Option (DataW Unit×List MemPlace))(w:World)(hown:w.ownsMap Tryz.prog 9 R b nn D0)(hmax:Maps.size D0<=10000000):
  CallsIn Fence.wide 5 Tryz.prog 55 #[.func (.func 94) #[] #[.pointer (some ⟨w.heap.size,0,none⟩)]] (w.alloc (.cells #[.map (some b)] 88)) fun e w'=>∃(v:Value) (ss:List (List UInt8)),e=.returned v/\ss.Perm (strKeys D0)/\jmW w w' v ss:=by
 have hbl:=hown.lt
 have hseq:SeqGives Fence.wide 2 Tryz.prog 94 #[.pointer (some ⟨w.heap.size,0,none⟩)] encStr (fun ss=>ss.Perm (strKeys D0)) (Maps.size D0) (w.alloc (.cells #[.map (some b)] 88)) :=
  AnyZ.keys_gives (ρ:=Tryz.keysD_ren) {Tryz.keysD with} Fence.wide _ trivial rfl (by omega) w.heap.size b nn D0 _ (by simp) (by simp) (by
   obtain⟨es,clock,hb,Ft,hs,hD⟩:=hown
   exact⟨es,clock,(jov _ _ b hbl).trans hb,Ft,hs,hD⟩)
 refine(AnyZ.sorted_in Tryz.sortedS Fence.wide 5 trivial trivial trivial trivial rfl (by omega) (ji5 _) (enters_of Tryz.func93 (by kernel_rfl) rfl) 94 #[.pointer (some ⟨w.heap.size,0,none⟩)] trivial (enters_of Tryz.func94 (by kernel_rfl) rfl) _ _ (by unfold maxLen;omega) (by omega) _ hseq).mono ?_
 rintro e w' ⟨v,ss,rfl,hS,hrow,hnil,hb⟩
 exact⟨v,ss,rfl,hS,ownsRow_base_a hrow (by simp),hnil,((jne _ w).alloc (jnd _) _).trans (hb.mono (by simp))⟩
theorem jaP(w:World):
  CallsIn Fence.wide 5 Tryz.prog 55 #[.func (.func 94) #[] #[.pointer (some ⟨w.heap.size,0,none⟩)]] (w.alloc (.cells #[.map none] 88)) fun e w'=>e=.returned (.slice none 0 0)/\Below w.heap.size w w':=by
 have hseq:SeqGives Fence.wide 2 Tryz.prog 94 #[.pointer (some ⟨w.heap.size,0,none⟩)] encStr (fun ss:List (List UInt8)=>ss=[]) 0 (w.alloc (.cells #[.map none] 88)) :=
  AnyZ.keys_gives_nil (ρ:=Tryz.keysD_ren) {Tryz.keysD with} Fence.wide _ trivial rfl w.heap.size _ (by simp) (by simp)
 refine(AnyZ.sorted_in Tryz.sortedS Fence.wide 5 trivial trivial trivial trivial rfl (by omega) (ji5 _) (enters_of Tryz.func93 (by kernel_rfl) rfl) 94 #[.pointer (some ⟨w.heap.size,0,none⟩)] trivial (enters_of Tryz.func94 (by kernel_rfl) rfl) _ 0 (jnt _) (by omega) _ hseq).mono ?_
 rintro e w' ⟨v,ss,rfl,hS,hrow,hnil,hb⟩
 exact⟨by rw[hnil.2 hS],((jne _ w).alloc (jnd _) _).trans (hb.mono (by simp))⟩
theorem jm7{w w':World}{v:Value}{ss:List (List UInt8)}{l:Dir}(hr:yw l)(hp:ss.Perm (l.map (·.1)))(h:jmW w w' v ss):Strs w' v (l.map fun x=>bs x.1):=by
 have h1:=h.1
 rw[Wb hr hp]at h1
 have hl:ss.length=(l.map (·.1)).length:=hp.length_eq
 rw[hl]at h1
 have e:(l.map fun x=>bs x.1)=(l.map (·.1)).map bs:=by rw[joN];rfl
 rw[e]
 exact jjD h1
theorem names_any{w:World}{T:Nat->Nat}{p n:Nat}{D:ji}(hA:zK w T p D)(hf:zJ n D)(hn:n<=300000)(hr:yw D.seen):
  Calls Tryz.prog 25 #[.pointer (some ⟨p,0,none⟩)] w fun e w'=>∃v,e=.returned v/\Strs w' v (D.seen.map fun x=>bs x.1)/\Below w.heap.size w w':=by
 obtain⟨V,hV⟩:=hA
 have hp:=hV.cells.lt
 have d6:w.cell? ⟨p,6,none⟩=some V.v6:=hV.cells.cell 6
 have hfK:Fence.wide.fn 56:=trivial
 have hfS:Fence.wide.fn 55:=trivial
 have hlen:D.seen.length<=1000000:=by
  have h1:=qF D.waits D.sure
  have h2:=hf.dirs
  unfold ji.seen;omega
 refine(callsIn_wide (n:=6)).1 ?_
 rcases hV.m6 with ⟨e6,hs⟩|⟨b6,e6,ho⟩
 ·rw[e6]at d6
  rw[hs]
  have cS:=jaP w
  clear hV hf hr hs hlen
  refine callsIn_of_wp Tryz.func25 rfl trivial ?_ rfl
  simp only[Tryz.ntmps25,jnV,jni,jnG,Nat.reduceAdd,Nat.reduceSub,jn3,jn4,joa,jn5,jnU,jny]
  gi_wp2_with (first
   | (gi_at_call 56;refine(Ki _ _).mono ?_;rintro e w' ⟨rfl,rfl⟩)
   | (gi_at_call 55;refine cS.mono ?_;rintro e w' ⟨rfl,hb⟩))
  go_ret
  exact⟨_,rfl,Strs.none _ _,hb⟩
 rw[e6]at d6
 have cS:=jjM b6 D.seen.length (zY D.seen) (plainElem Tryz.prog 3) w ho (by have:=ho.size_le;omega)
 rw[jiD]at cS
 have HR:=jnc hr
 clear hV hf hr hlen ho
 refine callsIn_of_wp Tryz.func25 rfl trivial ?_ rfl
 simp only[Tryz.ntmps25,jnV,jni,jnG,Nat.reduceAdd,Nat.reduceSub,jn3,jn4,joa,jn5,jnU,jny]
 gi_wp2_with (first
  | (gi_at_call 56;refine(Ki _ _).mono ?_;rintro e w' ⟨rfl,rfl⟩)
  | (gi_at_call 55;refine cS.mono ?_;rintro e w' ⟨v,ss,rfl,hS,ha⟩))
 go_ret
 exact⟨v,rfl,jm7 HR.out hS ha,ha.2.2⟩
end Go.Proofs.YtpibhbjmcmfnmaaGreatDoor.Vf.Sd
namespace Go.Proofs.YtpibhbjmcmfnmaaGreatDoor.Vf
open Go.RowKit Go.Maps
def jh6(s:ByteArray)(ss:List ByteArray):Bool:=ss.any fun x=>x.data.toList==s.data.toList
theorem jfI(s x:ByteArray)(l:List ByteArray):jh6 s (l++[x])=(jh6 s l || x.data.toList==s.data.toList):=by unfold jh6;rw[List.any_append];simp
theorem jhe(v:Value)(ss:List ByteArray)(s:ByteArray)(w:World)(h:Sd.Strs w v ss)(hl:ss.length<=1000000):
  Calls Tryz.prog 135 #[v,.string s] w fun e w'=>(∃r:Int,e=.returned (.int .i64 r)/\jh6 s ss=decide (0<=r) /\ -1<=r/\r<=1000000)/\Below w.heap.size w w':=by
 obtain⟨A,cap,rfl,hle,hc⟩:=h
 go_enter Tryz.func135,Tryz.ntmps135
 go_wp2
 go_loopw [8] (fun i wr=>∃k:Nat,k<=ss.length/\i=.int .i64 k/\jh6 s (ss.take k)=false/\Below w.heap.size w wr) (fun i _=>ss.length-(intOf i).toNat)
 case atStart=>exact⟨0,jnt _,rfl,rfl,jne _ _⟩
 case round =>
 obtain⟨k,hk,rfl,he,hbl⟩:=hrel
 by_cases hlt:k<ss.length
 ·obtain⟨x,e1⟩:∃x,ss[k]?=some x:=⟨_,jnh hlt⟩
  obtain⟨b,off,rfl,hb,c1⟩:=hc k _ e1
  replace c1:=(hbl.cell (p:=⟨b,off+k,none⟩) hb).trans c1
  have T1:Hid (ss.take (k+1)=ss.take k++[x]):=by show _=_;rw[jnW,e1];rfl
  have M1:Hid (s=x->jh6 s ss=true):=fun e=>by
   subst e
   exact List.any_eq_true.2 ⟨s,jnC e1,by simp⟩
  have E:=jnc he
  clear hc e1 he
  by_cases hxy:s=x
  ·subst hxy
   go_wp2_with (go_quiet (fail))
   go_ret
   exact⟨⟨k,rfl,by rw[M1.out trivial,decide_eq_true (by omega)],by omega,by omega⟩,hbl⟩
  have HX:Hid ((x.data.toList==s.data.toList)=false):=by
   show _=_
   rw[beq_eq_false_iff_ne]
   exact fun e=>hxy (by apply joA;apply Array.ext';exact e.symm)
  have hx2:¬s.toList=x.toList:=fun e=>hxy (by apply joA;apply Array.ext';have:=e;rw[jn0,jn0]at this;exact this)
  have hx3:(s.toList==x.toList)=false:=by simpa using hx2
  have hx4:(s.toList != x.toList)=true:=by simpa using hx2
  go_wp2_with (go_quiet (fail))
  go_roundw
  case rel=>exact⟨k+1,hlt,by go_num,by rw[T1.out,jfI,E.out,HX.out];rfl,hbl⟩
  case measure=>simp[intOf];omega
 obtain rfl:k=ss.length:=by omega
 rw[jnD (jnd _)]at he
 clear hc
 go_wp2
 go_ret
 exact⟨⟨-1,rfl,by rw[he,decide_eq_false (by omega)],by omega,by omega⟩,hbl⟩
theorem jhf(v:Value)(ss:List ByteArray)(s:ByteArray)(w:World)(h:Sd.Strs w v ss)(hl:ss.length<=1000000):
  Calls Tryz.prog 96 #[v,.string s] w fun e w'=>e=.returned (.bool (jh6 s ss))/\Below w.heap.size w w':=by
 have IX:=jnc (jhe v ss s w h hl)
 obtain⟨A,cap,rfl,hle,hc⟩:=h
 clear hc
 go_enter Tryz.func96,Tryz.ntmps96
 go_wp2_with fail
 refine IX.out.mono ?_
 rintro e w1 ⟨⟨r,rfl,hr,h1,h2⟩,hb⟩
 have HR:=jnc hr
 clear hr
 go_wp2_with fail
 go_ret
 rw[HR.out]
 exact⟨rfl,hb⟩
theorem jjQ{D:ji}(s:ByteArray):jh6 s (D.seen.map fun x=>bs x.1)=Xl D s:=by
 unfold Xl ya jh6
 rw[Option.isSome_map,List.any_map,jod,List.find?_isSome,jpy]
 constructor
 ·rintro⟨x,hx,e⟩
  exact⟨x,hx,by rw[Function.comp_apply,beq_iff_eq,jgs]at e;simpa using e⟩
 rintro⟨x,hx,e⟩
 exact⟨x,hx,by rw[Function.comp_apply,beq_iff_eq,jgs];simpa using e⟩
def zl(p:Nat)(z:ByteArray):Value:=.agg #[.pointer (some ⟨p,0,none⟩),.string z]
theorem jbP{L n p:Nat}{w:World}{D:ji}(h:jD L w p D)(hf:zJ n D)(hn:n<=300000)(hr:yw D.seen)(z s:ByteArray):
  Calls Tryz.prog 66 #[zl p z,.string s] w fun e w'=>e=.returned (.bool (Xl D s))/\Below w.heap.size w w':=by
 obtain⟨w1,hw1⟩:∃q,w.alloc (.cells #[.pointer (some ⟨p,0,none⟩),.string z] 67)=q:=⟨_,rfl⟩
 have b1:Below w.heap.size w w1:=by rw[<- hw1];exact(jne _ w).alloc (jnd _) _
 have C1:ja w1 w.heap.size 67 #[.pointer (some ⟨p,0,none⟩),.string z]:=by rw[<- hw1];exact ja.new _ _ _
 obtain⟨T,hA,_⟩:=h.below b1
 have N1:=jnc (Sd.names_any hA hf hn hr)
 have c0:=C1.cell 0
 have B1:=jnc b1
 have HW1:=jnc hw1
 have SL:Hid (D.seen.length<=1000000):=by show _;exact jns (qF D.waits D.sure) (by have:=hf.dirs;omega)
 have SM:=jnc (jjQ (D:=D) s)
 clear h hA b1 hw1 hf hr
 unfold zl
 go_enter Tryz.func66,Tryz.ntmps66
 go_wp2_with fail
 rw[HW1.out]
 go_wp2_with fail
 refine N1.out.mono ?_
 rintro e w2 ⟨v,rfl,hS,b2⟩
 have B2:=jnc (B1.out.trans (b2.mono B1.out.size))
 have K:=jhf v _ s w2 hS (by rw[jnI];exact SL.out)
 obtain⟨A,cap,rfl,_,_⟩:=hS
 rw[jnI]at K
 replace K:=jnc K
 clear b2 N1
 go_wp2_with fail
 refine K.out.mono ?_
 rintro e w3 ⟨rfl,b3⟩
 rw[SM.out]
 have B3:=jnc (B2.out.trans (b3.mono B2.out.size))
 clear b3 K
 go_wp2_with fail
 go_ret
 exact⟨rfl,B3.out⟩
theorem jd{w w':World}{b N:Nat}{t:TypeId}{cur:Array Value}(h:ja w b t cur)(hb:Below N w w')(hN:b<N):ja w' b t cur:=(hb.block b hN).trans h
section
variable {L n p:Nat} {w:World} {D:ji}
theorem WV(h:jD L w p D)(hL:L<=w.heap.size)(hf:zJ n D)(hn:n<=400000)(z:ByteArray)(hz:z.size<=1000000):
  Calls Tryz.prog 28 #[.pointer (some ⟨p,0,none⟩),.string z] w fun e w'=>e=.returned (qm (jJ D z).2)/\jD L w' p (jJ D z).1/\jO L w w':=ZX h hL fun T hA _ _=>jdY hA hf hn z hz
theorem jbL(h:jD L w p D)(hL:L<=w.heap.size)(hf:zJ n D)(hn:n<=400000):
  Calls Tryz.prog 31 #[.pointer (some ⟨p,0,none⟩)] w fun e w'=>e=.returned (qm (zx D).2)/\jD L w' p (zx D).1/\jO L w w':=ZX h hL fun T hA _ _=>jaN hA hf hn
theorem jjB(h:jD L w p D)(hL:L<=w.heap.size)(hf:zJ n D)(hn:n<=400000)(z:ByteArray)(hz:z.size<=1000000):
  Calls Tryz.prog 30 #[.pointer (some ⟨p,0,none⟩),.string z] w fun e w'=>e=.returned (qm (qx D z).2)/\jD L w' p (qx D z).1/\jO L w w':=ZX h hL fun T hA _ _=>jhb hA hf hn z hz
theorem jm4(h:jD L w p D)(hL:L<=w.heap.size)(hf:zJ n D)(hn:n<=400000)(z:ByteArray)(hz:z.size<=1000000)(k:Nat)(hk:k<=1000000):
  Calls Tryz.prog 72 #[.pointer (some ⟨p,0,none⟩),.string z,.int .i64 k] w fun e w'=>e=.returned (qm (WU D z k).2)/\jD L w' p (WU D z k).1/\jO L w w':=ZX h hL fun T hA _ _=>jkX hA hf hn z hz k (by omega) (by omega)
theorem ji1(h:jD L w p D)(hL:L<=w.heap.size)(hf:zJ n D)(hn:n<=300000)(z t:ByteArray)(hz:z.size<=1000000)(ht:t.size<=60000):
  Calls Tryz.prog 29 #[.pointer (some ⟨p,0,none⟩),.string z,.string t] w fun e w'=>e=.returned (qm (zp D z t).2)/\jD L w' p (zp D z t).1/\jO L w w':=ZX h hL fun T hA _ _=>jer hA hf hn z t hz ht
theorem jjT(h:jD L w p D)(hf:zJ n D)(hn:n<=300000)(z:ByteArray)(hz:z.size<=1000000):
  Calls Tryz.prog 26 #[.pointer (some ⟨p,0,none⟩),.string z] w fun e w'=>e=.returned (.tuple #[.string (yx D z).1,qm (yx D z).2])/\Below w.heap.size w w':=by
 obtain⟨T,hA,_⟩:=h
 exact read_any hA hf hn z hz
end
theorem doD(fs:List Fnv)(dk:Nat->ji){L p b:Nat}{w:World}(hl:fs.length<=1000)(hC:ja w b 78 (fs.map fnv).toArray)(h0:jD L w p (dk 0))
  (he:∀x∈fs,∀args w,(callFunc x.1 args).run Tryz.prog w=.ok (.enter x.1 args) w)
  (hs:∀i x W,fs[i]?=some x->jD L W p (dk i)->jO L w W->Calls Tryz.prog x.1 (x.2.1++x.2.2) W fun e W'=>e=.returned .nilIface/\jD L W' p (dk (i+1))/\jO L W W') :
  Calls Tryz.prog 32 #[.slice (some ⟨b,0,none⟩) fs.length fs.length] w fun e w'=>e=.returned .nilIface/\jD L w' p (dk fs.length)/\jO L w w':=by
 refine(jab fs (fun i W=>jD L W p (dk i)/\jO L w W) (fun _ _=>False) b hl ?_ he ?_ w ⟨h0,jO.refl _ _⟩).mono ?_
 ·intro i W ⟨_,hk⟩ j x hx
  rw[(hk.cells hC (by decide)).cell]
  simp[hx]
 ·intro i x W hx ⟨hd,hk⟩
  refine(hs i x W hx hd hk).mono ?_
  rintro e W' ⟨rfl,h1,h2⟩
  exact⟨_,rfl,.inl ⟨rfl,h1,hk.trans h2⟩⟩
 rintro e w' ⟨u,rfl,⟨rfl,h1,h2⟩|⟨_,h⟩⟩
 ·exact⟨rfl,h1,h2⟩
 exact h.elim
attribute [local go_sem] jT
theorem jkZ{L n p b:Nat}{w:World}{D:ji}{z:ByteArray}(h:jD L w p D)(hL:L<=w.heap.size)(hf:zJ n D)(hn:n<=400000)(hz:z.size<=1000000)(hC:ja w b 67 #[.pointer (some ⟨p,0,none⟩),.string z])(h0:(jJ D z).2=0):
  Calls Tryz.prog 69 #[.pointer (some ⟨b,0,none⟩)] w fun e w'=>e=.returned .nilIface/\jD L w' p (jJ D z).1/\jO L w w':=by
 have K:=WV h hL hf hn z hz
 rw[h0,jT]at K
 replace K:=jnc K
 have c0:=hC.cell 0
 have c1:=hC.cell 1
 clear h hf hC h0
 go_enter Tryz.func69,Tryz.ntmps69
 go_wp2_with fail
 refine K.out.mono ?_
 rintro e w1 ⟨rfl,h1,h2⟩
 go_wp2_with fail
 go_ret
 exact⟨rfl,h1,h2⟩
theorem Ys{L n p:Nat}{w:World}{D:ji}{z:ByteArray}(h:jD L w p D)(hL:L<=w.heap.size)(hf:zJ n D)(hn:n<=200000)(hc:Uj D)(hr:yw D.seen)(hz:zy z=true):
  Calls Tryz.prog 34 #[zl p z] w fun e w'=>e=.returned .nilIface/\jD L w' p (vk D z)/\jO L w w':=by
 have hzs:=xL hz
 obtain⟨w1,hw1⟩:∃q,w.alloc (.cells #[.pointer (some ⟨p,0,none⟩),.string z] 67)=q:=⟨_,rfl⟩
 have b1:Below w.heap.size w w1:=by rw[<- hw1];exact(jne _ w).alloc (jnd _) _
 have C1:ja w1 w.heap.size 67 #[.pointer (some ⟨p,0,none⟩),.string z]:=by rw[<- hw1];exact ja.new _ _ _
 have D1:=h.below b1
 have SE:=jnc (jbP D1 hf (by omega) hr z z)
 have c0:=C1.cell 0
 have c1:=C1.cell 1
 have B1:=jnc b1
 have HW1:=jnc hw1
 have HC1:=jnc C1
 have HD1:=jnc D1
 have HF:=jnc hf
 have HCM:=jnc hc
 have HLL:=jnc hL
 unfold zl at *
 cases hs:Xl D z with
 | true =>
  have e:vk D z=D:=by unfold vk;rw[if_pos hs]
  rw[e]
  rw[hs]at SE
  clear h hf hc hr b1 hw1 C1 D1 hL
  go_enter Tryz.func34,Tryz.ntmps34
  go_wp2_with fail
  rw[HW1.out]
  go_wp2_with fail
  refine SE.out.mono ?_
  rintro e w2 ⟨rfl,b2⟩
  have B2:=jnc (B1.out.trans (b2.mono B1.out.size))
  have D2:=jnc (HD1.out.below b2)
  clear b2 SE
  go_wp2_with fail
  go_ret
  exact⟨rfl,D2.out,jO.of_below B2.out HLL.out⟩
 | false =>
 have e:vk D z=(zx (jJ D z).1).1:=by unfold vk;rw[if_neg (by rw[hs];decide)]
 rw[e]
 rw[hs]at SE
 have CO:=jnc (ZC hc hz hs)
 clear h hf hc hr b1 hw1 C1 D1 hL
 go_enter Tryz.func34,Tryz.ntmps34
 go_wp2_with fail
 rw[HW1.out]
 go_wp2_with fail
 refine SE.out.mono ?_
 rintro e w2 ⟨rfl,b2⟩
 have B2:=jnc (B1.out.trans (b2.mono B1.out.size))
 have D2:=jnc (HD1.out.below b2)
 have C2:=jnc (jd HC1.out b2 HC1.out.lt)
 have d0:=C2.out.cell 0
 have d1:=C2.out.cell 1
 obtain⟨w3,hw3⟩:∃q,w2.alloc (.cells #[.func (.func 69) #[] #[.pointer (some ⟨w.heap.size,0,none⟩)],.func (.func 31) #[.pointer (some ⟨p,0,none⟩)] #[]] 78)=q:=⟨_,rfl⟩
 have b3:Below w2.heap.size w2 w3:=by rw[<- hw3];exact(jne _ w2).alloc (jnd _) _
 have C3:ja w3 w2.heap.size 78 #[.func (.func 69) #[] #[.pointer (some ⟨w.heap.size,0,none⟩)],.func (.func 31) #[.pointer (some ⟨p,0,none⟩)] #[]]:=by rw[<- hw3];exact ja.new _ _ _
 have B3:=jnc (B2.out.trans (b3.mono B2.out.size))
 have hL3:L<=w3.heap.size:=jns HLL.out B3.out.size
 have P3:=jd C2.out b3 C2.out.lt
 have DD:=jnc (doD [(69,#[],#[.pointer (some ⟨w.heap.size,0,none⟩)]),(31,#[.pointer (some ⟨p,0,none⟩)],#[])] (fun i=>if i=0 then D else if i=1 then (jJ D z).1 else (zx (jJ D z).1).1) (by show 2<=1000;omega) C3 (D2.out.below b3)
  (fun x hx=>by
   rcases List.mem_cons.1 hx with rfl|hx
   ·exact enters_of Tryz.func69 (by kernel_rfl) rfl
   obtain rfl:=List.mem_singleton.1 hx
   exact enters_of Tryz.func31 (by kernel_rfl) rfl)
  (fun i x W hx hd hk=>by
   have hLW:L<=W.heap.size:=jns hL3 hk.bel.size
   match i with
   | 0 =>
    obtain rfl:=jng hx
    exact jkZ hd hLW HF.out (by omega) (by omega) (hk.cells P3 (by decide)) CO.out.1
   | 1 =>
    obtain rfl:=jng hx
    replace hd:jD L W p (jJ D z).1:=hd
    have h1:=jbL hd hLW (xl HF.out z (by omega)) (by omega)
    rw[(XH CO.out.2).1,jT]at h1
    exact h1
   | i+2=>simp at hx))
 have HW3:=jnc hw3
 clear b2 SE c0 c1 b3 C3 hw3 P3
 go_wp2_with fail
 rw[HW3.out]
 refine DD.out.mono ?_
 rintro e w4 ⟨rfl,h1,h2⟩
 have R:=jnc (show jD L w4 p (zx (jJ D z).1).1/\jO L w w4 from⟨h1,(jO.of_below B3.out HLL.out).trans h2⟩)
 clear h1 h2 DD
 go_wp2_with fail
 go_ret
 exact⟨rfl,R.out⟩
theorem jgD(p:Nat)(z:ByteArray)(w:World)(hz:z.size<=1000000):
  Calls Tryz.prog 38 #[zl p z] w fun e w'=>e=.returned (.string (Ud z))/\Below w.heap.size w w':=by
 obtain⟨w1,hw1⟩:∃q,w.alloc (.cells #[.pointer (some ⟨p,0,none⟩),.string z] 67)=q:=⟨_,rfl⟩
 have b1:Below w.heap.size w w1:=by rw[<- hw1];exact(jne _ w).alloc (jnd _) _
 have C1:ja w1 w.heap.size 67 #[.pointer (some ⟨p,0,none⟩),.string z]:=by rw[<- hw1];exact ja.new _ _ _
 have c1:=C1.cell 1
 have HW1:=jnc hw1
 have B1:=jnc b1
 have Z4:(⟨#[46,110,101,119]⟩:ByteArray).size=4:=rfl
 clear b1 C1 hw1
 unfold zl Ud
 go_enter Tryz.func38,Tryz.ntmps38
 go_wp2_with fail
 rw[HW1.out]
 go_wp2_with fail
 go_ret
 exact⟨rfl,B1.out⟩
theorem jam{L n p:Nat}{w:World}{D:ji}{z:ByteArray}(h:jD L w p D)(hf:zJ n D)(hn:n<=200000)(hr:yw D.seen)(hz:z.size<=1000000)(hs:Xl D (Ud z)=false):
  Calls Tryz.prog 33 #[zl p z] w fun e w'=>e=.returned .nilIface/\Below w.heap.size w w':=by
 obtain⟨w1,hw1⟩:∃q,w.alloc (.cells #[.pointer (some ⟨p,0,none⟩),.string z] 67)=q:=⟨_,rfl⟩
 have b1:Below w.heap.size w w1:=by rw[<- hw1];exact(jne _ w).alloc (jnd _) _
 have C1:ja w1 w.heap.size 67 #[.pointer (some ⟨p,0,none⟩),.string z]:=by rw[<- hw1];exact ja.new _ _ _
 have c0:=C1.cell 0
 have c1:=C1.cell 1
 have AS:=jnc (jgD p z w1 hz)
 have HW1:=jnc hw1
 have HC1:=jnc C1
 have HD1:=jnc (h.below b1)
 have B1:=jnc b1
 have SS:Hid (∀W,jD L W p D->Calls Tryz.prog 66 #[zl p z,.string (Ud z)] W fun e w'=>e=.returned (.bool (Xl D (Ud z)))/\Below W.heap.size W w'):=fun W hd=>jbP hd hf (by omega) hr z (Ud z)
 rw[hs]at SS
 unfold zl at *
 generalize Ud z=s at *
 clear b1 C1 hw1 h hf hr hs
 go_enter Tryz.func33,Tryz.ntmps33
 go_wp2_with fail
 rw[HW1.out]
 go_wp2_with fail
 refine AS.out.mono ?_
 rintro e w2 ⟨rfl,b2⟩
 obtain⟨w3,hw3⟩:∃q,w2.alloc (.cells #[.string s] 9)=q:=⟨_,rfl⟩
 have b3:Below w2.heap.size w2 w3:=by rw[<- hw3];exact(jne _ w2).alloc (jnd _) _
 have S3:ja w3 w2.heap.size 9 #[.string s]:=by rw[<- hw3];exact ja.new _ _ _
 have hb3:=b2.trans (b3.mono b2.size)
 have C3:=jd HC1.out hb3 HC1.out.lt
 have d0:=C3.cell 0
 have d1:=C3.cell 1
 have s0:=S3.cell 0
 have SE:=jnc (SS.out w3 (HD1.out.below hb3))
 have B3:=jnc (B1.out.trans (hb3.mono B1.out.size))
 have HW3:=jnc hw3
 rw[<- hw3]at d0 d1 s0
 clear b2 b3 hb3 hw3 C3 S3 c0 c1 AS SS
 go_wp2_with fail
 rw[HW3.out]
 refine SE.out.mono ?_
 rintro e w4 ⟨rfl,b4⟩
 have B4:=jnc (B3.out.trans (b4.mono B3.out.size))
 clear b4 SE
 go_wp2_with fail
 go_ret
 exact⟨rfl,B4.out⟩
end Go.Proofs.YtpibhbjmcmfnmaaGreatDoor.Vf
namespace Go.Proofs.YtpibhbjmcmfnmaaGreatDoor
open Go.RowKit
def jgU(l:Array Bool):Nat:=(l.toList.filter (fun b => !b)).length
theorem ZS{ops:Array Oper}{l:Array Bool}{i:Nat}(h:i∈Region.ready .any ops l):
  ∃o,ops[i]?=some o/\l.getD i true=false/\∀e∈o.after,Region.binds .any e=true->l.getD e.on false=true:=by
 unfold Region.ready at h
 rw[List.mem_filter]at h
 obtain⟨hi,h⟩:=h
 rw[List.mem_range]at hi
 have ho:ops[i]?=some ops[i]:=jnT hi
 rw[ho]at h
 simp only[joP,Option.getD_some,jnv,jpt]at h
 refine⟨_,ho,h.1,fun e he hb => ?_⟩
 have:=(Array.all_eq_true_iff_forall_mem.1 h.2) e he
 simpa [hb]using this
theorem jet{P:Program}{ops:Array Oper}{Q:Exit->Act->World->Prop}(I:Array Bool->Act->World->Prop)
  (step:∀l i o a w,I l a w->l.size=ops.size->ops[i]?=some o->l.getD i true=false->(∀e∈o.after,Region.binds .any e=true->l.getD e.on false=true) ->
   wpOp P ops Q i (fun a' w'=>I (l.setIfInBounds i true) a' w') a w)
  (done:∀l a w,I l a w->l.size=ops.size->Region.ready .any ops l=[]->Q .normal a w) :
  ∀(n:Nat) (l:Array Bool) (a:Act) (w:World),I l a w->l.size=ops.size->jgU l<=n->wpAny P .any ops Q n l a w:=by
 intro n
 induction n with
 | zero =>
  intro l a w hI hs hn
  have hr:Region.ready .any ops l=[]:=by
   cases hq:Region.ready .any ops l with
   | nil=>rfl
   | cons i rs =>
   obtain⟨o,ho,hl,_⟩:=ZS (show i∈Region.ready .any ops l by rw[hq];simp)
   exfalso
   have hi:i<l.size:=by
    rcases jnK i l.size with h|h
    ·exact h
    simp[Array.getD,Nat.not_lt.2 h]at hl
   have hm:l[i]∈l.toList.filter (fun b => !b):=by
    rw[List.mem_filter]
    refine⟨by simp,?_⟩
    simp[Array.getD,hi]at hl
    simp[hl]
   have:0<jgU l:=List.length_pos_of_mem hm
   omega
  exact⟨hr,done l a w hI hs hr⟩
 | succ n ih =>
 intro l a w hI hs hn
 refine⟨fun hr=>done l a w hI hs hr,fun i hi => ?_⟩
 obtain⟨o,ho,hl,he⟩:=ZS hi
 refine wpOp_mono (fun a' w' hI'=>ih _ _ _ hI' (by simpa using hs) ?_) (step l i o a w hI hs ho hl he)
 have hi':i<l.size:=by
  rcases jnK i l.size with h|h
  ·exact h
  simp[Array.getD,Nat.not_lt.2 h]at hl
 have hlf:l[i]=false:=by simpa [Array.getD,hi']using hl
 have key:∀(xs:List Bool) (j:Nat) (hj:j<xs.length),xs[j]=false->((xs.set j true).filter (fun b => !b)).length+1=(xs.filter (fun b => !b)).length:=by
  intro xs
  induction xs with
  | nil=>intro j hj;simp at hj
  | cons x xs ih2 =>
  intro j hj hx
  cases j with
  | zero=>simp at hx;subst hx;simp
  | succ j =>
  have:=ih2 j (by simpa using hj) (by simpa using hx)
  cases x<;>simp at this ⊢ <;> omega
 have h2:=key l.toList i (by simpa using hi') (by simpa using hlf)
 unfold jgU at hn ⊢
 have e:(l.setIfInBounds i true).toList=l.toList.set i true:=by simp
 rw[e]
 omega
structure Tab(a0:Act)(n:Nat)(dst:Nat->Option Nat)(val:Nat->Value)(s:Nat)(W:Bool->World)(l:Array Bool)(a:Act)(w:World):Prop where
 dfr:a.defers=a0.defers
 sz:a.tmps.size=a0.tmps.size
 frm:∀j,(∀k,k<n->dst k≠some j)->a.tmps[j]?=a0.tmps[j]?
 val:∀i d,l.getD i false=true->dst i=some d->a.tmps[d]?=some (val i)
 wd:w=W (l.getD s false)
theorem Vm(l:Array Bool)(i:Nat)(hi:i<l.size)(j:Nat):(l.setIfInBounds i true).getD j false=if j=i then true else l.getD j false:=by
 rw[jon,jon,jn9]
 by_cases h:i=j
 ·subst h;simp[hi]
 rw[if_neg h,if_neg (jpo h)]
theorem jdl{l:Array Bool}{i:Nat}(h:l.getD i true=false):i<l.size:=by
 rcases jnK i l.size with q|q
 ·exact q
 simp[Array.getD,Nat.not_lt.2 q]at h
theorem jcF{ops:Array Oper}{l:Array Bool}(hs:l.size=ops.size)(hlow:∀i o e,ops[i]?=some o->e∈o.after->Region.binds .any e=true->e.on<i)(hr:Region.ready .any ops l=[]):∀i,i<ops.size->l.getD i false=true:=by
 intro i
 induction i using Nat.strongRecOn with
 | _ i ih =>
 intro hi
 cases hl:l.getD i false with
 | true=>rfl
 | false =>
 exfalso
 have ho:ops[i]?=some ops[i]:=jnT hi
 have:i∈Region.ready .any ops l:=by
  unfold Region.ready
  rw[List.mem_filter]
  refine⟨List.mem_range.2 hi,?_⟩
  have hl2:l.getD i true=false:=by
   have hil:i<l.size:=by omega
   simp[Array.getD,hil]at hl ⊢;exact hl
  simp only[ho,joP,Option.getD_some,jnv,jpt]
  refine⟨hl2,Array.all_eq_true_iff_forall_mem.2 fun e he => ?_⟩
  cases hb:Region.binds .any e with
  | false=>simp
  | true =>
  have h1:=hlow i _ e ho he hb
  simp[ih e.on h1 (by omega)]
 rw[hr]at this
 cases this
structure jmL(a0:Act)(w0:World)(n:Nat)(dst:Nat->Option Nat)(Pv:Nat->Value->World->Prop)(R:World->World->Prop)(l:Array Bool)(a:Act)(w:World):Prop where
 dfr:a.defers=a0.defers
 sz:a.tmps.size=a0.tmps.size
 frm:∀j,(∀k,k<n->dst k≠some j)->a.tmps[j]?=a0.tmps[j]?
 val:∀i d,l.getD i false=true->dst i=some d->∃v,a.tmps[d]?=some v/\Pv i v w
 wd:R w0 w
theorem jcN{P:Program}{ops:Array Oper}{Q:Exit->Act->World->Prop}(a0:Act)(w0:World)(dst:Nat->Option Nat)(Pv:Nat->Value->World->Prop)(R:World->World->Prop)
  (R0:R w0 w0) (RT:∀x y,R w0 x->R x y->R w0 y) (PM:∀i v x y,R w0 x->R x y->Pv i v x->Pv i v y)
  (hd:∀i o,ops[i]?=some o->o.dst=dst i) (inj:∀i k d,i<ops.size->k<ops.size->dst i=some d->dst k=some d->i=k) (dlt:∀i d,i<ops.size->dst i=some d->d<a0.tmps.size)
  (hlow:∀i o e,ops[i]?=some o->e∈o.after->Region.binds .any e=true->e.on<i)
  (step:∀i o a w,ops[i]?=some o->a.tmps.size=a0.tmps.size->(∀j,(∀k,k<ops.size->dst k≠some j)->a.tmps[j]?=a0.tmps[j]?)->(∀e∈o.after,Region.binds .any e=true->∀d,dst e.on=some d->∃v,a.tmps[d]?=some v/\Pv e.on v w)->R w0 w ->
   (Region.wanted o (yielded ops a.tmps)=true/\∀K:Act->World->Prop,(∀v w',R w w'->Pv i v w'->K (a.put (dst i) v) w')->Oper.wp P o a w K Q)\/(Region.wanted o (yielded ops a.tmps)=false/\Pv i undef w))
  (RR:∀w,R w0 w->R w w)
  (hQ:∀a w,a.defers=a0.defers->a.tmps.size=a0.tmps.size->(∀j,(∀k,k<ops.size->dst k≠some j)->a.tmps[j]?=a0.tmps[j]?)->(∀i d,i<ops.size->dst i=some d->∃v,a.tmps[d]?=some v/\Pv i v w)->R w0 w->Q .normal a w) :
  wpAny P .any ops Q ops.size (Array.replicate ops.size false) a0 w0:=by
 refine jet (jmL a0 w0 ops.size dst Pv R) ?step ?done ops.size _ a0 _ ?start (by simp) (by unfold jgU;simp)
 case start =>
  have e:∀i,(Array.replicate ops.size false).getD i false=false:=fun i=>by
   rw[jon,Array.getElem?_replicate];split<;>rfl
  exact⟨rfl,rfl,fun _ _=>rfl,(fun i d h=>absurd ((e i).symm.trans h) (by decide)),R0⟩
 case done =>
  intro l a w I hl hr
  have A:=jcF hl hlow hr
  exact hQ a w I.dfr I.sz I.frm (fun i d hi h=>I.val i d (A i hi) h) I.wd
 case step =>
 intro l i o a w I hl ho hli he
 have hil:=jdl hli
 have hi:i<ops.size:=by omega
 have dep:∀e∈o.after,Region.binds .any e=true->∀d,dst e.on=some d->∃v,a.tmps[d]?=some v/\Pv e.on v w:=fun e h1 h2 d h3=>I.val e.on d (he e h1 h2) h3
 have key:∀v w',R w w'->Pv i v w'->jmL a0 w0 ops.size dst Pv R (l.setIfInBounds i true) (a.put (dst i) v) w':=by
  intro v w' hR hP
  have hwd:=RT w w' I.wd hR
  cases hdi:dst i with
  | none =>
   refine⟨I.dfr,I.sz,I.frm,fun k d hk hkd => ?_,hwd⟩
   rw[Vm l i hil]at hk
   by_cases q:k=i
   ·rw[q,hdi]at hkd;cases hkd
   rw[if_neg q]at hk
   obtain⟨u,h1,h2⟩:=I.val k d hk hkd
   exact⟨u,h1,PM k u w w' I.wd hR h2⟩
  | some d0 =>
  have hd0:=dlt i d0 hi hdi
  have T:∀j,(a.put (some d0) v).tmps[j]?=if j=d0 then some v else a.tmps[j]?:=fun j=>by
   show(a.tmps.setIfInBounds d0 v)[j]?=_
   rw[jn9]
   by_cases h:d0=j
   ·subst h;simp[I.sz,hd0]
   rw[if_neg h,if_neg (jpo h)]
  refine⟨I.dfr,?_,fun j hj => ?_,fun k d hk hkd => ?_,hwd⟩
  ·show(a.tmps.setIfInBounds d0 v).size=_
   simp[I.sz]
  ·rw[T,if_neg (fun e=>hj i hi (by rw[hdi,e]))];exact I.frm j hj
  rw[T]
  rw[Vm l i hil]at hk
  by_cases q:k=i
  ·subst q
   rw[hdi]at hkd
   rw[if_pos (jng hkd).symm]
   exact⟨v,rfl,hP⟩
  rw[if_neg q]at hk
  have hkl:k<ops.size:=by
   rcases jnK k ops.size with z|z
   ·exact z
   rw[jon,jn2 (by omega)]at hk;cases hk
  rw[if_neg (fun e=>q (inj k i d hkl hi hkd (by rw[hdi,e])))]
  obtain⟨u,h1,h2⟩:=I.val k d hk hkd
  exact⟨u,h1,PM k u w w' I.wd hR h2⟩
 unfold wpOp
 rw[ho]
 dsimp only
 rcases step i o a w ho I.sz I.frm dep I.wd with ⟨h1,h2⟩|⟨h1,h2⟩
 ·rw[if_pos h1]
  exact .inl (h2 _ key)
 rw[if_neg (by rw[h1];decide),hd i o ho]
 exact key undef w (RR w I.wd) h2
def pvL(L:List (Value->World->Prop))(i:Nat)(v:Value)(w:World):Prop:=match L[i]? with | some P=>P v w | none=>True
def jld:List (Value->World->Prop)->Prop
 | []=>True
 | P::r=>(∀v x y,Below x.heap.size x y->P v x->P v y)/\jld r
theorem Wf:∀{L:List (Value->World->Prop)} (_:jld L) {i:Nat} {v:Value} {x y:World},Below x.heap.size x y->pvL L i v x->pvL L i v y
 | [],_,i,v,x,y,_,_=>trivial
 | P::r,h,0,v,x,y,hb,hp=>h.1 v x y hb hp
 | P::r,h,i+1,v,x,y,hb,hp=>Wf (L:=r) h.2 (i:=i) hb hp
end Go.Proofs.YtpibhbjmcmfnmaaGreatDoor
namespace Go.Proofs.YtpibhbjmcmfnmaaGreatDoor
structure Ln where
 no:Nat
 at_:Nat
 text:List UInt8
 ended:Bool
deriving DecidableEq
def head(l:List UInt8):List UInt8:=l.takeWhile (· != 10)
def nl(l:List UInt8):Bool:=l.contains 10
def qI(l:List UInt8):Nat:=(head l).length+if nl l then 1 else 0
def QO:Nat->Nat->Nat->List UInt8->List Ln
 | 0,_,_,_=>[]
 | f+1,no,at_,l=>if l=[] then [] else ⟨no,at_,head l,nl l⟩::QO f (no+1) (at_+qI l) (l.drop (qI l))
def jQ(no at_:Nat)(l:List UInt8):List Ln:=QO l.length no at_ l
def jf(l:List UInt8):List Ln:=jQ 0 0 l
def Ln.bytes(x:Ln):List UInt8:=x.text++if x.ended then [10] else []
theorem jkt(l:List UInt8):(head l).length<=l.length:=by
 unfold head
 induction l with
 | nil=>simp
 | cons a t ih =>
 simp only[joe]
 split
 ·simp;exact ih
 simp
theorem zI(l:List UInt8):l=head l++(if nl l then [10] else [])++l.drop (qI l):=by
 unfold qI
 induction l with
 | nil=>simp[head,nl]
 | cons a t ih =>
 by_cases h:a=10
 ·subst h;simp[head,nl]
 have e1:head (a::t)=a::head t:=by simp[head,h]
 have e2:nl (a::t)=nl t:=by simp[nl,Ne.symm h]
 rw[e1,e2]
 simp only[jni,jny]
 rw[show(head t).length+1+(if nl t=true then 1 else 0)=((head t).length+if nl t=true then 1 else 0)+1 by omega,joh]
 exact congrArg (a :: ·) ih
theorem KL(l:List UInt8):qI l<=l.length:=by
 have:=congrArg List.length (zI l)
 unfold qI at this ⊢
 simp only[jnf,jnr]at this
 have h1:(if nl l=true then [(10:UInt8)] else []).length=if nl l=true then 1 else 0:=by split<;>rfl
 rw[h1]at this
 omega
theorem qO(l:List UInt8)(h:l≠[]):1<=qI l:=by
 unfold qI
 cases l with
 | nil=>exact absurd rfl h
 | cons a t =>
 by_cases h:a=10
 ·subst h;simp[nl]
 simp[head,h];omega
theorem Yz:∀(f g no at_:Nat) (l:List UInt8),l.length<=f->l.length<=g->QO f no at_ l=QO g no at_ l
 | 0,0,_,_,_,_,_=>rfl
 | 0,g+1,no,at_,l,h,_=>by
  have:l=[]:=List.length_eq_zero_iff.1 (by omega)
  simp[QO,this]
 | f+1,0,no,at_,l,_,h=>by
  have:l=[]:=List.length_eq_zero_iff.1 (by omega)
  simp[QO,this]
 | f+1,g+1,no,at_,l,h1,h2=>by
  unfold QO
  split
  ·rfl
  rename_i hn
  have:=qO l hn
  rw[Yz f g _ _ _ (by simp only[jnr];omega) (by simp only[jnr];omega)]
theorem jp(no at_:Nat):jQ no at_ []=[]:=rfl
theorem jx(no at_:Nat)(l:List UInt8)(h:l≠[]):jQ no at_ l=⟨no,at_,head l,nl l⟩::jQ (no+1) (at_+qI l) (l.drop (qI l)):=by
 unfold jQ
 cases l with
 | nil=>exact absurd rfl h
 | cons a t =>
 have:=qO _ h
 rw[show(a::t).length=t.length+1 from rfl]
 conv=>lhs;unfold QO
 rw[if_neg h,Yz t.length ((a::t).drop (qI (a::t))).length _ _ _ (by simp only[jnr,jni];omega) (jnd _)]
theorem QM:∀(n no at_:Nat) (l:List UInt8),l.length<=n->(jQ no at_ l).flatMap Ln.bytes=l
 | 0,_,_,l,h=>by
  have:l=[]:=List.length_eq_zero_iff.1 (by omega)
  subst this;rfl
 | n+1,no,at_,l,h=>by
  by_cases hl:l=[]
  ·subst hl;rfl
  have hp:=qO l hl
  rw[jx _ _ _ hl,jnA,QM n _ _ _ (by simp only[jnr];omega)]
  exact(zI l).symm
theorem zg(l:List UInt8):(jf l).flatMap Ln.bytes=l:=QM _ _ _ _ (jnd _)
theorem Kg:∀(n no at_:Nat) (l:List UInt8),l.length<=n->∀pre x post,jQ no at_ l=pre++x::post->x.no=no+pre.length/\x.at_=at_+(pre.flatMap Ln.bytes).length
 | 0,_,_,l,h,pre,x,post,e=>by
  have:l=[]:=List.length_eq_zero_iff.1 (by omega)
  subst this
  rw[jp]at e
  exact absurd (congrArg List.length e) (by simp)
 | n+1,no,at_,l,h,pre,x,post,e=>by
  by_cases hl:l=[]
  ·subst hl;rw[jp]at e;exact absurd (congrArg List.length e) (by simp)
  have hp:=qO l hl
  rw[jx _ _ _ hl]at e
  cases pre with
  | nil=>simp only[jnU,List.cons.injEq]at e;obtain⟨rfl,_⟩:=e;simp
  | cons y pre =>
  simp only[jny,List.cons.injEq]at e
  obtain⟨rfl,e⟩:=e
  obtain⟨a,b⟩:=Kg n _ _ _ (by simp only[jnr];omega) pre x post e
  refine⟨by rw[a];simp;omega,?_⟩
  rw[b,jnA,jnf]
  have:(Ln.bytes ⟨no,at_,head l,nl l⟩).length=qI l:=by
   unfold Ln.bytes qI;simp only[jnf];split<;>rfl
  rw[this];omega
theorem vX(l:List UInt8)(pre:List Ln)(x:Ln)(post:List Ln)(e:jf l=pre++x::post):x.no=pre.length/\x.at_=(pre.flatMap Ln.bytes).length:=by
 have:=Kg _ 0 0 l (jnd _) pre x post e
 simpa using this
theorem yZ:∀(n no at_:Nat) (l:List UInt8),l.length<=n->∀x∈jQ no at_ l,(10:UInt8)∉x.text
 | 0,_,_,l,h,x,hx=>by
  have:l=[]:=List.length_eq_zero_iff.1 (by omega)
  subst this
  rw[jp]at hx;cases hx
 | n+1,no,at_,l,h,x,hx=>by
  by_cases hl:l=[]
  ·subst hl;rw[jp]at hx;cases hx
  have hp:=qO l hl
  rw[jx _ _ _ hl]at hx
  rcases List.mem_cons.1 hx with rfl|hx
  ·intro hm
   have:=jo1 (p:=fun(c:UInt8)=>c != 10) (l:=l)
   have:=List.all_eq_true.1 this 10 hm
   simp at this
  exact yZ n _ _ _ (by simp only[jnr];omega) x hx
theorem Js:∀(n no at_:Nat) (l:List UInt8),l.length<=n->(jQ no at_ l).length<=l.length
 | 0,_,_,l,h=>by
  have:l=[]:=List.length_eq_zero_iff.1 (by omega)
  subst this;simp[jp]
 | n+1,no,at_,l,h=>by
  by_cases hl:l=[]
  ·subst hl;simp[jp]
  have hp:=qO l hl
  rw[jx _ _ _ hl]
  have:=Js n (no+1) (at_+qI l) (l.drop (qI l)) (by simp only[jnr];omega)
  simp only[jni,jnr]at this ⊢
  have:=KL l
  omega
theorem vr(l:List UInt8):(jf l).length<=l.length:=Js _ _ _ _ (jnd _)
def vM(c:UInt8):Bool:=c==32 || c==9
def yi:List UInt8->Bool
 | []=>false
 | c::_=>vM c
def ZY:List UInt8->Bool
 | []=>false
 | c::_=>c==35
def yB(l:List UInt8)(c:UInt8):Bool:=l.contains c
def zH(l:List UInt8):Bool:=l.all vM
def za(k:List UInt8):Bool:=decide (1<=k.length)&&decide (k.length<=32) && !yi k && !ZY k && !yB k 58 && !yB k 10
def before(l:List UInt8):List UInt8:=l.takeWhile (· != 58)
def jL(l:List UInt8):Nat :=
 if yB l 10=true then 5 else if zH l=true then 1 else if ZY l=true then 2 else if yi l=true then 3 else if yB l 58=true/\za (before l)=true then 4 else 5
theorem YJ(a b:List UInt8)(c:UInt8):yB (a++b) c=(yB a c || yB b c):=by
 unfold yB;rw[jod];simp
theorem YI(a:UInt8)(b:List UInt8)(c:UInt8):yB (a::b) c=((c==a) || yB b c):=by
 unfold yB;rw[List.contains_cons]
theorem jca{l:List UInt8}{c:UInt8}(h:c∉l):yB l c=false:=by unfold yB;simpa using h
theorem ZE(a b:List UInt8)(h:yB a 58=false):before (a++58::b)=a:=by
 unfold before
 have h':∀x∈a,(x != 58)=true:=by
  intro x hx;unfold yB at h
  have:(58:UInt8)∉a:=by simpa using h
  simp;rintro rfl;exact this hx
 rw[jo5 h',joe,if_neg (by simp),jnR]
theorem vY{k:List UInt8}(h:za k=true):1<=k.length/\k.length<=32/\yi k=false/\ZY k=false/\yB k 58=false/\yB k 10=false:=by
 unfold za at h
 simp only[jnv,decide_eq_true_eq,jpt]at h
 exact⟨h.1.1.1.1.1,h.1.1.1.1.2,h.1.1.1.2,h.1.1.2,h.1.2,h.2⟩
theorem jfu{k r:List UInt8}(h:za k=true)(hr:yB r 10=false):jL (k++58::r)=4:=by
 obtain⟨a1,a0,a2,a3,a4,a5⟩:=vY h
 have b1:yB (k++58::r) 10=false:=by
  rw[YJ,a5,Bool.false_or,YI,hr];rfl
 have b2:yB (k++58::r) 58=true:=by
  rw[YJ,YI];simp
 have b3:=ZE k r a4
 cases k with
 | nil=>simp at a1
 | cons c t =>
 have b4:yi (c::t++58::r)=false:=a2
 have b5:ZY (c::t++58::r)=false:=a3
 have b6:zH (c::t++58::r)=false:=by
  have:vM c=false:=a2
  unfold zH
  rw[jny,joZ,this];rfl
 unfold jL
 rw[b1,if_neg (by decide),b6,if_neg (by decide),b5,if_neg (by decide),b4,if_neg (by decide),b2,b3,h];rfl
theorem GZ(b:List UInt8):∀a:List UInt8,(a++58::b).drop (a.length+1)=b
 | []=>rfl
 | _::a=>GZ b a
def jI:List UInt8->List (List UInt8)
 | []=>[[]]
 | c::t=>if c=10 then []::jI t else (c::(jI t).headD [])::(jI t).tail
def yg:List (List UInt8)->List UInt8
 | []=>[]
 | [p]=>p
 | p::q::r=>p++10::yg (q::r)
theorem ja0(p:List UInt8)(r:List (List UInt8))(h:r≠[]):yg (p::r)=p++10::yg r:=by
 cases r with
 | nil=>exact absurd rfl h
 | cons q r=>rfl
theorem zv(l:List UInt8):jI l=(jI l).headD []::(jI l).tail:=by
 cases l with
 | nil=>rfl
 | cons c t=>unfold jI;split<;>rfl
theorem je4(l:List UInt8):jI l≠[]:=by rw[zv];simp
theorem xC:∀(l:List UInt8),∀p∈jI l,(10:UInt8)∉p
 | [],p,h=>by unfold jI at h;simp at h;subst h;simp
 | c::t,p,h=>by
  have ih:=xC t
  rw[zv t]at ih
  unfold jI at h
  split at h
  ·rw[zv t]at h
   rcases List.mem_cons.1 h with rfl|h
   ·simp
   exact ih p h
  rename_i hc
  rcases List.mem_cons.1 h with rfl|h
  ·intro hm
   rcases List.mem_cons.1 hm with e|hm
   ·exact hc e.symm
   exact ih _ (by simp) hm
  exact ih p (jnm _ h)
theorem yI:∀(l:List UInt8),(jI l).length=l.count 10+1
 | []=>rfl
 | c::t=>by
  have ih:=yI t
  unfold jI
  split
  ·rename_i hc;subst hc;rw[jni,ih,List.count_cons_self]
  rename_i hc
  rw[List.count_cons_of_ne hc,<- ih,zv t];simp
theorem Yg:∀(l:List UInt8),yg (jI l)=l
 | []=>rfl
 | c::t=>by
  have ih:=Yg t
  unfold jI
  split
  ·rename_i hc;subst hc
   rw[ja0 _ _ (je4 t),ih];rfl
  rw[zv t]at ih
  generalize (jI t).headD []=p at *
  generalize (jI t).tail=r at *
  cases r with
  | nil=>simp only[yg]at ih ⊢;rw[ih]
  | cons q r=>simp only[yg]at ih ⊢;rw[<- ih];rfl
theorem jaU(c:UInt8)(t:List UInt8):jI (c::t)=if c=10 then []::jI t else (c::(jI t).headD [])::(jI t).tail:=rfl
theorem XV:∀(p r:List UInt8),(10:UInt8)∉p->jI (p++10::r)=p::jI r
 | [],r,_=>by simp[jI]
 | c::p,r,h=>by
  have hc:c≠10:=fun e=>h (by rw[e];simp)
  have ih:=XV p r (fun e=>h (jnm _ e))
  rw[jny,jaU,if_neg hc,ih];rfl
theorem XW:∀(p:List UInt8),(10:UInt8)∉p->jI p=[p]
 | [],_=>rfl
 | c::p,h=>by
  have hc:c≠10:=fun e=>h (by rw[e];simp)
  have ih:=XW p (fun e=>h (jnm _ e))
  unfold jI
  rw[if_neg hc,ih];rfl
def qV(k l:List UInt8):List UInt8:=if l=[] then k++[58] else k++58::32::l
def QV(l:List UInt8):Bool:=zH l || (l.head?==some 46)
def jR(l:List UInt8):List UInt8:=if QV l then 32::46::l else 32::l
def zA(k v:List UInt8):List (List UInt8):=qV k ((jI v).headD [])::(jI v).tail.map jR
def zw(k v:List UInt8):Nat:=if za k then (if v.length<=1000 then 0 else 6) else 5
def jn(ls:List (List UInt8)):List UInt8:=ls.flatMap fun l=>l++[10]
def yM(l:List UInt8):List UInt8:=if l.head?=some 32 then l.tail else l
def zV(l:List UInt8):List UInt8:=if l.head?=some 46 then l.tail else l
def yv(l:List UInt8):List UInt8:=l.drop ((before l).length+1)
def jc3:List (List UInt8)->Bool
 | []=>false
 | a::r=>(jL a==4)&&r.all (fun l=>jL l==3)
def KY(ls:List (List UInt8)):List (List UInt8):=yM (yv (ls.headD []))::ls.tail.map fun l=>zV l.tail
def yl(ls:List (List UInt8)):List UInt8:=yg (KY ls)
def zi(ls:List (List UInt8)):Nat:=if jc3 ls then (if (yl ls).length<=1000 then 0 else 6) else 2
def ql(ls:List (List UInt8)):List UInt8:=if zi ls=0 then before (ls.headD []) else []
def qk(ls:List (List UInt8)):List UInt8:=if zi ls=0 then yl ls else []
theorem jdm(k v:List UInt8):(zA k v).length=v.count 10+1:=by
 rw[<- yI,zv v];unfold zA;simp
theorem Zs{l:List UInt8}(h:(10:UInt8)∉l):(10:UInt8)∉jR l:=by
 unfold jR;split<;>simp[h]
theorem jbc{k l:List UInt8}(hk:yB k 10=false)(h:(10:UInt8)∉l):(10:UInt8)∉qV k l:=by
 have hk':(10:UInt8)∉k:=by unfold yB at hk;simpa using hk
 unfold qV;split<;>simp[h,hk']
theorem Jg(v:List UInt8):(10:UInt8)∉(jI v).headD []:=xC v _ (by rw[zv v];simp)
theorem XG(v:List UInt8):∀p∈(jI v).tail,(10:UInt8)∉p:=fun p hp=>xC v p (List.mem_of_mem_tail hp)
theorem QN{k:List UInt8}(v:List UInt8)(hk:za k=true):∀l∈zA k v,(10:UInt8)∉l:=by
 intro l hl
 unfold zA at hl
 rcases List.mem_cons.1 hl with rfl|hl
 ·exact jbc (vY hk).2.2.2.2.2 (Jg v)
 obtain⟨p,hp,rfl⟩:=List.mem_map.1 hl
 exact Zs (XG v p hp)
theorem Gx{l:List UInt8}(h:(10:UInt8)∉l):jL (jR l)=3:=by
 have hc:=jca (Zs h)
 unfold jR at hc ⊢
 unfold jL
 by_cases hd:QV l=true
 ·rw[if_pos hd]at hc ⊢
  rw[hc]
  simp[zH,vM,ZY,yi]
 rw[if_neg hd]at hc ⊢
 have hb:zH l=false:=by unfold QV at hd;cases h:zH l<;>simp[h]at hd ⊢
 have hb2:zH (32::l)=false:=by unfold zH at hb ⊢;rw[joZ,hb];simp
 rw[hc,hb2]
 simp[vM,ZY,yi]
theorem Gy(l:List UInt8):zV (jR l).tail=l:=by
 unfold jR
 by_cases hd:QV l=true
 ·rw[if_pos hd];simp[zV]
 rw[if_neg hd]
 have:¬l.head?=some 46:=fun e=>hd (by unfold QV;rw[e];simp)
 simp[zV,this]
theorem Kp(k l:List UInt8):∃r,qV k l=k++58::r/\yM r=l/\((10:UInt8)∉l->yB r 10=false):=by
 unfold qV
 by_cases h:l=[]
 ·subst h;exact⟨[],by simp,by simp[yM],fun _=>by simp[yB]⟩
 rw[if_neg h];exact⟨32::l,rfl,by simp[yM],fun hl=>by rw[YI,jca hl];rfl⟩
theorem jdF{k l:List UInt8}(hk:za k=true)(h:(10:UInt8)∉l):jL (qV k l)=4:=by
 obtain⟨r,e,_,h2⟩:=Kp k l
 rw[e];exact jfu hk (h2 h)
theorem QS{k l:List UInt8}(hk:za k=true):before (qV k l)=k/\yM (yv (qV k l))=l:=by
 obtain⟨r,e,h1,_⟩:=Kp k l
 have hb:=ZE k r (vY hk).2.2.2.2.1
 rw[e]
 refine⟨hb,?_⟩
 unfold yv
 rw[hb,GZ,h1]
theorem Gm{k v:List UInt8}(hk:za k=true):jc3 (zA k v)=true:=by
 unfold zA
 show(jL _==4&&_)=true
 rw[jdF hk (Jg v),jnv]
 refine⟨rfl,?_⟩
 rw[jnZ]
 intro l hl
 obtain⟨p,hp,rfl⟩:=List.mem_map.1 hl
 rw[Gx (XG v p hp)];rfl
theorem Ke{k v:List UInt8}(hk:za k=true):yl (zA k v)=v:=by
 have:KY (zA k v)=jI v:=by
  unfold KY zA
  simp only[List.headD_cons,List.tail_cons,joN]
  rw[(QS hk).2]
  conv=>rhs;rw[zv v]
  congr 1
  conv=>rhs;rw[<- List.map_id (jI v).tail]
  apply jpg
  intro l _
  exact Gy l
 unfold yl
 rw[this,Yg]
theorem Gl{k v:List UInt8}(hk:za k=true)(hv:v.length<=1000):zi (zA k v)=0/\ql (zA k v)=k/\qk (zA k v)=v:=by
 have h:zi (zA k v)=0:=by
  unfold zi;rw[Gm hk,Ke hk,if_pos rfl,if_pos hv]
 refine⟨h,?_,?_⟩
 ·unfold ql;rw[if_pos h];unfold zA;exact(QS hk).1
 unfold qk;rw[if_pos h,Ke hk]
theorem YH:∀(p r:List UInt8),(10:UInt8)∉p->head (p++10::r)=p/\nl (p++10::r)=true
 | p,r,h=>by
  have h':∀x∈p,(x != 10)=true:=by intro x hx;simp;rintro rfl;exact h hx
  refine⟨?_,by unfold nl;simp⟩
  unfold head
  rw[jo5 h',joe,if_neg (by simp),jnR]
theorem xw(a b:List (List UInt8)):jn (a++b)=jn a++jn b:=by unfold jn;simp
theorem Ya:∀(ls:List (List UInt8)),(jn ls).length=(ls.map List.length).sum+ls.length
 | []=>rfl
 | l::r=>by
  have e:jn (l::r)=l++10::jn r:=by unfold jn;simp
  rw[e,jnf,jni,Ya r];simp;omega
theorem Kj:∀(ls:List (List UInt8)),(yg ls).length<=(ls.map List.length).sum+ls.length
 | []=>by simp[yg]
 | [p]=>by simp[yg]
 | p::q::r=>by
  have ih:=Kj (q::r)
  show(p++10::yg (q::r)).length<=_
  rw[jnf,jni]
  simp only[jnH,jom,jni]at ih ⊢;omega
theorem Wh:∀(l:List UInt8),((jI l).map List.length).sum+(jI l).length=l.length+1
 | []=>rfl
 | c::t=>by
  have ih:=Wh t
  rw[zv t]at ih
  unfold jI
  split
  ·rw[zv t];simp at ih ⊢;omega
  simp at ih ⊢;omega
theorem Qy:∀(r:List (List UInt8)),((r.map jR).map List.length).sum<=(r.map List.length).sum+2*r.length
 | []=>by simp
 | p::r=>by
  have ih:=Qy r
  have h:(jR p).length<=p.length+2:=by unfold jR;split<;>simp
  simp only[jnH,jom,jni]at ih ⊢;omega
theorem jfk(k v:List UInt8):((zA k v).map List.length).sum+(zA k v).length<=k.length+3*v.length+8:=by
 have a:=Wh v
 rw[zv v]at a
 have b:=Qy (jI v).tail
 have c:(qV k ((jI v).headD [])).length<=k.length+((jI v).headD []).length+2:=by unfold qV;split<;>simp<;>omega
 unfold zA
 simp only[jnH,jom,jni,jnI]at a b ⊢
 omega
theorem jga(l:List UInt8):(yM l).length<=l.length:=by unfold yM;split<;>simp
theorem jdQ(l:List UInt8):(zV l).length<=l.length:=by unfold zV;split<;>simp
theorem jgL(l:List UInt8):(yv l).length<=l.length:=by unfold yv;rw[jnr];omega
theorem jbJ:∀r:List (List UInt8),((r.map fun l=>zV l.tail).map List.length).sum<=(r.map List.length).sum
 | []=>by simp
 | a::r=>by
  have ih:=jbJ r
  have h:=jdQ a.tail
  have h2:a.tail.length<=a.length:=by simp
  simp only[jnH,jom]at ih ⊢
  omega
theorem jhk(ls:List (List UInt8)):(yl ls).length<=(ls.map List.length).sum+ls.length+1:=by
 have h:=Kj (KY ls)
 have hl:(KY ls).length<=ls.length+1:=by unfold KY;cases ls<;>simp
 have hs:((KY ls).map List.length).sum<=(ls.map List.length).sum:=by
  cases ls with
  | nil=>decide
  | cons a r =>
  unfold KY
  have h1:=jbJ r
  have h2:=jga (yv a)
  have h3:=jgL a
  simp only[List.headD_cons,List.tail_cons,jnH,jom]at h1 ⊢
  omega
 unfold yl
 omega
end Go.Proofs.YtpibhbjmcmfnmaaGreatDoor
