/- Texts put together:FE,FF,FG,FH,FI,FJ,PF. -/
import Derived.Lib.IndexBytes
import Derived.StillTailTactics
import Derived.Laws.ResultCell
import Derived.Laws.Rows
import Derived.Test.YtimfhnfcmhmjcaaGreatDoorBgr4
set_option linter.unusedVariables false
set_option maxRecDepth 100000
set_option maxHeartbeats 16000000
namespace Go.Proofs.YtimfhnfcmhmjcaaGreatDoor
abbrev jim:=@List.getElem?_eq_getElem
abbrev jiu:=@List.getElem?_cons_zero
abbrev jiA:=@List.mem_of_getElem?
abbrev jiU:=@List.take_add_one
abbrev ji9:=@List.getElem?_map
abbrev jjh:=@List.map_append
abbrev jjp:=@List.drop_eq_getElem_cons
abbrev jjx:=@Nat.pos_of_ne_zero
abbrev jjy:=@Go.Joins.ownsRow_form
abbrev jjB:=@Go.World.cell?_alloc_at
abbrev jjM:=@List.drop_length
abbrev jjZ:=@Go.World.cell?_alloc_old
abbrev jke:=@List.take_succ_cons
abbrev jkl:=@Nat.add_zero
abbrev jkn:=@Ne.symm
abbrev jks:=@Int.toNat_natCast
abbrev jky:=@List.length_singleton
abbrev jkA:=@Nat.ne_of_lt
end Go.Proofs.YtimfhnfcmhmjcaaGreatDoor
namespace Go.Proofs.YtimfhnfcmhmjcaaGreatDoor
open Go.RowKit Go.Shelf
theorem jgt{l:List UInt8}(h:l≠[]):(B l).toList.isEmpty=false/\¬(B l).toList=[]:=by
 rw[jjt,jo];exact⟨by simpa using h,h⟩
theorem mkB(l:List UInt8):(⟨l.toArray⟩:ByteArray)=B l:=rfl
theorem jb7(k l:List UInt8)(hk:k.length<=100000)(hl:l.length<=100000)(w:World):
  Calls Tryz.prog 199 #[.string (B k),.string (B l)] w fun e w'=>e=.returned (.string (B (qk k l)))/\w=w':=by
 by_cases h:l=[]
 ·have e:B (qk k l)=B k ++ ⟨#[58]⟩:=by unfold qk;rw[if_pos h];exact(jE k [58]).symm
  rw[e]
  subst h
  have hz:=jm k
  generalize B k=s at *
  rw[show B []=⟨#[]⟩ from rfl]
  go_enter Tryz.func199,Tryz.ntmps199
  go_wp2
  go_ret
  exact⟨rfl,rfl⟩
 have e:B (qk k l)=((B k ++ ⟨#[58]⟩) ++ ⟨#[32]⟩)++B l:=by
  unfold qk;rw[if_neg h]
  rw[show(⟨#[58]⟩:ByteArray)=B [58] from rfl,show(⟨#[32]⟩:ByteArray)=B [32] from rfl,jE,jE,jE];simp
 rw[e]
 obtain⟨n1,n2⟩:=jgt h
 have hz:=jm k
 have hz2:=jm l
 generalize B k=s at *
 generalize B l=t at *
 clear e
 go_enter Tryz.func199,Tryz.ntmps199
 go_wp2
 go_ret
 exact⟨rfl,rfl⟩
theorem jfr(l:List UInt8):Lib.hasPrefix l [46]=(l.head?==some 46):=by
 unfold Lib.hasPrefix
 cases l with
 | nil=>rfl
 | cons a t=>simp[List.isPrefixOf,Bool.beq_comm]
theorem jf9(l:List UInt8)(w:World):
  Calls Tryz.prog 110 #[.string (B l),.string ⟨#[46]⟩] w fun e w'=>e=.returned (.bool (l.head?==some 46))/\w=w':=by
 refine(Tryz.strings_HasPrefix (B l) ⟨#[46]⟩ _).mono ?_
 rw[show(⟨#[46]⟩:ByteArray).data.toList=[46] from rfl,jfr,jo]
 rintro e w' ⟨rfl,rfl⟩
 exact⟨rfl,rfl⟩
theorem Ku(l:List UInt8)(hl:l.length<=100000)(w:World):
  Calls Tryz.prog 200 #[.string (B l)] w fun e w'=>e=.returned (.string (B (jG l)))/\Below w.heap.size w w':=by
 have hz:=jm l
 cases hb:zh l with
 | true =>
  have e:B (jG l)=⟨#[32,46]⟩++B l:=by
   unfold jG JI;rw[hb];exact(jE [32,46] l).symm
  rw[e]
  have T:=fun w=>Wb (B l) (by omega) (by rw[jo];exact hb) w
  clear e hb
  generalize B l=s at *
  go_enter Tryz.func200,Tryz.ntmps200
  go_wp2_with (go_at_call 207;refine(T _).mono ?_;rintro e w1 ⟨rfl,b1⟩)
  go_ret
  exact⟨rfl,b1⟩
 | false =>
 have T:=fun w=>Zi (B l) (by omega) w
 obtain⟨n1,n2⟩:=Qu (B l) (by rw[jo];exact hb)
 have D:=jf9 l
 generalize Zh (B l)=tr at *
 cases hd:(l.head?==some 46) with
 | true =>
  have e:B (jG l)=⟨#[32,46]⟩++B l:=by
   unfold jG JI;rw[hb,hd];exact(jE [32,46] l).symm
  rw[e]
  rw[hd]at D
  clear e hb hd
  generalize B l=s at *
  go_enter Tryz.func200,Tryz.ntmps200
  go_wp2_with (first | (go_at_call 207;refine(T _).mono ?_;rintro e w1 ⟨rfl,b1⟩) | (go_at_call 110;refine(D _).mono ?_;rintro e w2 ⟨rfl,rfl⟩))
  go_ret
  exact⟨rfl,b1⟩
 | false =>
 have e:B (jG l)=⟨#[32]⟩++B l:=by
  unfold jG JI;rw[hb,hd];exact(jE [32] l).symm
 rw[e]
 rw[hd]at D
 clear e hb hd
 generalize B l=s at *
 go_enter Tryz.func200,Tryz.ntmps200
 go_wp2_with (first | (go_at_call 207;refine(T _).mono ?_;rintro e w1 ⟨rfl,b1⟩) | (go_at_call 110;refine(D _).mono ?_;rintro e w2 ⟨rfl,rfl⟩))
 go_ret
 exact⟨rfl,b1⟩
def qB(k v:List UInt8):Value:=.agg #[.string (B k),.string (B v)]
attribute [local go_sem] zV jg6 jeS
theorem xI(k v:List UInt8)(hk:k.length<=1000000)(hv:v.length<=1000000)(w:World):
  Calls Tryz.prog 197 #[qB k v] w fun e w'=>e=.returned (xl (za k v))/\Below w.heap.size w w':=by
 have K:=fun w=>jbO (B k) (by rw[jm];unfold maxLen;omega) w
 rw[jo]at K
 have hz:=jm v
 unfold za qB
 generalize B k=s at *
 cases hg:jR k with
 | false =>
  rw[hg]at K
  generalize B v=t at *
  go_enter Tryz.func197,Tryz.ntmps197
  go_wp2_with (go_at_call 209;refine(K _).mono ?_;rintro e w1 ⟨rfl,rfl⟩)
  go_ret
  exact⟨rfl,(jil _ _).alloc (jij _) _⟩
 | true =>
 rw[hg]at K
 by_cases h:v.length<=1000
 ·rw[if_pos rfl,if_pos h]
  rw[<- hz]at h
  generalize B v=t at *
  go_enter Tryz.func197,Tryz.ntmps197
  go_wp2_with (go_at_call 209;refine(K _).mono ?_;rintro e w1 ⟨rfl,rfl⟩)
  go_ret
  exact⟨rfl,(jil _ _).alloc (jij _) _⟩
 rw[if_pos rfl,if_neg h]
 rw[<- hz]at h
 generalize B v=t at *
 go_enter Tryz.func197,Tryz.ntmps197
 go_wp2_with (go_at_call 209;refine(K _).mono ?_;rintro e w1 ⟨rfl,rfl⟩)
 go_ret
 exact⟨rfl,(jil _ _).alloc (jij _) _⟩
theorem Kf(l:List UInt8)(h:(10:UInt8)∈l):jy l=l.take (l.takeWhile (· != 10)).length::jy (l.drop ((l.takeWhile (· != 10)).length+1)):=by
 have e:l=l.takeWhile (· != 10)++10::l.drop ((l.takeWhile (· != 10)).length+1):=by
  have a:=zi l
  unfold head nl zY at a
  have hc:l.contains 10=true:=by simpa using h
  unfold head nl at a
  rw[if_pos hc,if_pos hc]at a
  simpa using a
 have hp:(10:UInt8)∉l.takeWhile (· != 10):=fun hm=>by have:=List.all_eq_true.1 (jjR (l:=l) (p:=(· != 10))) _ hm;simp at this
 have ht:l.take (l.takeWhile (· != 10)).length=l.takeWhile (· != 10):=(List.prefix_iff_eq_take.1 (jjq _)).symm
 rw[ht]
 conv=>lhs;rw[e]
 exact QL _ _ hp
theorem Ju:∀(k:Nat) (l:List UInt8),l.count 10=k->Lib.splitK [10] 0 k l=jy l
 | 0,l,h=>by
  have:(10:UInt8)∉l:=List.count_eq_zero.1 h
  rw[QM l this];rfl
 | k+1,l,h=>by
  have hm:(10:UInt8)∈l:=List.count_pos_iff.1 (by omega)
  have hp:=Kf l hm
  have hl:=vy l
  rcases qj l 10 with ⟨_,h2⟩|⟨h1,_⟩
  ·exact absurd hm h2
  unfold Lib.splitK
  rw[Lib.index_one,h1]
  rw[hp]at hl
  have hl2:=vy (l.drop ((l.takeWhile (· != 10)).length+1))
  rw[if_neg (by simp<;>omega),hp]
  simp only[jks,jkl,jky]
  rw[Ju k _ (by simp only[jin]at hl;omega)]
theorem YJ(l:List UInt8):Lib.splitB ⟨#[10]⟩ 0 (Lib.countB (B l) ⟨#[10]⟩) (B l)=(jy l).map B/\Lib.countB (B l) ⟨#[10]⟩+1=(jy l).length:=by
 have hc:Lib.countB (B l) ⟨#[10]⟩=l.count 10:=by
  show Lib.count (B l).data.toList [10]=_
  rw[Lib.count_one,jo]
 have h:=Lib.splitB_data ⟨#[10]⟩ 0 (Lib.countB (B l) ⟨#[10]⟩) (B l)
 rw[jo,hc]at h
 rw[hc]
 refine⟨?_,(vy l).symm⟩
 have h2:Lib.splitK (⟨#[10]⟩:ByteArray).data.toList 0 (l.count 10) l=jy l:=Ju _ l rfl
 rw[h2]at h
 rw[<- h,jjA]
 conv=>lhs;rw[<- List.map_id (Lib.splitB ⟨#[10]⟩ 0 (l.count 10) (B l))]
 exact jkd fun s _=>(jc4 s).symm
theorem jcg:(Tryz.prog.info? 9).map (fun i=>(i.zero,i.size,i.bytes))=some (some (.string ByteArray.empty),1,16):=by kernel_rfl
theorem Gg(l:List UInt8)(hl:l.length<=1000000)(w:World):
  Calls Tryz.prog 198 #[.string (B l),.string ⟨#[10]⟩] w fun e w' =>
   e=.returned (.slice (some ⟨w.heap.size,0,none⟩) (jy l).length (jy l).length)/\w'=w.alloc (.cells (((jy l).map B).map Value.string).toArray 9):=by
 obtain⟨p1,p2⟩:=YJ l
 have hz:=jm l
 have c:=Any.strings_genSplit_core Tryz.lays221 jcg (B l) ⟨#[10]⟩ 0 (-1) (Lib.countB (B l) ⟨#[10]⟩+1) w (by omega) (by decide) (jiD _)
  (fun x cc hx=>(Tryz.strings_Index_one x 10 _).mono (fun e w' ⟨he,hw⟩=>⟨by rw[he];show _=Ending.returned (Value.int .i64 (Lib.index x.data.toList [10]));rw[Lib.index_one],hw⟩))
  ((Tryz.strings_Count_one (B l) 10 w).mono (fun e w' ⟨he,hw⟩=>⟨by rw[he];show _=Ending.returned (Value.int .i64 ((Lib.count (B l).data.toList [10]:Nat):Int));rw[Lib.count_one];rfl,hw⟩))
  (by decide) (by decide) (by
   have:=Lib.countB_le ⟨#[10]⟩ (by decide) (B l).size (B l) (jij _)
   rw[if_pos (by decide)];omega)
 rw[Nat.add_sub_cancel,p1]at c
 have e2:Lib.cellsOf ((jy l).map B) (Lib.countB (B l) ⟨#[10]⟩+1)=(((jy l).map B).map Value.string).toArray:=by
  rw[p2,show(jy l).length=((jy l).map B).length by simp];exact Lib.cellsOf_full _
 rw[e2,jiQ,p2]at c
 generalize (jy l).length=n at *
 generalize (((jy l).map B).map Value.string).toArray=cs at *
 clear p1 p2 e2
 generalize B l=s at *
 go_enter Tryz.func198,Tryz.ntmps198
 go_wp2_with (go_at_call 229;refine c.mono ?_;rintro e w' ⟨rfl,rfl⟩)
 go_ret
 exact⟨rfl,rfl⟩
end Go.Proofs.YtimfhnfcmhmjcaaGreatDoor
namespace Go.Proofs.YtimfhnfcmhmjcaaGreatDoor
open Go.RowKit Go.Shelf
theorem zl{w w':World}{base N:Nat}{e:TypeId}{size:Nat}{v:Value}{n:Nat}{xs:List Value}(h:w.ownsRow base e size v n xs)(hb:Below N w w')(hN:w.heap.size<=N):w'.ownsRow base e size v n xs:=by
 refine⟨h.1,?_⟩
 rcases h.2 with hn|⟨g,cap,cur,hv,hg,hc,rest⟩
 ·exact .inl hn
 refine .inr ⟨g,cap,cur,hv,hg,?_,rest⟩
 have:g<w.heap.size:=(Array.getElem?_eq_some_iff.1 hc).1
 exact(hb.block g (by omega)).trans hc
def JQ(w:World)(base:Nat)(v:Value)(ss:List ByteArray):Prop:=w.ownsRow base 9 1 v ss.length (ss.map Value.string)
theorem JQ.kept{w w':World}{base N:Nat}{v:Value}{ss:List ByteArray}(h:JQ w base v ss)(hb:Below N w w')(hN:w.heap.size<=N):JQ w' base v ss:=zl h hb hN
theorem JQ.strs{w:World}{base:Nat}{v:Value}{ss:List ByteArray}(h:JQ w base v ss):Strs w v ss:=by
 rcases jjd h with ⟨rfl,hn⟩|⟨g,cap,rfl⟩
 ·have:ss=[]:=by cases ss with | nil=>rfl | cons _ _=>simp at hn
  subst this
  exact Strs.none _ _
 refine⟨_,cap,rfl,(by rcases h.2 with ⟨q,_⟩ | ⟨g',cap',cur,q,_,_,q2,_⟩;cases q;cases q;exact q2),fun i s hs=>⟨g,0,rfl,(jjr h g rfl).2,?_⟩⟩
 have hi:i<ss.length:=by
  rcases jiK i ss.length with q|q
  ·exact q
  rw[jiW q]at hs;cases hs
 rw[jiP,jiG h i (by omega),ji9,hs];rfl
theorem JQ.one(w:World)(base:Nat)(hb:base<=w.heap.size)(s:ByteArray):JQ (w.alloc (.cells #[.string s] 9)) base (.slice (some ⟨w.heap.size,0,none⟩) 1 1) [s] :=
 World.ownsRow_lit w #[.string s] 1 hb (by decide) rfl
theorem ja2(W:World)(x:ByteArray)(t:TypeId):∀(j:Nat) u,[Value.string x][j]?=some u->(W.alloc (.cells #[.string x] t)).cell? ((⟨W.heap.size,0,none⟩:Addr).add j)=some u:=by
 intro j u h
 have hadd:(⟨W.heap.size,0,none⟩:Addr).add j=⟨W.heap.size,j,none⟩:=by unfold Addr.add;split<;>simp_all
 rw[hadd,jjB _ _ _ _ rfl]
 match j,h with
 | 0,h=>simpa using h
theorem jdI{k v:List UInt8}{p:List UInt8}{r:List (List UInt8)}(h:jy v=p::r):jX k v=qk k p::r.map jG:=by unfold jX;rw[h];rfl
theorem jbL:∀(r:List (List UInt8)) (q:List UInt8),q∈r->q.length<=(r.map List.length).sum
 | [],q,h=>by simp at h
 | a::r,q,h=>by
  rcases List.mem_cons.1 h with rfl|h
  ·simp
  have:=jbL r q h;simp;omega
theorem jdv{v p:List UInt8}{r:List (List UInt8)}(h:jy v=p::r):p.length<=v.length/\(∀q∈r,q.length<=v.length)/\r.length<=v.length:=by
 have a:=VN v
 rw[h]at a
 simp only[jiX,jjP,jin]at a
 refine⟨by omega,fun q hq => ?_,by omega⟩
 have:q.length<=(r.map List.length).sum:=jbL _ _ hq
 omega
attribute [local go_sem] zV
theorem jbG(k v:List UInt8)(hk:k.length<=100000)(hv:v.length<=100000)(w:World)(h:za k v≠0):
  Calls Tryz.prog 151 #[qB k v] w fun e w'=>e=.returned (.tuple #[.slice none 0 0,xl (za k v)])/\Below w.heap.size w w':=by
 have C:=fun w=>xI k v (by omega) (by omega) w
 rw[jQ _ (jjx h)]at C ⊢
 generalize za k v=n at *
 unfold qB at *
 generalize B k=s at *
 generalize B v=t at *
 go_enter Tryz.func151,Tryz.ntmps151
 go_wp2_with (go_at_call 197;refine(C _).mono ?_;rintro e w1 ⟨rfl,b1⟩;have c0:=b1.cell (p:=⟨w.heap.size,0,none⟩) (by simp);have c1:=b1.cell (p:=⟨w.heap.size,1,none⟩) (by simp))
 go_ret2
 exact⟨rfl,((jil _ _).alloc (jij _) _).trans (b1.mono (by simp))⟩
theorem Kw(k l:List UInt8)(hk:k.length<=100000)(hl:l.length<=100000)(w:World):
  Calls Tryz.prog 199 #[.string (B k),.string (B l)] w fun e w'=>e=.returned (.string (B (qk k l)))/\w'=w :=
 (jb7 k l hk hl w).mono fun e w' ⟨a,b⟩=>⟨a,b.symm⟩
theorem jbS:(Tryz.prog.info? 9).map (fun i=>(i.zero,i.size,i.bytes))=some (some (.string ⟨#[]⟩),1,16):=by kernel_rfl
theorem jbF(k v:List UInt8)(hk:k.length<=100000)(hv:v.length<=100000)(w:World)(h:za k v=0):
  Calls Tryz.prog 151 #[qB k v] w fun e w'=>∃sv base,e=.returned (.tuple #[sv,.nilIface])/\JQ w' base sv ((jX k v).map B)/\Below w.heap.size w w':=by
 have C:=fun w=>xI k v (by omega) (by omega) w
 rw[h]at C
 clear h
 obtain⟨p,r,hp⟩:∃p r,jy v=p::r:=⟨_,_,jZ v⟩
 have SP:=fun w=>Gg v (by omega) w
 rw[hp]at SP
 obtain⟨z1,z2,z3⟩:=jdv hp
 have HL:=jii (jdI (k:=k) hp)
 clear hp
 have F1:=fun w=>Kw k p (by omega) (by omega) w
 unfold qB at *
 generalize hfl:qk k p=fl at *
 have HF:=jii hfl
 clear hfl
 generalize B k=s at *
 generalize B v=t at *
 obtain⟨i0,hi,hz0,hz1,hz2⟩:=info_parts jbS
 go_enter Tryz.func151,Tryz.ntmps151
 go_wp2_with fail
 refine(C _).mono ?_
 rintro e w1 ⟨rfl,b1⟩
 have c0:=b1.cell (p:=⟨w.heap.size,0,none⟩) (by simp)
 have c1:=b1.cell (p:=⟨w.heap.size,1,none⟩) (by simp)
 have hs1:=b1.size
 go_wp2_with fail
 refine(SP _).mono ?_
 rintro e w2 ⟨rfl,hw2⟩
 have q0:w2.cell? ⟨w.heap.size,0,none⟩=some (.string s):=by
  rw[hw2,jjZ _ _ _ (jkA (show w.heap.size<w1.heap.size by have:=hs1;simp at this;omega)),c0,jjB _ _ _ _ rfl];rfl
 have PC:∀(j:Nat) x,(p::r)[j]?=some x->w2.cell? ⟨w1.heap.size,j,none⟩=some (.string (B x)):=by
  intro j x hx
  rw[hw2,jjB _ _ _ _ rfl]
  simp only[jjA,jiv,ji9,hx];rfl
 have hb12:Below w.heap.size w w2:=by
  rw[hw2]
  exact(((jil _ _).alloc (jij _) _).trans (b1.mono (by simp))).alloc (by simp at hs1;omega) _
 have hlt:w1.heap.size<w2.heap.size:=by rw[hw2];simp
 have e0:=PC 0 p rfl
 have hz9:w.heap.size<w1.heap.size:=by simp at hs1;omega
 have BW:=jii hb12
 have PCH:=jii (fun(j:Nat) x (hx:r[j]?=some x)=>PC (j+1) x (by simpa using hx))
 clear hw2 c0 c1 b1 hs1 PC hb12
 generalize w1.heap.size=b0 at *
 clear w1
 rw[jin]
 go_wp2_with fail
 refine wp_region_still_tail 6 (by kernel_rfl) (by kernel_rfl) ?_
 simp only[jke,List.take_zero,List.drop_succ_cons,List.drop_zero]
 still_step
 still_step
 still_step
 still_step
 still_step
 still_call (F1 _)
 refine wpStill_nil ?_
 change wpList _ _ _ _ _ w2.drew
 replace hlt:b0<w2.drew.heap.size:=hlt
 replace BW:Hid (Below w.heap.size w w2.drew):=BW.out.drew
 replace PCH:Hid (∀(j:Nat) x,r[j]?=some x->w2.drew.cell? ⟨b0,j+1,none⟩=some (.string (B x))):=PCH
 clear q0 e0 SP C F1
 generalize w2.drew=w3 at *
 have hw3:=BW.out.size
 go_wp2_with fail
 ·subst h
  go_loopw [6,27] (fun v6 i wr=>i=.int .i64 0/\JQ wr w3.heap.size v6 [B fl]/\Below w3.heap.size w3 wr) (fun _ i _=>0)
  case atStart=>exact⟨rfl,JQ.one w3 _ (jij _) _,(jil _ _).alloc (jij _) _⟩
  case round =>
  obtain⟨rfl,hown,hb⟩:=hrel
  go_wp2_with fail
  go_ret2
  exact⟨_,_,rfl,by rw[HL.out];exact hown,BW.out.trans (hb.mono hw3)⟩
 go_loopw [6,27] (fun v6 i wr=>∃(k:Nat),k<=r.length/\i=.int .i64 k/\JQ wr w3.heap.size v6 ((fl::(r.take k).map jG).map B)/\Below w3.heap.size w3 wr) (fun _ i _=>r.length-(intOf i).toNat)
 case atStart=>exact⟨0,jiD _,rfl,JQ.one w3 _ (jij _) _,(jil _ _).alloc (jij _) _⟩
 case round =>
 obtain⟨k,hkr,rfl,hown,hb⟩:=hrel
 by_cases hkl:k<r.length
 ·obtain⟨x,hx⟩:∃x,r[k]?=some x:=⟨_,jim hkl⟩
  have hcx:=PCH.out k x hx
  have hcx2:=(hb.cell (p:=⟨b0,k+1,none⟩) hlt).trans hcx
  rw[Nat.add_comm k 1]at hcx2
  have hxl:=z2 x (jiA hx)
  have TK:Hid ((fl::(r.take (k+1)).map jG).map B=(fl::(r.take k).map jG).map B++[B (jG x)]):=by
   show _=_
   rw[jiU,hx];simp
  have FT:=fun w=>Ku x (by omega) w
  have hll:((fl::(r.take k).map jG).map B).length=k+1:=by simp;omega
  have HLL:=jii hll
  clear hx hcx
  generalize (fl::(r.take k).map jG).map B=ls at *
  go_wp2_with fail
  refine(FT _).mono ?_
  rintro e w4 ⟨rfl,b4⟩
  have hown4:w4.ownsRow w3.heap.size 9 1 u6 ls.length (ls.map Value.string):=hown.kept b4 (jij _)
  have hs4:=b4.size
  have hs3:=hb.size
  have HC:=jii (ja2 w4 (B (jG x)) 9)
  have hb4:Below w3.heap.size w3 w4:=hb.trans (b4.mono hs3)
  clear hown b4
  generalize jG x=y at *
  go_wp2_with (at_builtin;refine wpList_append_own _ rfl _ _ 183 rfl w3.heap.size 9 i0 _ 1 16 Tryz.underlying183 hi hz0 hz1 hz2 rfl (by decide) _ _ _ rfl (hown4.alloc _) ⟨w4.heap.size,0,none⟩ 1 1 _ rfl rfl HC.out ?c2 ?c3 ?c4 ?c5 ?_)
  case c2=>intro u hu;simp at hu;subst hu;rfl
  case c3=>unfold maxLen;omega
  case c4=>omega
  case c5=>simp;omega
  intro v' w5 hown' hgrow _
  obtain⟨g',cap',rfl⟩:=ownsRow_succ hown'
  have hb5:Below w3.heap.size w3 w5:=(hb4.alloc (by omega) _).grown hgrow (by simp;omega) (fun j ej=>(hown4.lt j ej).1)
  go_wp2_with fail
  go_roundw
  case rel =>
   refine⟨k+1,hkl,by go_num,?_,hb5⟩
   rw[TK.out]
   unfold JQ
   rw[jik,jjh,HLL.out];exact hown'
  case measure=>simp[intOf];omega
 obtain rfl:k=r.length:=by omega
 rw[jiL]at hown
 go_wp2_with fail
 go_ret2
 exact⟨_,_,rfl,by rw[HL.out];exact hown,BW.out.trans (hb.mono hw3)⟩
end Go.Proofs.YtimfhnfcmhmjcaaGreatDoor
namespace Go.Proofs.YtimfhnfcmhmjcaaGreatDoor
open Go.RowKit Go.Shelf
def jc1(want:Nat):List (List UInt8)->Bool
 | []=>true
 | a::r=>(jz a==want)&&jc1 3 r
theorem Wn:∀r:List (List UInt8),jc1 3 r=r.all (fun l=>jz l==3)
 | []=>rfl
 | a::r=>by unfold jc1;rw[Wn r,jkb]
theorem jfn(ls:List (List UInt8)):Gj ls=(decide (0<ls.length)&&jc1 4 ls):=by
 cases ls with
 | nil=>rfl
 | cons a r=>unfold Gj jc1;rw[Wn];simp
theorem ja7(ls:List (List UInt8))(k want:Nat)(x:List UInt8)(h:ls[k]?=some x):jc1 want (ls.drop k)=((jz x==want)&&jc1 3 (ls.drop (k+1))):=by
 have hk:k<ls.length:=by
  rcases jiK k ls.length with q|q
  ·exact q
  rw[jiW q]at h;cases h
 rw[jjp hk]
 rw[jim hk]at h
 rw[jip h];rfl
theorem jdM(l:List UInt8):jz l<=5:=by
 unfold jz
 split;· decide
 split;· decide
 split;· decide
 split;· decide
 split<;>decide
theorem jhh{w:World}{A:Option Addr}{ls:List (List UInt8)}(hc:∀(i:Nat) (s:ByteArray),(ls.map B)[i]?=some s->∃b off,A=some ⟨b,off,none⟩/\b<w.heap.size/\w.cell? ⟨b,off+i,none⟩=some (.string s)):
  ∀(i:Nat) (x:List UInt8),ls[i]?=some x->∃b off,A=some ⟨b,off,none⟩/\b<w.heap.size/\w.cell? ⟨b,off+i,none⟩=some (.string (B x)) :=
 fun i x hx=>hc i (B x) (by rw[ji9,hx];rfl)
theorem ja6(ls:List (List UInt8))(v:Value)(w:World)(hs:Strs w v (ls.map B))(hl:∀l∈ls,l.length<=100000)(hn:ls.length<=100000):
  Calls Tryz.prog 210 #[v] w fun e w'=>e=.returned (.bool (Gj ls))/\Below w.heap.size w w':=by
 obtain⟨A,cap,rfl,hle,hc⟩:=hs
 have hcb:=jhh hc
 have PC:=jii hcb
 have HF:=jii (jfn ls)
 clear hc hcb
 rw[jiQ]
 go_enter Tryz.func210,Tryz.ntmps210
 go_wp2_with fail
 go_loopw [3,8] (fun v3 i wr=>∃k want:Nat,k<=ls.length/\want<=5/\i=.int .i64 k/\v3=.int .i64 want/\jc1 4 ls=jc1 want (ls.drop k)/\Below w.heap.size w wr) (fun _ i _=>ls.length-(intOf i).toNat)
 case atStart=>exact⟨0,4,jiD _,by decide,rfl,rfl,rfl,jil _ _⟩
 case round =>
 obtain⟨k,want,hk,hwt,rfl,rfl,hG,hb⟩:=hrel
 by_cases hlt:k<ls.length
 ·obtain⟨x,hx⟩:∃x,ls[k]?=some x:=⟨_,jim hlt⟩
  obtain⟨b,off,rfl,hbb,hcell⟩:=PC.out k x hx
  have hcx:=(hb.cell (p:=⟨b,off+k,none⟩) hbb).trans hcell
  have hxl:=hl x (jiA hx)
  have KX:=fun w=>qM (B x) (by rw[jm];unfold maxLen;omega) w
  rw[jo]at KX
  rw[ja7 ls k want x hx]at hG
  have GH:=jii hG
  have hk5:=jdM x
  clear hx hcell hG
  generalize jz x=kx at *
  go_wp2_with fail
  refine(KX _).mono ?_
  rintro e w1 ⟨rfl,b1⟩
  by_cases hkx:kx=want
  ·subst hkx
   go_wp2_with fail
   go_roundw
   case rel=>exact⟨k+1,3,hlt,by decide,by go_num,rfl,by rw[GH.out];simp,hb.trans (b1.mono hb.size)⟩
   case measure=>simp[intOf];omega
  have e1:((kx:Int)==(want:Int))=false:=by rw[beq_eq_false_iff_ne];omega
  have e2:((kx:Int) != (want:Int))=true:=by rw[bne,e1];rfl
  have e3:(kx==want)=false:=by rw[beq_eq_false_iff_ne];exact hkx
  rw[e3]at GH
  clear hkx e3
  go_wp2_with fail
  go_ret
  exact⟨by rw[HF.out,GH.out];simp,hb.trans (b1.mono hb.size)⟩
 obtain rfl:k=ls.length:=by omega
 rw[jjM]at hG
 have GH:=jii hG
 clear hG
 go_wp2_with fail
 go_ret
 exact⟨by rw[HF.out,GH.out];simp[jc1],hb⟩
theorem je6(l:List UInt8)(w:World):
  Calls Tryz.prog 157 #[.string (B l),.string ⟨#[32]⟩] w fun e w'=>e=.returned (.string (B (vA l)))/\w=w':=by
 refine(Tryz.strings_TrimPrefix (B l) ⟨#[32]⟩ _).mono ?_
 rintro e w' ⟨rfl,rfl⟩
 refine⟨?_,rfl⟩
 rw[jo,show(⟨#[32]⟩:ByteArray).data.toList=[32] from rfl]
 unfold Lib.trimPrefix Lib.hasPrefix vA B
 cases l with
 | nil=>rfl
 | cons a t =>
 by_cases h:a=32
 ·subst h;simp[List.isPrefixOf]
 have h2:((32:UInt8)==a)=false:=by rw[beq_eq_false_iff_ne];exact jkn h
 simp[List.isPrefixOf,h2,h]
theorem jc8(l:List UInt8)(w:World):
  Calls Tryz.prog 157 #[.string (B l),.string ⟨#[46]⟩] w fun e w'=>e=.returned (.string (B (zu l)))/\w=w':=by
 refine(Tryz.strings_TrimPrefix (B l) ⟨#[46]⟩ _).mono ?_
 rintro e w' ⟨rfl,rfl⟩
 refine⟨?_,rfl⟩
 rw[jo,show(⟨#[46]⟩:ByteArray).data.toList=[46] from rfl]
 unfold Lib.trimPrefix Lib.hasPrefix zu B
 cases l with
 | nil=>rfl
 | cons a t =>
 by_cases h:a=46
 ·subst h;simp[List.isPrefixOf]
 have h2:((46:UInt8)==a)=false:=by rw[beq_eq_false_iff_ne];exact jkn h
 simp[List.isPrefixOf,h2,h]
theorem Xe:∀ls:List (List UInt8),Lib.join ls [10]=qZ ls
 | []=>rfl
 | [p]=>by simp[Lib.join,List.intercalate,qZ]
 | p::q::r=>by
  have ih:=Xe (q::r)
  unfold Lib.join at ih ⊢
  show _=p++10::qZ (q::r)
  rw[<- ih]
  simp[List.intercalate,List.intersperse]
theorem jhE(a:List UInt8):jdu (B a)=B (before a):=by
 rw[<- jc4 (jdu (B a)),Zm,jo]
theorem jgN(a:List UInt8):jbl (B a)=B (vq a):=by
 rw[<- jc4 (jbl (B a))]
 unfold jbl vq
 rw[jkk,jo]
theorem jhJ{x:List UInt8}(h:jz x=3):∃c d t,x=c::d::t:=by
 unfold jz at h
 split at h;· cases h
 split at h;· cases h
 rename_i hb
 split at h;· cases h
 split at h
 ·rename_i hg
  cases x with
  | nil=>cases hg
  | cons c t =>
  cases t with
  | nil =>
   exfalso;apply hb
   have:qI c=true:=hg
   simp[zh,this]
  | cons d t=>exact⟨c,d,t,rfl⟩
 split at h<;>cases h
theorem jgD(c:UInt8)(t:List UInt8):(B (c::t)).extract 1 (B (c::t)).size=B t:=by
 rw[<- jc4 ((B (c::t)).extract 1 _),jkk,jo];rfl
theorem qL{fn:Func}{p:Tmp}{ty:TypeId}(h:fn.results=#[.cell p ty])(tmps:Array Value)(P:Program)(w:World):
  (results fn tmps).run P w=((asAddr (tmps.getD p undef)).run P w).andThen fun a w₁=>(loadVar ty a).run P w₁:=by
 simp only[results,h]
 simp[Sem.run_bind,Result.andThen]
theorem jgM{fn:Func}{p:Tmp}(h:fn.results=#[.cell p 155])(tmps:Array Value)(w:World)(b:Nat)(cur:Array Value)(hp:tmps.getD p undef=.pointer (some ⟨b,0,none⟩))
  (hc:ja w b 155 cur) (hz:cur.size=2):(results fn tmps).run Tryz.prog w=.ok (.agg cur) w:=by
 have L:=run_loadVar_row (P:=Tryz.prog) w b 155 155 cur (0,0) _ hc Tryz.underlying155 rfl (by rw[hz];kernel_rfl)
 rw[qL h,hp]
 show(loadVar _ _).run _ _=_
 exact L
theorem jbe{fn:Func}{p u:Tmp}(h:fn.results=#[.cell p 155,.tmp u])(tmps:Array Value)(w:World)(b:Nat)(cur:Array Value)(hp:tmps.getD p undef=.pointer (some ⟨b,0,none⟩))
  (hc:ja w b 155 cur) (hz:cur.size=2):(results fn tmps).run Tryz.prog w=.ok (.tuple #[.agg cur,tmps.getD u undef]) w:=by
 have L:=run_loadVar_row (P:=Tryz.prog) w b 155 155 cur (0,0) _ hc Tryz.underlying155 rfl (by rw[hz];kernel_rfl)
 rw[results_cell_tmp h,hp]
 show((loadVar _ _).run _ _).andThen _=_
 rw[L];rfl
theorem jb{w w':World}{b N:Nat}{t:TypeId}{cur:Array Value}(h:ja w b t cur)(hb:Below N w w')(hN:b<N):ja w' b t cur:=(hb.block b hN).trans h
theorem jht(c0 c1 v0 v1:Value):((#[c0,c1].setIfInBounds 0 v0).setIfInBounds 1 v1)=#[v0,v1]:=by
 simp[List.setIfInBounds_toArray,List.set]
theorem jdh(a:List UInt8)(r:List (List UInt8))(v:Value)(w:World)(hs:Strs w v ((a::r).map B))(ha:a.length<=100000)(hr:∀l∈r,l.length<=100000/\jz l=3)(hka:jz a=4)(hn:r.length<=100000)
    (hj:(vh (a::r)).length<=100000000) :
    Calls Tryz.prog 211 #[v] w fun e w'=>e=.returned (qB (before a) (vh (a::r)))/\Below w.heap.size w w':=by
  obtain⟨A,cap,rfl,hle,hc⟩:=hs
  have hcb:=jhh hc
  obtain⟨b,off,rfl,hbb,hca⟩:=hcb 0 a rfl
  have PC:=jii (fun(j:Nat) x (hx:r[j]?=some x)=>(show w.cell? ⟨b,off+(j+1),none⟩=some (.string (B x)) by
    obtain⟨b',off',e,_,h⟩:=hcb (j+1) x (by simpa using hx)
    cases e;exact h))
  clear hc hcb
  rw[jiQ,jin]at hle ⊢
  have CP:=fun w=>jeu (B a) (by rw[jm];unfold maxLen;omega) (by rw[jo];exact hka) w
  rw[jhE,jgN]at CP
  have TS:=fun w=>je6 (vq a) w
  have HS:Hid (VG (a::r)=vA (vq a)::r.map (fun l=>zu l.tail)):=rfl
  have HJ:Hid (Lib.join (((vA (vq a)::r.map (fun l=>zu l.tail)).map B).map (·.data.toList)) [10]=vh (a::r)):=by
    show _=_
    unfold vh
    rw[<- Xe,HS.out,jjA]
    congr 1
    conv=>rhs;rw[<- List.map_id (vA (vq a)::r.map (fun l=>zu l.tail))]
    exact jkd fun l _=>jo l
  generalize vA (vq a)=p0 at *
  generalize vq a=ac at *
  obtain⟨i0,hi,hz0,hz1,hz2⟩:=info_parts jbS
  rw[jkl]at hca
  go_enter Tryz.func211,Tryz.ntmps211
  go_wp2_with fail
  refine(CP _).mono ?_
  rintro e w1 ⟨rfl,b1⟩
  go_wp2_with fail
  refine(TS _).mono ?_
  rintro e w2 ⟨rfl,rfl⟩
  have RB:ja w1 w.heap.size 155 #[.string ⟨#[]⟩,.string ⟨#[]⟩]:=jb (ja.new w _ _) b1 (by simp)
  have hb1:Below w.heap.size w w1:=((jil _ _).alloc (jij _) _).trans (b1.mono (by simp))
  have PC1:=jii (fun(j:Nat) x (hx:r[j]?=some x)=>(hb1.cell (p:=⟨b,off+(j+1),none⟩) hbb).trans (PC.out j x hx))
  have hs1:=b1.size
  simp only[jiB]at hs1
  have hb1lt:b<w1.heap.size:=by omega
  have BW:=jii hb1
  clear b1 PC hca hb1 CP TS
  have hw1:=BW.out.size
  go_wp2_with fail
  all_goals
    go_loopw [6,23] (fun v6 i wr=>∃(k:Nat),k<=r.length/\i=.int .i64 k/\JQ wr w1.heap.size v6 ((p0::(r.take k).map (fun l=>zu l.tail)).map B)/\Below w1.heap.size w1 wr) (fun _ i _=>r.length-(intOf i).toNat)
    case atStart=>exact⟨0,jiD _,rfl,JQ.one w1 _ (jij _) _,(jil _ _).alloc (jij _) _⟩
    case round =>
    obtain⟨k,hkr,rfl,hown,hb⟩:=hrel
    by_cases hkl:k<r.length
    . first
      | (exfalso;omega)
      | (obtain⟨x,hx⟩:∃x,r[k]?=some x:=⟨_,jim hkl⟩
         have hcx:=PC1.out k x hx
         have hcx2:=(hb.cell (p:=⟨b,off+(k+1),none⟩) hb1lt).trans hcx
         rw[show off+(k+1)=off+1+k by omega]at hcx2
         obtain⟨hxl,hx3⟩:=hr x (jiA hx)
         obtain⟨c,d,t,rfl⟩:=jhJ hx3
         have TK:Hid ((p0::(r.take (k+1)).map (fun l=>zu l.tail)).map B=(p0::(r.take k).map (fun l=>zu l.tail)).map B++[B (zu (d::t))]):=by
           show _=_
           rw[jiU,hx];simp
         have TD:=fun w=>jc8 (d::t) w
         have hll:((p0::(r.take k).map (fun l=>zu l.tail)).map B).length=k+1:=by simp;omega
         have HLL:=jii hll
         have hsz:(B (c::d::t)).size=t.length+2:=by rw[jm];rfl
         have hex:=jgD c (d::t)
         rw[hsz]at hex
         clear hx hcx hx3
         generalize (p0::(r.take k).map (fun l=>zu l.tail)).map B=ls at *
         generalize zu (d::t)=y at *
         generalize B (c::d::t)=X at *
         generalize B (d::t)=Y at *
         go_wp2_with fail
         refine(TD _).mono ?_
         rintro e w4 ⟨rfl,rfl⟩
         have hs3:=hb.size
         have HC:=jii (ja2 wr (B y) 9)
         have hown4:wr.ownsRow w1.heap.size 9 1 u6 ls.length (ls.map Value.string):=hown
         clear hown
         go_wp2_with (at_builtin;refine wpList_append_own _ rfl _ _ 183 rfl w1.heap.size 9 i0 _ 1 16 Tryz.underlying183 hi hz0 hz1 hz2 rfl (by decide) _ _ _ rfl (hown4.alloc _) ⟨wr.heap.size,0,none⟩ 1 1 _ rfl rfl HC.out ?c2 ?c3 ?c4 ?c5 ?_)
         case c2=>intro u hu;simp at hu;subst hu;rfl
         case c3=>unfold maxLen;omega
         case c4=>omega
         case c5=>simp;omega
         intro v' w5 hown' hgrow _
         obtain⟨g',cap',rfl⟩:=ownsRow_succ hown'
         have hb5:Below w1.heap.size w1 w5:=(hb.alloc (by omega) _).grown hgrow (by simp;omega) (fun j ej=>(hown4.lt j ej).1)
         go_wp2_with fail
         go_roundw
         case rel =>
           refine⟨k+1,hkl,by go_num,?_,hb5⟩
           rw[TK.out]
           unfold JQ
           rw[jik,jjh,HLL.out];exact hown'
         case measure=>simp[intOf];omega)
    obtain rfl:k=r.length:=by omega
    rw[jiL]at hown
    obtain⟨g,cap',e⟩:=jjy hown (by simp)
    subst e
    have hst:=hown.strs
    obtain⟨A',cap2,e,hle2,hc2⟩:=hst
    cases e
    have RBr:=jb RB hb (by omega)
    have JN:=Tryz.strings_Join g 0 cap' _ ⟨#[10]⟩ wr (fun j x hx=>by obtain⟨b',o',e,_,h⟩:=hc2 j x hx;cases e;exact h) (by obtain⟨b',o',e,h,_⟩:=hc2 0 _ rfl;cases e;exact h) (by simp;omega) hle2 (by show(Lib.join _ [10]).length<=_;rw[HJ.out];omega)
    rw[show(⟨#[10]⟩:ByteArray).data.toList=[10] from rfl,HJ.out]at JN
    simp only[jiQ,jin]at JN ⊢
    have hbw:=hb.size
    have hbA:=BW.out.trans (hb.mono hw1)
    clear hown hc2 hle2 HJ
    go_wp2_with fail
    refine JN.mono ?_
    rintro e w5 ⟨rfl,b5⟩
    have R5:=jb RBr b5 (by omega)
    have c0:=R5.cell 0
    have c1:=R5.cell 1
    have f0:=R5.frozen 0
    have f1:=R5.frozen 1
    have hb5:=hbA.trans (b5.mono (by omega))
    simp only[jiv,jiu,jio]at c0 c1
    rw[mkB]
    have RE:=(R5.set 0 (.string (B (before a)))).set 1 (.string (B (vh (a::r))))
    rw[jht]at RE
    go_wp2_with fail
    refine bodyPost_ret (jgM rfl _ _ w.heap.size _ rfl RE rfl) rfl ?_
    exact⟨rfl,(hb5.setCell (jij _) _).setCell (jij _) _⟩
end Go.Proofs.YtimfhnfcmhmjcaaGreatDoor
namespace Go.Proofs.YtimfhnfcmhmjcaaGreatDoor
open Go.RowKit Go.Shelf
attribute [local go_sem] zV Xs jeS
theorem Qx{ls:List (List UInt8)}(h:Gj ls=true):∃a r,ls=a::r/\jz a=4/\∀l∈r,jz l=3:=by
 cases ls with
 | nil=>cases h
 | cons a r =>
 refine⟨a,r,rfl,?_⟩
 unfold Gj at h
 simp only[jiY,beq_iff_eq,jj4]at h
 exact h
theorem YB{ls:List (List UInt8)}(h:Gj ls=false):jU ls=2/\zA ls=[]/\zy ls=[]:=by
 have e:jU ls=2:=by unfold jU;rw[h];rfl
 exact⟨e,by unfold zA;rw[e];rfl,by unfold zy;rw[e];rfl⟩
theorem Zg{ls:List (List UInt8)}(h:Gj ls=true)(hl:¬(vh ls).length<=1000):jU ls=6/\zA ls=[]/\zy ls=[]:=by
 have e:jU ls=6:=by unfold jU;rw[h,if_pos rfl,if_neg hl]
 exact⟨e,by unfold zA;rw[e];rfl,by unfold zy;rw[e];rfl⟩
theorem Qt{a:List UInt8}{r:List (List UInt8)}(h:Gj (a::r)=true)(hl:(vh (a::r)).length<=1000):jU (a::r)=0/\zA (a::r)=before a/\zy (a::r)=vh (a::r):=by
 have e:jU (a::r)=0:=by unfold jU;rw[h,if_pos rfl,if_pos hl]
 exact⟨e,by unfold zA;rw[e];rfl,by unfold zy;rw[e];rfl⟩
theorem jay(a:List UInt8):(before a).length<=a.length:=(jjq _).length_le
theorem UV(ls:List (List UInt8))(v:Value)(w:World)(hs:Strs w v (ls.map B))(hl:∀l∈ls,l.length<=100000)(hn:ls.length<=100000)(hj:(vh ls).length<=1000000):
  Calls Tryz.prog 166 #[v] w fun e w'=>e=.returned (.tuple #[qB (zA ls) (zy ls),xl (jU ls)])/\Below w.heap.size w w':=by
 have ST:=jii (fun(o:Obj)=>(hs.alloc o))
 cases hF:Gj ls with
 | false =>
  obtain⟨e1,e2,e3⟩:=YB hF
  rw[e1,e2,e3]
  unfold qB
  go_enter Tryz.func166,Tryz.ntmps166
  go_wp2_with fail
  refine(ja6 ls v _ (ST.out _) hl hn).mono ?_
  rw[hF]
  rintro e w1 ⟨rfl,b1⟩
  have R1:=jb (ja.new w 155 #[.string ⟨#[]⟩,.string ⟨#[]⟩]) b1 (by simp)
  have c0:=R1.cell 0
  have c1:=R1.cell 1
  have f0:=R1.frozen 0
  have f1:=R1.frozen 1
  have hb1:Below w.heap.size w w1:=((jil _ _).alloc (jij _) _).trans (b1.mono (by simp))
  simp only[jiv,jiu,jio]at c0 c1
  have RE:=(R1.set 0 (.string ⟨#[]⟩)).set 1 (.string ⟨#[]⟩)
  rw[jht]at RE
  clear b1 ST
  go_wp2_with fail
  refine bodyPost_ret (jbe rfl _ _ w.heap.size _ rfl RE rfl) rfl ?_
  exact⟨rfl,(hb1.setCell (jij _) _).setCell (jij _) _⟩
 | true =>
 obtain⟨a,r,rfl,hka,hkr⟩:=Qx hF
 have hg:jR (before a)=true:=(jgY hka).2.2
 have hal:=hl a (by simp)
 have hbl:=jay a
 have SD:=fun w' (h:Strs w' v ((a::r).map B))=>jdh a r v w' h hal (fun l hm=>⟨hl l (jir _ hm),hkr l hm⟩) hka (by simp at hn;omega) (by omega)
 have CK:=fun w'=>xI (before a) (vh (a::r)) (by omega) hj w'
 have hchk:za (before a) (vh (a::r))=if (vh (a::r)).length<=1000 then 0 else 6:=by unfold za;rw[hg];rfl
 rw[hchk]at CK
 have SAY:=fun w' (h:Strs w' v ((a::r).map B))=>ja6 (a::r) v w' h hl hn
 rw[hF]at SAY
 by_cases hlen:(vh (a::r)).length<=1000
 ·rw[if_pos hlen]at CK
  obtain⟨e1,e2,e3⟩:=Qt hF hlen
  rw[e1,e2,e3]
  unfold qB at *
  generalize B (before a)=K at *
  generalize B (vh (a::r))=V at *
  go_enter Tryz.func166,Tryz.ntmps166
  go_wp2_with fail
  refine(SAY _ (ST.out _)).mono ?_
  rintro e w1 ⟨rfl,b1⟩
  have S1:=(ST.out (.cells #[.string ⟨#[]⟩,.string ⟨#[]⟩] 155)).below b1 (jij _)
  have R1:=jb (ja.new w 155 #[.string ⟨#[]⟩,.string ⟨#[]⟩]) b1 (by simp)
  have hb1:Below w.heap.size w w1:=((jil _ _).alloc (jij _) _).trans (b1.mono (by simp))
  have hs1:=b1.size
  simp only[jiB]at hs1
  clear b1 ST
  go_wp2_with fail
  refine(SD _ S1).mono ?_
  rintro e w2 ⟨rfl,b2⟩
  have R2:=jb R1 b2 (by omega)
  have hb2:=hb1.trans (b2.mono (by omega))
  have hs2:=b2.size
  clear b2 R1 S1 hb1
  have NB:=ja.new w2 155 #[.string K,.string V]
  have OB:=R2.alloc (.cells #[.string K,.string V] 155)
  have hb3:=hb2.alloc (by omega) (.cells #[.string K,.string V] 155)
  go_wp2_with fail
  refine(CK _).mono ?_
  rintro e w4 ⟨rfl,b4⟩
  have N4:=jb NB b4 (by simp)
  have O4:=jb OB b4 (by simp;omega)
  have hb4:=hb3.trans (b4.mono (by simp;omega))
  have n0:=N4.cell 0
  have n1:=N4.cell 1
  have c0:=O4.cell 0
  have c1:=O4.cell 1
  have f0:=O4.frozen 0
  have f1:=O4.frozen 1
  simp only[jiv,jiu,jio]at c0 c1 n0 n1
  have RE:=(O4.set 0 (.string K)).set 1 (.string V)
  rw[jht]at RE
  clear b4 NB OB R2 hb3 hb2
  go_wp2_with fail
  refine bodyPost_ret (jbe rfl _ _ w.heap.size _ rfl RE rfl) rfl ?_
  exact⟨rfl,(hb4.setCell (jij _) _).setCell (jij _) _⟩
 rw[if_neg hlen]at CK
 obtain⟨e1,e2,e3⟩:=Zg hF hlen
 rw[e1,e2,e3]
 unfold qB at *
 generalize B (before a)=K at *
 generalize B (vh (a::r))=V at *
 go_enter Tryz.func166,Tryz.ntmps166
 go_wp2_with fail
 refine(SAY _ (ST.out _)).mono ?_
 rintro e w1 ⟨rfl,b1⟩
 have S1:=(ST.out (.cells #[.string ⟨#[]⟩,.string ⟨#[]⟩] 155)).below b1 (jij _)
 have R1:=jb (ja.new w 155 #[.string ⟨#[]⟩,.string ⟨#[]⟩]) b1 (by simp)
 have hb1:Below w.heap.size w w1:=((jil _ _).alloc (jij _) _).trans (b1.mono (by simp))
 have hs1:=b1.size
 simp only[jiB]at hs1
 clear b1 ST
 go_wp2_with fail
 refine(SD _ S1).mono ?_
 rintro e w2 ⟨rfl,b2⟩
 have R2:=jb R1 b2 (by omega)
 have hb2:=hb1.trans (b2.mono (by omega))
 have hs2:=b2.size
 clear b2 R1 S1 hb1
 have NB:=ja.new w2 155 #[.string K,.string V]
 have OB:=R2.alloc (.cells #[.string K,.string V] 155)
 have hb3:=hb2.alloc (by omega) (.cells #[.string K,.string V] 155)
 go_wp2_with fail
 refine(CK _).mono ?_
 rintro e w4 ⟨rfl,b4⟩
 have N4:=jb NB b4 (by simp)
 have O4:=jb OB b4 (by simp;omega)
 have hb4:=hb3.trans (b4.mono (by simp;omega))
 have n0:=N4.cell 0
 have n1:=N4.cell 1
 have c0:=O4.cell 0
 have c1:=O4.cell 1
 have f0:=O4.frozen 0
 have f1:=O4.frozen 1
 simp only[jiv,jiu,jio]at c0 c1 n0 n1
 have RE:=(O4.set 0 (.string ⟨#[]⟩)).set 1 (.string ⟨#[]⟩)
 rw[jht]at RE
 clear b4 NB OB R2 hb3 hb2
 go_wp2_with fail
 refine bodyPost_ret (jbe rfl _ _ w.heap.size _ rfl RE rfl) rfl ?_
 exact⟨rfl,(hb4.setCell (jij _) _).setCell (jij _) _⟩
end Go.Proofs.YtimfhnfcmhmjcaaGreatDoor
namespace Go.Proofs.YtimfhnfcmhmjcaaGreatDoor
open Go.RowKit Go.Shelf
attribute [local go_sem] zV
def jl(lo:Nat)(w:World)(e:Value)(at_ n:Nat):Prop:=∃q,lo<=q/\e=.iface 91 (.pointer (some ⟨q,0,none⟩))/\ja w q 94 #[.int .i64 at_,xl n]
theorem jl.below{lo:Nat}{w w':World}{e:Value}{a n N:Nat}(h:jl lo w e a n)(hb:Below N w w')(hN:w.heap.size<=N):jl lo w' e a n:=by
 obtain⟨q,h0,h1,h2⟩:=h
 exact⟨q,h0,h1,(hb.block q (jiF h2.lt hN)).trans h2⟩
theorem jl.mono{lo lo':Nat}{w:World}{e:Value}{a n:Nat}(h:jl lo w e a n)(hl:lo'<=lo):jl lo' w e a n:=by
 obtain⟨q,h0,h1,h2⟩:=h
 exact⟨q,jiI hl h0,h1,h2⟩
theorem jl.new(w:World)(a n lo q:Nat)(hq:w.heap.size=q)(hl:lo<=q):jl lo (w.alloc (.cells #[.int .i64 a,xl n] 94)) (.iface 91 (.pointer (some ⟨q,0,none⟩))) a n:=by subst hq;exact⟨w.heap.size,hl,rfl,ja.new _ _ _⟩
theorem jx.field{w w':World}{T:Nat->Nat}{R b:Nat}{text:ByteArray}{p p':PS}{V:PV}(h:jx w T R b text p V)(hR:R<=w.heap.size)(v6':Value)
  (hc:ja w' b 187 (vk p' text (.slice none 0 0) V.v3 v6')) (hr:w'.ownsRow 0 155 2 v6' p'.fields.length (js p'.fields)) (hk:vZ w.heap.size w'.heap.size V.v6.ownBlock v6'.ownBlock)
  (ho:jB (fun r=>r=b\/some r=V.v6.ownBlock) w w') (e1:p'.items=p.items) (e2:p'.said=[]) :
  ∃T',jx w' T' R b text p' {V with v1:=.slice none 0 0,v6:=v6'}/\jH w T w' T':=by
 have hs:∀k,T k≠0->T k≠1->T k≠4->w'.heap[k]?=w.heap[k]?:=fun k h0 h1 h2=>ho.same k (h.low k h0).2 (by
  rintro(e|e)
  ·exact h1 (by rw[e];exact h.tp)
  exact h2 (h.t6 k e.symm))
 have s:∀{o:Option Nat} {t:Nat},zD T o t->t≠0->t≠1->t≠4->∀k,o=some k->w'.heap[k]?=w.heap[k]?:=fun ht h0 h1 h3 k hk=>hs k (by rw[ht k hk];exact h0) (by rw[ht k hk];exact h1) (by rw[ht k hk];exact h3)
 have lo:∀{o:Option Nat} {t:Nat},zD T o t->t≠0->∀k,o=some k->k<w.heap.size:=fun ht hne k hk=>(h.low k (by rw[ht k hk];exact hne)).2
 refine⟨Qi T w.heap.size v6'.ownBlock 4,⟨hc,by rw[qX h.lt];exact h.tp,?_,(fun k hk=>by cases hk),?_,zE h.t3 (lo h.t3 (by decide)),hr,xV hk h.t6,by rw[e1];exact h.nf,fun i it v h1 h2 => ?_,xW h.low ho.size hR hk h.t6 (by decide)⟩,
  ⟨ho.mono fun r hr' e => ?_,fun r hr'=>by rw[qX hr']⟩⟩
 ·rw[e2];exact⟨by simp[qf],.inl ⟨rfl,rfl⟩⟩
 ·rw[e1];exact jP h.r3 (s h.t3 (by decide) (by decide) (by decide))
 ·obtain⟨a,c⟩:=h.rf i it v (by rw[<- e1];exact h1) h2
  exact⟨jP a (s c (by decide) (by decide) (by decide)),zE c (lo c (by decide))⟩
 rcases e with e|e
 ·rw[e,h.tp];decide
 rw[h.t6 r e.symm];decide
theorem jx.strs{w:World}{T:Nat->Nat}{R b:Nat}{text:ByteArray}{p:PS}{V:PV}(h:jx w T R b text p V):Strs w V.v1 (p.said.map B):=by
 refine JQ.strs (base:=0) ?_
 unfold JQ
 rw[jiQ,jjA]
 exact h.r1
theorem jdV:(Tryz.prog.info? 155).map (fun i=>(i.zero,i.size,i.bytes))=some (some (.agg #[.string ⟨#[]⟩,.string ⟨#[]⟩]),2,32):=by kernel_rfl
def zM(w:World)(T:Nat->Nat)(R b:Nat)(text:ByteArray)(p:PS)(e:Ending)(w':World):Prop :=
 if jh p=0 then e=.returned .nilIface/\∃T',jf w' T' R b text (jd p)/\jH w T w' T'
 else ∃v,e=.returned v/\jl w.heap.size w' v p.begin_ (jh p)/\Below w.heap.size w w'
theorem zM.no{w:World}{T:Nat->Nat}{R b:Nat}{text:ByteArray}{p:PS}{v:Value}{w':World}(h:jh p≠0)(h1:jl w.heap.size w' v p.begin_ (jh p))(h2:Below w.heap.size w w'):zM w T R b text p (.returned v) w':=by
 unfold zM;rw[if_neg h];exact⟨v,rfl,h1,h2⟩
theorem zM.yes{w:World}{T T':Nat->Nat}{R b:Nat}{text:ByteArray}{p:PS}{w':World}(h:jh p=0)(h1:jf w' T' R b text (jd p))(h2:jH w T w' T'):zM w T R b text p (.returned .nilIface) w':=by
 unfold zM;rw[if_pos h];exact⟨rfl,T',h1,h2⟩
theorem JG{w:World}{T:Nat->Nat}{R b:Nat}{text:ByteArray}{p:PS}(h:jf w T R b text p)(hR:R<=w.heap.size)(hsum:(p.said.map List.length).sum+p.said.length<=90000)(hf:p.fields.length<=1000000):
  Calls Tryz.prog 103 #[.pointer (some ⟨b,0,none⟩)] w fun e w'=>zM w T R b text p e w':=by
 obtain⟨V,h⟩:=h
 by_cases hs:p.said=[]
 ·have h0:jh p=0:=by unfold jh;rw[if_pos hs]
  have hp:jd p=p:=by unfold jd;rw[if_pos hs]
  have U:=qe h
  rw[show(!p.said.isEmpty)=false by rw[hs];rfl]at U
  have hl:=h.lt
  have FIN:zM w T R b text p (.returned .nilIface) w:=.yes h0 (by rw[hp];exact⟨V,h⟩) (jH.refl _ _)
  clear h hsum
  go_enter Tryz.func103,Tryz.ntmps103
  go_wp2_with fail
  refine U.mono ?_
  rintro e w1 ⟨rfl,rfl⟩
  go_wp2
  go_ret
  exact FIN
 have U:=qe h
 rw[show(!p.said.isEmpty)=true by cases hq:p.said with | nil=>exact absurd hq hs | cons a r=>rfl]at U
 have hl:=h.lt
 obtain⟨a1,c1,e1,_⟩:=je h.r1
 have q1:w.cell? ⟨b,1,none⟩=some (.slice a1 p.said.length c1):=by rw[<- e1];exact h.cells.cell 1
 have q0:w.cell? ⟨b,0,none⟩=some (.int .i64 p.begin_):=h.cells.cell 0
 have hlen:p.said.length<=100000:=by omega
 have heach:∀l∈p.said,l.length<=100000:=fun l hm=>by have:=jbL _ _ hm;omega
 have hsv:=jdi p.said
 have UF:=UV p.said V.v1 w h.strs heach hlen (by omega)
 rw[e1]at UF
 have hn0:jh p=if jU p.said≠0 then jU p.said else if xB p then 11 else 0:=by unfold jh;rw[if_neg hs]
 have hn1:=UW p.said
 have H:=jii h
 by_cases hu:jU p.said=0
 ·rw[hu,if_neg (by simp)]at hn0
  rw[hu]at UF
  rw[zV]at UF
  have FU:=jii (fun w' (hb:Below w.heap.size w w')=>jd5 (H.out.below hb))
  cases hfull:xB p with
  | true =>
   rw[hfull,if_pos rfl]at hn0
   have FIN:=jii (fun v w' h1 h2=>zM.no (w:=w) (T:=T) (R:=R) (b:=b) (text:=text) (p:=p) (v:=v) (w':=w') (by rw[hn0];decide) h1 h2)
   rw[hn0]at FIN
   rw[hfull]at FU
   generalize zA p.said=K at *
   generalize zy p.said=Z at *
   unfold qB at UF
   clear h hsum heach hsv
   go_enter Tryz.func103,Tryz.ntmps103
   go_wp2_with fail
   refine U.mono ?_
   rintro e w1 ⟨rfl,rfl⟩
   go_wp2_with fail
   refine UF.mono ?_
   rintro e w1 ⟨rfl,b1⟩
   have hzb:=b1.size
   go_wp2_with fail
   have hP:=H.out.below b1
   have r0:w1.cell? ⟨b,0,none⟩=some (.int .i64 p.begin_):=hP.cells.cell 0
   have hl1:=hP.lt
   have b2:=b1.alloc hzb (.cells #[.string (B K),.string (B Z)] 155)
   have FU2:=FU.out _ b2
   go_wp2_with fail
   refine FU2.mono ?_
   rintro e w2 ⟨rfl,rfl⟩
   have r1:(w1.alloc (.cells #[.string (B K),.string (B Z)] 155)).cell? ⟨b,0,none⟩=some (.int .i64 p.begin_):=by
    rw[jjZ _ _ _ (jkA hl1)];exact r0
   go_wp2
   go_ret
   exact FIN.out _ _ (jl.new _ _ 11 _ (w1.heap.size+1) (by simp) (by omega)) (b2.alloc (by simp;omega) _)
  | false =>
  rw[hfull,if_neg (by simp)]at hn0
  have e0:jd p={p with fields:=p.fields++[(zA p.said,zy p.said)],said:=[]}:=by unfold jd;rw[if_neg hs]
  have FIN:=jii (fun T' w' h1 h2=>zM.yes (w:=w) (T:=T) (T':=T') (R:=R) (b:=b) (text:=text) (p:=p) (w':=w') hn0 h1 h2)
  rw[e0]at FIN
  rw[hfull]at FU
  generalize zA p.said=K at *
  generalize zy p.said=Z at *
  unfold qB at UF
  obtain⟨i0,hi,hz0,hz1,hz2⟩:=info_parts jdV
  obtain⟨a6,c6,e6,_⟩:=je h.r6
  clear h hsum heach hsv e0
  go_enter Tryz.func103,Tryz.ntmps103
  go_wp2_with fail
  refine U.mono ?_
  rintro e w1 ⟨rfl,rfl⟩
  go_wp2_with fail
  refine UF.mono ?_
  rintro e w1 ⟨rfl,b1⟩
  have hzb:=b1.size
  have hP:=H.out.below b1
  have hl1:=hP.lt
  have b2:=b1.alloc hzb (.cells #[.string (B K),.string (B Z)] 155)
  have FU2:=FU.out _ b2
  go_wp2_with fail
  refine FU2.mono ?_
  rintro e w2 ⟨rfl,rfl⟩
  have P2:=jii (H.out.below b2)
  have g0:(w1.alloc (.cells #[.string (B K),.string (B Z)] 155)).cell? ⟨w1.heap.size,0,none⟩=some (.string (B K)):=(ja.new _ _ _).cell 0
  have g1:(w1.alloc (.cells #[.string (B K),.string (B Z)] 155)).cell? ⟨w1.heap.size,1,none⟩=some (.string (B Z)):=(ja.new _ _ _).cell 1
  have hz2':w1.heap.size<(w1.alloc (.cells #[.string (B K),.string (B Z)] 155)).heap.size:=by simp
  have B2:=jii b2
  have hlt2:w.heap.size<=(w1.alloc (.cells #[.string (B K),.string (B Z)] 155)).heap.size:=b2.size
  clear FU FU2 UF U hP b1 b2
  generalize w1.alloc (.cells #[.string (B K),.string (B Z)] 155)=w2 at *
  generalize w1.heap.size=bx at *
  have hl2:=P2.out.lt
  have q6:w2.cell? ⟨b,6,none⟩=some (.slice a6 p.fields.length c6):=by rw[<- e6];exact P2.out.cells.cell 6
  have HC:=jii P2.out.cells
  have HO:=jii P2.out.r6
  have HE:=jii (yQ (w:=w2) P2.out.tp P2.out.t6 (by decide))
  rw[e6]at HO HE
  have HF:=jii (fun w' v6' hc hr hk ho=>jx.field (p':={p with fields:=p.fields++[(K,Z)],said:=[]}) P2.out (jiI hR hlt2) (w':=w') v6' hc hr hk ho rfl rfl)
  go_wp2
  go_cut [] (fun wx=>∃g' cap',ja wx b 187 (vk p text V.v1 V.v3 (.slice (some ⟨g',0,none⟩) (p.fields.length+1) cap')) /\
   wx.ownsRow 0 155 2 (.slice (some ⟨g',0,none⟩) (p.fields.length+1) cap') (p.fields.length+1) (js p.fields++[.string (B K),.string (B Z)]) /\
   vZ w2.heap.size wx.heap.size V.v6.ownBlock (Value.slice (some ⟨g',0,none⟩) (p.fields.length+1) cap').ownBlock/\g'≠b/\jB (fun r=>r=b\/some r=V.v6.ownBlock) w2 wx)
  case first =>
   go_region_law ((refine zm rfl (.tmp 41) (.tmp 43) 78 rfl 155 i0 _ 2 32 Tryz.underlying78 hi hz0 hz1 hz2 rfl (by decide) (.slice a6 p.fields.length c6) p.fields.length (js p.fields) (by simp[Act.eval]) (by exact(HO.out.alloc _).drew) ⟨w2.heap.size,0,none⟩ 1 1 [.string (B K),.string (B Z)] (by simp[Act.eval]) rfl (jV w2 155 [.string (B K),.string (B Z)]) (by intro u hu;simp at hu;rcases hu with rfl | rfl<;>rfl) (by unfold maxLen;omega) (by omega) ?_);intro v' w' ho hgr hbk;obtain⟨⟨g',cap',rfl⟩,hg',hbx,hk,hon⟩:=xM HC.out HO.out HE.out (((jil _ w2).alloc (jij _) _).drew) ho hgr hbk;have k6':w'.cell? ⟨b,6,none⟩=some V.v6:=hg'.cell 6;have kf6':=hg'.frozen 6)
   all_goals
    go_wp2
    go_meet
    have hvg:g'≠b:=by
     intro e
     rcases hk with h|⟨k,h,h2,_⟩
     ·exact HE.out (h.symm.trans (by rw[e];rfl))
     have hh:g'=k:=jip (show some g'=some k from h)
     omega
    rw[<- e6]at hk hon
    refine⟨g',cap',?_,jv (p:=⟨b,6,none⟩) ho (fun e=>hvg (by cases e;rfl)) _,?_,hvg,(hon.mono (fun r _ h=>.inr h)).setCell (p:=⟨b,6,none⟩) (.inl (.inl rfl)) _⟩
    ·simpa [vk]using hg'.set 6 (.slice (some ⟨g',0,none⟩) (p.fields.length+1) cap')
    unfold vZ;simpa [World.setCell]using hk
  case rest =>
  obtain⟨g',cap',hc,hr,hk,hvg,ho⟩:=hcut
  have k1:wc.cell? ⟨b,1,none⟩=some V.v1:=hc.cell 1
  have kf1:=hc.frozen 1
  rw[e1]at k1
  go_wp2
  go_ret
  refine Exists.elim (HF.out _ (.slice (some ⟨g',0,none⟩) (p.fields.length+1) cap') ?k1 ?k2 ?k3 ?k4) fun T' g=>FIN.out T' _ ⟨_,g.1⟩ ((jH.below B2.out).trans g.2)
  case k1=>simpa [vk]using hc.set 1 (.slice none 0 0)
  case k2 =>
   rw[KK,jik]
   exact jv (p:=⟨b,1,none⟩) hr (fun e=>hvg (by cases e;rfl)) _
  case k3=>unfold vZ at hk ⊢;simpa [World.setCell]using hk
  case k4=>exact ho.setCell (p:=⟨b,1,none⟩) (.inl (.inl rfl)) _
 rw[if_pos hu]at hn0
 have hup:0<jU p.said:=jjx hu
 have FIN:=jii (fun v w' h1 h2=>zM.no (w:=w) (T:=T) (R:=R) (b:=b) (text:=text) (p:=p) (v:=v) (w':=w') (by rw[hn0];exact hu) h1 h2)
 rw[hn0]at FIN
 have hev:=jQ _ hup
 have HEV:=jii hev
 rw[hev]at UF
 generalize jU p.said=n at *
 generalize zA p.said=K at *
 generalize zy p.said=Z at *
 unfold qB at UF
 clear h hsum heach hsv hev
 go_enter Tryz.func103,Tryz.ntmps103
 go_wp2_with fail
 refine U.mono ?_
 rintro e w1 ⟨rfl,rfl⟩
 go_wp2_with fail
 refine UF.mono ?_
 rintro e w1 ⟨rfl,b1⟩
 have hzb:=b1.size
 have hP:=H.out.below b1
 have r0:w1.cell? ⟨b,0,none⟩=some (.int .i64 p.begin_):=hP.cells.cell 0
 have hl1:=hP.lt
 have b2:=b1.alloc hzb (.cells #[.string (B K),.string (B Z)] 155)
 have r1:(w1.alloc (.cells #[.string (B K),.string (B Z)] 155)).cell? ⟨b,0,none⟩=some (.int .i64 p.begin_):=by
  rw[jjZ _ _ _ (jkA hl1)];exact r0
 go_wp2
 go_ret
 rw[<- HEV.out]
 exact FIN.out _ _ (jl.new _ _ n _ (w1.heap.size+1) (by simp) (by omega)) (b2.alloc (by simp;omega) _)
end Go.Proofs.YtimfhnfcmhmjcaaGreatDoor
