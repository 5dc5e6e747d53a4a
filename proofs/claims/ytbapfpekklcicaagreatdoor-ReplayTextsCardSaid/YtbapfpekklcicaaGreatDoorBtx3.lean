/- Texts put together:PD,PE,S,WA. -/
import Derived.BigRegion
import Derived.Deep.DeepCutAuto
import Derived.Shelf.Strings.Builder1
import Derived.Shelf.Strings.Builder2
import Derived.Shelf.Strings.OnBuilder
import Derived.Shelf.Strings.Trim
import Derived.Shelf.Small.Utf8
import Derived.Shelf.Small.Strs
import Derived.Shelf.Small.Wraps
import Derived.Shelf.Strings.BuilderF
import Derived.Shelf.Strings.BuilderK
import Derived.Shelf.Strings.Builder2Cap
import Derived.Shelf.Strconv.Atoi
import Derived.Shelf.Strconv.Itoa0
import Derived.Shelf.Strconv.Itoa1
import Derived.Shelf.LaysM
import Derived.Shelf.Strconv.Itoa2
import Derived.Shelf.Strconv.Itoa3
import Derived.Shelf.Strconv.AtoiErrFast
import Derived.Shelf.Strconv.ParseIntEmpty
import Derived.Shelf.Strconv.AtoiFail
import Derived.Shelf.Strconv.Clone
import Derived.Shelf.Strconv.SyntaxError
import Derived.Shelf.LaysC
import Derived.Shelf.Strconv.ToError
import Derived.Shelf.Strconv.Lower
import Derived.Shelf.Strconv.ParseUint10
import Derived.Shelf.Strconv.ParseUint10Empty
import Derived.Shelf.Strconv.ParseUint10Any
import Derived.Shelf.Strconv.ParseInt10
import Derived.Shelf.Strconv.AtoiLong
import Derived.Shelf.Strconv.AtoiInnerAll
import Derived.Shelf.Strconv.RangeError
import Derived.Shelf.Strconv.ToErrorRange
import Derived.Shelf.Strconv.AtoiAll
import Derived.Shelf.Strconv.ErrVarAll
import Derived.Shelf.Strings.Search1
import Derived.Shelf.Strings.Search2
import Derived.Shelf.Strings.Search3
import Derived.Shelf.Strings.Cut
import Derived.Shelf.Strings.Count
import Derived.Shelf.Strings.Shaped
import Derived.Shelf.Strings.Prefix
import Derived.Shelf.Strings.Split
import Derived.Shelf.Strings.SplitShaped
import Derived.Shelf.Strings.Runes
import Derived.Shelf.Strings.AsciiSet
import Derived.Shelf.Bits.Mul64
import Derived.Shelf.Strings.Repeat
import Derived.Shelf.Unicode.DecodeSlow
import Derived.Shelf.Strings.BuilderCap
import Derived.ShutString
import Derived.BigCall
import Derived.ChangeAlike
import Derived.Outline
import Derived.IntWalk
import Derived.Test.YtbapfpekklcicaaGreatDoorBtx2
set_option linter.unusedVariables false
set_option maxRecDepth 100000
set_option maxHeartbeats 16000000
namespace Go.Proofs.YtbapfpekklcicaaGreatDoor
abbrev joN:=@Option.some.inj
abbrev jo2:=@Go.Lib.size_eq
abbrev jo7:=@List.getElem?_append_right
abbrev jpf:=@List.getElem?_append_left
abbrev jph:=@Go.IntWalk.i64_in
abbrev jpS:=@Go.Lib.extract_data
abbrev jp3:=@Nat.eq_zero_or_pos
abbrev jqa:=@List.takeWhile_prefix
end Go.Proofs.YtbapfpekklcicaaGreatDoor
namespace Go.Proofs.YtbapfpekklcicaaGreatDoor
open Go.RowKit
theorem xz:(Tryz.prog.info? 107).map (fun i=>(i.zero,i.size,i.bytes))=some (some (.agg #[.int .i64 0,.string ⟨#[]⟩,.slice none 0 0]),3,48):=by kernel_rfl
theorem jjX(text:ByteArray)(a e:Nat):text.extract a e=B ((text.data.toList.take e).drop a):=by
 have h:=jpS text a e;have b:(text.data.toList.take e).drop a=(text.data.toList.drop a).take (e-a):=by rw[List.drop_take]
 rw[b,<- h,jfB]
def Ya(T:Nat->Nat)(a c:Nat):Nat->Nat:=fun k=>if T k=a then c else T k
theorem xv{T:Nat->Nat}{a c:Nat}{o:Option Nat}{t:Nat}(h:qy T o t)(d:t≠a):qy (Ya T a c) o t:=by intro k b;unfold Ya;rw[if_neg (by rw[h k b];exact d)];exact h k b
theorem ji7{T:Nat->Nat}{a c:Nat}{o:Option Nat}(h:qy T o a):qy (Ya T a c) o c:=by intro k b;unfold Ya;rw[if_pos (h k b)]
theorem Wf{T:Nat->Nat}{a c:Nat}(b:a≠0)(d:c≠0)(k:Nat):Ya T a c k=0↔T k=0:=by
 unfold Ya;split
 ·rename_i h;rw[h];exact⟨fun e=>absurd e d,fun e=>absurd e b⟩
 exact Iff.rfl
theorem jJ.item{w w':World}{T:Nat->Nat}{R b:Nat}{text:ByteArray}{p p':PS}{V:PV}(h:jJ w T R b text p V)(K:R<=w.heap.size)(g:Value)(it:It)
  (L:ja w' b 162 (yx p' text V.v1 g (.slice none 0 0))) (N:w'.ownsRow 0 107 3 g (p.items.length+1) (jQ p.items V.fvs++Jo it V.v6)) (f:xQ w.heap.size w'.heap.size V.v3.ownBlock g.ownBlock)
  (A:jH (fun r=>r=b\/some r=V.v3.ownBlock) w w') (u:p'.items=p.items++[it]) (G:p'.fields=[]) (H:p'.said=p.said) (I:it.fields=p.fields) :
  ∃E,jJ w' E R b text p' {V with v3:=g,v6:=.slice none 0 0,fvs:=V.fvs++[V.v6]}/\zV w T w' E:=by
 have O:∀k,T k≠0->T k≠1->T k≠3->w'.heap[k]?=w.heap[k]?:=fun k x d j=>A.same k (h.low k x).2 (by
  rintro(e|e)
  ·exact d (by rw[e];exact h.tp)
  exact j (h.t3 k e.symm))
 have s:∀{o:Option Nat} {t:Nat},qy T o t->t≠0->t≠1->t≠3->∀k,o=some k->w'.heap[k]?=w.heap[k]?:=fun m x d J k f=>O k (by rw[m k f];exact x) (by rw[m k f];exact d) (by rw[m k f];exact J);have D:∀{o:Option Nat} {t:Nat},qy T o t->t≠0->∀k,o=some k->k<w.heap.size:=fun m y k f=>(h.low k (by rw[m k f];exact y)).2
 have n:∀k,Ya T 4 5 k≠0->R<=k/\k<w.heap.size:=fun k f=>h.low k (fun e=>f ((Wf (by decide) (by decide) k).2 e));refine⟨Kj (Ya T 4 5) w.heap.size g.ownBlock 3,⟨L,?_,?_,?_,?_,?_,?_,?_,?_,?_,?_⟩,⟨A.mono fun r l e => ?_,fun r l=>by rw[yj l];exact Wf (by decide) (by decide) r⟩⟩
 ·rw[yj h.lt];unfold Ya;rw[h.tp];rfl
 ·rw[H];exact jU h.r1 (s h.t1 (by decide) (by decide) (by decide))
 ·exact qz (xv h.t1 (by decide)) (D h.t1 (by decide))
 ·rw[u,joK,vi _ _ _ _ h.nf];exact N
 ·exact QB f (xv h.t3 (by decide))
 ·rw[G];exact⟨by simp[ju],.inl ⟨rfl,rfl⟩⟩
 ·exact fun k f=>by cases f
 ·rw[u,joK,joK,h.nf];rfl
 ·intro i C v d j;rw[u]at d;dsimp only at j;rcases jpc i p.items.length with q|q
  ·rw[jpf q]at d;rw[jpf (by rw[h.nf];exact q)]at j;obtain⟨a,c⟩:=h.rf i C v d j;exact⟨jU a (s c (by decide) (by decide) (by decide)),qz (xv c (by decide)) (D c (by decide))⟩
  rw[jo7 q]at d;rw[jo7 (by rw[h.nf];exact q),h.nf]at j;have P:i-p.items.length=0:=by
   rcases jp3 (i-p.items.length) with z|z
   ·exact z
   rw[jpe (by simp;omega)]at d;cases d
  rw[P]at d j;cases d;cases j;rw[I];exact⟨jU h.r6 (s h.t6 (by decide) (by decide) (by decide)),qz (ji7 h.t6) (D h.t6 (by decide))⟩
 ·exact QK n A.size K f (xv h.t3 (by decide)) (by decide)
 rcases e with e|e
 ·rw[e,h.tp];decide
 rw[h.t3 r e.symm];decide
theorem Zv{w:World}{T:Nat->Nat}{R b:Nat}{text:ByteArray}{p:PS}{V:PV}(h:jJ w T R b text p V)(Q:R<=w.heap.size)(kind e:Nat)(h1:p.at_<=e)(P:e<=text.size)(h3:text.size<=1000000)(hn:p.items.length<=1000000):
  Calls Tryz.prog 145 #[.pointer (some ⟨b,0,none⟩),.int .i64 kind,.int .i64 e] w fun N w'=>N=.returned (.tuple #[])/\∃o,jK w' o R b text (zl text.data.toList p kind e)/\zV w T w' o:=by
 obtain⟨X,W,z,A,C⟩:=info_parts xz;obtain⟨l,m,s,_⟩:=je h.r6;have hl:=h.lt
 have K:=joI (fun w' D f y j n=>jJ.item (p':=zl text.data.toList p kind e) h Q (w':=w') D ⟨kind,(text.data.toList.take e).drop p.at_,p.fields⟩ f y j n rfl rfl rfl rfl);have J:=joI h.cells
 have G:=joI h.r3;have E:=joI (Zj (w:=w) h.tp h.t3 (by decide))
 have L:=joI (jjX text p.at_ e);have q3:w.cell? ⟨b,3,none⟩=some V.v3:=h.cells.cell 3
 have q2:w.cell? ⟨b,2,none⟩=some (.string text):=h.cells.cell 2;have q5:w.cell? ⟨b,5,none⟩=some (.int .i64 p.at_):=h.cells.cell 5
 have q6:w.cell? ⟨b,6,none⟩=some (.slice l p.fields.length m):=by rw[<- s];exact h.cells.cell 6
 clear h;go_enter Tryz.func145,Tryz.ntmps145;go_wp2;go_cut [] (fun q=>∃c a,ja q b 162 (yx p text V.v1 (.slice (some ⟨c,0,none⟩) (p.items.length+1) a) V.v6) /\
  q.ownsRow 0 107 3 (.slice (some ⟨c,0,none⟩) (p.items.length+1) a) (p.items.length+1) (jQ p.items V.fvs++[.int .i64 kind,.string (text.extract p.at_ e),.slice l p.fields.length m]) /\
  xQ w.heap.size q.heap.size V.v3.ownBlock (Value.slice (some ⟨c,0,none⟩) (p.items.length+1) a).ownBlock/\c≠b/\jH (fun r=>r=b\/some r=V.v3.ownBlock) w q)
 case first =>
  go_region_law ((refine zb rfl (.tmp 10) (.tmp 27) 92 rfl 107 X _ 3 48 Tryz.underlying92 W z A C rfl (by decide) V.v3 p.items.length (jQ p.items V.fvs) (by simp[Act.eval]) (by exact(G.out.alloc _).drew) ⟨w.heap.size,0,none⟩ 1 1 [.int .i64 kind,.string (text.extract p.at_ e),.slice l p.fields.length m] (by simp[Act.eval]) rfl (jp w 107 [.int .i64 kind,.string (text.extract p.at_ e),.slice l p.fields.length m]) (by intro u H;simp at H;rcases H with rfl | rfl | rfl<;>rfl) (by unfold maxLen;omega) (by omega) ?_);intro v' w' n v t;obtain⟨⟨c,a,rfl⟩,i,U,j,x⟩:=xN J.out G.out E.out (((joL _ w).alloc (joJ _) _).drew) n v t;have Y:w'.cell? ⟨b,3,none⟩=some V.v3:=i.cell 3;have I:=i.frozen 3)
  all_goals
   go_wp2;go_meet;have d:c≠b:=by
    intro e;rcases j with h|⟨k,h,P,_⟩
    ·exact E.out (h.symm.trans (by rw[e];rfl))
    have hh:c=k:=joN (show some c=some k from h);omega
   refine⟨c,a,?_,js (p:=⟨b,3,none⟩) n (fun e=>d (by cases e;rfl)) _,?_,d,(x.mono (fun r _ h=>.inr h)).setCell (p:=⟨b,3,none⟩) (.inl (.inl rfl)) _⟩
   ·simpa [yx]using i.set 3 (.slice (some ⟨c,0,none⟩) (p.items.length+1) a)
   unfold xQ;simpa [World.setCell]using j
 case rest =>
 obtain⟨c,a,f,y,j,d,n⟩:=hcut;have k5:wc.cell? ⟨b,5,none⟩=some (.int .i64 p.at_):=f.cell 5
 have Z:=f.frozen 5;have k6:wc.cell? ⟨b,6,none⟩=some (.slice l p.fields.length m):=by rw[<- s];exact f.cell 6
 have a7:=f.frozen 6;go_wp2;go_end0;refine⟨rfl,Exists.elim (K.out _ (.slice (some ⟨c,0,none⟩) (p.items.length+1) a) ?k1 ?k2 ?k3 ?k4) fun o g=>⟨o,⟨_,g.1⟩,g.2⟩⟩
 case k1 =>
  have:=(f.set 5 (.int .i64 e)).set 6 (.slice none 0 0);simpa [yx,zl]using this
 case k2 =>
  have O:Jo ⟨kind,(text.data.toList.take e).drop p.at_,p.fields⟩ V.v6=[.int .i64 kind,.string (text.extract p.at_ e),.slice l p.fields.length m]:=by unfold Jo;rw[L.out,s]
  rw[O];exact js (p:=⟨b,6,none⟩) (js (p:=⟨b,5,none⟩) y (fun e=>d (by cases e;rfl)) _) (fun e=>d (by cases e;rfl)) _
 case k3=>unfold xQ at j ⊢;simpa [World.setCell]using j
 case k4=>exact(n.setCell (p:=⟨b,5,none⟩) (.inl (.inl rfl)) _).setCell (p:=⟨b,6,none⟩) (.inl (.inl rfl)) _
theorem VT{w:World}{T:Nat->Nat}{R b:Nat}{text:ByteArray}{p:PS}(h:jK w T R b text p)(D:R<=w.heap.size)(e:Nat)(l:p.at_<=e)(A:e<=text.size)(C:text.size<=1000000)(E:p.items.length<=1000000)(U:p.stanzas<=1000000):
  Calls Tryz.prog 85 #[.pointer (some ⟨b,0,none⟩),.int .i64 e] w fun q G=>q=.returned (.tuple #[])/\∃z,jK G z R b text (jk text.data.toList p e)/\zV w T G z:=by
 obtain⟨V,h⟩:=h;obtain⟨H,I,J,_⟩:=je h.r6;have Y:w.cell? ⟨b,5,none⟩=some (.int .i64 p.at_):=h.cells.cell 5
 have Z:w.cell? ⟨b,6,none⟩=some (.slice H p.fields.length I):=by rw[<- J];exact h.cells.cell 6
 unfold jk;by_cases r:p.at_=e
 ·rw[if_pos r];have g:jK w T R b text p:=⟨V,h⟩
  have P:((p.at_:Int)==(e:Int))=true:=by rw[r];simp
  clear h;go_enter Tryz.func85,Tryz.ntmps85;go_wp2;refine bodyPost_ret (results_none rfl _ _ _) rfl ?_;exact⟨rfl,T,g,zV.refl _ _⟩
 rw[if_neg r];have P:((p.at_:Int)==(e:Int))=false:=beq_eq_false_iff_ne.2 (by omega)
 by_cases s:p.fields.length=0
 ·rw[if_pos s];have Q:((p.fields.length:Int)==0)=true:=by rw[s];rfl
  have n:=joI (Zv h D 2 e l A C E);clear h;go_enter Tryz.func85,Tryz.ntmps85;go_wp2_with fail;refine n.out.mono ?_;rintro q y ⟨rfl,f,d,x⟩;go_wp2;go_end0;exact⟨rfl,f,d,x⟩
 rw[if_neg s];have Q:((p.fields.length:Int)==0)=false:=beq_eq_false_iff_ne.2 (by omega)
 have n:=joI (Zv h D 3 e l A C E);clear h;go_enter Tryz.func85,Tryz.ntmps85;go_wp2_with fail;refine n.out.mono ?_;rintro q y ⟨rfl,f,⟨j,d⟩,x⟩;have W:y.cell? ⟨b,4,none⟩=some (.int .i64 p.stanzas):=d.cells.cell 4
 have O:=d.cells.frozen 4;have X:IntKind.i64.wrap ((p.stanzas:Int)+1)=(p.stanzas:Int)+1:=jph _ (by omega)
 go_wp2;go_end0;refine⟨rfl,f,⟨j,?_⟩,x.trans ⟨((jH.refl _ _).setCell (p:=⟨b,4,none⟩) (.inl (by rw[d.tp];decide)) _),fun _ _=>Iff.rfl⟩⟩;have K:ja (y.setCell ⟨b,4,none⟩ (.int .i64 ((p.stanzas:Int)+1))) b 162 (yx {zl text.data.toList p 3 e with stanzas:=p.stanzas+1} text j.v1 j.v3 j.v6):=by have:=d.cells.set 4 (.int .i64 ((p.stanzas:Int)+1));simpa [yx]using this
 have m:∀{o:Option Nat} {t:Nat},qy f o t->t≠1->o≠some b:=fun N l e=>l (by rw[<- N b e,d.tp]);exact⟨K,d.tp,js d.r1 (m d.t1 (by decide)) _,d.t1,js d.r3 (m d.t3 (by decide)) _,d.t3,js d.r6 (m d.t6 (by decide)) _,d.t6,d.nf,
  fun i u v a c=>⟨js (d.rf i u v a c).1 (m (d.rf i u v a c).2 (by decide)) _,(d.rf i u v a c).2⟩,fun k L=>by simpa [World.setCell]using d.low k L⟩
end Go.Proofs.YtbapfpekklcicaaGreatDoor
namespace Go.Proofs
open Go.Shelf
def Tryz.lays169_ren:Go.Shelf.Ren:=⟨fun | 169=>123 | n=>n,fun | 70=>188 | 9=>9 | 0=>0 | 72=>191 | 37=>189 | 127=>237 | 3=>3 | 5=>5 | n=>n,fun | n=>n⟩
theorem Tryz.lays169:Go.Proofs.Lays.n169 Tryz.prog Tryz.lays169_ren:={
 mixed:=by kernel_rfl
 f169:=Tryz.func123.trans (congrArg some (by kernel_rfl))
 t0:=Tryz.underlying0
 a0:=Tryz.isAgg0
 z0:=Tryz.sizeOf0
 v0:=Tryz.zeroValue0
 t3:=Tryz.underlying3
 a3:=Tryz.isAgg3
 z3:=Tryz.sizeOf3
 v3:=Tryz.zeroValue3
 t9:=Tryz.underlying9
 a9:=Tryz.isAgg9
 z9:=Tryz.sizeOf9
 v9:=Tryz.zeroValue9
 t37:=Tryz.underlying189
 a37:=Tryz.isAgg189
 z37:=Tryz.sizeOf189
 v37:=Tryz.zeroValue189
 t70:=Tryz.underlying188
 a70:=Tryz.isAgg188
 z70:=Tryz.sizeOf188
 v70:=Tryz.zeroValue188
 t72:=Tryz.underlying191
 a72:=Tryz.isAgg191
 z72:=Tryz.sizeOf191
 v72:=Tryz.zeroValue191
 t127:=Tryz.underlying237
 a127:=Tryz.isAgg237
 z127:=Tryz.sizeOf237
 v127:=Tryz.zeroValue237}
theorem Tryz.Builder_Extra_169:Builder.Extra Tryz.prog Tryz.lays169_ren:={
 sizeBuilder:=by kernel_rfl
 liesBuilder:=by kernel_rfl
 t5:=Tryz.underlying5
 a5:=Tryz.isAgg5
 z5:=Tryz.sizeOf5
 v5:=Tryz.zeroValue5
 infoByte:=by kernel_rfl
 cellsByte:=by kernel_rfl
 sizeByte:=by kernel_rfl
 neB5:=by decide}
def Tryz.lays156_ren:Go.Shelf.Ren:=⟨fun | 156=>169 | 165=>193 | 166=>119 | 169=>123 | 240=>165 | 241=>230 | 276=>202 | 277=>253 | n=>n,fun | 31=>158 | 9=>9 | 3=>3 | 4=>4 | 0=>0 | 20=>20 | 72=>191 | 76=>192 | 70=>188 | 37=>189 | 75=>32 | 127=>237 | 164=>264 | 5=>5 | 80=>44 | n=>n,fun | n=>n⟩
theorem Tryz.lays156:Go.Proofs.Lays.n156 Tryz.prog Tryz.lays156_ren:={
 mixed:=by kernel_rfl
 f156:=Tryz.func169.trans (congrArg some (by kernel_rfl))
 f165:=Tryz.func193.trans (congrArg some (by kernel_rfl))
 f166:=Tryz.func119.trans (congrArg some (by kernel_rfl))
 f169:=Tryz.func123.trans (congrArg some (by kernel_rfl))
 f240:=Tryz.func165.trans (congrArg some (by kernel_rfl))
 f241:=Tryz.func230.trans (congrArg some (by kernel_rfl))
 f276:=Tryz.func202.trans (congrArg some (by kernel_rfl))
 f277:=Tryz.func253.trans (congrArg some (by kernel_rfl))
 t0:=Tryz.underlying0
 a0:=Tryz.isAgg0
 z0:=Tryz.sizeOf0
 v0:=Tryz.zeroValue0
 t3:=Tryz.underlying3
 a3:=Tryz.isAgg3
 z3:=Tryz.sizeOf3
 v3:=Tryz.zeroValue3
 t4:=Tryz.underlying4
 a4:=Tryz.isAgg4
 z4:=Tryz.sizeOf4
 v4:=Tryz.zeroValue4
 t9:=Tryz.underlying9
 a9:=Tryz.isAgg9
 z9:=Tryz.sizeOf9
 v9:=Tryz.zeroValue9
 t20:=Tryz.underlying20
 a20:=Tryz.isAgg20
 z20:=Tryz.sizeOf20
 v20:=Tryz.zeroValue20
 t31:=Tryz.underlying158
 a31:=Tryz.isAgg158
 z31:=Tryz.sizeOf158
 v31:=Tryz.zeroValue158
 t37:=Tryz.underlying189
 a37:=Tryz.isAgg189
 z37:=Tryz.sizeOf189
 v37:=Tryz.zeroValue189
 t70:=Tryz.underlying188
 a70:=Tryz.isAgg188
 z70:=Tryz.sizeOf188
 v70:=Tryz.zeroValue188
 t72:=Tryz.underlying191
 a72:=Tryz.isAgg191
 z72:=Tryz.sizeOf191
 v72:=Tryz.zeroValue191
 t75:=Tryz.underlying32
 a75:=Tryz.isAgg32
 z75:=Tryz.sizeOf32
 v75:=Tryz.zeroValue32
 t76:=Tryz.underlying192
 a76:=Tryz.isAgg192
 z76:=Tryz.sizeOf192
 v76:=Tryz.zeroValue192
 t127:=Tryz.underlying237
 a127:=Tryz.isAgg237
 z127:=Tryz.sizeOf237
 v127:=Tryz.zeroValue237
 t164:=Tryz.underlying264
 a164:=Tryz.isAgg264
 z164:=Tryz.sizeOf264
 v164:=Tryz.zeroValue264}
theorem Tryz.Builder_Extra_156:Builder.Extra Tryz.prog Tryz.lays156_ren:={
 sizeBuilder:=by kernel_rfl
 liesBuilder:=by kernel_rfl
 t5:=Tryz.underlying5
 a5:=Tryz.isAgg5
 z5:=Tryz.sizeOf5
 v5:=Tryz.zeroValue5
 infoByte:=by kernel_rfl
 cellsByte:=by kernel_rfl
 sizeByte:=by kernel_rfl
 neB5:=by decide}
open Go.RowKit in
theorem Tryz.strings_Join(g o c:Nat)(xs:List ByteArray)(b:ByteArray)(w:World)(a:∀(j:Nat) x,xs[j]?=some x->w.cell? ⟨g,o+j,none⟩=some (.string x))(h:g<w.heap.size)(i:xs.length<=140737488355328)(d:xs.length<=c)(f:(Lib.join (xs.map (·.data.toList)) b.data.toList).length<=140737488355328):
  Calls Tryz.prog 169 #[.slice (some ⟨g,o,none⟩) xs.length c,.string b] w fun e k=>e=.returned (.string ⟨(Lib.join (xs.map (·.data.toList)) b.data.toList).toArray⟩)/\Below w.heap.size w k:=Any.strings_Join Tryz.lays156 Tryz.Builder_Extra_156 g o c xs b w a h i d f
def Tryz.lays160_ren:Go.Shelf.Ren:=⟨fun | 160=>184 | 232=>217 | 231=>216 | 227=>218 | 234=>220 | 233=>219 | 236=>222 | 235=>221 | 228=>247 | 271=>250 | 151=>249 | 197=>248 | 120=>273 | 152=>272 | 260=>271 | 137=>191 | 119=>285 | 224=>226 | 225=>225 | 217=>224 | 266=>251 | n=>n,fun | 9=>9 | 4=>4 | 3=>3 | 5=>5 | 117=>279 | 116=>278 | 0=>0 | 124=>282 | 21=>21 | 105=>313 | 46=>239 | 119=>353 | 139=>356 | 138=>355 | n=>n,fun | 3=>5 | 4=>6 | n=>n⟩
theorem Tryz.lays160:Go.Proofs.Lays.n160 Tryz.prog Tryz.lays160_ren:={
 mixed:=by kernel_rfl
 f119:=Tryz.func285.trans (congrArg some (by kernel_rfl))
 f120:=Tryz.func273.trans (congrArg some (by kernel_rfl))
 f137:=Tryz.func191.trans (congrArg some (by kernel_rfl))
 f151:=Tryz.func249.trans (congrArg some (by kernel_rfl))
 f152:=Tryz.func272.trans (congrArg some (by kernel_rfl))
 f160:=Tryz.func184.trans (congrArg some (by kernel_rfl))
 f197:=Tryz.func248.trans (congrArg some (by kernel_rfl))
 f217:=Tryz.func224.trans (congrArg some (by kernel_rfl))
 f224:=Tryz.func226.trans (congrArg some (by kernel_rfl))
 f225:=Tryz.func225.trans (congrArg some (by kernel_rfl))
 f227:=Tryz.func218.trans (congrArg some (by kernel_rfl))
 f228:=Tryz.func247.trans (congrArg some (by kernel_rfl))
 f231:=Tryz.func216.trans (congrArg some (by kernel_rfl))
 f232:=Tryz.func217.trans (congrArg some (by kernel_rfl))
 f233:=Tryz.func219.trans (congrArg some (by kernel_rfl))
 f234:=Tryz.func220.trans (congrArg some (by kernel_rfl))
 f235:=Tryz.func221.trans (congrArg some (by kernel_rfl))
 f236:=Tryz.func222.trans (congrArg some (by kernel_rfl))
 f260:=Tryz.func271.trans (congrArg some (by kernel_rfl))
 f266:=Tryz.func251.trans (congrArg some (by kernel_rfl))
 f271:=Tryz.func250.trans (congrArg some (by kernel_rfl))
 t0:=Tryz.underlying0
 a0:=Tryz.isAgg0
 z0:=Tryz.sizeOf0
 v0:=Tryz.zeroValue0
 t3:=Tryz.underlying3
 a3:=Tryz.isAgg3
 z3:=Tryz.sizeOf3
 v3:=Tryz.zeroValue3
 t4:=Tryz.underlying4
 a4:=Tryz.isAgg4
 z4:=Tryz.sizeOf4
 v4:=Tryz.zeroValue4
 t5:=Tryz.underlying5
 a5:=Tryz.isAgg5
 z5:=Tryz.sizeOf5
 v5:=Tryz.zeroValue5
 t9:=Tryz.underlying9
 a9:=Tryz.isAgg9
 z9:=Tryz.sizeOf9
 v9:=Tryz.zeroValue9
 t21:=Tryz.underlying21
 a21:=Tryz.isAgg21
 z21:=Tryz.sizeOf21
 v21:=Tryz.zeroValue21
 t46:=Tryz.underlying239
 a46:=Tryz.isAgg239
 z46:=Tryz.sizeOf239
 v46:=Tryz.zeroValue239
 t105:=Tryz.underlying313
 a105:=Tryz.isAgg313
 z105:=Tryz.sizeOf313
 v105:=Tryz.zeroValue313
 t116:=Tryz.underlying278
 a116:=Tryz.isAgg278
 z116:=Tryz.sizeOf278
 t117:=Tryz.underlying279
 a117:=Tryz.isAgg279
 z117:=Tryz.sizeOf279
 v117:=Tryz.zeroValue279
 t119:=Tryz.underlying353
 a119:=Tryz.isAgg353
 z119:=Tryz.sizeOf353
 t124:=Tryz.underlying282
 a124:=Tryz.isAgg282
 z124:=Tryz.sizeOf282
 v124:=Tryz.zeroValue282
 t138:=Tryz.underlying355
 a138:=Tryz.isAgg355
 z138:=Tryz.sizeOf355
 v138:=Tryz.zeroValue355
 t139:=Tryz.underlying356
 a139:=Tryz.isAgg356
 z139:=Tryz.sizeOf356
 v139:=Tryz.zeroValue356
 g3:=by kernel_rfl
 g4:=by kernel_rfl}
def Tryz.lays137_ren:Go.Shelf.Ren:=⟨fun | 137=>191 | 217=>224 | 266=>251 | n=>n,fun | 9=>9 | 5=>5 | 3=>3 | n=>n,fun | n=>n⟩
theorem Tryz.lays137:Go.Proofs.Lays.n137 Tryz.prog Tryz.lays137_ren:={
 mixed:=by kernel_rfl
 f137:=Tryz.func191.trans (congrArg some (by kernel_rfl))
 f217:=Tryz.func224.trans (congrArg some (by kernel_rfl))
 f266:=Tryz.func251.trans (congrArg some (by kernel_rfl))
 t3:=Tryz.underlying3
 a3:=Tryz.isAgg3
 z3:=Tryz.sizeOf3
 v3:=Tryz.zeroValue3
 t5:=Tryz.underlying5
 a5:=Tryz.isAgg5
 z5:=Tryz.sizeOf5
 v5:=Tryz.zeroValue5
 t9:=Tryz.underlying9
 a9:=Tryz.isAgg9
 z9:=Tryz.sizeOf9
 v9:=Tryz.zeroValue9}
open Go.RowKit in
theorem Tryz.strings_IndexByte(s:ByteArray)(c:Int)(w:World):
  Calls Tryz.prog 191 #[.string s,.int .u8 c] w fun e a=>e=.returned (.int .i64 (Lib.indexByte s.data.toList c.toNat.toUInt8))/\a=w:=Any.strings_IndexByte Tryz.lays137 s c w
def Tryz.lays103_ren:Go.Shelf.Ren:=⟨fun | 103=>254 | 210=>274 | 206=>152 | n=>n,fun | 9=>9 | 4=>4 | 24=>68 | 3=>3 | n=>n,fun | n=>n⟩
theorem Tryz.lays103:Go.Proofs.Lays.n103 Tryz.prog Tryz.lays103_ren:={
 mixed:=by kernel_rfl
 f103:=Tryz.func254.trans (congrArg some (by kernel_rfl))
 f206:=Tryz.func152.trans (congrArg some (by kernel_rfl))
 f210:=Tryz.func274.trans (congrArg some (by kernel_rfl))
 t3:=Tryz.underlying3
 a3:=Tryz.isAgg3
 z3:=Tryz.sizeOf3
 v3:=Tryz.zeroValue3
 t4:=Tryz.underlying4
 a4:=Tryz.isAgg4
 z4:=Tryz.sizeOf4
 v4:=Tryz.zeroValue4
 t9:=Tryz.underlying9
 a9:=Tryz.isAgg9
 z9:=Tryz.sizeOf9
 v9:=Tryz.zeroValue9
 t24:=Tryz.underlying68
 a24:=Tryz.isAgg68
 z24:=Tryz.sizeOf68
 v24:=Tryz.zeroValue68}
open Go.RowKit in
theorem Tryz.strings_CutPrefix(s p:ByteArray)(w:World):
  Calls Tryz.prog 254 #[.string s,.string p] w fun e a=>e=.returned (.tuple #[.string ⟨(Lib.trimPrefix s.data.toList p.data.toList).toArray⟩,.bool (Lib.hasPrefix s.data.toList p.data.toList)])/\a=w:=Any.strings_CutPrefix Tryz.lays103 s p w
open Go.RowKit in
theorem Tryz.Builder_String_any_k(B b:Nat)(l:List UInt8)(w:World)(h:Lib.IsBuilderF 191 5 B b (Lib.byteCells l) w)(a:B<=w.heap.size):
  Calls Tryz.prog 123 #[.pointer (some ⟨b,0,none⟩)] w fun e c=>e=.returned (.string ⟨l.toArray⟩)/\(Lib.IsBuilderF 191 5 B b (Lib.byteCells l) c/\Below B w c/\Lib.OthersKept 5 (some b) w c):=Any.Builder_String_any_k Tryz.lays169 Tryz.Builder_Extra_169 B b l w h a
def Tryz.laysM171_ren:Go.Shelf.Ren:=⟨fun | 171=>167 | 243=>203 | 246=>239 | 283=>259 | 284=>260 | 285=>261 | 286=>262 | 129=>276 | 317=>275 | 318=>277 | 319=>278 | 320=>279 | 337=>286 | 338=>287 | n=>n,fun | 3=>3 | 9=>9 | 2=>2 | 4=>4 | 171=>332 | 0=>0 | 53=>259 | 37=>189 | 5=>5 | 173=>335 | 212=>348 | 51=>179 | 20=>20 | 213=>349 | 46=>239 | 232=>359 | 233=>360 | n=>n,fun | 17=>4 | 18=>7 | 19=>8 | n=>n⟩
theorem Tryz.laysM171:Go.Proofs.LaysM.n171 Tryz.prog Tryz.laysM171_ren:={
 mixed:=by kernel_rfl
 f129:=Tryz.func276.trans (congrArg some (by kernel_rfl))
 f171:=Tryz.func167.trans (congrArg some (by kernel_rfl))
 f243:=Tryz.func203.trans (congrArg some (by kernel_rfl))
 f246:=Tryz.func239.trans (congrArg some (by kernel_rfl))
 f283:=Tryz.func259.trans (congrArg some (by kernel_rfl))
 f284:=Tryz.func260.trans (congrArg some (by kernel_rfl))
 f285:=Tryz.func261.trans (congrArg some (by kernel_rfl))
 f286:=Tryz.func262.trans (congrArg some (by kernel_rfl))
 f317:=Tryz.func275.trans (congrArg some (by kernel_rfl))
 f318:=Tryz.func277.trans (congrArg some (by kernel_rfl))
 f319:=Tryz.func278.trans (congrArg some (by kernel_rfl))
 f320:=Tryz.func279.trans (congrArg some (by kernel_rfl))
 f337:=Tryz.func286.trans (congrArg some (by kernel_rfl))
 f338:=Tryz.func287.trans (congrArg some (by kernel_rfl))
 t0:=Tryz.underlying0
 a0:=Tryz.isAgg0
 z0:=Tryz.sizeOf0
 v0:=Tryz.zeroValue0
 t2:=Tryz.underlying2
 a2:=Tryz.isAgg2
 z2:=Tryz.sizeOf2
 v2:=Tryz.zeroValue2
 t3:=Tryz.underlying3
 a3:=Tryz.isAgg3
 z3:=Tryz.sizeOf3
 v3:=Tryz.zeroValue3
 t4:=Tryz.underlying4
 a4:=Tryz.isAgg4
 z4:=Tryz.sizeOf4
 v4:=Tryz.zeroValue4
 t5:=Tryz.underlying5
 a5:=Tryz.isAgg5
 z5:=Tryz.sizeOf5
 v5:=Tryz.zeroValue5
 t9:=Tryz.underlying9
 a9:=Tryz.isAgg9
 z9:=Tryz.sizeOf9
 v9:=Tryz.zeroValue9
 t20:=Tryz.underlying20
 a20:=Tryz.isAgg20
 z20:=Tryz.sizeOf20
 v20:=Tryz.zeroValue20
 t37:=Tryz.underlying189
 a37:=Tryz.isAgg189
 z37:=Tryz.sizeOf189
 v37:=Tryz.zeroValue189
 t46:=Tryz.underlying239
 a46:=Tryz.isAgg239
 z46:=Tryz.sizeOf239
 v46:=Tryz.zeroValue239
 t51:=Tryz.underlying179
 a51:=Tryz.isAgg179
 z51:=Tryz.sizeOf179
 v51:=Tryz.zeroValue179
 t53:=Tryz.underlying259
 a53:=Tryz.isAgg259
 z53:=Tryz.sizeOf259
 v53:=Tryz.zeroValue259
 t171:=Tryz.underlying332
 a171:=Tryz.isAgg332
 z171:=Tryz.sizeOf332
 v171:=Tryz.zeroValue332
 t173:=Tryz.underlying335
 a173:=Tryz.isAgg335
 z173:=Tryz.sizeOf335
 v173:=Tryz.zeroValue335
 t212:=Tryz.underlying348
 a212:=Tryz.isAgg348
 z212:=Tryz.sizeOf348
 v212:=Tryz.zeroValue348
 t213:=Tryz.underlying349
 a213:=Tryz.isAgg349
 z213:=Tryz.sizeOf349
 t232:=Tryz.underlying359
 a232:=Tryz.isAgg359
 z232:=Tryz.sizeOf359
 v232:=Tryz.zeroValue359
 t233:=Tryz.underlying360
 a233:=Tryz.isAgg360
 z233:=Tryz.sizeOf360
 v233:=Tryz.zeroValue360
 g17:=by kernel_rfl
 g18:=by kernel_rfl
 g19:=by kernel_rfl
 i0:=by kernel_rfl
 i2:=by kernel_rfl
 i3:=by kernel_rfl
 i4:=by kernel_rfl
 i5:=by kernel_rfl
 i9:=by kernel_rfl
 i20:=by kernel_rfl
 i37:=by kernel_rfl
 i46:=by kernel_rfl
 i51:=by kernel_rfl
 i53:=by kernel_rfl
 i171:=by kernel_rfl
 i173:=by kernel_rfl
 i212:=by kernel_rfl
 i232:=by kernel_rfl
 i233:=by kernel_rfl
 m17:=by kernel_rfl
 m18:=by kernel_rfl
 m19:=by kernel_rfl}
open Go.RowKit Go.Sort Go.Lib in
theorem Tryz.strconv_Itoa(n:Int)(b : -9223372036854775808<=n)(c:n<=9223372036854775807)(w:World)(a:Lib.TabIs Tryz.prog w "internal/strconv.uint64pow10" .u64 Lib.pow10Tab):
  Calls Tryz.prog 167 #[.int .i64 n] w fun e f=>e=.returned (.string ⟨(Lib.itoa n).toArray⟩)/\∃k d,f=grow (w.drewN k) d:=Any.strconv_Itoa Tryz.laysM171 n b c w a
def Tryz.laysC172_ren:Go.Shelf.Ren:=⟨fun | 172=>137 | 244=>180 | 245=>181 | 247=>210 | 279=>211 | 280=>212 | 281=>213 | 282=>214 | 287=>244 | 316=>245 | 171=>167 | 205=>246 | 321=>269 | 322=>270 | 243=>203 | 246=>239 | 283=>259 | 284=>260 | 285=>261 | 286=>262 | 129=>276 | 317=>275 | 318=>277 | 319=>278 | 320=>279 | 337=>286 | 338=>287 | n=>n,fun | 9=>9 | 3=>3 | 75=>32 | 76=>192 | 4=>4 | 5=>5 | 167=>270 | 37=>189 | 0=>0 | 85=>271 | 2=>2 | 168=>273 | 53=>259 | 175=>308 | 46=>239 | 210=>311 | 127=>237 | 145=>345 | 143=>343 | 21=>21 | 171=>332 | 173=>335 | 212=>348 | 51=>179 | 20=>20 | 213=>349 | 232=>359 | 233=>360 | 80=>44 | n=>n,fun | 15=>2 | 16=>3 | 17=>4 | 18=>7 | 19=>8 | n=>n⟩
theorem Tryz.laysC172:Go.Proofs.LaysC.n172 Tryz.prog Tryz.laysC172_ren:={
 mixed:=by kernel_rfl
 f129:=Tryz.func276.trans (congrArg some (by kernel_rfl))
 f171:=Tryz.func167.trans (congrArg some (by kernel_rfl))
 f172:=Tryz.func137.trans (congrArg some (by kernel_rfl))
 f205:=Tryz.func246.trans (congrArg some (by kernel_rfl))
 f243:=Tryz.func203.trans (congrArg some (by kernel_rfl))
 f244:=Tryz.func180.trans (congrArg some (by kernel_rfl))
 f245:=Tryz.func181.trans (congrArg some (by kernel_rfl))
 f246:=Tryz.func239.trans (congrArg some (by kernel_rfl))
 f247:=Tryz.func210.trans (congrArg some (by kernel_rfl))
 f279:=Tryz.func211.trans (congrArg some (by kernel_rfl))
 f280:=Tryz.func212.trans (congrArg some (by kernel_rfl))
 f281:=Tryz.func213.trans (congrArg some (by kernel_rfl))
 f282:=Tryz.func214.trans (congrArg some (by kernel_rfl))
 f283:=Tryz.func259.trans (congrArg some (by kernel_rfl))
 f284:=Tryz.func260.trans (congrArg some (by kernel_rfl))
 f285:=Tryz.func261.trans (congrArg some (by kernel_rfl))
 f286:=Tryz.func262.trans (congrArg some (by kernel_rfl))
 f287:=Tryz.func244.trans (congrArg some (by kernel_rfl))
 f316:=Tryz.func245.trans (congrArg some (by kernel_rfl))
 f317:=Tryz.func275.trans (congrArg some (by kernel_rfl))
 f318:=Tryz.func277.trans (congrArg some (by kernel_rfl))
 f319:=Tryz.func278.trans (congrArg some (by kernel_rfl))
 f320:=Tryz.func279.trans (congrArg some (by kernel_rfl))
 f321:=Tryz.func269.trans (congrArg some (by kernel_rfl))
 f322:=Tryz.func270.trans (congrArg some (by kernel_rfl))
 f337:=Tryz.func286.trans (congrArg some (by kernel_rfl))
 f338:=Tryz.func287.trans (congrArg some (by kernel_rfl))
 t0:=Tryz.underlying0
 a0:=Tryz.isAgg0
 z0:=Tryz.sizeOf0
 v0:=Tryz.zeroValue0
 t2:=Tryz.underlying2
 a2:=Tryz.isAgg2
 z2:=Tryz.sizeOf2
 v2:=Tryz.zeroValue2
 t3:=Tryz.underlying3
 a3:=Tryz.isAgg3
 z3:=Tryz.sizeOf3
 v3:=Tryz.zeroValue3
 t4:=Tryz.underlying4
 a4:=Tryz.isAgg4
 z4:=Tryz.sizeOf4
 v4:=Tryz.zeroValue4
 t5:=Tryz.underlying5
 a5:=Tryz.isAgg5
 z5:=Tryz.sizeOf5
 v5:=Tryz.zeroValue5
 t9:=Tryz.underlying9
 a9:=Tryz.isAgg9
 z9:=Tryz.sizeOf9
 v9:=Tryz.zeroValue9
 t20:=Tryz.underlying20
 a20:=Tryz.isAgg20
 z20:=Tryz.sizeOf20
 v20:=Tryz.zeroValue20
 t21:=Tryz.underlying21
 a21:=Tryz.isAgg21
 z21:=Tryz.sizeOf21
 v21:=Tryz.zeroValue21
 t37:=Tryz.underlying189
 a37:=Tryz.isAgg189
 z37:=Tryz.sizeOf189
 v37:=Tryz.zeroValue189
 t46:=Tryz.underlying239
 a46:=Tryz.isAgg239
 z46:=Tryz.sizeOf239
 v46:=Tryz.zeroValue239
 t51:=Tryz.underlying179
 a51:=Tryz.isAgg179
 z51:=Tryz.sizeOf179
 v51:=Tryz.zeroValue179
 t53:=Tryz.underlying259
 a53:=Tryz.isAgg259
 z53:=Tryz.sizeOf259
 v53:=Tryz.zeroValue259
 t75:=Tryz.underlying32
 a75:=Tryz.isAgg32
 z75:=Tryz.sizeOf32
 v75:=Tryz.zeroValue32
 t76:=Tryz.underlying192
 a76:=Tryz.isAgg192
 z76:=Tryz.sizeOf192
 v76:=Tryz.zeroValue192
 t85:=Tryz.underlying271
 a85:=Tryz.isAgg271
 z85:=Tryz.sizeOf271
 v85:=Tryz.zeroValue271
 t127:=Tryz.underlying237
 a127:=Tryz.isAgg237
 z127:=Tryz.sizeOf237
 v127:=Tryz.zeroValue237
 t143:=Tryz.underlying343
 a143:=Tryz.isAgg343
 z143:=Tryz.sizeOf343
 v143:=Tryz.zeroValue343
 t145:=Tryz.underlying345
 a145:=Tryz.isAgg345
 z145:=Tryz.sizeOf345
 v145:=Tryz.zeroValue345
 t167:=Tryz.underlying270
 a167:=Tryz.isAgg270
 z167:=Tryz.sizeOf270
 v167:=Tryz.zeroValue270
 t168:=Tryz.underlying273
 a168:=Tryz.isAgg273
 z168:=Tryz.sizeOf273
 v168:=Tryz.zeroValue273
 t171:=Tryz.underlying332
 a171:=Tryz.isAgg332
 z171:=Tryz.sizeOf332
 v171:=Tryz.zeroValue332
 t173:=Tryz.underlying335
 a173:=Tryz.isAgg335
 z173:=Tryz.sizeOf335
 v173:=Tryz.zeroValue335
 t175:=Tryz.underlying308
 a175:=Tryz.isAgg308
 z175:=Tryz.sizeOf308
 v175:=Tryz.zeroValue308
 t210:=Tryz.underlying311
 a210:=Tryz.isAgg311
 z210:=Tryz.sizeOf311
 v210:=Tryz.zeroValue311
 t212:=Tryz.underlying348
 a212:=Tryz.isAgg348
 z212:=Tryz.sizeOf348
 v212:=Tryz.zeroValue348
 t213:=Tryz.underlying349
 a213:=Tryz.isAgg349
 z213:=Tryz.sizeOf349
 t232:=Tryz.underlying359
 a232:=Tryz.isAgg359
 z232:=Tryz.sizeOf359
 v232:=Tryz.zeroValue359
 t233:=Tryz.underlying360
 a233:=Tryz.isAgg360
 z233:=Tryz.sizeOf360
 v233:=Tryz.zeroValue360
 g15:=by kernel_rfl
 g16:=by kernel_rfl
 g17:=by kernel_rfl
 g18:=by kernel_rfl
 g19:=by kernel_rfl
 t80:=Tryz.underlying44
 a80:=Tryz.isAgg44
 z80:=Tryz.sizeOf44
 v80:=Tryz.zeroValue44
 i0:=by kernel_rfl
 i2:=by kernel_rfl
 i3:=by kernel_rfl
 i4:=by kernel_rfl
 i5:=by kernel_rfl
 i9:=by kernel_rfl
 i20:=by kernel_rfl
 i21:=by kernel_rfl
 i37:=by kernel_rfl
 i46:=by kernel_rfl
 i51:=by kernel_rfl
 i53:=by kernel_rfl
 i75:=by kernel_rfl
 i76:=by kernel_rfl
 i80:=by kernel_rfl
 i85:=by kernel_rfl
 i127:=by kernel_rfl
 i143:=by kernel_rfl
 i145:=by kernel_rfl
 i167:=by kernel_rfl
 i168:=by kernel_rfl
 i171:=by kernel_rfl
 i173:=by kernel_rfl
 i175:=by kernel_rfl
 i210:=by kernel_rfl
 i212:=by kernel_rfl
 i232:=by kernel_rfl
 i233:=by kernel_rfl
 m15:=by kernel_rfl
 m16:=by kernel_rfl
 m17:=by kernel_rfl
 m18:=by kernel_rfl
 m19:=by kernel_rfl
 c0:=by kernel_rfl
 c2:=by kernel_rfl
 c3:=by kernel_rfl
 c4:=by kernel_rfl
 c5:=by kernel_rfl
 c9:=by kernel_rfl
 c20:=by kernel_rfl
 c21:=by kernel_rfl
 c37:=by kernel_rfl
 c46:=by kernel_rfl
 c51:=by kernel_rfl
 c53:=by kernel_rfl
 c75:=by kernel_rfl
 c76:=by kernel_rfl
 c80:=by kernel_rfl
 c85:=by kernel_rfl
 c127:=by kernel_rfl
 c143:=by kernel_rfl
 c145:=by kernel_rfl
 c167:=by kernel_rfl
 c168:=by kernel_rfl
 c171:=by kernel_rfl
 c173:=by kernel_rfl
 c175:=by kernel_rfl
 c210:=by kernel_rfl
 c212:=by kernel_rfl
 c213:=by kernel_rfl
 c232:=by kernel_rfl
 c233:=by kernel_rfl}
open Go.RowKit in
theorem Tryz.strconv_Atoi_ok(s:ByteArray)(a:s.size<=9223372036854775806)(v:Int)(h:Lib.atoiAll s.data.toList=.ok v)(w:World):
  Calls Tryz.prog 137 #[.string s] w fun e b=>e=.returned (.tuple #[.int .i64 v,.nilIface])/\(b=w\/∃t,b=Lib.bytesWorld w 5 t):=Any.strconv_Atoi_ok Tryz.laysC172 s a v h w
open Go.RowKit in
theorem Tryz.strconv_Atoi_syntax_var(s:ByteArray)(a:s.size<=281474976710656)(h:Lib.atoiAll s.data.toList=Lib.NumEnd.syntax)(c:TypeId)(p:Value)(w:World)(b:w.var? Tryz.prog "strconv.ErrSyntax" = some #[.iface c p]):
  Calls Tryz.prog 137 #[.string s] w fun e d=>∃N,e=.returned (.tuple #[.int .i64 0,.iface 273 (.pointer (some ⟨N,0,none⟩))])/\w.heap.size<=N/\d.heap[N]?=some (.cells #[.string ⟨#[65,116,111,105]⟩,.string s,.iface c p] 311 (0,0))/\Below w.heap.size w d:=Any.strconv_Atoi_syntax_var Tryz.laysC172 s a h c p w b
open Go.RowKit in
theorem Tryz.strconv_Atoi_range_var(s:ByteArray)(a:s.size<=281474976710656)(h:Lib.atoiAll s.data.toList=.range)(c:TypeId)(p:Value)(w:World)(b:w.var? Tryz.prog "strconv.ErrRange" = some #[.iface c p]):
  Calls Tryz.prog 137 #[.string s] w fun e d=>∃N,e=.returned (.tuple #[.int .i64 (Lib.atoiSat s.data.toList),.iface 273 (.pointer (some ⟨N,0,none⟩))])/\w.heap.size<=N/\d.heap[N]?=some (.cells #[.string ⟨#[65,116,111,105]⟩,.string s,.iface c p] 311 (0,0))/\Below w.heap.size w d:=Any.strconv_Atoi_range_var Tryz.laysC172 s a h c p w b
def Tryz.lays219_ren:Go.Shelf.Ren:=⟨fun | 219=>190 | 217=>224 | 225=>225 | 224=>226 | 267=>227 | 266=>251 | 314=>252 | n=>n,fun | 9=>9 | 3=>3 | 4=>4 | 5=>5 | 46=>239 | 146=>283 | 51=>179 | n=>n,fun | 1=>0 | n=>n⟩
theorem Tryz.lays219:Go.Proofs.Lays.n219 Tryz.prog Tryz.lays219_ren:={
 mixed:=by kernel_rfl
 f217:=Tryz.func224.trans (congrArg some (by kernel_rfl))
 f219:=Tryz.func190.trans (congrArg some (by kernel_rfl))
 f224:=Tryz.func226.trans (congrArg some (by kernel_rfl))
 f225:=Tryz.func225.trans (congrArg some (by kernel_rfl))
 f266:=Tryz.func251.trans (congrArg some (by kernel_rfl))
 f267:=Tryz.func227.trans (congrArg some (by kernel_rfl))
 f314:=Tryz.func252.trans (congrArg some (by kernel_rfl))
 t3:=Tryz.underlying3
 a3:=Tryz.isAgg3
 z3:=Tryz.sizeOf3
 v3:=Tryz.zeroValue3
 t4:=Tryz.underlying4
 a4:=Tryz.isAgg4
 z4:=Tryz.sizeOf4
 v4:=Tryz.zeroValue4
 t5:=Tryz.underlying5
 a5:=Tryz.isAgg5
 z5:=Tryz.sizeOf5
 v5:=Tryz.zeroValue5
 t9:=Tryz.underlying9
 a9:=Tryz.isAgg9
 z9:=Tryz.sizeOf9
 v9:=Tryz.zeroValue9
 t46:=Tryz.underlying239
 a46:=Tryz.isAgg239
 z46:=Tryz.sizeOf239
 v46:=Tryz.zeroValue239
 t51:=Tryz.underlying179
 a51:=Tryz.isAgg179
 z51:=Tryz.sizeOf179
 v51:=Tryz.zeroValue179
 t146:=Tryz.underlying283
 a146:=Tryz.isAgg283
 z146:=Tryz.sizeOf283
 v146:=Tryz.zeroValue283
 g1:=by kernel_rfl}
open Go.RowKit Go.Lib in
theorem Tryz.stringslite_Index_one(s:ByteArray)(c:UInt8)(w:World):
  Calls Tryz.prog 190 #[.string s,.string ⟨#[c]⟩] w fun e a=>e=.returned (.int .i64 (Lib.indexByte s.data.toList c))/\a=w:=Any.stringslite_Index_one Tryz.lays219 s c w
def Tryz.lays143_ren:Go.Shelf.Ren:=⟨fun | 143=>215 | 219=>190 | 217=>224 | 225=>225 | 224=>226 | 267=>227 | 266=>251 | 314=>252 | n=>n,fun | 9=>9 | 3=>3 | 4=>4 | 5=>5 | 46=>239 | 146=>283 | 51=>179 | n=>n,fun | 1=>0 | n=>n⟩
theorem Tryz.lays143:Go.Proofs.Lays.n143 Tryz.prog Tryz.lays143_ren:={
 mixed:=by kernel_rfl
 f143:=Tryz.func215.trans (congrArg some (by kernel_rfl))
 f217:=Tryz.func224.trans (congrArg some (by kernel_rfl))
 f219:=Tryz.func190.trans (congrArg some (by kernel_rfl))
 f224:=Tryz.func226.trans (congrArg some (by kernel_rfl))
 f225:=Tryz.func225.trans (congrArg some (by kernel_rfl))
 f266:=Tryz.func251.trans (congrArg some (by kernel_rfl))
 f267:=Tryz.func227.trans (congrArg some (by kernel_rfl))
 f314:=Tryz.func252.trans (congrArg some (by kernel_rfl))
 t3:=Tryz.underlying3
 a3:=Tryz.isAgg3
 z3:=Tryz.sizeOf3
 v3:=Tryz.zeroValue3
 t4:=Tryz.underlying4
 a4:=Tryz.isAgg4
 z4:=Tryz.sizeOf4
 v4:=Tryz.zeroValue4
 t5:=Tryz.underlying5
 a5:=Tryz.isAgg5
 z5:=Tryz.sizeOf5
 v5:=Tryz.zeroValue5
 t9:=Tryz.underlying9
 a9:=Tryz.isAgg9
 z9:=Tryz.sizeOf9
 v9:=Tryz.zeroValue9
 t46:=Tryz.underlying239
 a46:=Tryz.isAgg239
 z46:=Tryz.sizeOf239
 v46:=Tryz.zeroValue239
 t51:=Tryz.underlying179
 a51:=Tryz.isAgg179
 z51:=Tryz.sizeOf179
 v51:=Tryz.zeroValue179
 t146:=Tryz.underlying283
 a146:=Tryz.isAgg283
 z146:=Tryz.sizeOf283
 v146:=Tryz.zeroValue283
 g1:=by kernel_rfl}
open Go.RowKit Go.Lib in
theorem Tryz.strings_Index_one(s:ByteArray)(c:UInt8)(w:World):
  Calls Tryz.prog 215 #[.string s,.string ⟨#[c]⟩] w fun e a=>e=.returned (.int .i64 (Lib.indexByte s.data.toList c))/\a=w:=Any.strings_Index_one Tryz.lays143 s c w
def Tryz.lays144_ren:Go.Shelf.Ren:=⟨fun | 144=>183 | 143=>215 | 219=>190 | 217=>224 | 225=>225 | 224=>226 | 267=>227 | 266=>251 | 314=>252 | n=>n,fun | 9=>9 | 4=>4 | 3=>3 | 5=>5 | 46=>239 | 146=>283 | 51=>179 | n=>n,fun | 1=>0 | n=>n⟩
theorem Tryz.lays144:Go.Proofs.Lays.n144 Tryz.prog Tryz.lays144_ren:={
 mixed:=by kernel_rfl
 f143:=Tryz.func215.trans (congrArg some (by kernel_rfl))
 f144:=Tryz.func183.trans (congrArg some (by kernel_rfl))
 f217:=Tryz.func224.trans (congrArg some (by kernel_rfl))
 f219:=Tryz.func190.trans (congrArg some (by kernel_rfl))
 f224:=Tryz.func226.trans (congrArg some (by kernel_rfl))
 f225:=Tryz.func225.trans (congrArg some (by kernel_rfl))
 f266:=Tryz.func251.trans (congrArg some (by kernel_rfl))
 f267:=Tryz.func227.trans (congrArg some (by kernel_rfl))
 f314:=Tryz.func252.trans (congrArg some (by kernel_rfl))
 t3:=Tryz.underlying3
 a3:=Tryz.isAgg3
 z3:=Tryz.sizeOf3
 v3:=Tryz.zeroValue3
 t4:=Tryz.underlying4
 a4:=Tryz.isAgg4
 z4:=Tryz.sizeOf4
 v4:=Tryz.zeroValue4
 t5:=Tryz.underlying5
 a5:=Tryz.isAgg5
 z5:=Tryz.sizeOf5
 v5:=Tryz.zeroValue5
 t9:=Tryz.underlying9
 a9:=Tryz.isAgg9
 z9:=Tryz.sizeOf9
 v9:=Tryz.zeroValue9
 t46:=Tryz.underlying239
 a46:=Tryz.isAgg239
 z46:=Tryz.sizeOf239
 v46:=Tryz.zeroValue239
 t51:=Tryz.underlying179
 a51:=Tryz.isAgg179
 z51:=Tryz.sizeOf179
 v51:=Tryz.zeroValue179
 t146:=Tryz.underlying283
 a146:=Tryz.isAgg283
 z146:=Tryz.sizeOf283
 v146:=Tryz.zeroValue283
 g1:=by kernel_rfl}
open Go.RowKit Go.Lib in
theorem Tryz.strings_Contains_one(s:ByteArray)(c:UInt8)(w:World):
  Calls Tryz.prog 183 #[.string s,.string ⟨#[c]⟩] w fun e a=>e=.returned (.bool (decide (0<=Lib.indexByte s.data.toList c)))/\a=w:=Any.strings_Contains_one Tryz.lays144 s c w
def Tryz.lays145_ren:Go.Shelf.Ren:=⟨fun | 145=>86 | 220=>148 | 219=>190 | 217=>224 | 225=>225 | 224=>226 | 267=>227 | 266=>251 | 314=>252 | n=>n,fun | 9=>9 | 4=>4 | 59=>166 | 3=>3 | 5=>5 | 46=>239 | 146=>283 | 51=>179 | n=>n,fun | 1=>0 | n=>n⟩
theorem Tryz.lays145:Go.Proofs.Lays.n145 Tryz.prog Tryz.lays145_ren:={
 mixed:=by kernel_rfl
 f145:=Tryz.func86.trans (congrArg some (by kernel_rfl))
 f217:=Tryz.func224.trans (congrArg some (by kernel_rfl))
 f219:=Tryz.func190.trans (congrArg some (by kernel_rfl))
 f220:=Tryz.func148.trans (congrArg some (by kernel_rfl))
 f224:=Tryz.func226.trans (congrArg some (by kernel_rfl))
 f225:=Tryz.func225.trans (congrArg some (by kernel_rfl))
 f266:=Tryz.func251.trans (congrArg some (by kernel_rfl))
 f267:=Tryz.func227.trans (congrArg some (by kernel_rfl))
 f314:=Tryz.func252.trans (congrArg some (by kernel_rfl))
 t3:=Tryz.underlying3
 a3:=Tryz.isAgg3
 z3:=Tryz.sizeOf3
 v3:=Tryz.zeroValue3
 t4:=Tryz.underlying4
 a4:=Tryz.isAgg4
 z4:=Tryz.sizeOf4
 v4:=Tryz.zeroValue4
 t5:=Tryz.underlying5
 a5:=Tryz.isAgg5
 z5:=Tryz.sizeOf5
 v5:=Tryz.zeroValue5
 t9:=Tryz.underlying9
 a9:=Tryz.isAgg9
 z9:=Tryz.sizeOf9
 v9:=Tryz.zeroValue9
 t46:=Tryz.underlying239
 a46:=Tryz.isAgg239
 z46:=Tryz.sizeOf239
 v46:=Tryz.zeroValue239
 t51:=Tryz.underlying179
 a51:=Tryz.isAgg179
 z51:=Tryz.sizeOf179
 v51:=Tryz.zeroValue179
 t59:=Tryz.underlying166
 a59:=Tryz.isAgg166
 z59:=Tryz.sizeOf166
 v59:=Tryz.zeroValue166
 t146:=Tryz.underlying283
 a146:=Tryz.isAgg283
 z146:=Tryz.sizeOf283
 v146:=Tryz.zeroValue283
 g1:=by kernel_rfl}
open Go.RowKit Go.Lib in
theorem Tryz.strings_Cut(s a:ByteArray)(m:Int)(w:World)(c:s.size<4294967281)(b:w.cell? ⟨0,0,none⟩=some (.int .i64 m)):
  Calls Tryz.prog 86 #[.string s,.string a] w fun e d=>e=.returned (.tuple #[.string ⟨(Lib.cut s.data.toList a.data.toList).1.toArray⟩,.string ⟨(Lib.cut s.data.toList a.data.toList).2.1.toArray⟩,.bool (Lib.cut s.data.toList a.data.toList).2.2])/\∃n,d=w.drewN n:=Any.strings_Cut Tryz.lays145 s a m w c b
def Tryz.lays138_ren:Go.Shelf.Ren:=⟨fun | 138=>264 | 195=>280 | 218=>281 | 143=>215 | 219=>190 | 217=>224 | 225=>225 | 224=>226 | 267=>227 | 266=>251 | 314=>252 | n=>n,fun | 9=>9 | 3=>3 | 4=>4 | 5=>5 | 0=>0 | 46=>239 | 146=>283 | 51=>179 | n=>n,fun | 1=>0 | n=>n⟩
theorem Tryz.lays138:Go.Proofs.Lays.n138 Tryz.prog Tryz.lays138_ren:={
 mixed:=by kernel_rfl
 f138:=Tryz.func264.trans (congrArg some (by kernel_rfl))
 f143:=Tryz.func215.trans (congrArg some (by kernel_rfl))
 f195:=Tryz.func280.trans (congrArg some (by kernel_rfl))
 f217:=Tryz.func224.trans (congrArg some (by kernel_rfl))
 f218:=Tryz.func281.trans (congrArg some (by kernel_rfl))
 f219:=Tryz.func190.trans (congrArg some (by kernel_rfl))
 f224:=Tryz.func226.trans (congrArg some (by kernel_rfl))
 f225:=Tryz.func225.trans (congrArg some (by kernel_rfl))
 f266:=Tryz.func251.trans (congrArg some (by kernel_rfl))
 f267:=Tryz.func227.trans (congrArg some (by kernel_rfl))
 f314:=Tryz.func252.trans (congrArg some (by kernel_rfl))
 t0:=Tryz.underlying0
 a0:=Tryz.isAgg0
 z0:=Tryz.sizeOf0
 v0:=Tryz.zeroValue0
 t3:=Tryz.underlying3
 a3:=Tryz.isAgg3
 z3:=Tryz.sizeOf3
 v3:=Tryz.zeroValue3
 t4:=Tryz.underlying4
 a4:=Tryz.isAgg4
 z4:=Tryz.sizeOf4
 v4:=Tryz.zeroValue4
 t5:=Tryz.underlying5
 a5:=Tryz.isAgg5
 z5:=Tryz.sizeOf5
 v5:=Tryz.zeroValue5
 t9:=Tryz.underlying9
 a9:=Tryz.isAgg9
 z9:=Tryz.sizeOf9
 v9:=Tryz.zeroValue9
 t46:=Tryz.underlying239
 a46:=Tryz.isAgg239
 z46:=Tryz.sizeOf239
 v46:=Tryz.zeroValue239
 t51:=Tryz.underlying179
 a51:=Tryz.isAgg179
 z51:=Tryz.sizeOf179
 v51:=Tryz.zeroValue179
 t146:=Tryz.underlying283
 a146:=Tryz.isAgg283
 z146:=Tryz.sizeOf283
 v146:=Tryz.zeroValue283
 g1:=by kernel_rfl}
open Go.RowKit Go.Lib in
theorem Tryz.strings_Count_one(s:ByteArray)(c:UInt8)(w:World):
  Calls Tryz.prog 264 #[.string s,.string ⟨#[c]⟩] w fun e a=>e=.returned (.int .i64 (Lib.countByte s.data.toList c))/\a=w:=Any.strings_Count_one Tryz.lays138 s c w
def Tryz.lays99_ren:Go.Shelf.Ren:=⟨fun | 99=>91 | 206=>152 | n=>n,fun | 9=>9 | 4=>4 | 3=>3 | n=>n,fun | n=>n⟩
theorem Tryz.lays99:Go.Proofs.Lays.n99 Tryz.prog Tryz.lays99_ren:={
 mixed:=by kernel_rfl
 f99:=Tryz.func91.trans (congrArg some (by kernel_rfl))
 f206:=Tryz.func152.trans (congrArg some (by kernel_rfl))
 t3:=Tryz.underlying3
 a3:=Tryz.isAgg3
 z3:=Tryz.sizeOf3
 v3:=Tryz.zeroValue3
 t4:=Tryz.underlying4
 a4:=Tryz.isAgg4
 z4:=Tryz.sizeOf4
 v4:=Tryz.zeroValue4
 t9:=Tryz.underlying9
 a9:=Tryz.isAgg9
 z9:=Tryz.sizeOf9
 v9:=Tryz.zeroValue9}
open Go.RowKit Go.Lib in
theorem Tryz.strings_HasPrefix(s p:ByteArray)(w:World):
  Calls Tryz.prog 91 #[.string s,.string p] w fun e a=>e=.returned (.bool (Lib.hasPrefix s.data.toList p.data.toList))/\a=w:=Any.strings_HasPrefix Tryz.lays99 s p w
def Tryz.lays101_ren:Go.Shelf.Ren:=⟨fun | 101=>136 | 208=>179 | 206=>152 | n=>n,fun | 9=>9 | 4=>4 | 3=>3 | n=>n,fun | n=>n⟩
theorem Tryz.lays101:Go.Proofs.Lays.n101 Tryz.prog Tryz.lays101_ren:={
 mixed:=by kernel_rfl
 f101:=Tryz.func136.trans (congrArg some (by kernel_rfl))
 f206:=Tryz.func152.trans (congrArg some (by kernel_rfl))
 f208:=Tryz.func179.trans (congrArg some (by kernel_rfl))
 t3:=Tryz.underlying3
 a3:=Tryz.isAgg3
 z3:=Tryz.sizeOf3
 v3:=Tryz.zeroValue3
 t4:=Tryz.underlying4
 a4:=Tryz.isAgg4
 z4:=Tryz.sizeOf4
 v4:=Tryz.zeroValue4
 t9:=Tryz.underlying9
 a9:=Tryz.isAgg9
 z9:=Tryz.sizeOf9
 v9:=Tryz.zeroValue9}
open Go.RowKit Go.Lib in
theorem Tryz.strings_TrimPrefix(s p:ByteArray)(w:World):
  Calls Tryz.prog 136 #[.string s,.string p] w fun e a=>e=.returned (.string ⟨(Lib.trimPrefix s.data.toList p.data.toList).toArray⟩)/\a=w:=Any.strings_TrimPrefix Tryz.lays101 s p w
def Tryz.lays221_ren:Go.Shelf.Ren:=⟨fun | 221=>240 | 268=>263 | 138=>264 | 143=>215 | 195=>280 | 197=>248 | 218=>281 | 219=>190 | 260=>271 | 217=>224 | 225=>225 | 224=>226 | 267=>227 | 266=>251 | 314=>252 | n=>n,fun | 9=>9 | 3=>3 | 31=>158 | 4=>4 | 0=>0 | 105=>313 | 21=>21 | 5=>5 | 46=>239 | 119=>353 | 139=>356 | 138=>355 | 146=>283 | 51=>179 | n=>n,fun | 1=>0 | 3=>5 | 4=>6 | n=>n⟩
theorem Tryz.lays221:Go.Proofs.Lays.n221 Tryz.prog Tryz.lays221_ren:={
 mixed:=by kernel_rfl
 f138:=Tryz.func264.trans (congrArg some (by kernel_rfl))
 f143:=Tryz.func215.trans (congrArg some (by kernel_rfl))
 f195:=Tryz.func280.trans (congrArg some (by kernel_rfl))
 f197:=Tryz.func248.trans (congrArg some (by kernel_rfl))
 f217:=Tryz.func224.trans (congrArg some (by kernel_rfl))
 f218:=Tryz.func281.trans (congrArg some (by kernel_rfl))
 f219:=Tryz.func190.trans (congrArg some (by kernel_rfl))
 f221:=Tryz.func240.trans (congrArg some (by kernel_rfl))
 f224:=Tryz.func226.trans (congrArg some (by kernel_rfl))
 f225:=Tryz.func225.trans (congrArg some (by kernel_rfl))
 f260:=Tryz.func271.trans (congrArg some (by kernel_rfl))
 f266:=Tryz.func251.trans (congrArg some (by kernel_rfl))
 f267:=Tryz.func227.trans (congrArg some (by kernel_rfl))
 f268:=Tryz.func263.trans (congrArg some (by kernel_rfl))
 f314:=Tryz.func252.trans (congrArg some (by kernel_rfl))
 t0:=Tryz.underlying0
 a0:=Tryz.isAgg0
 z0:=Tryz.sizeOf0
 v0:=Tryz.zeroValue0
 t3:=Tryz.underlying3
 a3:=Tryz.isAgg3
 z3:=Tryz.sizeOf3
 v3:=Tryz.zeroValue3
 t4:=Tryz.underlying4
 a4:=Tryz.isAgg4
 z4:=Tryz.sizeOf4
 v4:=Tryz.zeroValue4
 t5:=Tryz.underlying5
 a5:=Tryz.isAgg5
 z5:=Tryz.sizeOf5
 v5:=Tryz.zeroValue5
 t9:=Tryz.underlying9
 a9:=Tryz.isAgg9
 z9:=Tryz.sizeOf9
 v9:=Tryz.zeroValue9
 t21:=Tryz.underlying21
 a21:=Tryz.isAgg21
 z21:=Tryz.sizeOf21
 v21:=Tryz.zeroValue21
 t31:=Tryz.underlying158
 a31:=Tryz.isAgg158
 z31:=Tryz.sizeOf158
 v31:=Tryz.zeroValue158
 t46:=Tryz.underlying239
 a46:=Tryz.isAgg239
 z46:=Tryz.sizeOf239
 v46:=Tryz.zeroValue239
 t51:=Tryz.underlying179
 a51:=Tryz.isAgg179
 z51:=Tryz.sizeOf179
 v51:=Tryz.zeroValue179
 t105:=Tryz.underlying313
 a105:=Tryz.isAgg313
 z105:=Tryz.sizeOf313
 v105:=Tryz.zeroValue313
 t119:=Tryz.underlying353
 a119:=Tryz.isAgg353
 z119:=Tryz.sizeOf353
 t138:=Tryz.underlying355
 a138:=Tryz.isAgg355
 z138:=Tryz.sizeOf355
 v138:=Tryz.zeroValue355
 t139:=Tryz.underlying356
 a139:=Tryz.isAgg356
 z139:=Tryz.sizeOf356
 v139:=Tryz.zeroValue356
 t146:=Tryz.underlying283
 a146:=Tryz.isAgg283
 z146:=Tryz.sizeOf283
 v146:=Tryz.zeroValue283
 g1:=by kernel_rfl
 g3:=by kernel_rfl
 g4:=by kernel_rfl}
def Tryz.lays105_ren:Go.Shelf.Ren:=⟨fun | 105=>151 | 212=>192 | 99=>91 | 165=>193 | 166=>119 | 170=>194 | 169=>123 | 263=>228 | 264=>229 | 206=>152 | 240=>165 | 241=>230 | 276=>202 | 277=>253 | n=>n,fun | 9=>9 | 3=>3 | 4=>4 | 20=>20 | 0=>0 | 46=>239 | 109=>255 | 5=>5 | 72=>191 | 76=>192 | 51=>179 | 146=>283 | 53=>259 | 148=>285 | 70=>188 | 37=>189 | 75=>32 | 127=>237 | 164=>264 | 80=>44 | n=>n,fun | n=>n⟩
theorem Tryz.lays105:Go.Proofs.Lays.n105 Tryz.prog Tryz.lays105_ren:={
 mixed:=by kernel_rfl
 f99:=Tryz.func91.trans (congrArg some (by kernel_rfl))
 f105:=Tryz.func151.trans (congrArg some (by kernel_rfl))
 f165:=Tryz.func193.trans (congrArg some (by kernel_rfl))
 f166:=Tryz.func119.trans (congrArg some (by kernel_rfl))
 f169:=Tryz.func123.trans (congrArg some (by kernel_rfl))
 f170:=Tryz.func194.trans (congrArg some (by kernel_rfl))
 f206:=Tryz.func152.trans (congrArg some (by kernel_rfl))
 f212:=Tryz.func192.trans (congrArg some (by kernel_rfl))
 f240:=Tryz.func165.trans (congrArg some (by kernel_rfl))
 f241:=Tryz.func230.trans (congrArg some (by kernel_rfl))
 f263:=Tryz.func228.trans (congrArg some (by kernel_rfl))
 f264:=Tryz.func229.trans (congrArg some (by kernel_rfl))
 f276:=Tryz.func202.trans (congrArg some (by kernel_rfl))
 f277:=Tryz.func253.trans (congrArg some (by kernel_rfl))
 t0:=Tryz.underlying0
 a0:=Tryz.isAgg0
 z0:=Tryz.sizeOf0
 v0:=Tryz.zeroValue0
 t3:=Tryz.underlying3
 a3:=Tryz.isAgg3
 z3:=Tryz.sizeOf3
 v3:=Tryz.zeroValue3
 t4:=Tryz.underlying4
 a4:=Tryz.isAgg4
 z4:=Tryz.sizeOf4
 v4:=Tryz.zeroValue4
 t5:=Tryz.underlying5
 a5:=Tryz.isAgg5
 z5:=Tryz.sizeOf5
 v5:=Tryz.zeroValue5
 t9:=Tryz.underlying9
 a9:=Tryz.isAgg9
 z9:=Tryz.sizeOf9
 v9:=Tryz.zeroValue9
 t20:=Tryz.underlying20
 a20:=Tryz.isAgg20
 z20:=Tryz.sizeOf20
 v20:=Tryz.zeroValue20
 t37:=Tryz.underlying189
 a37:=Tryz.isAgg189
 z37:=Tryz.sizeOf189
 v37:=Tryz.zeroValue189
 t46:=Tryz.underlying239
 a46:=Tryz.isAgg239
 z46:=Tryz.sizeOf239
 v46:=Tryz.zeroValue239
 t51:=Tryz.underlying179
 a51:=Tryz.isAgg179
 z51:=Tryz.sizeOf179
 v51:=Tryz.zeroValue179
 t53:=Tryz.underlying259
 a53:=Tryz.isAgg259
 z53:=Tryz.sizeOf259
 v53:=Tryz.zeroValue259
 t70:=Tryz.underlying188
 a70:=Tryz.isAgg188
 z70:=Tryz.sizeOf188
 v70:=Tryz.zeroValue188
 t72:=Tryz.underlying191
 a72:=Tryz.isAgg191
 z72:=Tryz.sizeOf191
 v72:=Tryz.zeroValue191
 t75:=Tryz.underlying32
 a75:=Tryz.isAgg32
 z75:=Tryz.sizeOf32
 v75:=Tryz.zeroValue32
 t76:=Tryz.underlying192
 a76:=Tryz.isAgg192
 z76:=Tryz.sizeOf192
 v76:=Tryz.zeroValue192
 t109:=Tryz.underlying255
 a109:=Tryz.isAgg255
 z109:=Tryz.sizeOf255
 v109:=Tryz.zeroValue255
 t127:=Tryz.underlying237
 a127:=Tryz.isAgg237
 z127:=Tryz.sizeOf237
 v127:=Tryz.zeroValue237
 t146:=Tryz.underlying283
 a146:=Tryz.isAgg283
 z146:=Tryz.sizeOf283
 v146:=Tryz.zeroValue283
 t148:=Tryz.underlying285
 a148:=Tryz.isAgg285
 z148:=Tryz.sizeOf285
 v148:=Tryz.zeroValue285
 t164:=Tryz.underlying264
 a164:=Tryz.isAgg264
 z164:=Tryz.sizeOf264
 v164:=Tryz.zeroValue264}
theorem Tryz.Builder_Extra_105:Builder.Extra Tryz.prog Tryz.lays105_ren:={
 sizeBuilder:=by kernel_rfl
 liesBuilder:=by kernel_rfl
 t5:=Tryz.underlying5
 a5:=Tryz.isAgg5
 z5:=Tryz.sizeOf5
 v5:=Tryz.zeroValue5
 infoByte:=by kernel_rfl
 cellsByte:=by kernel_rfl
 sizeByte:=by kernel_rfl
 neB5:=by decide}
open Go.RowKit Go.Lib in
theorem Tryz.strings_Repeat(s:ByteArray)(c:Nat)(w:World)(b:c<=9223372036854775807)(a:s.size*c<=140737488355328):
  Calls Tryz.prog 151 #[.string s,.int .i64 c] w fun e d=>e=.returned (.string ⟨(Lib.repeatL s.data.toList c).toArray⟩)/\Below w.heap.size w d:=Any.strings_Repeat Tryz.lays105 Tryz.Builder_Extra_105 s c w b a
end Go.Proofs
namespace Go.Proofs.YtbapfpekklcicaaGreatDoor
open Go.RowKit
theorem vj(l:List UInt8)(c:UInt8):(Lib.indexByte l c = -1/\c∉l)\/(Lib.indexByte l c=((l.takeWhile (· != c)).length:Int)/\c∈l):=by
 induction l with
 | nil=>left;exact⟨rfl,by simp⟩
 | cons a t e =>
 unfold Lib.indexByte;by_cases h:a=c
 ·subst h;right;simp
 rcases e with ⟨b,d⟩|⟨b,d⟩
 ·left;rw[b];simp[h,d,Ne.symm h]
 right;rw[b];simp[h,d]
theorem jmj(s:ByteArray)(c:UInt8)(w:World)(h:c∉s.data.toList):
  Calls Tryz.prog 148 #[.string s,.string ⟨#[c]⟩] w fun e b=>e=.returned (.tuple #[.string s,.string ⟨#[]⟩,.bool false])/\∃n,b=w.drewN n:=by
 have d:Lib.indexByte s.data.toList c = -1:=by
  rcases vj s.data.toList c with ⟨a,_⟩|⟨_,a⟩
  ·exact a
  exact absurd a h
 go_enter Tryz.func148,Tryz.ntmps148;go_wp2_with (go_at_call 190;refine(Tryz.stringslite_Index_one s c _).mono ?_;rw[d];rintro e b ⟨rfl,rfl⟩);go_ret3;exact⟨rfl,0,rfl⟩
theorem jj5(s:ByteArray)(c:UInt8)(w:World)(m:s.size<=maxLen)(h:c∈s.data.toList):
  Calls Tryz.prog 148 #[.string s,.string ⟨#[c]⟩] w fun e d=>e=.returned (.tuple #[.string (s.extract 0 (s.data.toList.takeWhile (· != c)).length),.string (s.extract ((s.data.toList.takeWhile (· != c)).length+1) s.size),.bool true])/\∃n,d=w.drewN n:=by
 have f:Lib.indexByte s.data.toList c=((s.data.toList.takeWhile (· != c)).length:Int):=by
  rcases vj s.data.toList c with ⟨_,a⟩|⟨a,_⟩
  ·exact absurd h a
  exact a
 have k:(s.data.toList.takeWhile (· != c)).length<s.size:=by
  rw[jo2];rcases jpc (s.data.toList.takeWhile (· != c)).length s.data.toList.length with b|b
  ·exact b
  exfalso;have g:s.data.toList.takeWhile (· != c)=s.data.toList:=List.IsPrefix.eq_of_length_le (jqa _) b
  have j:=List.all_eq_true.1 (jqd (p:=fun(x:UInt8)=>x != c) (l:=s.data.toList)) c (by rw[g];exact h);simp at j
 unfold maxLen at m;generalize (s.data.toList.takeWhile (· != c)).length=i at *
 have b:IntKind.i64.wrap ((i:Int)+1)=(i:Int)+1:=jph _ (by omega);go_enter Tryz.func148,Tryz.ntmps148;go_wp2_with (go_at_call 190;refine(Tryz.stringslite_Index_one s c _).mono ?_;rw[f];rintro e d ⟨rfl,rfl⟩);go_quiet (fail);go_wp2;go_ret3;exact⟨rfl,_,rfl⟩
theorem jdS(s:ByteArray)(c:UInt8)(w:World)(h:c∉s.data.toList):
  Calls Tryz.prog 86 #[.string s,.string ⟨#[c]⟩] w fun e a=>e=.returned (.tuple #[.string s,.string ⟨#[]⟩,.bool false])/\∃n,a=w.drewN n:=by
 go_enter Tryz.func86,Tryz.ntmps86;go_wp2_with (go_at_call 148;refine(jmj s c _ h).mono ?_;rintro e a ⟨rfl,n,rfl⟩);go_ret3;exact⟨rfl,_,rfl⟩
theorem GV(s:ByteArray)(c:UInt8)(w:World)(b:s.size<=maxLen)(h:c∈s.data.toList):
  Calls Tryz.prog 86 #[.string s,.string ⟨#[c]⟩] w fun e a=>e=.returned (.tuple #[.string (s.extract 0 (s.data.toList.takeWhile (· != c)).length),.string (s.extract ((s.data.toList.takeWhile (· != c)).length+1) s.size),.bool true])/\∃n,a=w.drewN n:=by
 go_enter Tryz.func86,Tryz.ntmps86;go_wp2_with (go_at_call 148;refine(jj5 s c _ b h).mono ?_;rintro e a ⟨rfl,n,rfl⟩);go_ret3;exact⟨rfl,_,rfl⟩
def qi(x:Ln):Array Value:=#[.int .i64 x.no,.int .i64 x.at_,.string ⟨x.text.toArray⟩,.bool x.ended]
def XJ(b:Bool):ByteArray:=if b then ⟨#[10]⟩ else ⟨#[]⟩
theorem jcD(a b:Int)(t:ByteArray)(x:Bool)(w:World):
  Calls Tryz.prog 170 #[.agg #[.int .i64 a,.int .i64 b,.string t,.bool x]] w fun e c=>e=.returned (.string (XJ x))/\c=w.alloc (.cells #[.int .i64 a,.int .i64 b,.string t,.bool x] 157):=by
 cases x
 all_goals
  go_enter Tryz.func170,Tryz.ntmps170;go_wp2;go_ret;exact⟨rfl,rfl⟩
end Go.Proofs.YtbapfpekklcicaaGreatDoor
