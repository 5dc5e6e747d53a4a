/- Texts put together:PZ,TF,FO,TB,TC,FP. -/
import Derived.Test.YtbapfpekklcicaaGreatDoorBtx7
set_option linter.unusedVariables false
set_option maxRecDepth 100000
set_option maxHeartbeats 16000000
namespace Go.Proofs.YtbapfpekklcicaaGreatDoor
open Go.RowKit Go.Shelf Tryz
abbrev jpq:=@List.getElem?_drop
abbrev jq7:=@Option.map_some
section
open Go.Maps Go.ChangeShapes Go.Joins Go.WideShapes
theorem Wr {w : World} {base : Nat} {v : Value} {its : List It} {fvs : List Value} (h : w.ownsRow base 107 3 v its.length (jQ its fvs)) (hl : fvs.length = its.length) (he : ∀ (j : Nat) it x, its[j]? = some it -> fvs[j]? = some x -> vP w x it.fields) : Its w v its := by
  rcases jpH h with ⟨e, hn⟩ | ⟨g, cap, e⟩
  . have : its = [] := List.length_eq_zero_iff.1 hn
    rw [e, this]
    exact ⟨none, 0, rfl, joJ _, fun i it hi => by simp at hi⟩
  refine ⟨some ⟨g, 0, none⟩, cap, e, (by rcases h.2 with ⟨q, _⟩ | ⟨g', cap', cur, q, _, _, q2, _⟩; · rw [e] at q; cases q
                                         rw [e] at q; cases q; exact q2), fun i it hi => ?_⟩
  have hlt : i < its.length := by
    rcases jpc i its.length with q | q
    . exact q
    rw [jpe q] at hi; cases hi
  obtain ⟨fv, hfv⟩ : ∃ fv, fvs[i]? = some fv := ⟨_, joM (by rw [hl]; exact hlt)⟩
  obtain ⟨a0, a1, a2⟩ := qE _ _ i it fv hi hfv
  rw [e] at h
  refine ⟨g, 0, fv, rfl, (jpJ h g rfl).2, ?_, ?_, ?_, he i it fv hi hfv⟩
  . rw [jpl, jo1 h (i * 3) (by omega)]; exact a0
  . rw [jpl, jo1 h (i * 3 + 1) (by omega)]; exact a1
  rw [jpl, jo1 h (i * 3 + 1 + 1) (by omega)]; exact a2
structure YB(w wr:World)(v:Value)(fvs:List Value)(its:List It):Prop where
 row:wr.ownsRow w.heap.size 107 3 v its.length (jQ its fvs)
 len:fvs.length=its.length
 each:∀(j:Nat) it x,its[j]?=some it->fvs[j]?=some x->wr.ownsRow w.heap.size 148 2 x it.fields.length (ju it.fields)
 below:Below w.heap.size w wr
theorem YB.its{w wr:World}{v:Value}{fvs:List Value}{its:List It}(h:YB w wr v fvs its):Its wr v its :=
 Wr h.row h.len fun j c x a b=>ym (h.each j c x a b)
theorem YB.nil{w wr:World}{v:Value}{fvs:List Value}{its:List It}(h:YB w wr v fvs its):jkR wr v its:=by
 intro i b u n s m c e j a;obtain⟨k,r⟩:∃k,its[i]?=some k:=⟨_,joM j⟩
 obtain⟨l,f⟩:∃l,fvs[i]?=some l:=⟨_,joM (by rw[h.len];exact j)⟩
 obtain⟨_,_,a2⟩:=qE _ _ i k l r f;have o:=h.row
 rcases jpH o with ⟨p,y⟩|⟨g,d,p⟩
 ·omega
 rw[p]at e o;cases e;rw[jpl,jo1 o (i*3+1+1) (by omega),a2]at a;cases a;rcases(h.each i k _ r f).2 with ⟨q,_⟩|⟨x,d,t,q,_⟩
 ·cases q;rfl
 cases q
theorem YB.kept{w wr w2:World}{v:Value}{fvs:List Value}{its:List It}(h:YB w wr v fvs its)(a:Below wr.heap.size wr w2):YB w w2 v fvs its :=
 ⟨jX h.row a (joJ _),h.len,fun j d x b c=>jX (h.each j d x b c) a (joJ _),h.below.trans (a.mono h.below.size)⟩
theorem jli{W h:World}{lo:Nat}{v x:Value}{n m:Nat}{xs i:List Value}(r:W.ownsRow lo 107 3 v n xs)(hx:W.ownsRow lo 148 2 x m i)(q:W.grownBy h v.ownBlock):h.ownsRow lo 148 2 x m i:=by
 refine jU hx fun b c=>q.block b (hx.lt b c).2 (fun e => ?_);rcases hx.2 with ⟨rfl,_⟩|⟨g,j,k,rfl,_,p,_⟩
 ·cases c
 cases c;rcases r.2 with ⟨rfl,_⟩|⟨l,d,f,rfl,_,a,_⟩
 ·cases e
 have:g=l:=joN e;subst this;rw[p]at a;injection a with a;injection a with _ o _;exact absurd o (by decide)
theorem YB.snoc{w W g:World}{v i x:Value}{fvs:List Value}{its:List It}{it:It}(h:YB w W v fvs its)(hx:W.ownsRow w.heap.size 148 2 x it.fields.length (ju it.fields))(l:g.ownsRow w.heap.size 107 3 i (its.length+1) (jQ its fvs++[.int .i64 it.kind,.string (B it.raw),x]))(o:Obj)(c:(W.alloc o).grownBy g v.ownBlock):YB w g i (fvs++[x]) (its++[it]):=by
 have a:=h.kept ((joL W.heap.size W).alloc (joJ _) o);have d:=jX hx ((joL W.heap.size W).alloc (joJ _) o) (joJ _)
 refine⟨by rw[joK,vi _ _ _ _ h.len];exact l,by simp[h.len],fun j y s f b => ?_,a.below.grown c a.below.size (fun k e=>(h.row.lt k e).1)⟩;rcases Ug f with ⟨q,f⟩|⟨q,rfl⟩
 ·rw[jpf (by rw[h.len];exact q)]at b;exact jli a.row (a.each j y s f b) c
 rw[q,<- h.len,jo7 (joJ _)]at b;simp at b;subst b;exact jli a.row d c
end
theorem Vl(its:List It)(k:Nat)(it:It)(h:its[k]?=some it):ze (its.take (k+1))=(ze (its.take k)++if Xp false (its.take k)=true/\it.kind≠1 then [⟨1,[10],[]⟩] else [])++[it]:=by
 have e:its.take (k+1)=its.take k++[it]:=by rw[jpd,h];rfl
 unfold ze;rw[e,Zd,jo0];congr 1
theorem jeN(b:Bool)(l:List It)(x:It):Xp b (l++[x])=(x.kind != 1):=by rw[VG];rfl
theorem jdA(its:List It)(k:Nat)(it:It)(h:its[k]?=some it):Xp false (its.take (k+1))=(it.kind != 1):=by
 have e:its.take (k+1)=its.take k++[it]:=by rw[jpd,h];rfl
 rw[e,jeN]
theorem XY:∀(b:Bool) (l:List It),(qC b l).length<=2*l.length
 | b,[]=>by simp[qC]
 | b,x::r=>by
  have a:=XY (x.kind != 1) r;show((if _ then _ else _)++x::qC _ r).length<=_
  rw[joK,joR,joR];split
  ·simp only[jpA];omega
  simp only[jpm];omega
theorem Qm(its:List It):(ze its).length<=2*its.length:=XY _ _
theorem XW:∀(b:Bool) (l:List It),∀x∈qC b l,x∈l\/x=⟨1,[10],[]⟩
 | b,[],x,h=>by simp[qC]at h
 | b,y::r,x,h=>by
  have a:x∈(if b=true/\y.kind≠1 then [(⟨1,[10],[]⟩:It)] else [])++y::qC (y.kind != 1) r:=h;rcases List.mem_append.1 a with a|a
  ·split at a
   ·exact .inr (List.mem_singleton.1 a)
   cases a
  rcases List.mem_cons.1 a with rfl|a
  ·exact .inl joV
  rcases XW _ r x a with q|q
  ·exact .inl (joU _ q)
  exact .inr q
theorem jib{its:List It}{x:It}(h:x∈ze its):x∈its\/x=⟨1,[10],[]⟩:=XW _ _ _ h
structure jcT(w wr:World)(v:Value)(fvs:List Value)(its:List It):Prop where
 row:wr.ownsRow w.heap.size 107 3 v its.length (jQ its fvs)
 len:fvs.length=its.length
 each:∀(j:Nat) it x,its[j]?=some it->fvs[j]?=some x->vP w x it.fields
 below:Below w.heap.size w wr
theorem jcT.start(w:World):jcT w w (.slice none 0 0) [] []:=⟨⟨rfl,.inl ⟨rfl,rfl⟩⟩,rfl,fun j a x h=>by simp at h,joL _ _⟩
theorem YB.start(w:World):YB w w (.slice none 0 0) [] []:=⟨⟨rfl,.inl ⟨rfl,rfl⟩⟩,rfl,fun j a x h=>by simp at h,joL _ _⟩
theorem jcT.its{w wr:World}{v:Value}{fvs:List Value}{its:List It}(h:jcT w wr v fvs its):Its wr v its :=
 Wr h.row h.len fun j c x a b=>(h.each j c x a b).below h.below (joJ _)
theorem jcT.kept{w wr w2:World}{v:Value}{fvs:List Value}{its:List It}(h:jcT w wr v fvs its)(a:Below wr.heap.size wr w2):jcT w w2 v fvs its :=
 ⟨jX h.row a (joJ _),h.len,h.each,h.below.trans (a.mono h.below.size)⟩
theorem jcT.snoc{w W c:World}{v f x:Value}{fvs:List Value}{its:List It}{it:It}(h:jcT w W v fvs its)(hx:vP w x it.fields)(i:c.ownsRow w.heap.size 107 3 f (its.length+1) (jQ its fvs++[.int .i64 it.kind,.string (B it.raw),x]))(o:Obj)(g:(W.alloc o).grownBy c v.ownBlock):jcT w c f (fvs++[x]) (its++[it]):=by
 have d:=h.kept ((joL W.heap.size W).alloc (joJ _) o);refine⟨by rw[joK,vi _ _ _ _ h.len];exact i,by simp[h.len],fun j y s b a => ?_,d.below.grown g d.below.size (fun k e=>(h.row.lt k e).1)⟩;rcases Ug b with ⟨q,b⟩|⟨q,rfl⟩
 ·rw[jpf (by rw[h.len];exact q)]at a;exact h.each j y s b a
 rw[q,<- h.len,jo7 (joJ _)]at a;simp at a;subst a;exact hx
theorem jfT(a b:Int)(r s f g:Value)(v:r.oneCell'=true)(w:World)(n m c d:Nat)(h i:Option Addr)(x y:ByteArray)(k:r=.string x)(l:s=.string y)(o:f=.slice h n c)(p:g=.slice i m d):
  Calls prog 134 #[.agg #[.int .i64 a,r,f],.agg #[.int .i64 b,s,g]] w fun e t=>e=.returned (.bool (a != 1&&b != 1))/\Below w.heap.size w t:=by
 subst k l o p;have j:Below w.heap.size w ((w.alloc (.cells #[.int .i64 a,.string x,.slice h n c] 107)).alloc (.cells #[.int .i64 b,.string y,.slice i m d] 107)):=((joL _ _).alloc (joJ _) _).alloc (by simp) _
 cases u:(a != 1) with
 | true =>
  cases q:(b != 1) <;>
  ·go_enter func134,ntmps134;go_wp2_with fail;go_ret;exact⟨rfl,j⟩
 | false =>
 go_enter func134,ntmps134;go_wp2_with fail;go_ret;exact⟨rfl,j⟩
theorem jaJ(its:List It)(v:Value)(w:World)(h:Its w v its)(hn:its.length<=100000):
  Calls prog 75 #[v] w fun e w'=>∃u z,e=.returned u/\jcT w w' u z (ze its):=by
 obtain⟨i0,hi,Q,R,V⟩:=info_parts xz;obtain⟨A,am,rfl,av,hc⟩:=h;have HC:=joI hc
 clear hc;go_enter func75,ntmps75;go_wp2_with fail;go_loopw [3,4] (fun u i wr=>∃(k:Nat) (z:List Value),k<=its.length/\i=.int .i64 k/\jcT w wr u z (ze (its.take k))) (fun _ i _=>its.length-(intOf i).toNat)
 case atStart=>exact⟨0,[],joT _,rfl,jcT.start w⟩
 case round =>
 obtain⟨k,z,hk,rfl,d⟩:=hrel;by_cases P:k<its.length
 ·obtain⟨it,O⟩:∃it,its[k]?=some it:=⟨_,joM P⟩
  obtain⟨b,l,fv,rfl,L,c0,c1,c2,N⟩:=HC.out k it O;obtain⟨fa,fc,rfl,_,_⟩:=id N;have hb:=d.below
  have au:=hb.size;have al:=Qm (its.take k)
  rw[joS]at al;have SN:=Vl its k it O
  have Y:=joI N;have g:=joI d
  have C0:=joI c0;have C1:=joI c1
  have C2:=joI c2;have cells:∀W,Below w.heap.size w W->W.cell? ⟨b,l+k*3,none⟩=some (.int .i64 it.kind)/\W.cell? ⟨b,l+k*3+1,none⟩=some (.string (B it.raw))/\W.cell? ⟨b,l+k*3+1+1,none⟩=some (.slice fa it.fields.length fc):=fun W hW =>
   ⟨(hW.cell (p:=⟨b,l+k*3,none⟩) L).trans C0.out,(hW.cell (p:=⟨b,l+k*3+1,none⟩) L).trans C1.out,(hW.cell (p:=⟨b,l+k*3+1+1,none⟩) L).trans C2.out⟩
  clear c0 c1 c2;obtain⟨c0,c1,c2⟩:=cells wr hb;have J:=joI cells
  obtain⟨m,s⟩:∃m:Bool,(Xp false (its.take k)&&it.kind != 1)=m:=⟨_,rfl⟩
  have G:Hid (ze (its.take (k+1))=(ze (its.take k)++if m=true then [⟨1,[10],[]⟩] else [])++[it]):=by show _=_;rw[SN,<- s];simp
  have PV:Hid (0<k->∃E:It,wr.cell? ⟨b,l+(k-1)*3,none⟩=some (.int .i64 E.kind)/\m=(E.kind != 1&&it.kind != 1)):=by
   intro hj;obtain⟨E,aa⟩:∃E,its[k-1]?=some E:=⟨_,joM (by omega)⟩
   obtain⟨b',ah,aq,e,a8,d0,_⟩:=HC.out (k-1) E aa;cases e;refine⟨E,(hb.cell (p:=⟨b,l+(k-1)*3,none⟩) a8).trans d0,?_⟩;have:=jdA its (k-1) E aa
   rw[show k-1+1=k by omega]at this;rw[<- s,this]
  have P0:Hid (k=0->m=false):=by intro h;rw[<- s,h];rfl
  have U:=joI (show ∃ua uc,u3=.slice ua (ze (its.take k)).length uc from by obtain⟨ua,uc,h,_⟩:=je d.row;exact⟨ua,uc,h⟩);clear d O N SN s cells;generalize ae:ze (its.take k)=ap at *
  clear ae;have CK:Hid (wr=wr):=rfl
  go_upto_region 5 with fail;go_cut [29] (fun c wx=>c=.bool m/\wx=wr)
  case first =>
   rcases jp3 k with h0|h0
   ·have X:=P0.out h0;have ar:¬(0<k):=by omega
    clear h0;go_wp2_with fail;go_meet;exact⟨by rw[X],rfl⟩
   obtain⟨E,d0,X⟩:=PV.out h0;cases hj:(E.kind != 1) with
   | false =>
    rw[hj]at X;go_wp2_with fail;go_meet;exact⟨by rw[X];rfl,rfl⟩
   | true =>
   rw[hj]at X;go_wp2_with fail;go_meet;exact⟨by rw[X];rfl,rfl⟩
  case rest =>
  obtain⟨rfl,rfl⟩:=hcut;clear PV P0 HC;obtain⟨j,af⟩:∃j,j=k:=⟨k,rfl⟩
  subst af;cases m with
  | false =>
   have K:Hid (ze (its.take (j+1))=ap++[it]):=by show _=_;rw[G.out,if_neg (by decide),jo9]
   clear G;have HV:=joI (jp wc 107 [.int .i64 it.kind,.string (B it.raw),.slice fa it.fields.length fc])
   have y:=g.out.row;go_wp2_with (at_builtin;refine wpList_append_own _ rfl _ _ 92 rfl w.heap.size 107 i0 _ 3 48 underlying92 hi Q R V rfl (by decide) _ _ _ rfl (y.alloc _) ⟨wc.heap.size,0,none⟩ 1 1 _ rfl rfl HV.out (by intro u I;simp at I;rcases I with rfl | rfl | rfl<;>rfl) (by unfold maxLen;omega) (by omega) (by first | omega | (simp only[joZ];omega) | (simp[World.setCell];omega)) ?_);intro v' w5 a q _;have o:=g.out.snoc Y.out a _ q
   obtain⟨g',a7,rfl⟩:=ownsRow_succ a;go_wp2_with fail;go_roundw
   case rel=>exact⟨j+1,_,P,by go_num,by rw[K.out];exact o⟩
   case measure=>simp[intOf];omega
  | true =>
  have K:Hid (ze (its.take (j+1))=(ap++[⟨1,[10],[]⟩])++[it]):=by show _=_;rw[G.out,if_pos rfl]
  clear G;have Z:=joI (jp wc 107 [.int .i64 1,.string ⟨#[10]⟩,.slice none 0 0])
  have D:=g.out.row;go_wp2_with (at_builtin;refine wpList_append_own _ rfl _ _ 92 rfl w.heap.size 107 i0 _ 3 48 underlying92 hi Q R V rfl (by decide) _ _ _ rfl (D.alloc _) ⟨wc.heap.size,0,none⟩ 1 1 _ rfl rfl Z.out (by intro u I;simp at I;rcases I with rfl | rfl | rfl<;>rfl) (by unfold maxLen;omega) (by omega) (by first | omega | (simp only[joZ];omega) | (simp[World.setCell];omega)) ?_);intro v4 w4 r t _;have n:=g.out.snoc (it:=⟨1,[10],[]⟩) (x:=.slice none 0 0) ⟨none,0,rfl,joJ _,fun i f h=>by simp at h⟩ r _ t
  obtain⟨g4,ag,rfl⟩:=ownsRow_succ r;obtain⟨ai,aj,ak⟩:=J.out w4 n.below;have C:(ap++[(⟨1,[10],[]⟩:It)]).length=ap.length+1:=by simp
  have H:=joI C;clear g t r D c0 c1 c2 Z C;have g:=joI n
  clear n;have HV:=joI (jp w4 107 [.int .i64 it.kind,.string (B it.raw),.slice fa it.fields.length fc])
  have y:=g.out.row;rw[H.out]at y;have aw:=g.out.below.size
  go_wp2_with (at_builtin;refine wpList_append_own _ rfl _ _ 92 rfl w.heap.size 107 i0 _ 3 48 underlying92 hi Q R V rfl (by decide) _ _ _ rfl (y.alloc _) ⟨w4.heap.size,0,none⟩ 1 1 _ rfl rfl HV.out (by intro u I;simp at I;rcases I with rfl | rfl | rfl<;>rfl) (by unfold maxLen;omega) (by omega) (by first | omega | (simp only[joZ];omega) | (simp[World.setCell];omega)) ?_);intro v' w5 a q _;have o:=g.out.snoc Y.out (by rw[H.out];exact a) _ q
  obtain⟨g',a7,rfl⟩:=ownsRow_succ a;go_wp2_with fail;go_roundw
  case rel=>exact⟨j+1,_,P,by go_num,by rw[K.out];exact o⟩
  case measure=>simp[intOf];omega
 obtain rfl:k=its.length:=by omega
 rw[jpa]at d;clear HC;go_wp2_with fail;go_ret;exact⟨_,z,rfl,d⟩
section
attribute [local go_sem] qN
theorem jdL(fs:List (List UInt8×List UInt8))(v:Value)(w:World)(hs:vP w v fs)(hn:fs.length<=1000)(hl:∀f∈fs,f.1.length<=100000/\f.2.length<=100000):
  Calls prog 121 #[v] w fun e w'=>e=.returned (.tuple #[.string (B (foldT fs)),Zc (foldN fs)])/\Below w.heap.size w w':=by
 obtain⟨A,ar,rfl,av,hc⟩:=hs;have PC:=joI hc
 clear hc;have B0:=Bld.new w (w.heap.size+1)
 go_enter func121,ntmps121;go_wp2_with fail;go_loopw [13] (fun i wr=>∃k:Nat,k<=fs.length/\i=.int .i64 k/\foldN fs=foldN (fs.drop k)/\Bld w.heap.size (w.heap.size+1) (jO (fs.take k)) wr/\(jO (fs.take k)).length<=4000*k/\Below w.heap.size w wr) (fun i _=>fs.length-(intOf i).toNat)
 case atStart=>exact⟨0,joT _,rfl,rfl,B0,joJ _,(joL _ _).alloc (joJ _) _⟩
 case round =>
 obtain⟨k,hk,rfl,I,q,ae,V⟩:=hrel;by_cases C:k<fs.length
 ·obtain⟨f,O⟩:∃f,fs[k]?=some f:=⟨_,joM C⟩
  obtain⟨b,af,rfl,W,c0,c1⟩:=PC.out k f O;replace c0:=(V.cell (p:=⟨b,af+k*2,none⟩) W).trans c0;replace c1:=(V.cell (p:=⟨b,af+k*2+1,none⟩) W).trans c1;obtain⟨a8,aa⟩:=hl f (joW O);have h:fs.drop k=f::fs.drop (k+1):=by rw[jpp C];rw[joM C]at O;rw[joN O]
  have n:fs.take (k+1)=fs.take k++[f]:=by rw[jpd,O];rfl
  rw[h]at I;have NH:=joI I
  have TH:=joI n;have ai:=V.size
  have ah:=q.lt;have HB:=joI (q.alloc (.cells #[.string (B f.1),.string (B f.2)] 148))
  have L:=V.alloc ai (.cells #[.string (B f.1),.string (B f.2)] 148);by_cases a:zh f.1 f.2=0
  ·have LG:=fun w=>jgH f.1 f.2 a8 aa w a;clear h n I O;unfold zC at LG;go_wp2_with fail;refine(LG _).mono ?_;rintro e w2 ⟨sv,D,rfl,t,U⟩;have J:=L.trans (U.mono (by simp;omega))
   have X:=HB.out.kept U (joJ _);have am:=jfV a
   have ax:1<=(jY f.1 f.2).length:=by rw[Wo];omega
   have ay:(jY f.1 f.2).length<=4000:=by rw[xY]at am;omega
   have G1:Hid (jO (fs.take (k+1))=jO (fs.take k)++jq (jY f.1 f.2)):=by show _=_;rw[TH.out,Wx]
   have G2:Hid (foldN fs=foldN (fs.drop (k+1))):=by show _=_;rw[NH.out];show(if zh f.1 f.2=0 then foldN (fs.drop (k+1)) else _)=_;rw[if_pos a]
   clear HB U L LG q V c0 c1 TH NH a;obtain⟨g,E,rfl⟩:=jpO t (by simp;omega);rw[jo8]at t ⊢;generalize jY f.1 f.2=o at *
   generalize jO (fs.take k)=aq at *
   go_wp2_with fail;go_loopw [27] (fun i wq=>∃j:Nat,j<=o.length/\i=.int .i64 j/\Bld w.heap.size (w.heap.size+1) (aq++jq (o.take j)) wq/\wq.ownsRow D 9 1 (.slice (some ⟨g,0,none⟩) o.length E) o.length ((o.map B).map Value.string)/\Below w.heap.size w wq) (fun i _=>o.length-(intOf i).toNat)
   case atStart=>exact⟨0,joT _,rfl,by simpa [jq]using X,by simpa [yq]using t,J⟩
   case round =>
   obtain⟨j,hj,rfl,c,m,z⟩:=hrel;have ak:=z.size
   by_cases a7:j<o.length
   ·obtain⟨x,hx⟩:∃x,o[j]?=some x:=⟨_,joM a7⟩
    have N:=m.cellAt j (by omega);rw[jpx,jpx,hx]at N;simp only[jq7]at N;have T1:Hid (jq (o.take (j+1))=(jq (o.take j)++x)++[10]):=by show _=_;rw[jpd,hx];exact Qw _ _
    have t1:=KG o (j+1);rw[T1.out,joK,joK]at t1;simp only[jpA]at t1;have aw:=c.lt
    clear hx;go_wp2_with fail;refine(ZD w.heap.size (w.heap.size+1) _ (B x) wr c (by omega) (by omega) (by rw[jg,joK];omega)).mono ?_;rintro e w5 ⟨rfl,d,Q⟩;obtain⟨cs,r⟩:=c.cells;have y:yq wr D (.slice (some ⟨g,0,none⟩) o.length E) (o.map B):=by unfold yq;rw[jo8];exact m
    have u:=y.wrote Q r;have K:=z.trans (Q.below (joJ _) (by omega) ak)
    rw[jj]at d;have aj:=K.size
    have au:=d.lt;clear Q y m c r z N;go_wp2_with fail;refine(ZD w.heap.size (w.heap.size+1) _ ⟨#[10]⟩ w5 d (by omega) (by omega) (by simp only[joK];show _+1<=_;omega)).mono ?_;rintro e w6 ⟨rfl,Y,R⟩;obtain⟨cs,r⟩:=d.cells;have l:=u.wrote R r
    have ag:=K.trans (R.below (joJ _) (by omega) aj);clear R u d r K;go_wp2_with fail;go_roundw
    case rel =>
     refine⟨j+1,a7,by go_num,?_,?_,ag⟩
     ·rw[T1.out,<- jo0,<- jo0];exact Y
     unfold yq at l;rw[jo8]at l;exact l
    case measure=>simp[intOf];omega
   obtain rfl:j=o.length:=by omega
   rw[jpa]at c;go_wp2_with fail;go_roundw
   case rel =>
    refine⟨k+1,C,by go_num,G2.out,by rw[G1.out];exact c,?_,z⟩;rw[G1.out,joK];omega
   case measure=>simp[intOf];omega
  have LB:=fun w=>jgI f.1 f.2 a8 aa w a;have P:foldN fs=zh f.1 f.2:=by rw[NH.out];unfold foldN;rw[if_neg a]
  have s:foldT fs=[]:=by unfold foldT;rw[P,if_neg a]
  rw[zf _ (jqp a)]at LB;have Z:Zc (foldN fs)=.iface 54 (.int .i64 (zh f.1 f.2:Int)):=by rw[P,zf _ (jqp a)]
  have H:=joI s;have G:=joI Z
  clear h n I O P s NH a Z;generalize zh f.1 f.2=cn at *
  unfold zC at LB;go_wp2_with fail;refine(LB _).mono ?_;rintro e w2 ⟨rfl,U⟩;have J:=L.trans (U.mono (by simp;omega))
  clear U LB;go_wp2_with fail;go_ret2;exact⟨by rw[G.out,H.out];rfl,J⟩
 obtain rfl:k=fs.length:=by omega
 rw[jpa]at q;rw[jp0]at I;have h0:foldN fs=0:=I
 have s:foldT fs=jO fs:=by unfold foldT;rw[if_pos h0]
 have H:=joI s;have G:=joI h0
 have ah:=q.lt;clear I h0 s PC ae;go_wp2_with fail;refine(Tryz.Builder_String_any_k w.heap.size w.heap.size _ wr (q.library (joJ _) (by omega)) (by omega)).mono ?_;rintro e w5 ⟨rfl,_,b5,_⟩;go_wp2_with fail;go_ret2;exact⟨by rw[H.out,G.out];rfl,V.trans b5⟩
end
section
def xL:List Fld->Nat
 | []=>0
 | f::r=>if zh f.1 f.2=0 then xL r+1 else 0
def qD(fs:List Fld):Nat:=if fs.length=0 then 2 else if 40<fs.length then 11 else foldN fs
def jkP(fs:List Fld):Prop:=fs.length=0\/40<fs.length\/foldN fs=0
instance (fs:List Fld):Decidable (jkP fs):=by unfold jkP;infer_instance
def vz(fs:List Fld):Int:=if jkP fs then -9 else (xL fs:Nat)
def JF(lo:Nat)(w:World)(u:Value)(fs:List Fld):Prop:=if jkP fs then u=Zc (qD fs) else jB lo w u (xL fs) (foldN fs)
theorem Vf(fs:List Fld):qD fs<=11:=by
 unfold qD;have:=jdM fs
 split
 ·decide
 split
 ·decide
 omega
theorem JA{fs:List Fld}(h:qD fs=0):fs.length≠0/\fs.length<=40/\foldN fs=0:=by
 unfold qD at h;split at h
 ·cases h
 split at h
 ·cases h
 exact⟨by assumption,by omega,h⟩
theorem JF.zero{lo:Nat}{w:World}{u:Value}{fs:List Fld}(h:JF lo w u fs)(a:qD fs=0):u=.nilIface:=by obtain⟨_,_,c⟩:=JA a;unfold JF at h;rw[if_pos (.inr (.inr c)),a]at h;exact h
theorem JF.pos{lo:Nat}{w:World}{u:Value}{fs:List Fld}(h:JF lo w u fs)(a:qD fs≠0):u=.iface 54 (.int .i64 (qD fs:Nat))\/∃q,u=.iface 87 (.pointer q):=by
 unfold JF at h;split at h
 ·rw[zf _ (by omega)]at h;exact .inl h
 obtain⟨q,_,e,_⟩:=h;exact .inr ⟨_,e⟩
theorem JF.below{lo:Nat}{w w':World}{u:Value}{fs:List Fld}{N:Nat}(h:JF lo w u fs)(b:Below N w w')(a:w.heap.size<=N):JF lo w' u fs:=by
 unfold JF at h ⊢;split
 ·rename_i hx;rw[if_pos hx]at h;exact h
 rename_i hx;rw[if_neg hx]at h;exact h.below b a
theorem JF.mono{lo a:Nat}{w:World}{u:Value}{fs:List Fld}(h:JF lo w u fs)(hl:a<=lo):JF a w u fs:=by
 unfold JF at h ⊢;split
 ·rename_i hx;rw[if_pos hx]at h;exact h
 rename_i hx;rw[if_neg hx]at h;exact h.mono hl
theorem JF.set{lo:Nat}{w:World}{u:Value}{fs:List Fld}(h:JF lo w u fs)(p:Addr)(c:p.block<lo)(x:Value):JF lo (w.setCell p x) u fs:=by
 unfold JF at h ⊢;split
 ·rename_i hx;rw[if_pos hx]at h;exact h
 rename_i hx;rw[if_neg hx]at h;obtain⟨q,b,e,a⟩:=h;exact⟨q,b,e,ja.other a (by omega) _⟩
attribute [local go_sem] qN
theorem jhT(fs:List Fld)(v:Value)(w:World)(hs:vP w v fs)(hn:fs.length<=1000000)(hl:∀f∈fs,f.1.length<=1000000/\f.2.length<=1000000):
  Calls prog 200 #[v] w fun e Y=>∃u,e=.returned u/\Below w.heap.size w Y/\JF w.heap.size Y u fs:=by
 obtain⟨A,a7,rfl,a8,U⟩:=hs;have L:=joI U
 have K:=joI hl;clear U hl;by_cases s:fs.length=0
 ·have j:Hid (∀W,JF w.heap.size W (.iface 54 (.int .i64 2)) fs):=by intro W;unfold JF;rw[if_pos (.inl s)];unfold qD;rw[if_pos s];rfl
  rw[s];go_enter func200,ntmps200;go_wp2_with fail;go_ret;exact⟨_,rfl,joL _ _,j.out _⟩
 by_cases t:40<fs.length
 ·have j:Hid (∀W,JF w.heap.size W (.iface 54 (.int .i64 11)) fs):=by intro W;unfold JF;rw[if_pos (.inr (.inl t))];unfold qD;rw[if_neg s,if_pos t];rfl
  have c0:((fs.length:Int)==0)=false:=by simp;intro h;exact s (by rw[h];rfl)
  go_enter func200,ntmps200;go_wp2_with fail;go_ret;exact⟨_,rfl,joL _ _,j.out _⟩
 have g:Hid (∀W,foldN fs=0->JF w.heap.size W .nilIface fs):=by intro W X;unfold JF;rw[if_pos (.inr (.inr X))];unfold qD;rw[if_neg s,if_neg t,X];rfl
 have d:Hid (∀(W:World) (k n:Nat),w.heap.size<=W.heap.size->foldN fs=n->n≠0->xL fs=k->JF w.heap.size (W.alloc (.cells #[.int .i64 (k:Nat),.iface 54 (.int .i64 (n:Nat))] 90)) (.iface 87 (.pointer (some ⟨W.heap.size,0,none⟩))) fs):=by intro W k n N q aa V;unfold JF;rw[if_neg (by unfold jkP;rintro(h | h | h)<;>omega),q,V,<- zf n (by omega)];exact jB.new W k n _ _ rfl N
 have c0:((fs.length:Int)==0)=false:=by simp;intro h;exact s (by rw[h];rfl)
 go_enter func200,ntmps200;go_wp2_with fail;go_loopw [18] (fun i wr=>∃k:Nat,k<=fs.length/\i=.int .i64 k/\foldN fs=foldN (fs.drop k)/\xL fs=xL (fs.drop k)+k/\Below w.heap.size w wr) (fun i _=>fs.length-(intOf i).toNat)
 case atStart=>exact⟨0,joT _,rfl,rfl,rfl,joL _ _⟩
 case round =>
 obtain⟨k,V,rfl,o,x,C⟩:=hrel;by_cases m:k<fs.length
 ·obtain⟨f,q⟩:∃f,fs[k]?=some f:=⟨_,joM m⟩
  obtain⟨b,J,rfl,E,z,R⟩:=L.out k f q;replace z:=(C.cell (p:=⟨b,J+k*2,none⟩) E).trans z;replace R:=(C.cell (p:=⟨b,J+k*2+1,none⟩) E).trans R;obtain⟨O,P⟩:=K.out f (joW q);have c:fs.drop k=f::fs.drop (k+1):=by rw[jpp m];rw[joM m]at q;rw[joN q]
  have Q:=C.size;have D:=C.alloc Q (.cells #[.string (B f.1),.string (B f.2)] 148)
  have ae:(wr.alloc (.cells #[.string (B f.1),.string (B f.2)] 148)).heap.size=wr.heap.size+1:=by simp
  have r:=fun W=>Qh f.1 f.2 O P W;unfold zC at r;rw[c]at o x;by_cases a:zh f.1 f.2=0
  ·have G1:Hid (foldN fs=foldN (fs.drop (k+1))):=by show _=_;rw[o];show(if zh f.1 f.2=0 then foldN (fs.drop (k+1)) else _)=_;rw[if_pos a]
   have G2:Hid (xL fs=xL (fs.drop (k+1))+(k+1)):=by show _=_;rw[x];show(if zh f.1 f.2=0 then xL (fs.drop (k+1))+1 else _)+k=_;rw[if_pos a];omega
   rw[a]at r;clear c o x q a d g L K;go_wp2_with fail;refine(r _).mono ?_;rintro e Z ⟨rfl,y⟩;have l:=D.trans (y.mono (by omega))
   clear y r;go_wp2_with fail;go_roundw
   case rel=>exact⟨k+1,m,by go_num,G1.out,G2.out,l⟩
   case measure=>simp[intOf];omega
  have H:foldN fs=zh f.1 f.2:=by rw[o];unfold foldN;rw[if_neg a]
  have G:xL fs=k:=by rw[x];unfold xL;rw[if_neg a];omega
  have j:=joI (fun W N=>d.out W k (zh f.1 f.2) N H a G);rw[zf _ (jqp a)]at r;clear c o x q a d g L K H G;generalize zh f.1 f.2=cn at *
  go_wp2_with fail;refine(r _).mono ?_;rintro e Z ⟨rfl,y⟩;have l:=D.trans (y.mono (by omega))
  have I:=l.size;clear y r;go_wp2_with fail;go_ret;exact⟨_,rfl,l.alloc I _,j.out Z I⟩
 obtain rfl:k=fs.length:=by omega
 rw[jp0]at o;have F0:=joI (fun W=>g.out W o)
 clear o x d g L K;go_wp2_with fail;go_ret;exact⟨_,rfl,C,F0.out _⟩
def jeg(fs:List Fld):List UInt8:=if qD fs=0 then jO fs else []
theorem jei(fs:List Fld)(v:Value)(w:World)(c:vP w v fs)(D:fs.length<=1000000)(hl:∀f∈fs,f.1.length<=100000/\f.2.length<=100000):
  Calls prog 282 #[v] w fun e g=>∃u,e=.returned (.tuple #[.string (B (jeg fs)),u])/\Below w.heap.size w g/\JF w.heap.size g u fs:=by
 have i:=joI (jhT fs v w c D (fun f C=>by have:=hl f C;omega));by_cases a:qD fs=0
 ·obtain⟨a1,a2,a3⟩:=JA a;have j:=joI (fun g (h:vP g v fs)=>jdL fs v g h (by omega) hl)
  rw[a3]at j;have n:Hid (jeg fs=foldT fs):=by show _=_;unfold jeg foldT;rw[if_pos a,if_pos a3]
  have z:=joI c;obtain⟨A,o,rfl,r,_⟩:=id c;have k:=joI a
  clear c hl a a3;go_enter func282,ntmps282;go_wp2_with fail;refine i.out.mono ?_;rintro e y ⟨u,rfl,d,b⟩;obtain rfl:=b.zero k.out;have l:=joI b
  have s:=d.size;have t:=joI (j.out y (z.out.below d (joJ _)))
  clear b i j;go_wp2_with fail;refine t.out.mono ?_;rintro e G ⟨rfl,x⟩;have p:=d.trans (x.mono s)
  have m:=joI (l.out.below x (joJ _));clear t;go_wp2_with fail;go_ret2;exact⟨_,by rw[n.out];rfl,p,m.out⟩
 have n:Hid (jeg fs=[]):=by show _=_;unfold jeg;rw[if_neg a]
 obtain⟨A,o,rfl,r,_⟩:=id c;have k:=joI a
 clear c hl a;go_enter func282,ntmps282;go_wp2_with fail;refine i.out.mono ?_;rintro e y ⟨u,rfl,d,b⟩;have E:=b.pos k.out
 have l:=joI b;clear b i;rcases E with rfl|⟨q,rfl⟩
 all_goals
  go_wp2_with fail;go_ret2;exact⟨_,by rw[n.out];rfl,d,l.out⟩
end
section
theorem jkx{c:Func}{p u:Tmp}(h:c.results=#[.cell p 107,.tmp u])(tmps:Array Value)(w:World)(b:Nat)(a:Array Value)(e:tmps.getD p undef=.pointer (some ⟨b,0,none⟩))
  (d:ja w b 107 a) (f:a.size=3):(results c tmps).run prog w=.ok (.tuple #[.agg a,tmps.getD u undef]) w:=by
 have L:=run_loadVar_row (P:=prog) w b 107 107 a (0,0) _ d underlying107 rfl (by rw[f];kernel_rfl);rw[results_cell_tmp h,e];show((loadVar _ _).run _ _).andThen _=_
 rw[L];rfl
theorem jnI(d e f a b c:Value):(((#[d,e,f].setIfInBounds 0 a).setIfInBounds 1 b).setIfInBounds 2 c)=#[a,b,c]:=by simp[List.setIfInBounds_toArray,List.set]
def Gg(fs:List Fld):Int:=if qD fs=0 then 3 else 0
structure joe(w:World)(fs:List Fld)(e:Ending)(w':World)(u x:Value):Prop where
 ret:e=.returned (.tuple #[.agg #[.int .i64 (Gg fs),.string (B (jeg fs)),x],u])
 below:Below w.heap.size w w'
 chk:JF w.heap.size w' u fs
 own:qD fs=0->w'.ownsRow w.heap.size 148 2 x fs.length (ju fs)
 none_:qD fs≠0->x=.slice none 0 0
attribute [local go_sem] qN
theorem jdC(fs:List Fld)(v:Value)(w:World)(X:vP w v fs)(g:∀n c,v=.slice none n c->c=0)(hn:fs.length<=1000000)(hl:∀f∈fs,f.1.length<=100000/\f.2.length<=100000):
  Calls prog 265 #[v] w fun e o=>∃u x,joe w fs e o u x:=by
 have ST:=joI (fun o (h:vP o v fs)=>jei fs v o h hn hl);have O:=joI (fun o (h:vP o v fs)=>xh fs v o h g hn)
 have G:=joI X;obtain⟨A,a7,rfl,a8,_⟩:=id X;have D:Below w.heap.size w (w.alloc (.cells #[.int .i64 0,.string ⟨#[]⟩,.slice none 0 0] 107)):=(joL _ _).alloc (joJ _) _
 have ae:(w.alloc (.cells #[.int .i64 0,.string ⟨#[]⟩,.slice none 0 0] 107)).heap.size=w.heap.size+1:=by simp
 have l:=joI (ST.out _ (G.out.below D (joJ _)));have N:=joI (ja.new w 107 #[.int .i64 0,.string ⟨#[]⟩,.slice none 0 0])
 clear X hl g ST;go_enter func265,ntmps265;go_wp2_with fail;refine l.out.mono ?_;rintro e J ⟨u,rfl,z,r⟩;have d:=jb N.out z (by omega)
 have a:Below w.heap.size w J:=D.trans (z.mono (by omega));have aa:=z.size
 by_cases b:qD fs=0
 ·obtain rfl:=r.zero b;have H:=joI r
  have s:=joI (O.out J (G.out.below a (joJ _)));have Q:Hid (Gg fs=3):=by show _=_;unfold Gg;rw[if_pos b]
  have E:=joI b;have Z:=a.size
  clear r b O l z N G;generalize W:jeg fs=T at *
  replace W:=joI W;go_wp2_with fail;refine s.out.mono ?_;rintro e w2 ⟨x,rfl,hx,I⟩;obtain⟨K,L,Y,_⟩:=je hx;subst Y;have j:=jb d I (by omega)
  have C:=a.trans (I.mono Z);have R:=j.cell 0
  have U:=j.cell 1;have V:=j.cell 2
  have f0:=j.frozen 0;have f1:=j.frozen 1
  have f2:=j.frozen 2;simp only[joQ,joP,joO]at R U V;have y:=((j.set 0 (.int .i64 3)).set 1 (.string (B T))).set 2 (.slice K fs.length L)
  rw[jnI]at y;have t:Below w.heap.size w (((w2.setCell ⟨w.heap.size,0,none⟩ (.int .i64 3)).setCell ⟨w.heap.size,1,none⟩ (.string (B T))).setCell ⟨w.heap.size,2,none⟩ (.slice K fs.length L)) :=
   ((C.setCell (p:=⟨w.heap.size,0,none⟩) (joJ _) _).setCell (p:=⟨w.heap.size,1,none⟩) (joJ _) _).setCell (p:=⟨w.heap.size,2,none⟩) (joJ _) _
  have HX:=joI hx;have i:=joI t
  have U2:=joI (H.out.below I (joJ _));clear H C I a s hx t;go_wp2_with fail;refine bodyPost_ret (jkx rfl _ _ w.heap.size _ rfl y rfl) rfl ?_;refine⟨_,.slice K fs.length L,by rw[Q.out,W.out],i.out,?_,fun _ => ?_,fun h=>absurd E.out h⟩
  ·have h:=U2.out;unfold JF at h ⊢;have hb:jkP fs:=.inr (.inr (JA E.out).2.2)
   rw[if_pos hb]at h ⊢;exact h
  have m:∀k,Value.ownBlock (.slice K fs.length L)=some k->k≠w.heap.size:=fun k e=>by have:=(HX.out.lt k e).1;omega
  exact js (p:=⟨w.heap.size,2,none⟩) (js (p:=⟨w.heap.size,1,none⟩) (js (p:=⟨w.heap.size,0,none⟩) (jA HX.out (by omega)) (fun e=>m _ e rfl) _) (fun e=>m _ e rfl) _) (fun e=>m _ e rfl) _
 have hp:=r.pos b;have H:=joI r
 have Q:Hid (Gg fs=0):=by show _=_;unfold Gg;rw[if_neg b]
 have TI:Hid (jeg fs=[]):=by show _=_;unfold jeg;rw[if_neg b]
 have E:=joI b;have R:=d.cell 0
 have U:=d.cell 1;have V:=d.cell 2
 have f0:=d.frozen 0;have f1:=d.frozen 1
 have f2:=d.frozen 2;simp only[joQ,joP,joO]at R U V;have y:=((d.set 0 (.int .i64 0)).set 1 (.string ⟨#[]⟩)).set 2 (.slice none 0 0)
 rw[jnI]at y;have t:Below w.heap.size w (((J.setCell ⟨w.heap.size,0,none⟩ (.int .i64 0)).setCell ⟨w.heap.size,1,none⟩ (.string ⟨#[]⟩)).setCell ⟨w.heap.size,2,none⟩ (.slice none 0 0)) :=
  ((a.setCell (p:=⟨w.heap.size,0,none⟩) (joJ _) _).setCell (p:=⟨w.heap.size,1,none⟩) (joJ _) _).setCell (p:=⟨w.heap.size,2,none⟩) (joJ _) _
 have i:=joI t;clear r b O l z N G a t;have P:Hid (JF w.heap.size (((J.setCell ⟨w.heap.size,0,none⟩ (.int .i64 0)).setCell ⟨w.heap.size,1,none⟩ (.string ⟨#[]⟩)).setCell ⟨w.heap.size,2,none⟩ (.slice none 0 0)) u fs) :=
  (((H.out.set ⟨w.heap.size,0,none⟩ (by show w.heap.size<_;omega) _).set ⟨w.heap.size,1,none⟩ (by show w.heap.size<_;omega) _).set ⟨w.heap.size,2,none⟩ (by show w.heap.size<_;omega) _).mono (by omega)
 rcases hp with rfl|⟨q,rfl⟩
 all_goals
  go_wp2_with fail;refine bodyPost_ret (jkx rfl _ _ w.heap.size _ rfl y rfl) rfl ?_;exact⟨_,.slice none 0 0,by rw[Q.out,TI.out];rfl,i.out,P.out,fun h=>absurd h E.out,fun _=>rfl⟩
end
theorem yq.grow{c:World}{base b a:Nat}{ls:List ByteArray}{y:ByteArray}{n:Nat}(h:c.ownsRow base 9 1 (.slice (some ⟨b,0,none⟩) (n+1) a) (n+1) (ls.map Value.string++[Value.string y]))(hl:ls.length=n):yq c base (.slice (some ⟨b,0,none⟩) (n+1) a) (ls++[y]):=by unfold yq;rw[joK,jpt,hl];exact h
theorem yq.form{w:World}{base:Nat}{v:Value}{ls:List ByteArray}(h:yq w base v ls)(b:0<ls.length):∃g a,v=.slice (some ⟨g,0,none⟩) ls.length a/\base<=g/\g<w.heap.size:=by
 obtain⟨g,a,e⟩:=jpO h b;have:=jpJ h g (by rw[e];rfl)
 exact⟨g,a,e,this⟩
theorem yq.cell{w:World}{base g cap n:Nat}{ls:List ByteArray}(h:yq w base (.slice (some ⟨g,0,none⟩) n cap) ls)(a:ls.length=n)(j:Nat)(x:ByteArray)(hx:ls[j]?=some x):w.cell? ⟨g,j,none⟩=some (.string x):=by
 subst a;have b:j<ls.length:=by
  rcases jpc j ls.length with q|q
  ·exact q
  rw[jpe q]at hx;cases hx
 rw[jo1 h j (by omega),jpx,hx];rfl
theorem jaD(l:List UInt8)(hl:l.length<=1000000)(w:World):
  Calls prog 234 #[.string (B l)] w fun e w'=>∃v,e=.returned v/\yq w' w.heap.size v ((jv l).map B)/\Below w.heap.size w w':=by
 obtain⟨i0,hi,ae,af,ag⟩:=info_parts Xs;have aw:=jg l
 have hd:=jj l;generalize B l=s at *
 have HD:=joI hd;go_enter func234,ntmps234;go_wp2_with fail;go_loopw [3,4] (fun v i wr=>∃k:Nat,k<=s.size/\i=.int .i64 k/\yq wr w.heap.size v ((jv (l.take k)).map B)/\(jv (l.take k)).length<=k+1/\Below w.heap.size w wr) (fun _ i _=>s.size-(intOf i).toNat)
 case atStart=>exact⟨0,joT _,rfl,yq.one w _ (joJ _) _,by simp[jv],(joL _ _).alloc (joJ _) _⟩
 case round =>
 obtain⟨k,hk,rfl,m,r,Q⟩:=hrel;by_cases G:k<s.size
 ·have e:l[k]?=some s[k]:=by rw[<- HD.out,joM (by rw[<- jo2];exact G)];rfl
  have x:l.take (k+1)=l.take k++[s[k]]:=by rw[jpd,e];rfl
  have D:s.extract k (k+1)=B [s[k]]:=by
   rw[<- jfB (s.extract k (k+1)),jpS,HD.out];congr 1;rw[show k+1-k=1 by omega];have:(l.drop k)[0]?=some s[k]:=by rw[jpq];exact e
   cases N:l.drop k with
   | nil=>rw[N]at this;simp at this
   | cons a b=>rw[N]at this;simp at this;subst this;rfl
  have q2:=qW (c:=s[k]) (d:=10) 10 rfl;have av:=Q.size
  have H:0<((jv (l.take k)).map B).length:=by rw[jo8];exact List.length_pos_iff.2 (jaO _)
  cases K:(s[k]==10) with
  | true =>
   rw[K]at q2;have t:s[k]=10:=by simpa using K
   have X:Hid ((jv (l.take (k+1))).map B=(jv (l.take k)).map B++[⟨#[]⟩]):=by show _=_;rw[x,t,yD,jpt];rfl
   have Y:Hid ((jv (l.take (k+1))).length=((jv (l.take k)).map B).length+1):=by show _=_;rw[x,t,yD,joK,jo8];rfl
   rw[<- jo8 (f:=B)]at r;clear x D t e K hd;generalize (jv (l.take k)).map B=ls at *
   obtain⟨g,C,rfl,O,aa⟩:=m.form H;have HC:=joI (Ue wr ⟨#[]⟩ 9)
   have o:wr.ownsRow w.heap.size 9 1 (.slice (some ⟨g,0,none⟩) ls.length C) ls.length (ls.map Value.string):=m;obtain⟨n,U⟩:∃n,ls.length=n:=⟨_,rfl⟩
   rw[U]at o r H;have HN:=joI U
   simp only[U];clear m U;go_wp2_with (at_builtin;refine wpList_append_own _ rfl _ _ 158 rfl w.heap.size 9 i0 _ 1 16 underlying158 hi ae af ag rfl (by decide) _ _ _ rfl (o.alloc _) ⟨wr.heap.size,0,none⟩ 1 1 _ rfl rfl HC.out ?c2 ?c3 ?c4 ?c5 ?_)
   case c2=>intro u hu;simp at hu;subst hu;rfl
   case c3=>unfold maxLen;omega
   case c4=>omega
   case c5=>simp;omega
   intro v' w5 z E _;obtain⟨g',ah,rfl⟩:=ownsRow_succ z;have Z:Below w.heap.size w w5:=(Q.alloc (by omega) _).grown E (by simp;omega) (fun j ej=>(o.lt j ej).1)
   have q:=yq.grow (ls:=ls) (y:=⟨#[]⟩) z HN.out;rw[<- X.out]at q;go_wp2_with fail;go_roundw
   case rel=>exact⟨k+1,G,by go_num,q,by rw[Y.out,HN.out];omega,Z⟩
   case measure=>simp[intOf];omega
  | false =>
  rw[K]at q2;have t:s[k]≠10:=by simpa using K
  obtain⟨h,p,J,p2⟩:=YU (l.take k) s[k] t;have R:((jv (l.take k)).map B).length=h.length+1:=by rw[J];simp
  rw[J,joK]at r;simp only[jpA]at r;obtain⟨g,C,rfl,O,aa⟩:=m.form H;rw[R]at m ⊢;have a8:=m.cell R h.length (B p) (by rw[J,jpt,jo7 (by simp)];simp)
  have o:wr.ownsRow w.heap.size 9 1 (.slice (some ⟨g,0,none⟩) (h.length+1) C) (h.length+1) ((h.map B).map Value.string++[.string (B p)]):=by have:=m;unfold yq at this;rw[R,J]at this;simpa using this
  have am:=o.frozenAt h.length;have I:=o.stored h.length (.string (B p++B [s[k]]))
  rw[List.set_append_right _ _ (by simp)]at I;simp only[jo8,Nat.sub_self,jpF,jn]at I;have X:Hid ((jv (l.take (k+1))).map B=h.map B++[B (p++[s[k]])]):=by show _=_;rw[x,p2,jpt];rfl
  have Y:Hid ((jv (l.take (k+1))).length=h.length+1):=by show _=_;rw[x,p2,joK];rfl
  obtain⟨A,P⟩:=I;have q:=yq.grow (ls:=h.map B) (y:=B (p++[s[k]])) A (by simp)
  rw[<- X.out]at q;have L:=Q.setCell (p:=⟨g,h.length,none⟩) O (.string (B (p++[s[k]])))
  have V:=joI q;have W:=joI L
  have ak:h.length<=1000000:=by omega
  have ay:IntKind.i64.wrap (h.length:Int)=h.length:=jph _ (by omega);have aj:(h.length:Int)<(h.length:Int)+1:=by omega
  have ax:IntKind.i64.wrap ((k:Int)+1)=(k:Int)+1:=jph _ (by omega);have aq:(k:Int)+1<=(l.length:Int):=by omega
  have ar:(k:Int)<=(k:Int)+1:=by omega
  have a7:=jn p [s[k]];have z1:=jg p
  have z2:=jg [s[k]];have au:p.length<=1000000:=by have:=(Yn (l.take k));rw[J]at this;simp at this;omega
  simp only[jpA]at z2;rw[<- D]at a7 z2;clear m o A P q L J p2 x e hd R t D;have ai:¬9223372036854775807<p.length+1:=by omega
  generalize B (p++[s[k]])=np at *
  generalize B p=bp at *
  go_wp2_with fail;refine wp_region_still_tail 17 (by kernel_rfl) (by kernel_rfl) ?_;simp only[jqP,List.take_zero,jq3,jp2]
  repeat still_step
  refine wpStill_nil ?_;change wpList _ _ _ _ _ wr.drew;go_wp2_with fail;go_roundw
  case rel=>exact⟨k+1,G,by go_num,V.out,by rw[Y.out];omega,W.out.drew⟩
  case measure=>simp[intOf];omega
 obtain rfl:k=s.size:=by omega
 rw[jpi (by omega)]at m;go_wp2_with fail;go_ret;exact⟨_,rfl,m,Q⟩
end Go.Proofs.YtbapfpekklcicaaGreatDoor
