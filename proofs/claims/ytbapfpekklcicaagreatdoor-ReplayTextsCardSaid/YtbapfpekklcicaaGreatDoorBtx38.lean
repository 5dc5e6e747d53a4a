/- Texts put together:GQ,GR,SP,SQ,SR,ST,GT,EX,GO,GP,RL. -/
import Derived.Test.YtbapfpekklcicaaGreatDoorBtx37
set_option linter.unusedVariables false
set_option maxRecDepth 100000
set_option maxHeartbeats 16000000
namespace Go.Proofs.YtbapfpekklcicaaGreatDoor
open Go.RowKit Go.Shelf Tryz
namespace Rp
open Bk
attribute [local go_sem] joY
def jcR(w w':World)(s:List UInt8)(bs:List (List Ed))(e:Ending):Prop:=Below w.heap.size w w' /\
  ((∃a n xa xn xc nx,(jD s=.error (a,n)\/∃its,jD s=.ok its/\qJ (zF its) bs a/\n=10)/\e=.returned (.tuple #[.agg #[.slice xa xn xc,.int .i64 nx],.int .i64 (a:Nat),.int .i64 (n:Nat)])) \/
   (∃its k v qs,jD s=.ok its/\qA (zF its) bs=some k/\e=.returned (.tuple #[.agg #[v,.int .i64 k.next],.int .i64 (-9),.int .i64 0])/\zK w' v qs/\qs.map Prod.fst=k.es))
theorem QL{d:Func}{p u z:Tmp}{e:TypeId}(h:d.results=#[.cell p e,.tmp u,.tmp z])(tmps:Array Value)(P:Program)(w:World):
  (results d tmps).run P w=((asAddr (tmps.getD p undef)).run P w).andThen fun a b=>((loadVar e a).run P b).andThen fun v c=>.ok (.tuple #[v,tmps.getD u undef,tmps.getD z undef]) c:=by
 simp only[results,h];simp[Sem.run_bind,Result.andThen]
theorem jmP{c:Func}{p u z:Tmp}(h:c.results=#[.cell p 37,.tmp u,.tmp z])(tmps:Array Value)(w:World)(b:Nat)(a:Array Value)(e:tmps.getD p undef=.pointer (some ⟨b,0,none⟩))
  (d:ja w b 37 a) (f:a.size=2):(results c tmps).run prog w=.ok (.tuple #[.agg a,tmps.getD u undef,tmps.getD z undef]) w:=by
 have L:=run_loadVar_row (P:=prog) w b 37 37 a (0,0) _ d underlying37 rfl (by rw[f];kernel_rfl);rw[QL h,e];show((loadVar _ _).run _ _).andThen _=_
 rw[L];rfl
theorem jcS.form{w w':World}{s:List UInt8}{d:List (List Ed)}{e:Ending}(h:jcS w w' s d e):∃l x m g p r q a f,e=.returned (.tuple #[.agg #[.slice l x m,.int .i64 g],.slice p r q,.int .i64 a,.int .i64 f]) /\
    ((∃o n:Nat,(jD s=.error (o,n)\/∃b,jD s=.ok b/\qJ (zF b) d o/\n=10)/\r=0/\a=o/\f=n) \/
     (∃b k j u,jD s=.ok b/\qA (zF b) d=some k/\g=k.next/\a = -9/\f=0/\zK w' (.slice l x m) j/\j.map Prod.fst=k.es/\Kf w.heap.size w' (.slice p r q) (Kq (zF b) d) u)):=by
  obtain⟨_,⟨a,n,v,g,c,rfl,_⟩|⟨b,i,l,x,m,g,c,t,rfl⟩|⟨b,k,v,j,C,u,c,t,rfl,y,A,z⟩⟩:=h
  . exact⟨_,_,_,_,_,_,_,_,_,rfl,.inl ⟨a,n,.inl c,rfl,rfl,rfl⟩⟩
  . exact⟨_,_,_,_,_,_,_,_,_,rfl,.inl ⟨i,10,.inr ⟨b,c,t,rfl⟩,rfl,rfl,rfl⟩⟩
  obtain⟨l,m,rfl,_⟩:=y.empty;obtain⟨p,q,rfl,_⟩:=je z.row;exact⟨_,_,_,_,_,_,_,_,_,rfl,.inr ⟨b,k,j,u,c,t,rfl,rfl,rfl,y,A,z⟩⟩
theorem jb4(j:Int)(s:List UInt8)(g:List (List Ed))(A:Option Addr)(c:Nat)(C:Option Addr)(E D:Nat)(H:ByteArray)(w:World)(hs:s.length+xS g<=5000)(hl:g.length<=100000)(hv:BtV w (.slice A g.length c) g)(hb:jiq g):
  Calls prog 46 #[Yb j s A g.length c C E D H] w fun e w'=>jcR w w' s g e:=by
 obtain⟨N,i⟩:∃z,(w.alloc (.cells #[.int .i64 j,.string (B s),.slice A g.length c,.slice C E D,.string H] 25)).alloc (.cells #[.slice none 0 0,.int .i64 0] 37)=z:=⟨_,rfl⟩
 have W:Below w.heap.size w N:=by rw[<- i];exact((joL _ w).alloc (joJ _) _).alloc (by simp) _
 have t:ja N w.heap.size 25 #[.int .i64 j,.string (B s),.slice A g.length c,.slice C E D,.string H]:=by rw[<- i];exact(ja.new _ _ _).alloc _
 have CR:ja N (w.heap.size+1) 37 #[.slice none 0 0,.int .i64 0]:=by
  rw[<- i];have:=ja.new (w.alloc (.cells #[.int .i64 j,.string (B s),.slice A g.length c,.slice C E D,.string H] 25)) 37 #[.slice none 0 0,.int .i64 0]
  simp only[joZ]at this;exact this
 have m:=Ux j s g A c C E D H g.length (joJ _) N hs hl (hv.below W (joJ _)) hb;rw[jpa]at m;unfold Yb at m;have v:=joI m
 have k0:=t.cell 0;have k1:=t.cell 1
 have k2:=t.cell 2;have k3:=t.cell 3
 have k4:=t.cell 4;simp only[joQ,joP,joO]at k0 k1 k2 k3 k4;rw[<- i]at k0 k1 k2 k3 k4;have u:=joI W
 have y:=joI CR;have R:=joI i
 clear hv hb W t CR i m;unfold Yb;go_enter func46,ntmps46;go_wp2_with fail;rw[R.out];refine v.out.mono ?_;rintro e w3 Y;have b3:=Y.1
 obtain⟨J,L,K,G,ga,gn,gc,a,f,rfl,hF⟩:=Y.form;have B3:=joI (u.out.trans (b3.mono u.out.size))
 have o:=jb y.out b3 y.out.lt;obtain⟨I,l⟩:∃z,w3.alloc (.cells #[.slice J L K,.int .i64 G] 37)=z:=⟨_,rfl⟩
 have d:Below w3.heap.size w3 I:=by rw[<- l];exact(joL _ _).alloc (joJ _) _
 have b:=jb o d o.lt;have V:=(b.set 0 (.slice J L K)).set 1 (.int .i64 G)
 rw[Qs]at V;have Q:=joI V
 have oE:jH (· = w.heap.size+1) I ((I.setCell ⟨w.heap.size+1,0,none⟩ (.slice J L K)).setCell ⟨w.heap.size+1,1,none⟩ (.int .i64 G)):=((jH.refl (· = w.heap.size+1) I).cellS 0 _).cellS 1 _;have O:=B3.out.trans (d.mono B3.out.size)
 have m:=joI (O.trans (oE.to_below O.size (fun r hr e=>by omega)));have P:Hid (jcR w ((I.setCell ⟨w.heap.size+1,0,none⟩ (.slice J L K)).setCell ⟨w.heap.size+1,1,none⟩ (.int .i64 G)) s g (.returned (.tuple #[.agg #[.slice J L K,.int .i64 G],.int .i64 a,.int .i64 f]))):=by
  show jcR _ _ _ _ _;refine⟨m.out,?_⟩;rcases hF with ⟨a',n,X,_,rfl,rfl⟩|⟨a8,k,qs,us,X,h2,rfl,rfl,rfl,Z,h5,h6⟩
  ·exact .inl ⟨a',n,_,_,_,_,X,rfl⟩
  exact .inr ⟨a8,k,_,qs,X,h2,rfl,(Z.below d (joJ _)).only oE (fun r e q=>jh (Z.below d (joJ _)).row b (by decide) (by rw[e,q])) (fun p hp a7 r e q=>XE ((Z.each p hp).below d (joJ _)) a7 (by rw[e,q]) b (by intro x hx s;simp at hx;rcases hx with rfl | rfl<;>exact fun h=>by cases h)),h5⟩
 have c0:=b.cell 0;have c1:=b.cell 1
 have f0:=b.frozen 0;have f1:=b.frozen 1
 simp only[joQ,joP,joO]at c0 c1;have U:=joI l
 rw[<- l]at c0 c1 f0 f1;clear Y b3 hF o d b V oE O m v l k0 k1 k2 k3 k4;go_wp2_with fail;rw[U.out];refine bodyPost_ret (jmP rfl _ _ (w.heap.size+1) _ rfl Q.out rfl) rfl ?_;exact P.out
theorem jep{g:Func}{p q u z:Tmp}{i j:TypeId}(h:g.results=#[.cell p i,.cell q j,.tmp u,.tmp z])(tmps:Array Value)(P:Program)(w:World):
  (results g tmps).run P w=((asAddr (tmps.getD p undef)).run P w).andThen fun a c=>((loadVar i a).run P c).andThen fun v d=>((asAddr (tmps.getD q undef)).run P d).andThen fun b e=>((loadVar j b).run P e).andThen fun x f=>.ok (.tuple #[v,x,tmps.getD u undef,tmps.getD z undef]) f:=by
 simp only[results,h];simp[Sem.run_bind,Result.andThen]
theorem jdh{g:Func}{p q u z:Tmp}(h:g.results=#[.cell p 25,.cell q 37,.tmp u,.tmp z])(tmps:Array Value)(w:World)(b c:Nat)(a d:Array Value)(j:tmps.getD p undef=.pointer (some ⟨b,0,none⟩))(k:tmps.getD q undef=.pointer (some ⟨c,0,none⟩))
  (i:ja w b 25 a) (l:a.size=5) (e:ja w c 37 d) (f:d.size=2):(results g tmps).run prog w=.ok (.tuple #[.agg a,.agg d,tmps.getD u undef,tmps.getD z undef]) w:=by
 have L:=run_loadVar_row (P:=prog) w b 25 25 a (0,0) _ i underlying25 rfl (by rw[l];kernel_rfl);have M:=run_loadVar_row (P:=prog) w c 37 37 d (0,0) _ e underlying37 rfl (by rw[f];kernel_rfl)
 rw[jep h,j,k];show((loadVar _ _).run _ _).andThen _=_
 rw[L];show((loadVar _ _).run _ _).andThen _=_
 rw[M];rfl
theorem jiL{w w':World}{t:List UInt8}{e:Ending}(h:jot w w' t e):Below w.heap.size w w' /\
  ((∃a k:Nat,Yf t a k/\e=.returned (.tuple #[Qt,.int .i64 a,.int .i64 k]))\/∃n c b d v,vp Dc t n c b d/\e=.returned (.tuple #[v,.int .i64 (-9),.int .i64 0])/\BookR w.heap.size w' v n c b d):=by
 obtain⟨m,h⟩:=h;refine⟨m,?_⟩;rcases h with ⟨a,k,f,g⟩|⟨j,b,r,f,g,i,l⟩|⟨c,b,d,v,f,g,i⟩
 ·exact .inl ⟨a,k,.inl f,g⟩
 ·exact .inl ⟨b.length,10,.inr ⟨rfl,j,b,r,f,g,i,rfl⟩,l⟩
 exact .inr ⟨_,c,b,d,v,f,g,i⟩
def jbK(w w':World)(t:List UInt8)(e:Ending):Prop:=Below w.heap.size w w' /\
  ((∃a k:Nat,yH t a k/\e=.returned (.tuple #[Qt,.agg #[.slice none 0 0,.int .i64 0],.int .i64 a,.int .i64 k])) \/
   (∃n base bds tail v its k qv qs,vp Dc t n base bds tail/\jD base=.ok its/\qA (zF its) (qu bds)=some k/\e=.returned (.tuple #[v,.agg #[qv,.int .i64 k.next],.int .i64 (-9),.int .i64 0])/\BookR w.heap.size w' v n base bds tail/\zK w' qv qs/\qs.map Prod.fst=k.es))
theorem jiQ{W:World}{b:Nat}{T:TypeId}{a0 a1 a2 a3 a4 m n:Value}{U:TypeId}(h:ja W b T #[a0,a1,a2,a3,a4])(g:ja W (b+1) U #[m,n])(d f i v3 v4 a c:Value):
  ja (((((((W.setCell ⟨b,0,none⟩ d).setCell ⟨b,1,none⟩ f).setCell ⟨b,2,none⟩ i).setCell ⟨b,3,none⟩ v3).setCell ⟨b,4,none⟩ v4).setCell ⟨b+1,0,none⟩ a).setCell ⟨b+1,1,none⟩ c) b T #[d,f,i,v3,v4] /\
  ja (((((((W.setCell ⟨b,0,none⟩ d).setCell ⟨b,1,none⟩ f).setCell ⟨b,2,none⟩ i).setCell ⟨b,3,none⟩ v3).setCell ⟨b,4,none⟩ v4).setCell ⟨b+1,0,none⟩ a).setCell ⟨b+1,1,none⟩ c) (b+1) U #[a,c] /\
  jH (fun r=>r=b\/r=b+1) W (((((((W.setCell ⟨b,0,none⟩ d).setCell ⟨b,1,none⟩ f).setCell ⟨b,2,none⟩ i).setCell ⟨b,3,none⟩ v3).setCell ⟨b,4,none⟩ v4).setCell ⟨b+1,0,none⟩ a).setCell ⟨b+1,1,none⟩ c):=by
 obtain⟨p,k⟩:=jfE h d f i v3 v4;have o:=g.only k (fun e=>by omega)
 generalize ((((W.setCell ⟨b,0,none⟩ d).setCell ⟨b,1,none⟩ f).setCell ⟨b,2,none⟩ i).setCell ⟨b,3,none⟩ v3).setCell ⟨b,4,none⟩ v4=X at *
 have l:jH (· = b+1) X ((X.setCell ⟨b+1,0,none⟩ a).setCell ⟨b+1,1,none⟩ c):=((jH.refl (· = b+1) X).cellS 0 a).cellS 1 c;have j:=(o.set 0 a).set 1 c
 rw[Qs]at j;exact⟨p.only l (fun e=>by omega),j,(k.mono (S':=fun r=>r=b\/r=b+1) (fun r _ e=>.inl e)).trans l (fun r _ e=>.inr e)⟩
theorem jgl{W:World}{b:Nat}{T:TypeId}{a0 a1 a2 a3 a4 m n:Value}{U:TypeId}(h:ja W b T #[a0,a1,a2,a3,a4])(g:ja W (b+1) U #[m,n])(d f i v3 v4 a c:Value):
  ja (((((((W.setCell ⟨b+1,0,none⟩ a).setCell ⟨b+1,1,none⟩ c).setCell ⟨b,0,none⟩ d).setCell ⟨b,1,none⟩ f).setCell ⟨b,2,none⟩ i).setCell ⟨b,3,none⟩ v3).setCell ⟨b,4,none⟩ v4) b T #[d,f,i,v3,v4] /\
  ja (((((((W.setCell ⟨b+1,0,none⟩ a).setCell ⟨b+1,1,none⟩ c).setCell ⟨b,0,none⟩ d).setCell ⟨b,1,none⟩ f).setCell ⟨b,2,none⟩ i).setCell ⟨b,3,none⟩ v3).setCell ⟨b,4,none⟩ v4) (b+1) U #[a,c] /\
  jH (fun r=>r=b\/r=b+1) W (((((((W.setCell ⟨b+1,0,none⟩ a).setCell ⟨b+1,1,none⟩ c).setCell ⟨b,0,none⟩ d).setCell ⟨b,1,none⟩ f).setCell ⟨b,2,none⟩ i).setCell ⟨b,3,none⟩ v3).setCell ⟨b,4,none⟩ v4):=by
 have l:jH (· = b+1) W ((W.setCell ⟨b+1,0,none⟩ a).setCell ⟨b+1,1,none⟩ c):=((jH.refl (· = b+1) W).cellS 0 a).cellS 1 c;have j:=(g.set 0 a).set 1 c
 rw[Qs]at j;have o:=h.only l (fun e=>by omega)
 generalize (W.setCell ⟨b+1,0,none⟩ a).setCell ⟨b+1,1,none⟩ c=X at *
 obtain⟨p,k⟩:=jfE o d f i v3 v4;exact⟨p,j.only k (fun e=>by omega),(l.mono (S':=fun r=>r=b\/r=b+1) (fun r _ e=>.inr e)).trans k (fun r _ e=>.inl e)⟩
theorem jb6{w W:World}{a0 a1 a2 a3 a4 m n:Value}(j:Below w.heap.size w W)(h:ja W w.heap.size 25 #[a0,a1,a2,a3,a4])(g:ja W (w.heap.size+1) 37 #[m,n])(d f i v3 v4 b c:Value)(X:World)
  (o:X=((((((W.setCell ⟨w.heap.size,0,none⟩ d).setCell ⟨w.heap.size,1,none⟩ f).setCell ⟨w.heap.size,2,none⟩ i).setCell ⟨w.heap.size,3,none⟩ v3).setCell ⟨w.heap.size,4,none⟩ v4).setCell ⟨w.heap.size+1,0,none⟩ b).setCell ⟨w.heap.size+1,1,none⟩ c \/
   X=((((((W.setCell ⟨w.heap.size+1,0,none⟩ b).setCell ⟨w.heap.size+1,1,none⟩ c).setCell ⟨w.heap.size,0,none⟩ d).setCell ⟨w.heap.size,1,none⟩ f).setCell ⟨w.heap.size,2,none⟩ i).setCell ⟨w.heap.size,3,none⟩ v3).setCell ⟨w.heap.size,4,none⟩ v4) :
  Below w.heap.size w X/\ja X w.heap.size 25 #[d,f,i,v3,v4]/\ja X (w.heap.size+1) 37 #[b,c]/\jH (fun r=>r=w.heap.size\/r=w.heap.size+1) W X:=by
 rcases o with rfl|rfl
 ·obtain⟨k,l,a⟩:=jiQ h g d f i v3 v4 b c;exact⟨j.trans (a.to_below j.size (fun r p e=>by omega)),k,l,a⟩
 obtain⟨k,l,a⟩:=jgl h g d f i v3 v4 b c;exact⟨j.trans (a.to_below j.size (fun r p e=>by omega)),k,l,a⟩
end Rp
namespace Bk
attribute [local go_sem] joY
end Bk
namespace Bk
attribute [local go_sem] joY
theorem BookR.only{lo:Nat}{w w':World}{S:Nat->Prop}{v:Value}{n:Nat}{base a:List UInt8}{d:List (List UInt8)}(h:BookR lo w v n base d a)(o:jH S w w')(j:∀r,lo<=r->¬S r):BookR lo w' v n base d a:=by obtain⟨s,y,z,g,c,p⟩:=h.is;refine⟨s,y,z,g,⟨jG c.row o (fun b e q=>j b (c.row.lt b e).1 q),fun i b u t x => ?_⟩,jG p o (fun b e q=>j b (p.lt b e).1 q)⟩;obtain⟨k,f⟩:=c.each i b u t x;exact⟨k,jG f.row o (fun b e q=>j b (f.row.lt b e).1 q),f.len,fun i l m g c=>jG (f.each i l m g c) o (fun b e q=>j b ((f.each i l m g c).lt b e).1 q)⟩
end Bk
namespace Rp
open Bk
attribute [local go_sem] joY
theorem YO(t:List UInt8)(ht:t.length<=5000)(w:World):
  Calls prog 25 #[.string (B t)] w fun e w'=>jbK w w' t e:=by
 obtain⟨w2,A⟩:∃z,(w.alloc (.cells #[.int .i64 0,.string ⟨#[]⟩,.slice none 0 0,.slice none 0 0,.string ⟨#[]⟩] 25)).alloc (.cells #[.slice none 0 0,.int .i64 0] 37)=z:=⟨_,rfl⟩
 have b2:Below w.heap.size w w2:=by rw[<- A];exact((joL _ w).alloc (joJ _) _).alloc (by simp) _
 have aF:w2.heap.size=w.heap.size+2:=by rw[<- A];simp
 have CB:ja w2 w.heap.size 25 #[.int .i64 0,.string ⟨#[]⟩,.slice none 0 0,.slice none 0 0,.string ⟨#[]⟩]:=by rw[<- A];exact(ja.new _ _ _).alloc _
 have CR:ja w2 (w.heap.size+1) 37 #[.slice none 0 0,.int .i64 0]:=by
  rw[<- A];have:=ja.new (w.alloc (.cells #[.int .i64 0,.string ⟨#[]⟩,.slice none 0 0,.slice none 0 0,.string ⟨#[]⟩] 25)) 37 #[.slice none 0 0,.int .i64 0]
  simp only[joZ]at this;exact this
 have RR:=joI (Uq t (by omega) w2);have ag:=joI b2
 have ai:=joI CB;have aj:=joI CR
 have ay:=joI A;clear b2 CB CR A;go_enter func25,ntmps25;go_wp2_with fail;rw[ay.out];refine RR.out.mono ?_;rintro e O hr;obtain⟨b3,h3⟩:=jiL hr;have B3:=joI (ag.out.trans (b3.mono ag.out.size))
 have ae:=joI (jb ai.out b3 ai.out.lt);have af:=joI (jb aj.out b3 aj.out.lt)
 have aG:=b3.size;have eZ:Qt=.agg #[.int .i64 0,.string ⟨#[]⟩,.slice none 0 0,.slice none 0 0,.string ⟨#[]⟩]:=rfl
 clear RR hr b3;have RD:Hid (∀(W:World),Below O.heap.size O W->Below w.heap.size w W/\ja W w.heap.size 25 #[.int .i64 0,.string ⟨#[]⟩,.slice none 0 0,.slice none 0 0,.string ⟨#[]⟩]/\ja W (w.heap.size+1) 37 #[.slice none 0 0,.int .i64 0] /\
   (W.cell? ⟨w.heap.size,0,none⟩=some (.int .i64 0)/\W.cell? ⟨w.heap.size,1,none⟩=some (.string ⟨#[]⟩)/\W.cell? ⟨w.heap.size,2,none⟩=some (.slice none 0 0)/\W.cell? ⟨w.heap.size,3,none⟩=some (.slice none 0 0)/\W.cell? ⟨w.heap.size,4,none⟩=some (.string ⟨#[]⟩)) /\
   (W.frozen? ⟨w.heap.size,0,none⟩=false/\W.frozen? ⟨w.heap.size,1,none⟩=false/\W.frozen? ⟨w.heap.size,2,none⟩=false/\W.frozen? ⟨w.heap.size,3,none⟩=false/\W.frozen? ⟨w.heap.size,4,none⟩=false) /\
   W.cell? ⟨w.heap.size+1,0,none⟩=some (.slice none 0 0)/\W.cell? ⟨w.heap.size+1,1,none⟩=some (.int .i64 0)/\W.frozen? ⟨w.heap.size+1,0,none⟩=false/\W.frozen? ⟨w.heap.size+1,1,none⟩=false):=fun W hW=>by
  have k:=jb ae.out hW ae.out.lt;have l:=jb af.out hW af.out.lt
  exact⟨B3.out.trans (hW.mono B3.out.size),k,l,⟨(k.cell 0).trans rfl,(k.cell 1).trans rfl,(k.cell 2).trans rfl,(k.cell 3).trans rfl,(k.cell 4).trans rfl⟩,⟨k.frozen 0,k.frozen 1,k.frozen 2,k.frozen 3,k.frozen 4⟩,(l.cell 0).trans rfl,(l.cell 1).trans rfl,l.frozen 0,l.frozen 1⟩
 rcases h3 with ⟨a,k,f,rfl⟩|⟨n,c,b,d,v,hS,rfl,a7⟩
 ·have hk:=f.num.1;have qn:(((k:Nat):Int)==0)=false:=by simpa using hk
  obtain⟨w4,j⟩:∃z,O.alloc (.cells #[.int .i64 0,.string ⟨#[]⟩,.slice none 0 0,.slice none 0 0,.string ⟨#[]⟩] 25)=z:=⟨_,rfl⟩
  obtain⟨B4,K4,L4,⟨c0,c1,c2,c3,c4⟩,⟨f0,f1,f2,f3,f4⟩,d0,d1,g0,g1⟩:=RD.out w4 (by rw[<- j];exact(joL _ _).alloc (joJ _) _);have PF:=joI (jb6 B4 K4 L4 (.int .i64 0) (.string ⟨#[]⟩) (.slice none 0 0) (.slice none 0 0) (.string ⟨#[]⟩) (.slice none 0 0) (.int .i64 0) _ (.inl rfl))
  have C:=joI f;have Y:=joI j
  rw[<- j]at c0 c1 c2 c3 c4 f0 f1 f2 f3 f4 d0 d1 g0 g1;rw[eZ];clear f B4 K4 L4 j;go_wp2_with fail;rw[Y.out];refine bodyPost_ret (jdh rfl _ _ w.heap.size (w.heap.size+1) _ _ rfl rfl PF.out.2.1 rfl PF.out.2.2.1 rfl) rfl ?_;exact⟨PF.out.1,.inl ⟨a,k,.inl C.out,rfl⟩⟩
 have aa:=a7;obtain⟨bv,ev,us,rfl,a8,am⟩:=a7.is;obtain⟨J,K,rfl,_⟩:=je a8.row;obtain⟨L,N,rfl,_⟩:=je am;obtain⟨aD,hp⟩:=hS.parse;obtain⟨av,aE,aH⟩:=JH hS;unfold Qi at *
 obtain⟨w4,j⟩:∃z,O.alloc (.cells #[.int .i64 (n:Int),.string (B c),.slice J b.length K,.slice L b.length N,.string (B d)] 25)=z:=⟨_,rfl⟩
 have I:Below O.heap.size O w4:=by rw[<- j];exact(joL _ _).alloc (joJ _) _
 have C4:ja w4 O.heap.size 25 #[.int .i64 (n:Int),.string (B c),.slice J b.length K,.slice L b.length N,.string (B d)]:=by rw[<- j];exact ja.new _ _ _
 have OF:=jb4 (n:Int) c (qu b) J K L b.length N (B d) w4 (by omega) (by rw[yA];omega) (by rw[yA];exact(jh4 a8).below I (joJ _)) av;rw[yA]at OF;unfold Yb at OF;have V:=joI OF
 have P:=joI I;have ah:=joI C4
 have ax:=joI (aa.below I);have Y:=joI j
 have HS:=joI hS;have HP:=joI hp
 clear aa a7 a8 am I C4 j OF hS hp av aE;go_wp2_with fail;rw[Y.out];refine V.out.mono ?_;rintro e w5 ⟨b5,h5⟩;have o:=P.out.trans (b5.mono P.out.size)
 have C5:=joI (jb ah.out b5 ah.out.lt);have aw:=joI (ax.out.below b5)
 rcases h5 with ⟨a,m,xa,xn,xc,nx,g,rfl⟩|⟨Q,k,qv,G,g,ar,rfl,hq,au⟩
 ·have f:yH t a m/\m≠0:=by
   rcases g with g|⟨Q,g,aC,rfl⟩
   ·rw[HP.out]at g;cases g
   exact⟨.inr ⟨_,_,_,_,Q,HS.out,g,aC,rfl⟩,by decide⟩
  have qn:(((m:Nat):Int)==0)=false:=by simpa using f.2
  obtain⟨w6,i⟩:∃z,w5.alloc (.cells #[.slice xa xn xc,.int .i64 nx] 37)=z:=⟨_,rfl⟩
  obtain⟨B6,Z,L6,⟨c0,c1,c2,c3,c4⟩,⟨f0,f1,f2,f3,f4⟩,d0,d1,g0,g1⟩:=RD.out w6 (by rw[<- i];exact o.alloc o.size _);have PF:=joI (jb6 B6 Z L6 (.int .i64 0) (.string ⟨#[]⟩) (.slice none 0 0) (.slice none 0 0) (.string ⟨#[]⟩) (.slice none 0 0) (.int .i64 0) _ (.inl rfl))
  have C:=joI f.1;have H:=joI i
  rw[<- i]at c0 c1 c2 c3 c4 f0 f1 f2 f3 f4 d0 d1 g0 g1;clear f g B6 Z L6 i o b5 V;go_wp2_with fail;rw[H.out];refine bodyPost_ret (jdh rfl _ _ w.heap.size (w.heap.size+1) _ _ rfl rfl PF.out.2.1 rfl PF.out.2.2.1 rfl) rfl ?_;exact⟨PF.out.1,.inl ⟨a,m,C.out,rfl⟩⟩
 rw[HP.out]at g;injection g with e1;subst e1;obtain⟨R,U,rfl,_⟩:=hq.empty;obtain⟨w6,i⟩:∃z,w5.alloc (.cells #[.slice R G.length U,.int .i64 k.next] 37)=z:=⟨_,rfl⟩
 have D:Below w5.heap.size w5 w6:=by rw[<- i];exact(joL _ _).alloc (joJ _) _
 have C6:ja w6 w5.heap.size 37 #[.slice R G.length U,.int .i64 k.next]:=by rw[<- i];exact ja.new _ _ _
 have ak:=o.trans (D.mono o.size);obtain⟨B6,Z,L6,⟨c0,c1,c2,c3,c4⟩,⟨f0,f1,f2,f3,f4⟩,d0,d1,g0,g1⟩:=RD.out w6 ak;have y:=jb C5.out D C5.out.lt
 have l0:=y.cell 0;have l1:=y.cell 1
 have l2:=y.cell 2;have l3:=y.cell 3
 have l4:=y.cell 4;have m0:=C6.cell 0
 have m1:=C6.cell 1;simp only[joQ,joP,joO]at l0 l1 l2 l3 l4 m0 m1;have u:Hid (∀X,(X=((((((w6.setCell ⟨w.heap.size,0,none⟩ (.int .i64 (n:Int))).setCell ⟨w.heap.size,1,none⟩ (.string (B c))).setCell ⟨w.heap.size,2,none⟩ (.slice J b.length K)).setCell ⟨w.heap.size,3,none⟩ (.slice L b.length N)).setCell ⟨w.heap.size,4,none⟩ (.string (B d))).setCell ⟨w.heap.size+1,0,none⟩ (.slice R G.length U)).setCell ⟨w.heap.size+1,1,none⟩ (.int .i64 k.next) \/
   X=((((((w6.setCell ⟨w.heap.size+1,0,none⟩ (.slice R G.length U)).setCell ⟨w.heap.size+1,1,none⟩ (.int .i64 k.next)).setCell ⟨w.heap.size,0,none⟩ (.int .i64 (n:Int))).setCell ⟨w.heap.size,1,none⟩ (.string (B c))).setCell ⟨w.heap.size,2,none⟩ (.slice J b.length K)).setCell ⟨w.heap.size,3,none⟩ (.slice L b.length N)).setCell ⟨w.heap.size,4,none⟩ (.string (B d))) ->
   ja X.drew w.heap.size 25 #[.int .i64 (n:Int),.string (B c),.slice J b.length K,.slice L b.length N,.string (B d)]/\ja X.drew (w.heap.size+1) 37 #[.slice R G.length U,.int .i64 k.next] /\
   jbK w X.drew t (.returned (.tuple #[.agg #[.int .i64 (n:Int),.string (B c),.slice J b.length K,.slice L b.length N,.string (B d)],.agg #[.slice R G.length U,.int .i64 k.next],.int .i64 (-9),.int .i64 0]))):=fun X hX=>by
  obtain⟨p1,p2,p3,p4⟩:=jb6 B6 Z L6 (.int .i64 (n:Int)) (.string (B c)) (.slice J b.length K) (.slice L b.length N) (.string (B d)) (.slice R G.length U) (.int .i64 k.next) X hX;have E:=hq.below D (joJ _)
  have aB:zK X (.slice R G.length U) G:=E.only p4 (fun r e q=>by
   rcases q with q|q
   ·exact jh E.row Z (by decide) (by rw[e,q])
   ·exact jh E.row L6 (by decide) (by rw[e,q])) (fun p hp aq r e q=>by
   rcases q with q|q
   ·exact jhi (E.each p hp) aq (by rw[e,q]) Z (jd1 _ _ _ _ _ _ _ _ _)
   exact XE (E.each p hp) aq (by rw[e,q]) L6 (by intro x hx s;simp at hx;rcases hx with rfl | rfl<;>exact fun h=>by cases h))
  have aA:BookR w2.heap.size X (.agg #[.int .i64 (n:Int),.string (B c),.slice J b.length K,.slice L b.length N,.string (B d)]) n c b d:=Bk.BookR.only (aw.out.below D) p4 (fun r hr q=>by omega);refine⟨p2.drew,p3.drew,p1.drew,.inr ⟨n,c,b,d,_,aD,k,_,G,HS.out,HP.out,ar,rfl,?_,?_,au⟩⟩
  ·exact BookR.low (aA.below (joL _ _).drew) (by omega)
  exact aB.below (joL _ X).drew (joJ _)
 have aI:=o.size;have n1:w5.heap.size≠w.heap.size:=by omega
 have n2:w5.heap.size≠w.heap.size+1:=by omega
 have n3:O.heap.size≠w.heap.size:=by omega
 have n4:O.heap.size≠w.heap.size+1:=by omega
 have n5:w.heap.size≠w.heap.size+1:=by omega
 have n6:w.heap.size+1≠w.heap.size:=by omega
 have H:=joI i;rw[<- i]at c0 c1 c2 c3 c4 f0 f1 f2 f3 f4 d0 d1 g0 g1 l0 l1 l2 l3 l4 m0 m1;clear ar hq au o b5 V D C6 ak B6 Z L6 y i;go_wp2_with fail;rw[H.out];rw[H.out]at c0 c1 c2 c3 c4 f0 f1 f2 f3 f4 d0 d1 g0 g1 l0 l1 l2 l3 l4 m0 m1;go_region
 all_goals go_wp2_with fail
 all_goals first
  | (refine bodyPost_ret (jdh rfl _ _ w.heap.size (w.heap.size+1) _ _ rfl rfl (u.out _ (.inl rfl)).1 rfl (u.out _ (.inl rfl)).2.1 rfl) rfl ?_;exact(u.out _ (.inl rfl)).2.2)
  | (refine bodyPost_ret (jdh rfl _ _ w.heap.size (w.heap.size+1) _ _ rfl rfl (u.out _ (.inr rfl)).1 rfl (u.out _ (.inr rfl)).2.1 rfl) rfl ?_;exact(u.out _ (.inr rfl)).2.2)
end Rp
section
attribute [local go_sem] joY
end
namespace Rp
open Bk
attribute [local go_sem] joY
def jhy:List UInt8:=[65,58,32,49,10]
def exE:List Ed:=[⟨2,1,[]⟩]
def jfd:List It:=[⟨3,[65,58,32,49,10],[([65],[49])]⟩]
theorem Wz:jD jhy=.ok jfd:=by kernel_rfl
theorem Vc:vp Dc jhy 0 jhy [] [] :=
 ⟨Hd.gen_short (by decide),⟨_,Wz⟩,by kernel_rfl,⟨rfl,fun b h=>by cases h⟩,jdq⟩
theorem jcA:(jo exE).length=10:=by kernel_rfl
theorem jcC:(qw exE).2=0:=by decide
theorem jcB:Qf (jo exE)=some exE:=xH.2 ⟨by rw[jcA];decide,jcC,fun a h=>by rw[List.mem_singleton.1 h];exact⟨by decide,by decide⟩,rfl⟩
theorem jfe:qA (zF jfd) (qu ([]++[jo exE]))=some ⟨[],2⟩:=by
 have e:qu ([]++[jo exE])=[exE]:=by
  show [yZ (jo exE)]=[exE]
  unfold yZ;rw[jcB];rfl
 rw[e];show qA (zF jfd) [exE]=some (⟨[],2⟩:LS)
 have h:(doB (zF jfd) exE).2=0:=by kernel_rfl
 show(if (doB (zF jfd) exE).2=0 then qA (zH (zF jfd) exE) [] else none)=_;rw[if_pos h];kernel_rfl
def exT:List UInt8:=jhy.take (zg 0 jhy [])++Fr.fullR (jo exE)
theorem jdQ:Fr.goodR (jo exE)=true:=Fr.batch_body jcC (by rw[jcA];decide)
theorem jbi:vp Dc exT 0 jhy ([]++[jo exE]) []:=je4 Vc jdQ (by unfold Dc;rw[jcB];rfl)
theorem jhw:exT.length<=60000:=by
 have:=Fr.full_le jdQ;have h:(jhy.take (zg 0 jhy [])).length<=5:=by rw[joS];exact Nat.min_le_right _ _
 unfold exT;rw[joK];omega
theorem jl7{w:World}{b:Nat}(h:ja w b 75 #[.int .i64 2,.int .i64 1,.slice none 0 0]):EdV w (.slice (some ⟨b,0,none⟩) 1 1) exE:=by
 refine⟨_,1,rfl,joJ _,fun i d a => ?_⟩
 match i with
 | 0 =>
  obtain rfl:(⟨2,1,[]⟩:Ed)=d:=joN a;exact⟨b,0,.slice none 0 0,rfl,h.lt,(h.cell 0).trans rfl,(h.cell 1).trans rfl,(h.cell 2).trans rfl,⟨none,0,rfl,joJ _,fun i f h=>by simp at h⟩,fun n c e=>by cases e;rfl⟩
 | i+1=>simp[exE]at a
theorem jhx:VY exE:=fun b h=>by rw[List.mem_singleton.1 h];exact⟨by decide,fun f a=>by cases a⟩
theorem jcQ.yes{w w':World}{t base c:List UInt8}{n:Nat}{b:List (List UInt8)}{its:List It}{k:LS}{e:Ending}(h:jcQ w w' t e)(s:vp Dc t n base b c)(r:jD base=.ok its)(hl:qA (zF its) (qu b)=some k):
  Below w.heap.size w w'/\∃v i l o,e=.returned (.tuple #[v,ptr i,.nilIface])/\BookR w.heap.size w' v n base b c/\zM w.heap.size w' i l o k (base.length+xS (qu b)):=by
 obtain⟨D,h⟩:=h;refine⟨D,?_⟩;rcases h with ⟨a,m,u,d,_⟩|⟨H,j,q,p,v,x,G,i,l,o,E,g,f,rfl,A,C⟩
 ·exact(d.not s r hl).elim
 obtain⟨rfl,rfl,rfl,rfl⟩:=s.same E;rw[r]at g;injection g with y;subst y;rw[hl]at f;injection f with z;subst z;exact⟨v,i,l,o,rfl,A,C⟩
theorem jms(w:World)(Y:WY w):Calls prog 6 #[] w fun e w'=>e=.returned (.bool true)/\Below w.heap.size w w':=by
 have O:Hid (∀W,Below w.heap.size w W->WY W):=fun W hW=>Y.below hW (joJ _);obtain⟨q,c⟩:∃z,w.alloc (.cells #[.int .i64 2,.int .i64 1,.slice none 0 0] 75)=z:=⟨_,rfl⟩
 have A:Below w.heap.size w q:=by rw[<- c];exact(joL _ w).alloc (joJ _) _
 have N:ja q w.heap.size 75 #[.int .i64 2,.int .i64 1,.slice none 0 0]:=by rw[<- c];exact ja.new _ _ _
 have J:=joI (jbH jhy (by decide) exE _ q (jl7 N) (by decide) jhx (fun ed h=>by rw[List.mem_singleton.1 h];exact⟨by decide,by decide⟩) (O.out q A));have K:=joI A
 have t:=joI c;have eB:(⟨#[65,58,32,49,10]⟩:ByteArray)=B jhy:=rfl
 clear Y A N c;go_enter func6,ntmps6;rw[eB];go_wp2_with fail;rw[t.out];refine J.out.mono ?_;rintro e w2 ⟨Q,V⟩;have r:=joI (K.out.trans (Q.mono K.out.size))
 have hX:e=.returned (.tuple #[.string (B exT),.nilIface]):=by
  rcases V with ⟨a,k,u,hb,_⟩|⟨n,i,D,p,G,⟨hc,_⟩|⟨_,hl,_⟩|⟨_,_,rfl⟩⟩
  ·exact(hb.not Vc).elim
  ·exact absurd jcC hc
  ·exact absurd (show(jo exE).length<=50000 by rw[jcA];decide) (by omega)
  obtain⟨rfl,rfl,rfl,rfl⟩:=G.same Vc;rfl
 subst hX;have P:=joI (jc2 exT (by have:=jhw;omega) (by have:=Vj exT (hl (Hd.genP exT));have:=jhw;omega) (fun n i D p G=>by
  obtain⟨_,rfl,rfl,_⟩:=G.same jbi;have e:qu ([]++[jo exE])=[exE]:=by
   show [yZ (jo exE)]=[exE]
   unfold yZ;rw[jcB];rfl
  rw[e];decide) w2 (O.out w2 r.out))
 clear J V Q;go_wp2_with fail;refine P.out.mono ?_;rintro e I X;obtain⟨b3,v,Z,R,H,rfl,j,E⟩:=X.yes jbi Wz jfe;obtain⟨bv,a7,us,rfl,l,m⟩:=j.is;obtain⟨ba,bc,rfl,_⟩:=je l.row;obtain⟨ea,ec,rfl,_⟩:=je m;unfold Qi ptr at *
 obtain⟨w4,f⟩:∃z,I.alloc (.cells #[.int .i64 0,.string (B jhy),.slice ba 1 bc,.slice ea 1 ec,.string (B [])] 28)=z:=⟨_,rfl⟩
 have d:Below I.heap.size I w4:=by rw[<- f];exact(joL _ _).alloc (joJ _) _
 have L:=joI (r.out.trans ((b3.trans (d.mono b3.size)).mono r.out.size));have b:=E.below d (joJ _)
 have o:H.length<=1000000:=by have U:=congrArg List.length E.es;rw[jo8]at U;rw[U];decide
 have y:=jn1 Z R H _ w4 b.la.lr b.wf o;rw[b.es]at y;have g:=joI y
 have s:=joI b;have x:=joI f
 clear X j l m b3 E b f d y P;unfold ptr at *
 go_wp2_with fail;rw[x.out];refine g.out.mono ?_;rintro e w5 ⟨rfl,C⟩;have B5:=joI (L.out.trans (C.mono L.out.size))
 have NX:=joI (Ga Z R H _ w5 (s.out.below C (joJ _)).la.lr (by decide));clear C g;rw[show((yS (⟨[],2⟩:LS).es:Nat):Int)=0 from rfl];unfold ptr at *
 go_wp2_with fail;refine NX.out.mono ?_;rintro e w6 ⟨rfl,rfl⟩;go_wp2_with fail;go_ret;exact⟨rfl,B5.out⟩
theorem jec(t:List UInt8)(h:t.length<=60000)(c:∀n a b d,vp Dc t n a b d->a.length+xS (qu b)<=5000)(w:World)(f:WY w):
  Calls prog 24 #[.string (B t)] w fun e g=>jcQ w g t e :=
 jc2 t (by omega) (by have:=Vj t (hl (Hd.genP t));omega) c w f
theorem jmI{t:List UInt8}(h:t.length<=5000):∀n a c b,vp Dc t n a c b->a.length+xS (qu c)<=5000:=fun n a c b d=>by have:=(JH d).2.1;omega
def jmG(l:LS):ByteArray:=B ((ze (l.es.map Prod.fst)).flatMap It.raw)
structure joH(w:World)(lb:Nat)(l:LS):Prop where
 text:∀W,Below w.heap.size w W->Calls prog 14 #[.pointer (some ⟨lb,0,none⟩)] W fun e w'=>e=.returned (.string (jmG l))/\Below W.heap.size W w'
 next:∀W,Below w.heap.size w W->Calls prog 16 #[.pointer (some ⟨lb,0,none⟩)] W fun e w'=>e=.returned (.int .i64 l.next)/\W=w'
 stz:∀W,Below w.heap.size w W->Calls prog 18 #[.pointer (some ⟨lb,0,none⟩)] W fun e w'=>∃a c,e=.returned (.slice a (szE l.es).length c)/\Szs w' (.slice a (szE l.es).length c) (szE l.es)/\Below W.heap.size W w'
 small:(szE l.es).length<=1000000/\∀s∈szE l.es,s.2.length<=1000000
theorem jmp{S0:Nat}{w:World}{lb:Nat}{d:Value}{h:List Pr}{l:LS}{m:Nat}(C:zM S0 w lb d h l m)(f:m<=10000):joH w lb l :=
 ⟨fun W b=>jfo (C.below b (joJ _)) f,fun W b=>Ga lb d h _ W (C.below b (joJ _)).la.lr ⟨by have:=C.ok.pos;omega,by have:=C.nx;omega⟩,
  fun W b=>(jab (C.below b (joJ _)) f).mono fun e k ⟨u,j,g,i⟩=>by obtain⟨a,c,rfl,_⟩:=_root_.id g;exact⟨a,c,j,g,i⟩,
  jcJ C⟩
end Rp
namespace Kn
def JS(ops:Array Oper)(i:Nat):Option Nat:=(ops[i]?).bind (·.dst)
def bV:Value->Option Bool
 | .bool b=>some b
 | _=>none
def yF(ops:Array Oper)(V:List Value)(a0:Act)(o:Oper):Operand->Option Value
 | .const v=>some v
 | .tmp j=>match o.after.toList.find? (fun e=>Region.binds .any e&&JS ops e.on==some j) with
  | some e=>V[e.on]?
  | none=>if (List.range ops.size).any (fun k=>JS ops k==some j) then none else a0.tmps[j]?
 | _=>none
def jke(ops:Array Oper)(V:List Value)(a0:Act)(o:Oper):Option Value:=match o.op with
 | .move x=>yF ops V a0 o x
 | .assign x=>yF ops V a0 o x
 | .pick c x y=>match yF ops V a0 o c,yF ops V a0 o x,yF ops V a0 o y with
  | some (.bool b),some u,some v=>some (if b=true then u else v)
  | _,_,_=>none
 | _=>none
def ZF(ops:Array Oper)(V:List Value)(o:Oper):Option Bool:=match o.guard with
 | none=>some true
 | some (g,b)=>if o.after.toList.any (fun e=>Region.binds .any e&&e.on==g)&&(JS ops g).isSome then (match V[g]? with | some (.bool c)=>some (c==b) | some _=>some false | none=>none) else none
def Yc(P:Program)(Q:Exit->Act->World->Prop)(ops:Array Oper)(V:List Value)(a0:Act)(w0:World)(o:Oper)(v:Value):Prop :=
 (ZF ops V o=some false/\v=undef)\/(ZF ops V o=some true/\(jke ops V a0 o=some v\/∀(a:Act) (w:World) (K:Act->World->Prop),Below w0.heap.size w0 w->(∀x u,yF ops V a0 o x=some u->a.eval x=u)->(∀w',Below w.heap.size w w'->K (a.put o.dst v) w')->Oper.wp P o a w K Q))
def jfw(P:Program)(Q:Exit->Act->World->Prop)(ops:Array Oper)(V:List Value)(a0:Act)(w0:World):List Oper->List Value->Prop
 | [],[]=>True
 | o::os,v::vs=>Yc P Q ops V a0 w0 o v/\jfw P Q ops V a0 w0 os vs
 | _,_=>False
theorem jfw.at{P:Program}{Q:Exit->Act->World->Prop}{ops:Array Oper}{V:List Value}{a0:Act}{c:World}:∀{os:List Oper} {vs:List Value},jfw P Q ops V a0 c os vs->∀{i:Nat} {o:Oper},os[i]?=some o->∃v,vs[i]?=some v/\Yc P Q ops V a0 c o v
 | [],[],_,i,o,h=>by simp at h
 | o::os,v::vs,a,0,b,h=>by obtain rfl:o=b:=joN h;exact⟨v,rfl,a.1⟩
 | o::os,v::vs,a,i+1,b,h=>jfw.at (os:=os) (vs:=vs) a.2 h
 | [],_::_,a,_,_,_=>a.elim
 | _::_,[],a,_,_,_=>a.elim
def joq(ops:Array Oper)(n:Nat):Bool:=(List.range ops.size).all fun i =>
 (match JS ops i with | some d=>decide (d<n)&&(List.range ops.size).all (fun k=>k==i || !(JS ops k==some d)) | none=>true) &&
 (match ops[i]? with | some o=>o.after.toList.all (fun e => !(Region.binds .any e) || decide (e.on<i)) | none=>true)
theorem jaj{ops:Array Oper}{V:List Value}{o:Oper}{a:Act}{b:Bool}(h:ZF ops V o=some b)(f:∀e∈o.after,Region.binds .any e=true->∀d,JS ops e.on=some d->∃v,a.tmps[d]?=some v/\V[e.on]?=some v):Region.wanted o (yielded ops a.tmps)=b:=by
 unfold ZF at h;unfold Region.wanted;cases k:o.guard with
 | none=>rw[k]at h;exact joN h
 | some p =>
 obtain⟨g,c⟩:=p;rw[k]at h;dsimp only at h ⊢;split at h
 ·rename_i l;rw[jpk,List.any_eq_true]at l;obtain⟨⟨e,q,i⟩,r⟩:=l;rw[jpk]at i;obtain rfl:e.on=g:=by simpa using i.2
  obtain⟨d,j⟩:=Option.isSome_iff_exists.1 r;obtain⟨v,m,n⟩:=f e (by simpa using q) i.1 d j;have s:yielded ops a.tmps e.on=bV v:=by
   unfold yielded;unfold JS at j;rw[j];show(match a.tmps[d]? with | some (.bool b)=>some b | _=>none)=_
   rw[m];cases v<;>rfl
  rw[s];rw[n]at h;cases v<;>simp_all [bV]
 cases h
theorem jl8{ops:Array Oper}{V:List Value}{a0 a:Act}{o:Oper}(b:∀e∈o.after,Region.binds .any e=true->∀d,JS ops e.on=some d->∃v,a.tmps[d]?=some v/\V[e.on]?=some v)(p:∀j,(∀k,k<ops.size->JS ops k≠some j)->a.tmps[j]?=a0.tmps[j]?):∀x u,yF ops V a0 o x=some u->a.eval x=u:=by
 intro x u h;cases x with
 | const v=>exact joN h
 | tmp j =>
  unfold yF at h;dsimp only at h;split at h
  ·rename_i e l;have c:=List.find?_some l
   have m:=List.mem_of_find?_eq_some l;rw[jpk]at c;obtain⟨v,n,i⟩:=b e (by simpa using m) c.1 j (by simpa using c.2);rw[h]at i;obtain rfl:=joN i;exact evT n
  split at h
  ·cases h
  rename_i s;refine evT ((p j fun k r q=>s ?_).trans h);rw[List.any_eq_true];exact⟨k,List.mem_range.2 r,by simp[q]⟩
 | global g=>cases h
 | func f=>cases h
theorem jmm{P:Program}{Q:Exit->Act->World->Prop}{ops:Array Oper}{V:List Value}{a0 a:Act}{o:Oper}{v:Value}{w:World}{K:Act->World->Prop}(h:jke ops V a0 o=some v)(f:∀x u,yF ops V a0 o x=some u->a.eval x=u)(p:K (a.put o.dst v) w):Oper.wp P o a w K Q:=by
 have d:(execOp a.eval o).run P w=.ok (.value v) w->Oper.wp P o a w K Q:=fun e=>by unfold Oper.wp;rw[e];exact p
 unfold jke at h;split at h
 ·rename_i x g;have e:=f x v h
  exact d (by simp only[execOp,g,e];simp[go_sem])
 ·rename_i x g;have e:=f x v h
  exact d (by simp only[execOp,g,e];simp[go_sem])
 ·rename_i c x y g;split at h
  ·rename_i b u z l m n;have i:=f c _ l
   have j:=f x _ m;have k:=f y _ n
   obtain rfl:=joN h;exact d (by simp only[execOp,g,i,j,k];cases b<;>simp[go_sem])
  cases h
 cases h
theorem wpAny_known{P:Program}{ops:Array Oper}{Q:Exit->Act->World->Prop}(L:List (Nat×Value)){a0:Act}{E:World}(z:joq ops a0.tmps.size=true)(hd:((List.range ops.size).map (JS ops)==L.map fun p=>some p.1)=true)
  (hs:jfw P Q ops (L.map (·.2)) a0 E ops.toList (L.map (·.2))) (hQ:∀w,Below E.heap.size E w->Q .normal {a0 with tmps:=L.foldl (fun u p=>u.setIfInBounds p.1 p.2) a0.tmps} w) :
  wpAny P .any ops Q ops.size (Array.replicate ops.size false) a0 E:=by
 have A:(List.range ops.size).map (JS ops)=L.map fun p=>some p.1:=by simpa using hd
 have D:ops.size=L.length:=by have:=congrArg List.length A;simpa using this
 have t:∀i p,L[i]?=some p->JS ops i=some p.1:=fun i p h=>by
  have m:i<ops.size:=by rw[D];exact(List.getElem?_eq_some_iff.1 h).1
  have b:=congrArg (fun l=>l[i]?) A;simp only[jpx,List.getElem?_range m,h,jq7]at b;exact joN b
 unfold joq at z;rw[jqn]at z;refine jea a0 E (JS ops) (fun i v _=>(L.map (·.2))[i]?=some v) (fun x y=>Below x.heap.size x y) (joL _ _) (fun x y h g=>h.trans (g.mono h.size)) (fun i v x y _ _ h=>h)
  (fun i o r=>by unfold JS;rw[r];rfl) ?inj ?dlt ?low ?step (fun w _=>joL _ _) ?fin
 case inj =>
  intro i k d m X b s;have h:=z i (List.mem_range.2 m)
  rw[jpk,b]at h;have c:=h.1
  simp only[jpk,jqn,List.mem_range]at c;have f:=c.2 k X
  rw[s]at f;have Z:k=i:=by simpa using f
  exact Z.symm
 case dlt =>
  intro i d m b;have h:=z i (List.mem_range.2 m)
  rw[jpk,b]at h;have c:=h.1
  simp only[jpk,decide_eq_true_eq]at c;exact c.1
 case low =>
  intro i o e r he J;have m:i<ops.size:=(Array.getElem?_eq_some_iff.1 r).1
  have h:=z i (List.mem_range.2 m);rw[jpk,r]at h;have c:=h.2
  simp only[jqn]at c;have f:=c e (by simpa using he)
  rw[J]at f;simpa using f
 case step =>
  intro i o a w r Y R n I;have U:ops.toList[i]?=some o:=by rw[jqF];exact r
  obtain⟨v,b,s⟩:=jfw.at hs U;have W:=jl8 (V:=L.map (·.2)) (a0:=a0) (o:=o) n R
  have O:JS ops i=o.dst:=by unfold JS;rw[r];rfl
  rcases s with ⟨c,rfl⟩|⟨c,f⟩
  ·exact .inr ⟨jaj c n,b⟩
  refine .inl ⟨jaj c n,fun K H => ?_⟩;rw[O]at H;rcases f with f|f
  ·exact jmm f W (H v w (joL _ _) b)
  exact f a w K I W (fun w' J=>H v w' J b)
 case fin =>
 intro a w N Y R hv I;rw[Yz (a:=a) (a0:=a0) L N Y (fun p G=>by
  obtain⟨i,m,e⟩:=List.getElem_of_mem G;have C:L[i]?=some p:=by rw[joM m,e]
  obtain⟨v,b,s⟩:=hv i p.1 (by omega) (t i p C);rw[jpx,C]at s;obtain rfl:p.2=v:=joN s;exact b) (fun j hj=>R j fun k X q=>hj (by
   obtain⟨p,G⟩:∃p,L[k]?=some p:=⟨_,joM (by omega)⟩
   have:=t k p G;rw[q]at this;obtain rfl:=joN this;exact jqQ (joW G)))]
 exact hQ w I
theorem stepO{P:Program}{Q:Exit->Act->World->Prop}{ops:Array Oper}{V:List Value}{a0:Act}{a:World}{o:Oper}(h:ZF ops V o=some false):Yc P Q ops V a0 a o undef:=.inl ⟨h,rfl⟩
theorem stepA{P:Program}{Q:Exit->Act->World->Prop}{ops:Array Oper}{V:List Value}{a0:Act}{b:World}{o:Oper}{v:Value}(h:ZF ops V o=some true)(a:jke ops V a0 o=some v):Yc P Q ops V a0 b o v:=.inr ⟨h,.inl a⟩
theorem jbY{P:Program}{Q:Exit->Act->World->Prop}{ops:Array Oper}{V:List Value}{a0:Act}{b:World}{o:Oper}{v:Value}(h:ZF ops V o=some true)(d:∀(a:Act) (w:World) (K:Act->World->Prop),Below b.heap.size b w->(∀x u,yF ops V a0 o x=some u->a.eval x=u)->(∀c,Below w.heap.size w c->K (a.put o.dst v) c)->Oper.wp P o a w K Q):Yc P Q ops V a0 b o v:=.inr ⟨h,.inr d⟩
section
variable {Q:Exit->Act->World->Prop} {ops:Array Oper} {V:List Value} {a0:Act} {w0:World} {o:Oper} {v:Value}
theorem callK{F:Nat}{x:Operand}{u:Value}{d:TypeId}(h:ZF ops V o=some true)(m:o.op=Op.call {callee:=Callee.value (Operand.func F),args:=#[x],argTypes:=#[d]})(hx:yF ops V a0 o x=some u)
  (f:∀args w,(callFunc F args).run prog w=.ok (.enter F args) w) (i:∀W,Below w0.heap.size w0 W->Calls prog F #[u] W fun e b=>e=.returned v/\Below W.heap.size W b):Yc prog Q ops V a0 w0 o v :=
 jbY h fun a w K k g j=>ZQ (T:=fun z b=>z=v/\Below w.heap.size w b) F m (g _ _ hx) f ((i w k).mono fun e b ⟨l,c⟩=>⟨v,l,rfl,c⟩) (fun z b n=>by obtain⟨rfl,c⟩:=n;exact j b c)
theorem loadK{x:Operand}{T:TypeId}{b i:Nat}(h:ZF ops V o=some true)(f:o.op=Op.load T x)(hx:yF ops V a0 o x=some (.pointer (some ⟨b,i,none⟩)))
  (hl:∀w,Below w0.heap.size w0 w->(Instr.loadAt T (.pointer (some ⟨b,i,none⟩))).run prog w=.ok v w):Yc prog Q ops V a0 w0 o v :=
 jbY h fun a w K e c d=>Jm (hl w e) f (c _ _ hx) (d w (joL _ _))
theorem fieldK{x:Operand}{T:TypeId}{k b i j:Nat}(h:ZF ops V o=some true)(f:o.op=Op.fieldAddr T x k)(hx:yF ops V a0 o x=some (.pointer (some ⟨b,i,none⟩)))(g:v=.pointer (some ⟨b,j,none⟩))
  (e:∀w:World,(Instr.fieldAt T (.pointer (some ⟨b,i,none⟩)) k).run prog w=.ok (.pointer (some ⟨b,j,none⟩)) w):Yc prog Q ops V a0 w0 o v:=by
 subst g;exact jbY h fun a w K l c d=>Gc (e w) f (c _ _ hx) (d w (joL _ _))
theorem neqIK{x y:Operand}{m n:Int}{b:Bool}(h:ZF ops V o=some true)(f:o.op=Op.binOp BinOp.neq 3 x y 3)(hx:yF ops V a0 o x=some (.int .i64 m))(g:yF ops V a0 o y=some (.int .i64 n))(e:(m != n)=b):Yc prog Q ops V a0 w0 o (.bool b) :=
 jbY h fun a w K i c d=>jly f (c _ _ hx) (c _ _ g) (by rw[e];exact d w (joL _ _))
theorem eqlIK{x y:Operand}{m n:Int}{b:Bool}(h:ZF ops V o=some true)(f:o.op=Op.binOp BinOp.eql 3 x y 3)(hx:yF ops V a0 o x=some (.int .i64 m))(g:yF ops V a0 o y=some (.int .i64 n))(e:(m==n)=b):Yc prog Q ops V a0 w0 o (.bool b) :=
 jbY h fun a w K i c d=>jlA f (c _ _ hx) (c _ _ g) (by rw[e];exact d w (joL _ _))
theorem eqlSK{x y:Operand}{m n:ByteArray}{b:Bool}(h:ZF ops V o=some true)(f:o.op=Op.binOp BinOp.eql 9 x y 9)(hx:yF ops V a0 o x=some (.string m))(g:yF ops V a0 o y=some (.string n))(e:(m.toList==n.toList)=b):Yc prog Q ops V a0 w0 o (.bool b) :=
 jbY h fun a w K i c d=>jlz f (c _ _ hx) (c _ _ g) (by rw[e];exact d w (joL _ _))
theorem binK{x y:Operand}{p:BinOp}{T U:TypeId}{u z:Value}(h:ZF ops V o=some true)(i:o.op=Op.binOp p T x y U)(hx:yF ops V a0 o x=some u)(f:yF ops V a0 o y=some z)
  (e:∀(b:Operand->Value) (w:World),b x=u->b y=z->(execOp b o).run prog w=.ok (.value v) w):Yc prog Q ops V a0 w0 o v :=
 jbY h fun a w K g c d=>JZ (e a.eval w (c _ _ hx) (c _ _ f)) (d w (joL _ _))
end
end Kn
end Go.Proofs.YtbapfpekklcicaaGreatDoor
