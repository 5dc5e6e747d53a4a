/- Texts put together:GW,GX,GK,GL,GM. -/
import Derived.Laws.EntriesVeiled
import Derived.Test.YtbapfpekklcicaaGreatDoorBbx33
set_option linter.unusedVariables false
set_option maxRecDepth 100000
set_option maxHeartbeats 16000000
namespace Go.Proofs.YtbapfpekklcicaaGreatDoor
open Go.RowKit Go.Shelf Tryz
abbrev jp9:=@Go.Ending.returned.injEq
abbrev jqo:=@Go.Value.tuple.injEq
abbrev jqC:=@Go.Value.agg.injEq
abbrev jqD:=@Go.Value.int.injEq
namespace Rp
open Bk
attribute [local go_sem] jn9
theorem jl2(ed:Ed)(b:Option Addr)(d c q:Nat)(id:Int)(w:World)(g:w.cell? ⟨q,0,none⟩=some (.int .i64 id))(hl:q<w.heap.size):
  Calls prog 114 #[.agg #[.int .i64 ed.kind,.int .i64 ed.id,.slice b d c],.pointer (some ⟨q,0,none⟩)] w fun e i=>e=.returned (.bool (tch id ed))/\Below w.heap.size w i:=by
 have a:Below w.heap.size w (w.alloc (.cells #[.int .i64 ed.kind,.int .i64 ed.id,.slice b d c] 75)):=(jnV _ _).alloc (jnT _) _;have h:(w.alloc (.cells #[.int .i64 ed.kind,.int .i64 ed.id,.slice b d c] 75)).cell? ⟨q,0,none⟩=some (.int .i64 id):=(a.cell (p:=⟨q,0,none⟩) hl).trans g
 by_cases f:ed.kind=3
 ·have e:tch id ed=false:=by unfold tch;rw[f];rfl
  rw[e,f];rw[f]at a;go_enter func114,ntmps114;go_wp2_with fail;go_ret;exact⟨rfl,a⟩
 go_enter func114,ntmps114;go_wp2_with fail;go_ret;exact⟨rfl,a⟩
def fT(q:Nat):Value:=.func (.func 114) #[] #[.pointer (some ⟨q,0,none⟩)]
def fB(q:Nat):Value:=.func (.func 116) #[] #[.pointer (some ⟨q,0,none⟩)]
theorem Yo{a:Type}{p:a->Bool}{l:List a}{i:Nat}{x:a}(h:l[i]?=some x):(l.take (i+1)).any p=((l.take i).any p || p x):=by rw[JZ h,List.any_append];simp
theorem jiQ(eds:List Ed)(v:Value)(q:Nat)(id:Int)(w:World)(t:EdV w v eds)(Y:eds.length<=1000000)(I:w.cell? ⟨q,0,none⟩=some (.int .i64 id))(hl:q<w.heap.size):
  Calls prog 162 #[v,fT q] w fun e y=>(∃r:Int,e=.returned (.int .i64 r)/\(eds.any (tch id)=decide (0<=r)) /\ -1<=r/\r<=1000000)/\Below w.heap.size w y:=by
 have N:=jnS t;have O:Hid (∀(W:World) (c:Ed) (h:Option Addr) (s j:Nat),Below w.heap.size w W->Calls prog 114 #[.agg #[.int .i64 c.kind,.int .i64 c.id,.slice h s j],.pointer (some ⟨q,0,none⟩)] W fun e y=>e=.returned (.bool (tch id c))/\Below W.heap.size W y):=fun W c h s j D =>
  jl2 c h s j q id W ((D.cell (p:=⟨q,0,none⟩) hl).trans I) (jod hl D.size)
 obtain⟨A,P,rfl,G,_⟩:=_root_.id t;unfold fT;clear t I;go_enter func162,ntmps162;go_wp2_with fail;go_loopw [8] (fun u wr=>∃i:Nat,i<=eds.length/\u=.int .i64 (i:Nat)/\(eds.take i).any (tch id)=false/\Below w.heap.size w wr) (fun u _=>eds.length-(intOf u).toNat)
 case atStart=>exact⟨0,jn3 _,rfl,rfl,jnV _ _⟩
 case round =>
 obtain⟨i,hi,rfl,d,g⟩:=hrel;by_cases l:i<eds.length
 ·obtain⟨c,f⟩:∃c,eds[i]?=some c:=⟨_,jnW l⟩
  obtain⟨A',C,Q,_,E⟩:=N.out.below g (jnT _);obtain⟨b,a7,fv,V,Z,c0,c1,c2,H⟩:=E i c f;injection Q with R e2 U;subst R;subst U;subst V;obtain⟨h,j,rfl⟩:=H.form;have T:=jnS (O.out wr c h c.fields.length j g)
  have K:=jnS (Yo (p:=tch id) f);have n:=jnS d
  have m:=jnS g;clear f H E d g;go_wp2_with fail;refine T.out.mono ?_;rintro e w1 ⟨rfl,o⟩;have z:=jnS (m.out.trans (o.mono m.out.size))
  have a:=K.out;rw[n.out,Bool.false_or]at a;cases J:tch id c with
  | true =>
   have k:Hid (eds.any (tch id)=true):=by show _=_;rw[J]at a;obtain⟨x,hx,X⟩:=List.any_eq_true.1 a;exact List.any_eq_true.2 ⟨x,joR hx,X⟩
   clear a o T;go_wp2_with fail;go_ret;exact⟨⟨i,rfl,by rw[k.out];simp,by omega,by omega⟩,z.out⟩
  | false =>
  rw[J]at a;have L:=jnS a
  clear a o T;go_wp2_with fail;go_roundw
  case rel=>exact⟨i+1,l,by go_num,L.out,z.out⟩
  case measure=>simp[intOf];omega
 have he:eds.take i=eds:=jol (by omega);rw[he]at d;have n:=jnS d
 have m:=jnS g;clear d g;go_wp2_with fail;go_ret;exact⟨⟨-1,rfl,by rw[n.out];rfl,by omega,by omega⟩,m.out⟩
theorem jiX(eds:List Ed)(v:Value)(q:Nat)(id:Int)(w:World)(b:EdV w v eds)(a:eds.length<=1000000)(f:w.cell? ⟨q,0,none⟩=some (.int .i64 id))(hl:q<w.heap.size):
  Calls prog 117 #[v,fT q] w fun e l=>e=.returned (.bool (eds.any (tch id)))/\Below w.heap.size w l:=by
 have c:=jnS (jiQ eds v q id w b a f hl);obtain⟨A,i,rfl,_,_⟩:=_root_.id b;unfold fT at *
 clear b f;go_enter func117,ntmps117;go_wp2_with fail;refine c.out.mono ?_;rintro e m ⟨⟨r,rfl,d,j,k⟩,h⟩;have g:=jnS d
 clear d c;go_wp2_with fail;go_ret;exact⟨by rw[g.out];rfl,h⟩
theorem jl1(eds:List Ed)(v:Value)(q r:Nat)(id:Int)(w:World)(b:EdV w v eds)(a:eds.length<=1000000)(d:w.cell? ⟨q,0,none⟩=some (.int .i64 id))(hl:q<w.heap.size)(i:w.cell? ⟨r,0,none⟩=some (fT q)):
  Calls prog 116 #[v,.pointer (some ⟨r,0,none⟩)] w fun e h=>e=.returned (.bool (eds.any (tch id)))/\Below w.heap.size w h:=by
 have c:=jnS (jiX eds v q id w b a d hl);obtain⟨A,g,rfl,_,_⟩:=_root_.id b;unfold fT at *
 clear b d;go_enter func116,ntmps116;go_wp2_with fail;refine c.out.mono ?_;rintro e j ⟨rfl,f⟩;clear c;go_wp2_with fail;go_ret;exact⟨rfl,f⟩
theorem jiP(c:List (List Ed))(v:Value)(q r:Nat)(id:Int)(w:World)(D:BtV w v c)(hn:c.length<=1000000)(f:∀b∈c,b.length<=51)(L:w.cell? ⟨q,0,none⟩=some (.int .i64 id))(hl:q<w.heap.size)(N:w.cell? ⟨r,0,none⟩=some (fT q))(C:r<w.heap.size):
  Calls prog 161 #[v,fB r] w fun e G=>(∃z:Int,e=.returned (.int .i64 z)/\(jcD id c=decide (0<=z)) /\ -1<=z/\z<=1000000)/\Below w.heap.size w G:=by
 have Q:=jnS D;have n:=jnS f
 have R:Hid (∀(W:World) (b:List Ed) (u:Value),Below w.heap.size w W->EdV W u b->b.length<=1000000->Calls prog 116 #[u,.pointer (some ⟨r,0,none⟩)] W fun e G=>e=.returned (.bool (b.any (tch id)))/\Below W.heap.size W G):=fun W b u t k h5 =>
  jl1 b u q r id W k h5 ((t.cell (p:=⟨q,0,none⟩) hl).trans L) (jod hl t.size) ((t.cell (p:=⟨r,0,none⟩) C).trans N)
 obtain⟨A,U,rfl,K,_⟩:=_root_.id D;unfold fB jcD;clear D L N f;go_enter func161,ntmps161;go_wp2_with fail;go_loopw [8] (fun E wr=>∃i:Nat,i<=c.length/\E=.int .i64 (i:Nat)/\(c.take i).any (fun b=>b.any (tch id))=false/\Below w.heap.size w wr) (fun E _=>c.length-(intOf E).toNat)
 case atStart=>exact⟨0,jn3 _,rfl,rfl,jnV _ _⟩
 case round =>
 obtain⟨i,hi,rfl,d,g⟩:=hrel;by_cases j:i<c.length
 ·obtain⟨x,hx⟩:∃x,c[i]?=some x:=⟨_,jnW j⟩
  obtain⟨A',I,V,_,J⟩:=Q.out.below g (jnT _);obtain⟨b,a8,u,Z,a7,c0,k⟩:=J i x hx;injection V with X e2 Y;subst X;subst Y;subst Z;obtain⟨ua,uc,rfl,_⟩:=_root_.id k;have T:=jnS (R.out wr x _ g k (by have:=n.out x (jn7 hx);omega))
  have m:=jnS (Yo (p:=fun b:List Ed=>b.any (tch id)) hx);have o:=jnS d
  have l:=jnS g;clear hx k J d g;go_wp2_with fail;refine T.out.mono ?_;rintro e w1 ⟨rfl,s⟩;have H:=jnS (l.out.trans (s.mono l.out.size))
  have a:=m.out;rw[o.out,Bool.false_or]at a;cases O:x.any (tch id) with
  | true =>
   have h:Hid (c.any (fun b=>b.any (tch id))=true):=by show _=_;rw[O]at a;obtain⟨y,hy,h1⟩:=List.any_eq_true.1 a;exact List.any_eq_true.2 ⟨y,joR hy,h1⟩
   clear a s T m;go_wp2_with fail;go_ret;exact⟨⟨i,rfl,by rw[h.out];simp,by omega,by omega⟩,H.out⟩
  | false =>
  rw[O]at a;have P:=jnS a
  clear a s T m;go_wp2_with fail;go_roundw
  case rel=>exact⟨i+1,j,by go_num,P.out,H.out⟩
  case measure=>simp[intOf];omega
 have he:c.take i=c:=jol (by omega);rw[he]at d;have o:=jnS d
 have l:=jnS g;clear d g;go_wp2_with fail;go_ret;exact⟨⟨-1,rfl,by rw[o.out];rfl,by omega,by omega⟩,l.out⟩
theorem jiW(c:List (List Ed))(v:Value)(q r:Nat)(id:Int)(w:World)(f:BtV w v c)(n:c.length<=1000000)(a:∀b∈c,b.length<=51)(i:w.cell? ⟨q,0,none⟩=some (.int .i64 id))(hl:q<w.heap.size)(j:w.cell? ⟨r,0,none⟩=some (fT q))(d:r<w.heap.size):
  Calls prog 115 #[v,fB r] w fun e s=>e=.returned (.bool (jcD id c))/\Below w.heap.size w s:=by
 have g:=jnS (jiP c v q r id w f n a i hl j d);obtain⟨A,m,rfl,_,_⟩:=_root_.id f;unfold fB at *
 clear f i j a;go_enter func115,ntmps115;go_wp2_with fail;refine g.out.mono ?_;rintro e t ⟨⟨z,rfl,h,o,p⟩,l⟩;have k:=jnS h
 clear h g;go_wp2_with fail;go_ret;exact⟨by rw[k.out];rfl,l⟩
theorem jbE(f:List (List Ed))(v:Value)(id:Int)(w:World)(k:BtV w v f)(r:f.length<=1000000)(c:∀b∈f,b.length<=51):
  Calls prog 60 #[v,.int .i64 id] w fun e t=>e=.returned (.bool (jcD id f))/\Below w.heap.size w t:=by
 obtain⟨g,a⟩:∃z,(w.alloc (.cells #[.int .i64 id] 3)).alloc (.cells #[fT w.heap.size] 184)=z:=⟨_,rfl⟩
 have i:Below w.heap.size w g:=by rw[<- a];exact((jnV _ _).alloc (jnT _) _).alloc (by simp) _
 have s:g.heap.size=w.heap.size+2:=by rw[<- a];simp
 have l:jd g w.heap.size 3 #[.int .i64 id]:=by rw[<- a];exact(jd.new _ _ _).alloc _
 have m:jd g (w.heap.size+1) 184 #[fT w.heap.size]:=by
  rw[<- a];have:=jd.new (w.alloc (.cells #[.int .i64 id] 3)) 184 #[fT w.heap.size]
  simp only[joe]at this;exact this
 have n:=jnS (jiW f v w.heap.size (w.heap.size+1) id g (k.below i (jnT _)) r c ((l.cell 0).trans rfl) (by omega) ((m.cell 0).trans rfl) (by omega));obtain⟨A,p,rfl,_,_⟩:=_root_.id k;have d:=jnS i
 have h:=jnS a;have j:((w.alloc (.cells #[.int .i64 id] 3)).alloc (.cells #[Value.nilFunc] 184)).cell? ⟨w.heap.size+1,0,none⟩=some .nilFunc:=by have:=jd.new (w.alloc (.cells #[.int .i64 id] 3)) 184 #[Value.nilFunc];simp only[joe]at this;rw[this.cell];rfl
 have q:((w.alloc (.cells #[.int .i64 id] 3)).alloc (.cells #[Value.nilFunc] 184)).frozen? ⟨w.heap.size+1,0,none⟩=false:=by have:=jd.new (w.alloc (.cells #[.int .i64 id] 3)) 184 #[Value.nilFunc];simp only[joe]at this;exact this.frozen 0
 unfold fB fT at *
 clear k c i l m a;go_enter func60,ntmps60;go_wp2_with fail;rw[h.out];refine n.out.mono ?_;rintro e u ⟨rfl,b3⟩;have o:=jnS (d.out.trans (b3.mono d.out.size))
 clear n b3;go_wp2_with fail;go_ret;exact⟨rfl,o.out⟩
theorem jhu(a:Nat)(a0 c:Value)(first id:Int)(w:World)(C:jd w a 83 #[a0,.int .i64 first,c]):
  Calls prog 59 #[.pointer (some ⟨a,0,none⟩),.int .i64 id] w fun e d=>e=.returned (.bool (decide (1<=id)&&decide (id<first)))/\d=w:=by
 have b:=C.cell 1;simp only[jn0,jnZ,jnX]at b;clear C;by_cases h:1<=id
 ·have e:decide (1<=id)=true:=by simpa using h
  rw[e,jpD];go_enter func59,ntmps59;go_wp2_with fail;go_ret;exact⟨rfl,rfl⟩
 have e:decide (1<=id)=false:=by simpa using h
 rw[e,Bool.false_and];go_enter func59,ntmps59;go_wp2_with fail;go_ret;exact⟨rfl,rfl⟩
def jdK(s:List UInt8)(bs:List (List Ed))(id:Int):Prop:=∃its k,jv s=.ok its/\qq (jQ its) bs=some k/\1<=id/\id<(jQ its).next/\jcD id bs=false
theorem Gr(t:Int)(s:List UInt8)(f:List (List Ed))(A:Option Addr)(c:Nat)(Y:Option Addr)(en Z:Nat)(tl:ByteArray)(id:Int)(w:World)(hs:s.length+xL f<=5000)(hl:f.length<=100000)(hv:BtV w (.slice A f.length c) f)(hb:jfd f)(hg:ErrT w):
  Calls prog 28 #[JK t s A f.length c Y en Z tl,.int .i64 id] w fun e w'=>(∃b,e=.returned (.bool b)/\(b=true↔jdK s f id))/\Below w.heap.size w w':=by
 obtain⟨w1,j⟩:∃z,w.alloc (.cells #[.int .i64 t,.string (B s),.slice A f.length c,.slice Y en Z,.string tl] 28)=z:=⟨_,rfl⟩
 have O:Below w.heap.size w w1:=by rw[<- j];exact(jnV _ w).alloc (jnT _) _
 have N:jd w1 w.heap.size 28 #[.int .i64 t,.string (B s),.slice A f.length c,.slice Y en Z,.string tl]:=by rw[<- j];exact jd.new _ _ _
 have PA:=jnS (Yc s f _ w1 hs hl (hv.below O (jnT _)) hb (hg.below O (jnT _)));have TC:Hid (∀W,Below w.heap.size w W->Calls prog 60 #[.slice A f.length c,.int .i64 id] W fun e w'=>e=.returned (.bool (jcD id f))/\Below W.heap.size W w'):=fun W hW =>
  jbE f _ id W (hv.below hW (jnT _)) (by omega) (fun b h=>(hb b h).1)
 have k1:=N.cell 1;have k2:=N.cell 2
 simp only[jn0,jnZ,jnX]at k1 k2;have G:=jnS O
 have U:=jnS j;have H:=jnS N
 clear hv hb hg O N j;unfold JK;go_enter func28,ntmps28;go_wp2_with fail;rw[U.out];refine PA.out.mono ?_;rintro e P ⟨X,C⟩;have x:=jnS (G.out.trans (X.mono G.out.size))
 have D:=jnS (jb H.out X H.out.lt);clear PA X;rcases C with ⟨a,n,u,m,rfl,hf⟩|⟨d,i,u,m,hR,rfl,hf⟩|⟨d,k,lb,ev,ps,gv,us,m,K,rfl,_,hG⟩
 ·obtain⟨q,_,rfl,_⟩:=hf;have y:=jnS m
  clear m;unfold jhT;have Q:=jnS (x.out.alloc x.out.size (.cells #[.pointer none,.int .i64 0,.slice none 0 0] 83))
  go_wp2_with fail;go_ret;refine⟨⟨false,rfl,⟨fun h=>(by cases h),fun⟨d,_,h,_⟩=>by rw[y.out]at h;cases h⟩⟩,Q.out⟩
 ·obtain⟨q,_,rfl,_⟩:=hf;have y:=jnS m
  have HR:=jnS hR;clear m hR;unfold jhT;have Q:=jnS (x.out.alloc x.out.size (.cells #[.pointer none,.int .i64 0,.slice none 0 0] 83))
  go_wp2_with fail;go_ret;refine⟨⟨false,rfl,⟨fun h=>(by cases h),fun⟨o,_,h,C,_⟩=>by
   rw[y.out]at h;cases h;exact(HR.out.not C).elim⟩⟩,Q.out⟩
 obtain⟨ga,gc,rfl,_⟩:=je hG.row;have y:=jnS m
 have HL:=jnS K;clear hG;obtain⟨w3,l⟩:∃z,P.alloc (.cells #[ptr lb,.int .i64 (jQ d).next,.slice ga (Xo (jQ d) f).length gc] 83)=z:=⟨_,rfl⟩
 have r:Below P.heap.size P w3:=by rw[<- l];exact(jnV _ _).alloc (jnT _) _
 have C3:jd w3 P.heap.size 83 #[ptr lb,.int .i64 (jQ d).next,.slice ga (Xo (jQ d) f).length gc]:=by rw[<- l];exact jd.new _ _ _
 have R:=jnS (jhu _ _ _ _ id w3 C3);have E:=jb D.out r D.out.lt
 have L:=jnS (x.out.trans (r.mono x.out.size));have l2:=E.cell 2
 simp only[jn0,jnZ,jnX]at l2;have V:=jnS l
 clear m K r C3 E l;unfold ptr at *
 generalize J:(jQ d).next=nx at *
 have I:=jnS J;clear J;go_wp2_with fail;rw[V.out];refine R.out.mono ?_;rintro e w4 ⟨rfl,rfl⟩;cases g:decide (1<=id)&&decide (id<nx) with
 | false =>
  have p:=jnS g;clear g R;go_wp2_with fail;go_ret;refine⟨⟨false,rfl,⟨fun h=>(by cases h),fun⟨o,_,h,_,h1,C,_⟩ => ?_⟩⟩,L.out⟩;rw[y.out]at h;cases h;have:=p.out
  rw[I.out]at C;simp[h1,C]at this
 | true =>
 have p:=jnS g;clear g R;have T3:=jnS (TC.out w4 L.out)
 clear TC;go_wp2_with fail;refine T3.out.mono ?_;rintro e w5 ⟨rfl,b5⟩;have B5:=jnS (L.out.trans (b5.mono L.out.size))
 clear b5 T3;go_wp2_with fail;go_ret;refine⟨⟨_,rfl,?_⟩,B5.out⟩;have v:=p.out
 simp only[joC,decide_eq_true_eq]at v;constructor
 ·intro h;refine⟨d,k,y.out,HL.out,v.1,by rw[I.out];exact v.2,?_⟩;simpa using h
 rintro⟨o,k',_,_,_,_,h⟩;simp[h]
end Rp
namespace Rp
attribute [local go_sem] jn9
theorem jc0:∀(a:List (List Ed)) (l k:LS),OkL l->qq l a=some k->OkL k/\k.es.length<=l.es.length+xL a/\k.next<=l.next+(xL a:Nat)
 | [],l,k,h,e=>by cases e;exact⟨h,jnT _,by show l.next<=l.next+((0:Nat):Int);omega⟩
 | x::r,l,k,h,e=>by
  have b:(if (doB l x).2=0 then qq (zE l x) r else none)=some k:=e;split at b
  ·obtain⟨c,f,g⟩:=jc0 r _ k (h.on x) b;obtain⟨i,_,j⟩:=jj7 l x;have d:xL (x::r)=x.length+xL r:=rfl
   exact⟨c,by omega,by omega⟩
  cases b
def Gw(w w':World)(s:List UInt8)(bs:List (List Ed))(e:Ending):Prop:=Below w.heap.size w w' /\
  ((∃a n v nx,jv s=.error (a,n)/\e=.returned (.tuple #[.agg #[.slice none 0 0,.int .i64 nx],.slice none 0 0,.int .i64 (a:Nat),.int .i64 (n:Nat)])/\v=nx) \/
   (∃its i xa xn xc nx,jv s=.ok its/\vj (jQ its) bs i/\e=.returned (.tuple #[.agg #[.slice xa xn xc,.int .i64 nx],.slice none 0 0,.int .i64 (i:Nat),.int .i64 10])) \/
   (∃its k v qs gv us,jv s=.ok its/\qq (jQ its) bs=some k/\e=.returned (.tuple #[.agg #[v,.int .i64 k.next],gv,.int .i64 (-9),.int .i64 0])/\zN w' v qs/\qs.map Prod.fst=k.es/\XQ w.heap.size w' gv (Xo (jQ its) bs) us))
def DoQ(N:Nat)(wr wx:World)(mb:Nat)(l:LS)(eds:List Ed)(d f:Value):Prop:=Below wr.heap.size wr wx/\wr.heap.size<=mb /\
  (((doB l eds).2≠0/\d=.slice none 0 0/\f=.int .i64 ((doB l eds).2:Nat)) \/
   ((doB l eds).2=0/\f=.int .i64 0/\∃v qs,jd wx mb 37 #[v,.int .i64 (zE l eds).next]/\zN wx v qs/\qs.map Prod.fst=(zE l eds).es/\(∀p∈qs,p.1.1.fields≠[]->∀b,p.2.ownBlock=some b->b<N)/\wx.ownsRow wr.heap.size 3 1 d (za l eds).length ((za l eds).map Kb)))
theorem doA{N:Nat}{wr m b:World}{l:LS}{eds:List Ed}{v d:Value}{a f:Int}{j:Int}(c:m=wr.drew)(h:Jv N m b l eds (.returned (.tuple #[.agg #[v,.int .i64 j],d,.int .i64 a,.int .i64 f]))):
  DoQ N wr (b.alloc (.cells #[v,.int .i64 j] 37)) b.heap.size l eds d (.int .i64 f):=by
 subst c;have i:Below b.heap.size b (b.alloc (.cells #[v,.int .i64 j] 37)):=(jnV _ _).alloc (jnT _) _
 obtain⟨n,h⟩:=h;have g:Below wr.heap.size wr b:=((jnV wr.heap.size wr).drew).trans n
 refine⟨g.trans (i.mono g.size),g.size,?_⟩;rcases h with ⟨c,s,k,e,_⟩|⟨c,_,s,k,t,e,o,p,q,_,r⟩
 ·simp only[jp9,jqo,Array.mk.injEq,jpO,jqC,jqD]at e;obtain⟨_,rfl,_,⟨_,rfl⟩,_⟩:=e;exact .inl ⟨c,rfl,rfl⟩
 simp only[jp9,jqo,Array.mk.injEq,jpO,jqC,jqD]at e;obtain⟨⟨rfl,⟨_,rfl⟩,_⟩,rfl,_,⟨_,rfl⟩,_⟩:=e;exact .inr ⟨by rw[c],rfl,_,k,jd.new _ _ _,o.below i (jnT _),p,q,jO r i (jnT _)⟩
theorem doC{N:Nat}{wr c:World}{l:LS}{eds:List Ed}{v d:Value}{a f:Int}{i:Int}(D:N<=wr.heap.size)(h:Jv N (wr.alloc (.cells #[.slice none 0 0,.int .i64 0] 37)).drew c l eds (.returned (.tuple #[.agg #[v,.int .i64 i],d,.int .i64 a,.int .i64 f]))):
  DoQ N wr ((c.setCell ⟨wr.heap.size,0,none⟩ v).setCell ⟨wr.heap.size,1,none⟩ (.int .i64 i)) wr.heap.size l eds d (.int .i64 f):=by
 have n:(wr.alloc (.cells #[.slice none 0 0,.int .i64 0] 37)).drew.heap.size=wr.heap.size+1:=by show(wr.alloc _).heap.size=_;simp
 obtain⟨j,h⟩:=h;rw[n]at j h;have y:Below wr.heap.size wr c:=(((jnV wr.heap.size wr).alloc (jnT _) _).drew).trans (j.mono (by omega))
 have b:jd c wr.heap.size 37 #[.slice none 0 0,.int .i64 0]:=jb (show jd (wr.alloc (.cells #[.slice none 0 0,.int .i64 0] 37)).drew wr.heap.size 37 _ from(jd.new _ _ _).drew) j (by omega);have g:=(b.set 0 v).set 1 (.int .i64 i)
 rw[Vo]at g;have u:jI (· = wr.heap.size) c ((c.setCell ⟨wr.heap.size,0,none⟩ v).setCell ⟨wr.heap.size,1,none⟩ (.int .i64 i)):=((jI.refl (· = wr.heap.size) c).cellS 0 _).cellS 1 _
 refine⟨(y.setCell (p:=⟨wr.heap.size,0,none⟩) (jnT _) _).setCell (p:=⟨wr.heap.size,1,none⟩) (jnT _) _,jnT _,?_⟩;rcases h with ⟨k,A,w,e,_⟩|⟨k,_,A,w,C,e,o,x,s,_,t⟩
 ·simp only[jp9,jqo,Array.mk.injEq,jpO,jqC,jqD]at e;obtain⟨_,rfl,_,⟨_,rfl⟩,_⟩:=e;exact .inl ⟨k,rfl,rfl⟩
 simp only[jp9,jqo,Array.mk.injEq,jpO,jqC,jqD]at e;obtain⟨⟨rfl,⟨_,rfl⟩,_⟩,rfl,_,⟨_,rfl⟩,_⟩:=e;refine .inr ⟨by rw[k],rfl,_,w,g,o.only u (fun r e q=>jh o.row b (by decide) (by rw[e,q])) (fun p z m r e q=>by have:=s p z m r e;omega),x,s,?_⟩;exact jE (jK t u (fun r e q=>by have:=(t.lt r e).1;omega)) (by omega)
theorem jng(a:World)(b:Nat)(T:TypeId)(x:Value)(c:a.heap.size=b):∀(j:Nat) (u:Value),[x][j]?=some u->(a.alloc (.cells #[x] T)).cell? ((⟨b,0,none⟩:Addr).add j)=some u:=by subst c;exact jf2 a T x
theorem jg7{N:Nat}{w w':World}{l:LS}{eds:List Ed}{e:Ending}(h:Jv N w w' l eds e):∃c o d m g j i a f,e=.returned (.tuple #[.agg #[.slice c o d,.int .i64 m],.slice g j i,.int .i64 a,.int .i64 f]):=by
 obtain⟨_,⟨_,v,n,rfl,b⟩|⟨_,_,v,n,r,rfl,b,_,_,_,k⟩⟩:=h
 ·obtain⟨c,d,rfl,_⟩:=b.empty;exact⟨_,_,_,_,_,_,_,_,_,rfl⟩
 obtain⟨c,d,rfl,_⟩:=b.empty;obtain⟨p,q,rfl,_⟩:=je k;exact⟨_,_,_,_,_,_,_,_,_,rfl⟩
theorem ZG(ae:Int)(s:List UInt8)(y:List (List Ed))(A:Option Addr)(c:Nat)(ea:Option Addr)(en ec:Nat)(tl:ByteArray)(n:Nat)(hn:n<=y.length)(w:World)(hs:s.length+xL y<=5000)(hl:y.length<=100000)(hv:BtV w (.slice A y.length c) y)(N:jfd y):
  Calls prog 10 #[JK ae s A y.length c ea en ec tl,.int .i64 (n:Nat)] w fun e w'=>Gw w w' s (y.take n) e:=by
 obtain⟨i2,bE,bz,bA,bB⟩:=info_parts jgt;obtain⟨w2,K⟩:∃z,(w.alloc (.cells #[.int .i64 ae,.string (B s),.slice A y.length c,.slice ea en ec,.string tl] 25)).alloc (.cells #[.slice none 0 0,.int .i64 0] 37)=z:=⟨_,rfl⟩
 have b2:Below w.heap.size w w2:=by rw[<- K];exact((jnV _ w).alloc (jnT _) _).alloc (by simp) _
 have bP:w2.heap.size=w.heap.size+2:=by rw[<- K];simp
 have CB:jd w2 w.heap.size 25 #[.int .i64 ae,.string (B s),.slice A y.length c,.slice ea en ec,.string tl]:=by rw[<- K];exact(jd.new _ _ _).alloc _
 have CR:jd w2 (w.heap.size+1) 37 #[.slice none 0 0,.int .i64 0]:=by
  rw[<- K];have:=jd.new (w.alloc (.cells #[.int .i64 ae,.string (B s),.slice A y.length c,.slice ea en ec,.string tl] 25)) 37 #[.slice none 0 0,.int .i64 0]
  simp only[joe]at this;exact this
 have RO:=jd4 (B s) (by rw[jg];omega) w2;rw[jj]at RO;have aq:=jnS RO
 have HV:=jnS hv;have aX:=jnS N
 have aC:=jnS b2;have aE:=jnS CB
 have aF:=jnS CR;have bo:=jnS K
 have k1:=CB.cell 1;simp only[jn0,jnZ,jnX]at k1;rw[<- K]at k1;clear RO hv N b2 CB CR K;unfold JK;go_enter func10,ntmps10;go_wp2_with fail;rw[bo.out];refine aq.out.mono ?_;rintro e l ⟨b3,h3⟩;have B3:=jnS (aC.out.trans (b3.mono aC.out.size))
 have bQ:=b3.size;have aB:=jnS (jb aE.out b3 aE.out.lt)
 have D:=jnS (jb aF.out b3 aF.out.lt);have r0:∀o,(l.alloc o).cell? ⟨w.heap.size+1,0,none⟩=some (.slice none 0 0):=fun o=>((D.out.alloc o).cell 0).trans rfl
 have r1:∀o,(l.alloc o).cell? ⟨w.heap.size+1,1,none⟩=some (.int .i64 0):=fun o=>((D.out.alloc o).cell 1).trans rfl;have s0:∀o,(l.alloc o).frozen? ⟨w.heap.size+1,0,none⟩=false:=fun o=>(D.out.alloc o).frozen 0
 have s1:∀o,(l.alloc o).frozen? ⟨w.heap.size+1,1,none⟩=false:=fun o=>(D.out.alloc o).frozen 1;clear b3 k1;cases H:jv s with
 | error an =>
  obtain⟨a,m⟩:=an;rw[H]at h3;subst h3;have aQ:=(ZI H).1
  have qn:(((m:Nat):Int)==0)=false:=by simpa using aQ
  have HP:=jnS H;have R:=((D.out.alloc (.cells #[.slice none 0 0,.int .i64 0] 37)).set 0 (.slice none 0 0)).set 1 (.int .i64 0)
  rw[Vo]at R;have P:=jnS R
  have BE:Hid (Below w.heap.size w (((l.alloc (.cells #[.slice none 0 0,.int .i64 0] 37)).setCell ⟨w.heap.size+1,0,none⟩ (.slice none 0 0)).setCell ⟨w.heap.size+1,1,none⟩ (.int .i64 0))) :=
   ((B3.out.alloc B3.out.size _).setCell (p:=⟨w.heap.size+1,0,none⟩) (by show w.heap.size<=w.heap.size+1;omega) _).setCell (p:=⟨w.heap.size+1,1,none⟩) (by show w.heap.size<=w.heap.size+1;omega) _
  clear R H aQ aq;go_wp2_with fail;refine bodyPost_ret (JR rfl _ _ (w.heap.size+1) _ rfl P.out rfl) rfl ?_;exact⟨BE.out,.inl ⟨a,m,_,_,HP.out,rfl,rfl⟩⟩
 | ok C =>
 rw[H]at h3;obtain⟨v,qs,rfl,hq,I,_,X⟩:=h3;obtain⟨va,vc,rfl,_⟩:=hq.empty;have HP:=jnS H
 have aJ:=jb9 H;have bJ:(jQ C).es.length<=s.length/\(jQ C).next<=(s.length:Int)+1:=by
  have h1:=vt H;have h2:(jQ C).es.length=C.length:=xv 1 C
  have h3:=(yP 1 C).2;have h4:(jQ C).next=jB 1 C:=rfl
  omega
 generalize ax:jQ C=Z at *
 obtain⟨w4,ag⟩:∃z,l.alloc (.cells #[.slice va qs.length vc,.int .i64 Z.next] 37)=z:=⟨_,rfl⟩
 have ar:Below l.heap.size l w4:=by rw[<- ag];exact(jnV _ _).alloc (jnT _) _
 have C4:jd w4 l.heap.size 37 #[.slice va qs.length vc,.int .i64 Z.next]:=by rw[<- ag];exact jd.new _ _ _
 have aD:=jnS ar;have aZ:=jnS C4
 have bi:=jnS (hq.below ar (jnT _));have bm:=jnS (show ∀p∈qs,p.1.1.fields≠[]->∀b,p.2.ownBlock=some b->b<l.heap.size from fun p H G b e=>(hq.each p H).lt G b e)
 have bu:=jnS ag;have bg:=jnS aJ
 have bj:=jnS I;clear ar C4 hq X ag H aq aJ I;go_wp2_with fail;rw[bu.out];go_loopw [11,12] (fun gx iv wr=>∃(i:Nat) (k:LS) (vk:Value) (L:List Pr) (us:List Value),i<=n/\iv=.int .i64 (i:Nat)/\qq Z (y.take i)=some k/\Below l.heap.size l wr/\jd wr l.heap.size 37 #[vk,.int .i64 k.next]/\zN wr vk L/\L.map Prod.fst=k.es/\(∀p∈L,p.1.1.fields≠[]->∀b,p.2.ownBlock=some b->b<l.heap.size)/\XQ l.heap.size wr gx (Xo Z (y.take i)) us) (fun _ iv _=>n-(intOf iv).toNat)
 case atStart=>exact⟨0,Z,_,qs,[],jn3 _,rfl,rfl,aD.out,aZ.out,bi.out,bj.out,bm.out,XQ.nil _ _⟩
 case round =>
 obtain⟨i,k,vk,L,us,hi,rfl,V,N,hC,J,I,X,hG⟩:=hrel;obtain⟨ga,gc,rfl,_⟩:=je hG.row;obtain⟨ka,kc,rfl,_⟩:=J.empty;obtain⟨aA,aT,aU⟩:=jc0 _ _ _ bg.out V;have bO:=Yw y i
 by_cases aP:i<n
 ·obtain⟨x,hx⟩:∃x,y[i]?=some x:=⟨_,jnW (by omega)⟩
  have aR:=HV.out.below B3.out (jnT _);obtain⟨A',bH,e',_,hc⟩:=_root_.id aR;obtain⟨g,a7,u,eA,aN,cg,hu⟩:=hc i x hx;injection e' with e1 e2 e3;subst e1;subst e3;subst eA;obtain⟨ua,uc,rfl,_⟩:=_root_.id hu;obtain⟨bG,xf,xs⟩:=aX.out x (jn7 hx);have aa:Hid (∀W,Below wr.heap.size wr W->Calls prog 36 #[.agg #[.slice ka L.length kc,.int .i64 k.next],.slice ua x.length uc] W fun e w'=>Jv l.heap.size W w' k x e):=fun W hW =>
   jfM L _ _ k x l W (N.trans (hW.mono N.size)) (J.below hW (jnT _)) X I aA (by omega) (by omega) hu bG xf
  have ak:=jb aB.out N aB.out.lt;have av:=(N.cell (p:=⟨g,a7+i,none⟩) aN).trans cg
  have aO:g<wr.heap.size:=jod aN N.size;have c0:=av
  have aK:∀o,(wr.alloc o).cell? ⟨g,a7+i,none⟩=some (.slice ua x.length uc):=fun o=>by rw[jpr _ _ ⟨g,a7+i,none⟩ aO];exact av
  have d0:wr.cell? ⟨l.heap.size,0,none⟩=some (.slice ka L.length kc):=by rw[hC.cell];rfl
  have d1:wr.cell? ⟨l.heap.size,1,none⟩=some (.int .i64 k.next):=by rw[hC.cell];rfl
  have aL:∀o,(wr.alloc o).cell? ⟨l.heap.size,0,none⟩=some (.slice ka L.length kc):=fun o=>by rw[(hC.alloc o).cell];rfl
  have aM:∀o,(wr.alloc o).cell? ⟨l.heap.size,1,none⟩=some (.int .i64 k.next):=fun o=>by rw[(hC.alloc o).cell];rfl
  have p2:wr.cell? ⟨w.heap.size,2,none⟩=some (.slice (some ⟨g,a7,none⟩) y.length c):=by rw[ak.cell];rfl
  have aV:∀o,(wr.alloc o).cell? ⟨w.heap.size,2,none⟩=some (.slice (some ⟨g,a7,none⟩) y.length c):=fun o=>by rw[(ak.alloc o).cell];rfl
  have DR:Hid (Below wr.heap.size wr wr.drew):=(jnV _ _).drew;have AR:Hid (Below wr.heap.size wr (wr.alloc (.cells #[.slice none 0 0,.int .i64 0] 37)).drew):=((jnV _ _).alloc (jnT _) _).drew
  have a8:=jnS (show jd (wr.alloc (.cells #[.slice none 0 0,.int .i64 0] 37)).drew wr.heap.size 37 #[.slice none 0 0,.int .i64 0] from(jd.new _ _ _).drew);have HX:=jnS hx
  have Q:=jnS V;have aY:=jnS N
  have ap:=jnS hC;have be:=jnS hG
  have aw:=N.size;have bM:(i:Int)<(y.length:Int):=by omega
  have bI:(Xo Z (y.take i)).length<=100000:=by rw[jb5,jn2];omega
  clear V N hC J I X hG hx aR hc cg hu xf xs ak av aA aT aU;generalize bC:Xo Z (y.take i)=gs at *
  go_upto_region 8 with fail;go_cut [13,14,15,16] (fun c d e f wx=>∃mb z,c=.pointer (some ⟨mb,0,none⟩)/\e=.int .i64 z/\DoQ l.heap.size wr wx mb k x d f)
  case first =>
   go_region_law (go_simp;go_at_call 36;first
    | (refine(aa.out _ DR.out).mono ?_;rintro e w5 h5;obtain⟨xa,xn,xc,nx,da,dn,dc,az,fz,rfl⟩:=jg7 h5;have H5:=jnS h5;clear h5)
    | (refine(aa.out _ AR.out).mono ?_;rintro e w5 h5;obtain⟨xa,xn,xc,nx,da,dn,dc,az,fz,rfl⟩:=jg7 h5;have kk:=jb a8.out h5.1 a8.out.lt;have t0:=kk.cell 0;have t1:=kk.cell 1;have bR:=kk.frozen 0;have bT:=kk.frozen 1;simp only[jn0,jnZ,jnX]at t0 t1;have H5:=jnS h5;clear h5 kk))
   all_goals (try go_wp2_with fail)
   all_goals go_meet
   all_goals first
    | exact⟨_,_,rfl,rfl,doA rfl H5.out⟩
    | exact⟨_,_,rfl,rfl,doC aw H5.out⟩
  case rest =>
  obtain⟨mb,z,rfl,rfl,bD,lD,hD⟩:=hcut;have am:=jnS (aY.out.trans (bD.mono aw))
  have Cx:=jb ap.out bD ap.out.lt;have t:=jb D.out am.out D.out.lt
  have Gx:=be.out.below bD (jnT _);have bN:=Cx.lt
  have n0:wc.cell? ⟨l.heap.size,0,none⟩=some (.slice ka L.length kc):=by rw[Cx.cell];rfl
  have n1:wc.cell? ⟨l.heap.size,1,none⟩=some (.int .i64 k.next):=by rw[Cx.cell];rfl
  rcases hD with ⟨h0,rfl,rfl⟩|⟨h0,rfl,v',E,ay,af,ai,Y,O⟩
  ·have G:(((doB k x).2:Nat):Int)≠0:=by omega
   have qn:((((doB k x).2:Nat):Int)==0)=false:=by simpa using h0
   have R:=(t.set 0 (.slice ka L.length kc)).set 1 (.int .i64 k.next);rw[Vo]at R;have P:=jnS R
   have BE:Hid (Below w.heap.size w ((wc.setCell ⟨w.heap.size+1,0,none⟩ (.slice ka L.length kc)).setCell ⟨w.heap.size+1,1,none⟩ (.int .i64 k.next))) :=
    ((B3.out.trans (am.out.mono (by omega))).setCell (p:=⟨w.heap.size+1,0,none⟩) (by show w.heap.size<=w.heap.size+1;omega) _).setCell (p:=⟨w.heap.size+1,1,none⟩) (by show w.heap.size<=w.heap.size+1;omega) _
   have RF:=jnS (show vj Z (y.take n) i from⟨k,x,by rw[jql,jqf (by omega)];exact Q.out,by rw[joH,if_pos aP];exact HX.out,h0⟩);have e0:=t.cell 0
   have e1:=t.cell 1;have f0:=t.frozen 0
   have f1:=t.frozen 1;simp only[jn0,jnZ,jnX]at e0 e1;clear bD Cx t Gx R aa c0 aK d0 d1 aL aM p2 aV a8 h0;generalize (doB k x).2=dz at *
   go_wp2_with fail;refine bodyPost_ret (JR rfl _ _ (w.heap.size+1) _ rfl P.out rfl) rfl ?_;exact⟨BE.out,.inr (.inl ⟨C,i,_,_,_,_,HP.out,by rw[ax];exact RF.out,rfl⟩)⟩
  obtain⟨xa,xc,rfl,_⟩:=af.empty;obtain⟨da,dc,rfl,_⟩:=je O;have m0:wc.cell? ⟨mb,0,none⟩=some (.slice xa E.length xc):=by rw[ay.cell];rfl
  have m1:wc.cell? ⟨mb,1,none⟩=some (.int .i64 (zE k x).next):=by rw[ay.cell];rfl
  have g0:=Cx.frozen 0;have g1:=Cx.frozen 1
  have oB:jI (· = l.heap.size) wc ((wc.setCell ⟨l.heap.size,0,none⟩ (.slice xa E.length xc)).setCell ⟨l.heap.size,1,none⟩ (.int .i64 (zE k x).next)):=((jI.refl (· = l.heap.size) wc).cellS 0 _).cellS 1 _;have au:=(Cx.set 0 (.slice xa E.length xc)).set 1 (.int .i64 (zE k x).next)
  rw[Vo]at au;have H1:=jnS au
  have H2:=jnS (af.only oB (fun r e q=>jh af.row Cx (by decide) (by rw[e,q])) (fun p H G r e q=>by have:=Y p H G r e;omega));have H4:=jnS (Gx.box Cx (by decide) (by decide) oB)
  have H5:=jnS (am.out.trans (oB.to_below (by omega) (fun r hr e=>by omega)));have H6:=jnS (jE (jK O oB (fun r e q=>by have:=(O.lt r e).1;have:=ap.out.lt;omega)) aw)
  have aI:((wc.setCell ⟨l.heap.size,0,none⟩ (.slice xa E.length xc)).setCell ⟨l.heap.size,1,none⟩ (.int .i64 (zE k x).next)).heap.size=wc.heap.size:=by simp[World.setCell]
  have aS:=oB.size;have PN:Hid (qq Z (y.take (i+1))=some (zE k x)):=by show _=_;rw[JZ HX.out,QA Q.out,if_pos h0]
  have GN:Hid (Xo Z (y.take (i+1))=gs++[za k x]):=by show _=_;rw[JZ HX.out,UX _ _ _ _ Q.out,bC]
  have aG:=jnS ai;have ah:=jnS Y
  clear bD Cx t Gx aa c0 aK d0 d1 aL aM p2 aV a8 h0 af ai Y ay O oB au;go_wp2_with (at_builtin;generalize bK:((wc.setCell ⟨l.heap.size,0,none⟩ (.slice xa E.length xc)).setCell ⟨l.heap.size,1,none⟩ (.int .i64 (zE k x).next))=aW at H1 H2 H4 H5 H6 aS aI ⊢;refine ju rfl _ _ 38 rfl l.heap.size 23 i2 _ 1 24 underlying38 bE bz bA bB rfl (by decide) _ _ _ rfl (H4.out.row.alloc _) _ 1 1 [.slice da (za k x).length dc] rfl rfl (by first | exact jf2 _ _ _ | exact jng _ _ _ _ aI) (by intro u hu;simp at hu;subst hu;rfl) (by unfold maxLen;omega) (by omega) (by simp only[joe];omega) ?_);intro bL W4 aj U bw;have o4:jI (fun r=>(Value.slice ga gs.length gc).ownBlock=some r) aW W4 :=
   (jI.of_below (S:=fun r=>(Value.slice ga gs.length gc).ownBlock=some r) ((jnV _ aW).alloc (jnT _) (.cells #[.slice da (za k x).length dc] 23)) (jnT _)).grown U (fun r e=>.inl e)
  have R1:jd W4 l.heap.size 37 #[.slice xa E.length xc,.int .i64 (zE k x).next]:=H1.out.only o4 (fun e=>jh H4.out.row H1.out (by decide) e);have R2:zN W4 (.slice xa E.length xc) E:=H2.out.only o4 (fun r e q=>jX H4.out.row H2.out.row (by decide) r q e) (fun p H G r e q=>by have:=ah.out p H G r e;have:=(H4.out.row.lt r q).1;omega)
  have R4:=H4.out.snoc H6.out aj o4;have R6:Below l.heap.size l W4:=H5.out.trans (o4.to_below (by omega) (fun r hr e=>by have:=(H4.out.row.lt r e).1;omega))
  have K1:=jnS R1;have K2:=jnS R2
  have K4:=jnS R4;have K6:=jnS R6
  clear R1 R2 R4 R6 o4 aj U bw H1 H2 H4 H5 H6;go_wp2_with fail;go_roundw
  case rel=>exact⟨i+1,zE k x,_,E,_,aP,by go_num,PN.out,K6.out,K1.out,K2.out,aG.out,ah.out,by rw[GN.out];exact K4.out⟩
  case measure=>simp[intOf];omega
 have bF:i=n:=by omega
 subst bF;have t:=jb D.out N D.out.lt
 have n0:wr.cell? ⟨l.heap.size,0,none⟩=some (.slice ka L.length kc):=by rw[hC.cell];rfl
 have n1:wr.cell? ⟨l.heap.size,1,none⟩=some (.int .i64 k.next):=by rw[hC.cell];rfl
 have e0:=t.cell 0;have e1:=t.cell 1
 have f0:=t.frozen 0;have f1:=t.frozen 1
 simp only[jn0,jnZ,jnX]at e0 e1;have oE:jI (· = w.heap.size+1) wr ((wr.setCell ⟨w.heap.size+1,0,none⟩ (.slice ka L.length kc)).setCell ⟨w.heap.size+1,1,none⟩ (.int .i64 k.next)):=((jI.refl (· = w.heap.size+1) wr).cellS 0 _).cellS 1 _
 have R:=(t.set 0 (.slice ka L.length kc)).set 1 (.int .i64 k.next);rw[Vo]at R;have P:=jnS R
 have BW:=B3.out.trans (N.mono (by omega));have BE:=jnS (BW.trans (oE.to_below BW.size (fun r hr e=>by omega)))
 have QE:=jnS (J.only oE (fun r e q=>jh J.row t (by decide) (by rw[e,q])) (fun p H G r e q=>Gb (J.each p H) G (by rw[e,q]) t (by intro x hx s;simp at hx;rcases hx with rfl | rfl<;>exact fun h=>by cases h)));have G9:=hG.box t (by decide) (by decide) oE
 have GE:=jnS (show XQ w.heap.size _ _ (Xo Z (y.take i)) us from⟨jE G9.row (by omega),fun j g u h1 h2=>jE (G9.each j g u h1 h2) (by omega)⟩);have Q:=jnS V
 have aH:=jnS I;clear V N hC J I X hG t oE R G9 BW aA aT aU;go_wp2_with fail;refine bodyPost_ret (JR rfl _ _ (w.heap.size+1) _ rfl P.out rfl) rfl ?_;exact⟨BE.out,.inr (.inr ⟨C,k,_,L,_,us,HP.out,by rw[ax];exact Q.out,rfl,QE.out,aH.out,by rw[ax];exact GE.out⟩)⟩
end Rp
namespace Rp
open Bk
attribute [local go_sem] jn9
theorem Qx{d:Func}{p u z:Tmp}{e:TypeId}(h:d.results=#[.cell p e,.tmp u,.tmp z])(tmps:Array Value)(P:Program)(w:World):
  (results d tmps).run P w=((asAddr (tmps.getD p undef)).run P w).andThen fun a b=>((loadVar e a).run P b).andThen fun v c=>.ok (.tuple #[v,tmps.getD u undef,tmps.getD z undef]) c:=by
 simp only[results,h];simp[Sem.run_bind,Result.andThen]
theorem Vs{c:Func}{p u z:Tmp}(h:c.results=#[.cell p 28,.tmp u,.tmp z])(tmps:Array Value)(w:World)(b:Nat)(a:Array Value)(e:tmps.getD p undef=.pointer (some ⟨b,0,none⟩))
  (d:jd w b 28 a) (f:a.size=5):(results c tmps).run prog w=.ok (.tuple #[.agg a,tmps.getD u undef,tmps.getD z undef]) w:=by
 have L:=run_loadVar_row (P:=prog) w b 28 28 a (0,0) _ d underlying28 rfl (by rw[f];kernel_rfl);rw[Qx h,e];show((loadVar _ _).run _ _).andThen _=_
 rw[L];rfl
def jcu(t:List UInt8)(a k:Nat):Prop:=Gy t a k\/∃n base bds tail its,vH Dc t n base bds tail/\jv base=.ok its/\vj (jQ its) (zH bds) a/\k=10
theorem jcu.not{t:List UInt8}{a k n:Nat}{base c:List UInt8}{b:List (List UInt8)}{its:List It}{l:LS}(h:jcu t a k)(s:vH Dc t n base b c)(i:jv base=.ok its)(hl:qq (jQ its) (zH b)=some l):False:=by
 rcases h with h|⟨_,_,_,_,f,j,d,g,rfl⟩
 ·exact h.not s
 obtain⟨_,rfl,rfl,_⟩:=s.same j;rw[i]at d;injection d with e;subst e;exact g.not hl
def je4(w w':World)(t:List UInt8)(e:Ending):Prop:=Below w.heap.size w w' /\
  ((∃a k u,jcu t a k/\e=.returned (.tuple #[Yq,.pointer none,u])/\jz w.heap.size w' u a k) \/
   (∃n base bds tail v its k lb ev ps,vH Dc t n base bds tail/\jv base=.ok its/\qq (jQ its) (zH bds)=some k/\e=.returned (.tuple #[v,ptr lb,.nilIface])/\yq w.heap.size w' v n base bds tail/\zS w.heap.size w' lb ev ps k (base.length+xL (zH bds))))
theorem yq.low{lo d:Nat}{w:World}{v:Value}{n:Nat}{base a:List UInt8}{c:List (List UInt8)}(h:yq lo w v n base c a)(hl:d<=lo):yq d w v n base c a:=by obtain⟨l,q,t,g,e,s⟩:=h.is;refine⟨l,q,t,g,⟨jE e.row hl,fun i b u m o => ?_⟩,jE s hl⟩;obtain⟨f,k⟩:=e.each i b u m o;exact⟨f,jE k.row hl,k.len,fun j p r g e=>jE (k.each j p r g e) hl⟩
theorem yq.box{lo:Nat}{w w':World}{v:Value}{n:Nat}{base a:List UInt8}{c:List (List UInt8)}{b:Nat}{T:TypeId}{d:Array Value}(h:yq lo w v n base c a)(g:jd w b T d)(o:jI (· = b) w w')(m:55≠T)(p:75≠T)(s:148≠T)(t3:3≠T):yq lo w' v n base c a:=by obtain⟨i,j,t,k,l,f⟩:=h.is;exact⟨i,j,t,k,l.box g m p s o,jK f o (fun r e q=>jh f g t3 (by rw[e,q]))⟩
theorem jlp{w:World}{v:Value}{fs:List Fld}{b:Nat}{T:TypeId}{c:Array Value}(h:vK w v fs)(i:fs≠[])(p:v.ownBlock=some b)(m:jd w b T c)(t:∀(j:Nat) (x y:ByteArray),c[j]?=some (.string x)->c[j+1]?≠some (.string y)):False:=by
 obtain⟨A,o,rfl,s,g⟩:=h;obtain⟨f,q⟩:∃f,fs[0]?=some f:=by
  cases fs with
  | nil=>exact absurd rfl i
  | cons a r=>exact⟨a,rfl⟩
 obtain⟨n,d,rfl,_,k,l⟩:=g 0 f q;have e:n=b:=by cases p;rfl
 subst e;rw[Nat.zero_mul,jpv,m.cell d]at k;rw[Nat.zero_mul,jpv,m.cell (d+1)]at l;exact t d _ _ k l
theorem jjF(n:Int)(x y:ByteArray)(a b:Option Addr)(e d g f:Nat):∀(j:Nat) (u v:ByteArray),(#[.int .i64 n,.string x,.slice a e d,.slice b g f,.string y]:Array Value)[j]?=some (.string u)->(#[.int .i64 n,.string x,.slice a e d,.slice b g f,.string y]:Array Value)[j+1]?≠some (.string v):=by
 intro j u v c h
 match j with
 | 0=>simp at c
 | 1=>simp at h
 | 2=>simp at c
 | 3=>simp at c
 | 4=>simp at h
 | j+5=>simp at c
theorem jhY(t:List UInt8)(ht:t.length<=100000)(af:(vi (t.drop (hl (Hd.genP t)))).length<=60000)(G:∀n c f g,vH Dc t n c f g->c.length+xL (zH f)<=5000)(w:World)(hT:Gu w):
  Calls prog 24 #[.string (B t)] w fun e w'=>je4 w w' t e:=by
 obtain⟨w0,A⟩:∃z,w.alloc (.cells #[.int .i64 0,.string ⟨#[]⟩,.slice none 0 0,.slice none 0 0,.string ⟨#[]⟩] 28)=z:=⟨_,rfl⟩
 have R:Below w.heap.size w w0:=by rw[<- A];exact(jnV _ w).alloc (jnT _) _
 have ap:w0.heap.size=w.heap.size+1:=by rw[<- A];simp
 have C0:jd w0 w.heap.size 28 #[.int .i64 0,.string ⟨#[]⟩,.slice none 0 0,.slice none 0 0,.string ⟨#[]⟩]:=by rw[<- A];exact jd.new _ _ _
 have TB:Hid (∀W,Below w.heap.size w W->Gu W):=fun W hW=>hT.below hW (jnT _);have RD:=jnS (Js t ht af w0 (TB.out w0 R))
 have K:=jnS R;have a7:=jnS C0
 have aC:=jnS A;have aa:=jnS ap
 have a8:=jnS G;clear hT R C0 A ap af G;go_enter func24,ntmps24;go_wp2_with fail;rw[aC.out];refine RD.out.mono ?_;rintro e w1 hr;obtain⟨b1,h1⟩:=hr.two;have B1:=jnS (K.out.trans (b1.mono K.out.size))
 have ag:=K.out.size;have C1:=jnS (jb a7.out b1 a7.out.lt)
 have aJ:=b1.size;clear RD hr b1;rcases h1 with ⟨a,k,u,E,rfl,hf⟩|⟨n,c,f,g,v,hS,rfl,P⟩
 ·obtain⟨q,hq,rfl,x⟩:=hf;obtain⟨w2,l⟩:∃z,w1.alloc (.cells #[.int .i64 0,.string ⟨#[]⟩,.slice none 0 0,.slice none 0 0,.string ⟨#[]⟩] 28)=z:=⟨_,rfl⟩
  have d:Below w1.heap.size w1 w2:=by rw[<- l];exact(jnV _ _).alloc (jnT _) _
  have o:=jb C1.out d C1.out.lt;obtain⟨P2,o2⟩:=jhO o (.int .i64 0) (.string ⟨#[]⟩) (.slice none 0 0) (.slice none 0 0) (.string ⟨#[]⟩);have C:=B1.out.trans (d.mono B1.out.size)
  have V:=jnS (C.trans (o2.to_below C.size (fun r hr e=>by omega)));have ay:=jnS P2
  have HF:=jnS (show jz w.heap.size _ (.iface 87 (.pointer (some ⟨q,0,none⟩))) a k from⟨q,by omega,rfl,(jb x d x.lt).only o2 (fun e=>by have:=aa.out;omega)⟩);have Y:=jnS E
  have c0:=o.cell 0;have c1:=o.cell 1
  have c2:=o.cell 2;have c3:=o.cell 3
  have c4:=o.cell 4;have f0:=o.frozen 0
  have f1:=o.frozen 1;have f2:=o.frozen 2
  have f3:=o.frozen 3;have f4:=o.frozen 4
  simp only[jn0,jnZ,jnX]at c0 c1 c2 c3 c4;have O:=jnS l
  rw[<- l]at c0 c1 c2 c3 c4 f0 f1 f2 f3 f4;have eZ:Yq=.agg #[.int .i64 0,.string ⟨#[]⟩,.slice none 0 0,.slice none 0 0,.string ⟨#[]⟩]:=rfl
  rw[eZ];clear x E d o P2 o2 C l;go_wp2_with fail;rw[O.out];refine bodyPost_ret (Vs rfl _ _ w.heap.size _ rfl ay.out rfl) rfl ?_;exact⟨V.out,.inl ⟨a,k,_,.inl Y.out,rfl,HF.out⟩⟩
 have X:=P;obtain⟨bv,ev,us,rfl,Q,ae⟩:=P.is;obtain⟨ba,bc,rfl,_⟩:=je Q.row;obtain⟨ea,ec,rfl,_⟩:=je ae;obtain⟨aq,U⟩:=hS.parse;obtain⟨au,aI,aL⟩:=Ks hS;unfold Vb at *
 obtain⟨w2,l⟩:∃z,w1.alloc (.cells #[.int .i64 (n:Int),.string (B c),.slice ba f.length bc,.slice ea f.length ec,.string (B g)] 28)=z:=⟨_,rfl⟩
 obtain⟨d,o⟩:=jhs l;have C:=jnS (B1.out.trans (d.mono B1.out.size))
 have OF:=jc4 (n:Int) c (zH f) ba bc ea f.length ec (B g) w2 (a8.out _ _ _ _ hS) (by rw[JI];omega) (by rw[JI];exact(jcp Q).below d (jnT _)) au (TB.out w2 C.out).tabs.err;rw[JI]at OF;unfold JK at OF;have L:=jnS OF
 have aw:=jnS o;have D:=jnS (jb C1.out d C1.out.lt)
 have av:=jnS (yq.low (X.below d) ag);have O:=jnS l
 have HS:=jnS hS;have HP:=jnS U
 have ah:=o.lt;clear X P Q ae d o l OF hS U au aI;go_wp2_with fail;rw[O.out];refine L.out.mono ?_;rintro e w3 ⟨p,u,rfl,h3⟩;have s:=h3.1
 have B3:=jnS (C.out.trans (s.mono C.out.size));have J:=jb aw.out s ah
 have b:=jb D.out s D.out.lt;have I:=av.out.below s
 obtain⟨ai,am⟩:=h3.form;have H3:=jnS h3
 have l0:=b.cell 0;have l1:=b.cell 1
 have l2:=b.cell 2;have l3:=b.cell 3
 have l4:=b.cell 4;have f0:=b.frozen 0
 have f1:=b.frozen 1;have f2:=b.frozen 2
 have f3:=b.frozen 3;have f4:=b.frozen 4
 have c0:=J.cell 0;have c1:=J.cell 1
 have c2:=J.cell 2;have c3:=J.cell 3
 have c4:=J.cell 4;simp only[jn0,jnZ,jnX]at l0 l1 l2 l3 l4 c0 c1 c2 c3 c4;have aE:=C.out.size
 have aK:=aa.out;rcases h3 with ⟨_,⟨a,m,j,_⟩|⟨ar,i,j,ak,rfl,aF⟩|⟨ar,k,lb,aD,aH,j,aj,rfl,rfl,y⟩⟩
 ·rw[HP.out]at j;cases j
 ·rw[HP.out]at j;injection j with e1;subst e1;obtain⟨q,hq,rfl,x⟩:=aF;obtain⟨P3,H⟩:=jhO b (.int .i64 0) (.string ⟨#[]⟩) (.slice none 0 0) (.slice none 0 0) (.string ⟨#[]⟩);have V:=jnS (B3.out.trans (H.to_below B3.out.size (fun r hr e=>by omega)))
  have N:=jnS P3;have HF:=jnS (show jz w.heap.size _ (.iface 87 (.pointer (some ⟨q,0,none⟩))) i 10 from⟨q,by omega,rfl,x.only H (fun e=>by omega)⟩)
  have aB:=jnS ak;clear s J b I H3 ak x P3 H L ai am;go_wp2_with fail;refine bodyPost_ret (Vs rfl _ _ w.heap.size _ rfl N.out rfl) rfl ?_;exact⟨V.out,.inl ⟨i,10,_,.inr ⟨_,_,_,_,aq,HS.out,HP.out,aB.out,rfl⟩,rfl,HF.out⟩⟩
 rw[HP.out]at j;injection j with e1;subst e1;obtain⟨P3,H⟩:=jhO b (.int .i64 (n:Int)) (.string (B c)) (.slice ba f.length bc) (.slice ea f.length ec) (.string (B g));have V:=jnS (B3.out.trans (H.to_below B3.out.size (fun r hr e=>by omega)))
 have N:=jnS P3;have Z:=jnS (yq.box I b H (by decide) (by decide) (by decide) (by decide))
 have ax:=jnS (jbk (y.only H (S0:=w2.heap.size) (by
  rintro r (rfl|h|h|⟨p,U,aG,h⟩|⟨p,U,_⟩) e
  ·have:=y.lb0;omega
  ·have:=y.ev0 r h;omega
  ·cases h
  ·exact jlp (y.la.lr.ents.each p U).1 aG (by rw[h,e]) b (jjF _ _ _ _ _ _ _ _ _)
  cases U)) aE)
 have aA:=jnS aj;clear s J b I H3 aj y P3 H L ai am;unfold ptr at *
 go_wp2_with fail;refine bodyPost_ret (Vs rfl _ _ w.heap.size _ rfl N.out rfl) rfl ?_;exact⟨V.out,.inr ⟨n,c,f,g,_,aq,k,lb,aD,aH,HS.out,HP.out,aA.out,rfl,Z.out,ax.out⟩⟩
end Rp
end Go.Proofs.YtbapfpekklcicaaGreatDoor
