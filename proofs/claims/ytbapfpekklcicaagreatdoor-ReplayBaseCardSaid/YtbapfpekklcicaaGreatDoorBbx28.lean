/- Texts put together:DV,SG,DP,DT,AM. -/
import Derived.Test.YtbapfpekklcicaaGreatDoorBbx27
set_option linter.unusedVariables false
set_option maxRecDepth 100000
set_option maxHeartbeats 16000000
namespace Go.Proofs.YtbapfpekklcicaaGreatDoor
open Go.RowKit Go.Shelf Tryz
namespace Fr
theorem jfC:∀a:List (List UInt8),(∀l∈a,(10:UInt8)∉l)->(∀l∈a,∃r,l=32::r)->sp true (jp a)=true
 | [],_,_=>rfl
 | l::a,b,c=>by
  obtain⟨r,f⟩:=c l jn5;have e:jp (l::a)=(l++[10])++jp a:=by rw[Kp];simp
  rw[e,qo,jfD l (b l jn5),VI l [10] true (by simp)];have d:fresh true ([10]:List UInt8)=true:=rfl
  rw[d,jfC a (fun x h=>b x (jn4 _ h)) (fun x h=>c x (jn4 _ h)),f];rfl
theorem batch_body{eds:List Ed}(f:(qu eds).2=0)(hl:(jo eds).length<=50000):goodR (jo eds)=true:=by
 obtain⟨⟨i,_⟩,c⟩:=vg f;have b:zl eds≠[]:=by
  cases eds with
  | nil=>simp at i
  | cons x r=>unfold zl jg4;simp
 have e:=je0 c;have g:=xG c
 rw[good_iff];unfold jo at *
 have a:vD (jp (zl eds))=true:=by unfold vD;rw[jpU,jfr _ b];rfl
 refine⟨?_,hl,a,jfC _ g e⟩;cases d:zl eds with
 | nil=>exact absurd d b
 | cons l j =>
 obtain⟨r,h⟩:=e l (by rw[d];exact jn5);rw[Kp,h];simp;omega
attribute [local go_sem] jn9
end Fr
namespace Bk
attribute [local go_sem] jn9
theorem jeB(s:ByteArray)(d:50000<s.size)(w:World):
  Calls prog 92 #[.string s] w fun e h=>e=.returned (.bool false)/\Below w.heap.size w h:=by
 have a:=jnS (Fr.fits_any (s.size:Int));have b:decide (2<=(s.size:Int)/\(s.size:Int)<=50000)=false:=by simp;omega
 refine callsIn_wide (n:=9).1 ?_;refine callsIn_of_wp_marks func92 rfl trivial ?_ rfl;simp only[ntmps92,joY,jn1,joz,Nat.reduceAdd,Nat.reduceSub,joZ,jo0,jo6,jo1,joL,jog];have f:=jps w 4 (.bool false)
 have g:Below w.heap.size w (w.alloc (.cells #[.bool false] 4)):=(jnV _ w).alloc (jnT _) _;rw[b]at a;gi_wp2_with fail;refine⟨trivial,(callsIn_wide.2 (a.out _)).mono ?_⟩;rintro e i ⟨rfl,rfl⟩;gi_wp2;have c:=f.cell
 exact⟨.bool false,by simp[results,Tryz.f92,go_sem,c],rfl,g⟩
theorem jaz(l:List UInt8)(hl:50000<l.length)(w:World):
  Calls prog 64 #[.string (B l)] w fun e c=>e=.returned (.tuple #[.string (B []),Zv 2])/\Below w.heap.size w c:=by
 have b:=jnS (jeB (B l) (by rw[jg];exact hl) w);go_enter func64,ntmps64;go_wp2_with fail;refine b.out.mono ?_;rintro e d ⟨rfl,a⟩;go_wp2_with fail;go_ret2;exact⟨rfl,a⟩
def Gy(t:List UInt8)(a k:Nat):Prop :=
 jv (vi (t.drop (hl (Hd.genP t))))=.error (a,k) \/
 (k=10/\∃its bds r,jv (vi (t.drop (hl (Hd.genP t))))=.ok its/\je5 Dc (t.drop (hl (Hd.genP t)+(vi (t.drop (hl (Hd.genP t)))).length)) bds r/\jjR Dc r/\a=bds.length)
theorem Gy.not{t:List UInt8}{a k n:Nat}{base b:List UInt8}{c:List (List UInt8)}(h:Gy t a k)(s:vH Dc t n base c b):False:=by
 have i:Hd.genP t=n:=Hd.gen_one (Hd.genP_is t) s.gen;obtain⟨l,j⟩:=s.parse;have g:=s.isB
 unfold Gy at h;rw[i,g]at h;rcases h with h|⟨_,_,d,r,_,f,e,_⟩
 ·rw[j]at h;cases h
 obtain⟨rfl,rfl⟩:=Uf f s.recd (.inr e) (.inl s.fin);exact jjc s.fin e
theorem Gy.num{t:List UInt8}{a k:Nat}(h:Gy t a k):k≠0/\k<=11:=by
 rcases h with h|⟨rfl,_⟩
 ·exact ZI h
 exact⟨by decide,by decide⟩
theorem jlP.two{w w':World}{t:List UInt8}{e:Ending}(h:jlP w w' t e):Below w.heap.size w w' /\
  ((∃a k u,Gy t a k/\e=.returned (.tuple #[Yq,u])/\jz w.heap.size w' u a k)\/∃n b d c v,vH Dc t n b d c/\e=.returned (.tuple #[v,.nilIface])/\yq w.heap.size w' v n b d c):=by
 obtain⟨o,h⟩:=h;refine⟨o,?_⟩;rcases h with ⟨a,k,u,f,g,i⟩|⟨j,d,r,u,f,g,i,l,m⟩|⟨b,d,c,v,f,g,i⟩
 ·exact .inl ⟨a,k,u,.inl f,g,i⟩
 ·exact .inl ⟨_,10,u,.inr ⟨rfl,j,d,r,f,g,i,rfl⟩,l,m⟩
 exact .inr ⟨_,b,d,c,v,f,g,i⟩
def jna(w w':World)(t:List UInt8)(eds:List Ed)(e:Ending):Prop:=Below w.heap.size w w' /\
  ((∃a k u,Gy t a k/\e=.returned (.tuple #[.string (B []),u])/\jz w.heap.size w' u a k) \/
   ∃n base bds tail,vH Dc t n base bds tail /\
    (((qu eds).2≠0/\∃u,e=.returned (.tuple #[.string (B []),u])/\vZ w.heap.size w' u (qu eds).1 (qu eds).2) \/
     ((qu eds).2=0/\50000<(jo eds).length/\e=.returned (.tuple #[.string (B []),Zv 11])) \/
     ((qu eds).2=0/\(jo eds).length<=50000/\e=.returned (.tuple #[.string (B (t.take (zd n base bds)++Fr.fullR (jo eds))),.nilIface]))))
theorem jbt(t:List UInt8)(ht:t.length<=60000)(eds:List Ed)(bv:Value)(w:World)(hE:EdV w bv eds)(V:eds.length<=1000000)(hf:VQ eds)(hi:∀ed∈eds,I64 ed.id)(hT:Gu w):
  Calls prog 31 #[.string (B t),bv] w fun e g=>jna w g t eds e:=by
 have TB:Hid (∀W,Below w.heap.size w W->Gu W):=fun W J=>hT.below J (jnT _);have am:(B t).size=t.length:=jg t
 have RD:=jnS (Js t (by omega) (by have:=Vd t (hl (Hd.genP t));omega) w hT);have EV:Hid (∀W,Below w.heap.size w W->EdV W bv eds):=fun W J=>hE.below J (jnT _)
 have HF:=jnS hf;have HI:=jnS hi
 obtain⟨va,vc,rfl,_⟩:∃A c,bv=.slice A eds.length c/\True:=by obtain⟨A,c,e,_⟩:=hE;exact⟨A,c,e,trivial⟩
 clear hT hE hf hi;go_enter func31,ntmps31;go_wp2_with fail;refine RD.out.mono ?_;rintro e w1 hr;obtain⟨b1,h1⟩:=hr.two;have Z:=jnS b1
 clear RD hr b1;rcases h1 with ⟨a,k,u,p,rfl,U⟩|⟨n,b,d,j,v,hS,rfl,y⟩
 ·have C:Below w1.heap.size w1 (w1.alloc (.cells #[.int .i64 0,.string ⟨#[]⟩,.slice none 0 0,.slice none 0 0,.string ⟨#[]⟩] 28)):=(jnV _ _).alloc (jnT _) _;have B2:=jnS (Z.out.trans (C.mono Z.out.size))
  have F2:=jnS (U.below C (jnT _));obtain⟨q,_,rfl,_⟩:=U;have O:=jnS p
  unfold Yq Vb;clear C p;go_wp2_with fail;go_ret2;exact⟨B2.out,.inl ⟨a,k,_,O.out,rfl,F2.out⟩⟩
 have N:=y;obtain⟨ae,ev,us,rfl,P,Q⟩:=y.is;obtain⟨ba,bc,rfl,_⟩:=je P.row;obtain⟨ea,ec,rfl,_⟩:=je Q;have PT:=hS.parts
 unfold Vb at *
 obtain⟨Y,E⟩:∃z,w1.alloc (.cells #[.int .i64 (n:Int),.string (B b),.slice ba d.length bc,.slice ea d.length ec,.string (B j)] 28)=z:=⟨_,rfl⟩
 obtain⟨x,C3⟩:=jhs E;have s:=jnS (Z.out.trans (x.mono Z.out.size))
 have ag:zd n b d<=t.length:=by have:=PT.len;omega
 have WH:Hid (∀W,Below Y.heap.size Y W->Calls prog 50 #[.agg #[.int .i64 (n:Int),.string (B b),.slice ba d.length bc,.slice ea d.length ec,.string (B j)]] W fun e g=>e=.returned (.int .i64 (zd n b d:Nat))/\Below W.heap.size W g):=fun W J=>GT ((N.below x).below J) (by omega) (TB.out W (s.out.trans (J.mono s.out.size)));have EN:=jnS (Wo eds _ Y (EV.out Y s.out) V HF.out HI.out (TB.out Y s.out).tabs)
 have m:=jnS C3;have a8:=jnS E
 have EX:Hid ((B t).extract 0 (zd n b d)=B (t.take (zd n b d))):=Fr.ext_take _ _;have RS:Hid (∀e:Ending,∀g,Below w.heap.size w g->(((qu eds).2≠0/\∃u,e=.returned (.tuple #[.string (B []),u])/\vZ w.heap.size g u (qu eds).1 (qu eds).2)\/((qu eds).2=0/\50000<(jo eds).length/\e=.returned (.tuple #[.string (B []),Zv 11]))\/((qu eds).2=0/\(jo eds).length<=50000/\e=.returned (.tuple #[.string (B (t.take (zd n b d)++Fr.fullR (jo eds))),.nilIface])))->jna w g t eds e):=fun e g R h=>⟨R,.inr ⟨n,b,d,j,hS,h⟩⟩
 clear N y P Q hS PT x C3 E;generalize af:zd n b d=W at *
 go_wp2_with fail;rw[a8.out];refine EN.out.mono ?_;rintro e w4 ⟨b4,h4⟩;have G:=jnS (s.out.trans (b4.mono s.out.size))
 have o:=jnS b4;clear EN b4;rcases h4 with ⟨K,rfl⟩|⟨K,u,rfl,hz⟩
 rotate_left
 ·
  have Z4:=jnS (hz.mono (s.out.size));have f:=hz
  obtain⟨_,f⟩:=f;have f:(∃z,u=.iface 54 (.int .i64 z))\/∃q,u=.iface 87 (.pointer (some ⟨q,0,none⟩)):=by
   rcases f with ⟨rfl,_⟩|⟨_,⟨q,_,rfl,_⟩,_,_⟩
   ·rw[zn _ (by omega)];exact .inl ⟨_,rfl⟩
   exact .inr ⟨q,rfl⟩
  have R4:=jnS (RS.out (.returned (.tuple #[.string (B []),u])) w4 G.out (.inl ⟨K,u,rfl,Z4.out⟩));clear hz RS;rcases f with ⟨z,rfl⟩|⟨q,rfl⟩
  all_goals
   go_wp2_with fail;go_ret2;exact R4.out
 have ah:=jg (jo eds);by_cases r:50000<(jo eds).length
 ·have H:=jnS (jaz (jo eds) r w4);have i:Hid (∀g,Below w.heap.size w g->jna w g t eds (.returned (.tuple #[.string (B []),Zv 11]))):=fun g R=>RS.out _ g R (.inr (.inl ⟨K,r,rfl⟩))
  rw[ja6]at H;rw[zn 11 (by decide)]at i;clear RS;generalize B (jo eds)=X at *
  go_wp2_with fail;refine H.out.mono ?_;rintro e w5 ⟨rfl,I⟩;have R5:=jnS (i.out w5 (G.out.trans (I.mono G.out.size)))
  clear I H;go_wp2_with fail;go_ret2;exact R5.out
 have D:Fr.goodR (jo eds)=true:=Fr.batch_body K (by omega);have H:=jnS (Fr.record_yes (jo eds) D w4 (TB.out w4 G.out).nums)
 have aj:=Fr.full_le D;have ak:(B (Fr.fullR (jo eds))).size=(Fr.fullR (jo eds)).length:=jg _
 have a7:Hid (B (t.take W)++B (Fr.fullR (jo eds))=B (t.take W++Fr.fullR (jo eds))):=by show _=_;rw[jn]
 have i:Hid (∀g,Below w.heap.size w g->jna w g t eds (.returned (.tuple #[.string (B (t.take W++Fr.fullR (jo eds))),.nilIface]))):=fun g R=>RS.out _ g R (.inr (.inr ⟨K,by omega,rfl⟩));have aa:(B (t.take W)).size=W:=by rw[jg,jn2];omega
 clear RS D K;generalize Fr.fullR (jo eds)=FR at *
 generalize B (jo eds)=X at *
 go_wp2_with fail;refine H.out.mono ?_;rintro e w5 ⟨rfl,I⟩;have l:=jnS (o.out.trans (I.mono o.out.size))
 have B5:=jnS (G.out.trans (I.mono G.out.size));have k:=jb m.out l.out m.out.lt
 have k0:=k.cell 0;have k1:=k.cell 1
 have k2:=k.cell 2;have k3:=k.cell 3
 have k4:=k.cell 4;simp only[jn0,jnZ,jnX]at k0 k1 k2 k3 k4;clear I H k;go_wp2_with fail;refine(WH.out w5 l.out).mono ?_;rintro e w6 ⟨rfl,b6⟩;have L:=jnS (l.out.trans (b6.mono l.out.size))
 have B6:=jnS (B5.out.trans (b6.mono B5.out.size));have k:=jb m.out L.out m.out.lt
 have j0:=k.cell 0;have j1:=k.cell 1
 have j2:=k.cell 2;have j3:=k.cell 3
 have j4:=k.cell 4;simp only[jn0,jnZ,jnX]at j0 j1 j2 j3 j4;have q5:¬(120000:Int)<(W:Int)+(FR.length:Int):=by omega
 clear b6 k k0 k1 k2 k3 k4;go_wp2_with fail;refine(WH.out w6 L.out).mono ?_;rintro e w7 ⟨rfl,b7⟩;have R7:=jnS (i.out w7 (B6.out.trans (b7.mono B6.out.size)))
 have ai:((B t).extract 0 W).size=W:=by rw[EX.out];exact aa
 clear b7 i;go_wp2_with fail;rw[EX.out,a7.out];go_ret2;exact R7.out
end Bk
namespace Fr
attribute [local go_sem] jn9
theorem vL{p:UInt8->Bool}{l:List UInt8}{k:Nat}(j:k<=l.length)(d:(l.take k).all p=true)(f:k=l.length\/∃c,l[k]?=some c/\p c=false):(l.takeWhile p).length=k:=by
 have e:l=l.take k++l.drop k:=(joj k l).symm;rw[e,jpH (fun x hx=>List.all_eq_true.1 d x hx)];have g:(l.drop k).takeWhile p=[]:=by
  rcases f with h|⟨c,a,i⟩
  ·rw[joO (by omega)];rfl
  obtain⟨b,a⟩:=List.getElem?_eq_some_iff.1 a;rw[jou b,joG,a,i];rfl
 rw[g,jok,jn2];omega
theorem Gs{p:UInt8->Bool}{s:ByteArray}{k:Nat}(h:k<s.size)(a:(s.data.toList.take k).all p=true)(b:p s[k]=true):(s.data.toList.take (k+1)).all p=true:=by rw[Sm.take_snoc s k h,jpt,a];simp[b]
theorem xI{s:ByteArray}{k:Nat}(h:k<s.size):s.data.toList[k]?=some s[k]:=by rw[jnW (by rw[<- joa];exact h)];rfl
theorem jck(s:ByteArray)(n:s.size<=1000000)(w:World):
  Calls prog 103 #[.string s] w fun e l=>e=.returned (.int .i64 ((s.data.toList.takeWhile dgB).length:Int))/\l=w:=by
 go_enter func103,ntmps103;go_wp2_with fail;go_loop [3] (fun i=>∃k:Nat,k<=s.size/\i=.int .i64 k/\(s.data.toList.take k).all dgB=true) (fun i=>s.size-(intOf i).toNat)
 case atStart=>exact⟨0,jn3 _,rfl,rfl⟩
 case round =>
 obtain⟨k,m,rfl,a⟩:=hrel;by_cases c:k<s.size
 ·have d:dgB s[k]=(decide (48<=s[k].toNat)&&decide (s[k].toNat<=57)):=rfl;by_cases f:48<=s[k].toNat
  ·have h:(48:Int)<=(s[k].toNat:Int):=by omega
   by_cases g:s[k].toNat<=57
   ·have j:(s[k].toNat:Int)<=57:=by omega
    have b:=jnS (Gs c a (by rw[d];simp[f,g]));clear a d;go_wp2_with fail;go_round
    case rel=>exact⟨k+1,by omega,by go_num,b.out⟩
    case measure=>simp[intOf];omega
   have j:¬(s[k].toNat:Int)<=57:=by omega
   have b:=jnS (vL (p:=dgB) (by rw[<- joa];omega) a (.inr ⟨_,xI c,by rw[d];simp[g]⟩));clear a d;go_wp2_with fail;go_ret;exact⟨by rw[b.out];rfl,rfl⟩
  have h:¬(48:Int)<=(s[k].toNat:Int):=by omega
  have b:=jnS (vL (p:=dgB) (by rw[<- joa];omega) a (.inr ⟨_,xI c,by rw[d];simp[f]⟩));clear a d;go_wp2_with fail;go_ret;exact⟨by rw[b.out];rfl,rfl⟩
 obtain rfl:k=s.size:=by omega
 have b:=jnS (vL (p:=dgB) (by rw[<- joa];omega) a (.inl (joa s)));clear a;go_wp2_with fail;go_ret;exact⟨by rw[b.out];rfl,rfl⟩
theorem jle(c:UInt8):Xi c=(decide (48<=c.toNat/\c.toNat<=57) || decide (97<=c.toNat/\c.toNat<=102)):=by
 unfold Xi Sm.val;by_cases h:48<=c.toNat/\c.toNat<=57
 ·rw[if_pos h];simp[h]
 rw[if_neg h];by_cases a:97<=c.toNat/\c.toNat<=102
 ·rw[if_pos a];simp[a]
 rw[if_neg a];simp[h,a]
theorem jaX{s:ByteArray}{k:Nat}(c:k<=8)(g:k<=s.size)(a:(s.data.toList.take k).all Xi=true)(b:k=s.size\/k=8\/∃h:k<s.size,Xi s[k]=false):hx s.data.toList=k:=by
 unfold hx;have e:=joa s
 refine vL (by simp;omega) (by rw[jql,jqf c];exact a) ?_;rcases b with h|h|⟨h,d⟩
 ·exact .inl (by simp;omega)
 ·exact .inl (by simp;omega)
 by_cases f:k=8
 ·exact .inl (by simp;omega)
 exact .inr ⟨_,by rw[joH,if_pos (by omega)];exact xI h,d⟩
theorem jld(s:ByteArray)(x:s.size<=1000000)(w:World):
  Calls prog 104 #[.string s] w fun e u=>e=.returned (.int .i64 (hx s.data.toList:Int))/\u=w:=by
 go_enter func104,ntmps104;go_wp2_with fail;go_loop [3] (fun i=>∃k:Nat,k<=s.size/\k<=8/\i=.int .i64 k/\(s.data.toList.take k).all Xi=true) (fun i=>s.size-(intOf i).toNat)
 case atStart=>exact⟨0,jn3 _,jn3 _,rfl,rfl⟩
 case round =>
 obtain⟨k,g,c,rfl,a⟩:=hrel;by_cases d:k<s.size
 ·by_cases v:k<8
  ·have t:(k:Int)<8:=by omega
   have f:=jle s[k];by_cases l:48<=s[k].toNat
   ·have o:(48:Int)<=(s[k].toNat:Int):=by omega
    by_cases j:s[k].toNat<=57
    ·have q:(s[k].toNat:Int)<=57:=by omega
     have b:=jnS (Gs (p:=Xi) d a (by rw[f];simp[l,j]));clear a f;go_wp2_with fail;go_round
     case rel=>exact⟨k+1,by omega,by omega,by go_num,b.out⟩
     case measure=>simp[intOf];omega
    have q:¬(s[k].toNat:Int)<=57:=by omega
    by_cases h:97<=s[k].toNat
    ·have n:(97:Int)<=(s[k].toNat:Int):=by omega
     by_cases m:s[k].toNat<=102
     ·have r:(s[k].toNat:Int)<=102:=by omega
      have b:=jnS (Gs (p:=Xi) d a (by rw[f];simp[h,m]));clear a f;go_wp2_with fail;go_round
      case rel=>exact⟨k+1,by omega,by omega,by go_num,b.out⟩
      case measure=>simp[intOf];omega
     have r:¬(s[k].toNat:Int)<=102:=by omega
     have b:=jnS (jaX c g a (.inr (.inr ⟨d,by rw[f];simp[j,m]⟩)));clear a f;go_wp2_with fail;go_ret;exact⟨by rw[b.out];rfl,rfl⟩
    have n:¬(97:Int)<=(s[k].toNat:Int):=by omega
    have b:=jnS (jaX c g a (.inr (.inr ⟨d,by rw[f];simp[j,h]⟩)));clear a f;go_wp2_with fail;go_ret;exact⟨by rw[b.out];rfl,rfl⟩
   have o:¬(48:Int)<=(s[k].toNat:Int):=by omega
   have h:¬97<=s[k].toNat:=by omega
   have n:¬(97:Int)<=(s[k].toNat:Int):=by omega
   have b:=jnS (jaX c g a (.inr (.inr ⟨d,by rw[f];simp[l,h]⟩)));clear a f;go_wp2_with fail;go_ret;exact⟨by rw[b.out];rfl,rfl⟩
  have t:¬(k:Int)<8:=by omega
  have b:=jnS (jaX c g a (.inr (.inl (by omega))));clear a;go_wp2_with fail;go_ret;exact⟨by rw[b.out];rfl,rfl⟩
 obtain rfl:k=s.size:=by omega
 have b:=jnS (jaX c g a (.inl rfl));clear a;go_wp2_with fail;go_ret;exact⟨by rw[b.out];rfl,rfl⟩
theorem jiD{n:Nat}{f b r:List UInt8}(d:2<=n)(e:n<=50000)(g:QV f)(hl:b.length=n)(a:goodR b=false):jS (jN n f++10::(b++r)) 3 [] 0:=by obtain⟨i,j⟩:=yL (r:=r) d e g hl;exact vA (fun h=>by have:=(i.1 h).1;rw[a]at this;cases this) (fun⟨c,h⟩=>by have:=((j c).1 h).2.1;rw[a]at this;cases this)
theorem jgk{n:Nat}{f b r:List UInt8}(j:2<=n)(k:n<=50000)(l:QV f)(hl:b.length=n)(m:goodR b=true)(a:r.length<(zi n).length):
  (Lib.hasPrefix (zi n) r=true->jS (jN n f++10::(b++r)) 2 [] 0)/\(Lib.hasPrefix (zi n) r=false->jS (jN n f++10::(b++r)) 3 [] 0):=by
 obtain⟨g,p⟩:=yL (r:=r) j k l hl;have d:¬∃c,vG (jN n f++10::(b++r)) c:=by rintro⟨c,h⟩;obtain⟨_,_,_,zI,e⟩:=(p c).1 h;rw[e]at a;simp at a;omega
 constructor
 ·intro h;obtain⟨q,e⟩:=qT.1 h;exact yI (g.2 ⟨m,q,e.symm,fun o=>by rw[o]at e;rw[e]at a;simp at a⟩)
 intro h;refine vA (fun i => ?_) d;obtain⟨_,z,e,_⟩:=g.1 i;have:=qT.2 ⟨z,e.symm⟩
 rw[h]at this;cases this
theorem jgj{n:Nat}{f b r:List UInt8}(l:2<=n)(m:n<=50000)(o:QV f)(hl:b.length=n)(p:goodR b=true)(t:¬r.length<(zi n).length):
  (Lib.hasPrefix r (zi n)=false\/vn b≠f->jS (jN n f++10::(b++r)) 3 [] 0)/\(Lib.hasPrefix r (zi n)=true->vn b=f->jS (jN n f++10::(b++r)) 1 b (fullR b).length):=by
 obtain⟨s,c⟩:=yL (r:=r) l m o hl;have a:¬xK (jN n f++10::(b++r)):=by
  intro h;obtain⟨_,z,e,u⟩:=s.1 h;rw[<- e,jnU]at t;have:z.length≠0:=fun q=>u (joX q)
  omega
 constructor
 ·intro h;refine vA a ?_;rintro⟨d,k⟩;obtain⟨_,_,g,zI,i⟩:=(c d).1 k;rcases h with h|h
  ·rw[qT.2 ⟨zI,i⟩]at h;cases h
  exact h g
 intro h e;obtain⟨q,j⟩:=qT.1 h;exact .inl ⟨(c b).2 ⟨rfl,p,e,q,j⟩,rfl,rfl⟩
theorem jkQ{a:List UInt8}(h:numL a=none):∀v,1<=v->v<=50000->a≠Lib.decDigits v:=by
 intro v _ b e;have:numL a=some (v:Int):=numL_some.2 ⟨by unfold I64;omega,by rw[e,jpb]⟩
 rw[h]at this;cases this
theorem jfY{a:List UInt8}{i:Int}(h:numL a=some i)(d:i<1\/50000<i):∀v,1<=v->v<=50000->a≠Lib.decDigits v:=by
 intro v b c e;have:numL a=some (v:Int):=numL_some.2 ⟨by unfold I64;omega,by rw[e,jpb]⟩
 rw[h]at this;have:=jnY this
 omega
theorem jme{a:List UInt8}{i:Int}(h:numL a=some i)(b:1<=i):a=Lib.decDigits i.toNat:=by
 have:=(numL_some.1 h).2;obtain⟨k,rfl⟩:∃k:Nat,i=k:=⟨i.toNat,by omega⟩
 rw[<- this,jpb,jpA]
theorem jeF{q:List UInt8}(h:(B q).size-1<(B q).size):fresh true q=((B q)[(B q).size-1]==10):=by
 unfold fresh;rw[jpU];have e:q[q.length-1]?=some ((B q)[(B q).size-1]):=by have:=xI h;rw[jj]at this;rw[<- this];congr 2
 rw[e]
theorem refRead_any(t:List UInt8)(hl:t.length<=700000)(w:World):
  Calls prog 57 #[.string (B t)] w fun e w'=>∃k b n,jS t k b n/\e=readV k b n/\w'=w:=by
 have y:=jg t;have zA:(⟨#[37,97,109,101,110,100,32]⟩:ByteArray)=B AMD:=rfl
 by_cases h7:t.length<=7
 ·have q7:((B t).size:Int)<=7:=by omega
  have B1:=jnS (fun w=>Qg t AMD (by omega) (by decide) w);have HY:Hid (Lib.hasPrefix AMD t=true->jS t 2 [] 0):=fun h=>by obtain⟨q,e⟩:=qT.1 h;exact jlK e
  have HN:Hid (Lib.hasPrefix AMD t=false->jS t 3 [] 0):=fun h=>jmQ h7 (fun⟨q,e⟩=>by rw[qT.2 ⟨q,e⟩]at h;cases h);generalize Lib.hasPrefix AMD t=q at *
  clear y;generalize B t=T at *
  go_enter func57,ntmps57;rw[zA];go_wp2_with fail;refine(B1.out _).mono ?_;rintro e U ⟨rfl,rfl⟩;cases q with
  | true =>
   have l:=jnS (HY.out rfl);go_wp2_with fail;go_ret3;exact⟨2,[],0,l.out,rfl,rfl⟩
  | false =>
  have l:=jnS (HN.out rfl);go_wp2_with fail;go_ret3;exact⟨3,[],0,l.out,rfl,rfl⟩
 have q7:¬((B t).size:Int)<=7:=by omega
 have be:(7:Int)<=(B t).size:=by omega
 have B1:=jnS (fun w=>Jt t AMD (by omega) (by decide) w);cases hp:Lib.hasPrefix t AMD;have l:Hid (jS t 3 [] 0):=jix (by omega) (fun⟨q,e⟩=>by rw[qT.2 ⟨q,e⟩]at hp;cases hp)
 rw[hp]at B1;clear y hp;generalize B t=T at *
 rotate_left;obtain⟨s,hs⟩:=qT.1 hp;rw[hp]at B1;clear hp;have aw:t.drop 7=s:=by rw[hs];exact jph (l₁:=AMD)
 have x7:=jnS (ext_drop t 7);rw[aw]at x7;have ax:s.length+7=t.length:=by rw[hs];simp[AMD]
 have x:=jg s;have D1:=jnS (fun w=>jck (B s) (by omega) w)
 simp only[jj]at D1;obtain⟨o,r,E,aj,O,L⟩:∃o r,s=o++r/\s.takeWhile dgB=o/\(∀c∈o,dgB c=true)/\∀c a,r=c::a->dgB c=false:=by
  refine⟨s.takeWhile dgB,s.dropWhile dgB,(List.takeWhile_append_dropWhile).symm,rfl,fun c hc=>List.all_eq_true.1 jpm c hc,fun c a h => ?_⟩;have:=List.head?_dropWhile_not dgB s
  rw[h]at this;simpa using this
 rw[aj]at D1;clear aw aj;have a7:o.length+r.length=s.length:=by rw[E];simp
 rw[E]at hs;have g:t=AMD++(o++r):=hs
 have xd:Hid ((B s).extract 0 o.length=B o):=by show _=_;rw[ext_take,E,jp8]
 have N1:=jnS (fun w=>number_any o (by omega) w);have aU:(o.length:Int)<=(B s).size:=by omega
 by_cases h5:5<o.length;have q5:(5:Int)<(o.length:Int):=by omega
 have l:Hid (jS t 3 [] 0):=by rw[g];exact jmM O L h5
 clear y x;generalize B s=S at *
 generalize B t=T at *
 rotate_left;have q5:¬(5:Int)<(o.length:Int):=by omega
 have H:o++r≠[]:=by intro q;rw[<- E]at q;rw[q]at ax;simp at ax;omega
 rcases z:numL o with _|i;have l:Hid (jS t 3 [] 0):=by rw[g];exact jhh O L H (jkQ z)
 have e0:numEnd o=.returned (.tuple #[.int .i64 0,.bool false]):=by unfold numEnd;rw[z];rfl
 simp only[e0]at N1;clear y x;generalize B s=S at *
 generalize B t=T at *
 rotate_left;have e0:numEnd o=.returned (.tuple #[.int .i64 i,.bool true]):=by unfold numEnd;rw[z];rfl
 simp only[e0]at N1;by_cases aD:i<1;have l:Hid (jS t 3 [] 0):=by rw[g];exact jhh O L H (jfY z (.inl aD))
 clear y x;generalize B s=S at *
 generalize B t=T at *
 rotate_left;by_cases aE:50000<i;have l:Hid (jS t 3 [] 0):=by rw[g];exact jhh O L H (jfY z (.inr aE))
 clear y x;generalize B s=S at *
 generalize B t=T at *
 rotate_left;obtain⟨v,rfl⟩:∃v:Nat,i=v:=⟨i.toNat,by omega⟩
 have d:=jme z (by omega);rw[jpA]at d;clear e0 z;rcases r with _|⟨c,a⟩
 have l:Hid (jS t 2 [] 0):=by rw[g,jok,d];exact jmL (by omega) (by omega)
 have am:o.length=(B s).size:=by rw[x,E];simp
 have ap:((o.length:Int)==((B s).size:Int))=true:=by rw[am];simp
 clear am d;clear y x;generalize B s=S at *
 generalize B t=T at *
 rotate_left;have hc:=L c a rfl
 have aF:o.length<(B s).size:=by rw[x,E];simp
 have ap:((o.length:Int)==((B s).size:Int))=false:=by rw[beq_eq_false_iff_ne];omega
 have g0:(B s)[o.length]=c:=by
  have e1:s[o.length]?=some c:=by rw[E,joh (jnT _),Nat.sub_self];rfl
  have:=xI aF;rw[jj]at this;exact jnY (this.symm.trans e1)
 have c2:=Kd (c:=c) 32 32 rfl;by_cases W:c=32;by_cases aI:v<2;have qv:(v:Int)<2:=by omega
 have l:Hid (jS t 3 [] 0):=by rw[g,d];exact jhg (by omega) hc (.inr aI)
 rw[W]at c2 g0;clear d;clear y x;generalize B s=S at *
 generalize B t=T at *
 rotate_left;have qv:¬(v:Int)<2:=by omega
 subst W;have c3:(((32:UInt8).toNat:Int)==32)=true:=rfl
 clear c2;have x8:Hid ((B s).extract (o.length+1) (B s).size=B a):=by show _=_;rw[ext_drop,E,<- jpg,jph];rfl
 have aV:a.length<=700000:=by simp at a7;omega
 have aP:(o.length:Int)+1<=(B s).size:=by omega
 have H1:=jnS (fun w=>jld (B a) (by rw[jg];omega) w);simp only[jj]at H1;have C:=jg a
 rw[d]at g;clear L H a7 O;have N:2<=v:=by omega
 have D:v<=50000:=by omega
 by_cases hh:hx a=a.length;have l:Hid (jS t 2 [] 0):=by rw[g];exact jmu N D hh
 have qh:((hx a:Int)==((B a).size:Int))=true:=by rw[hh,C];simp
 clear hh;clear y x C d;generalize B a=R at *
 generalize B s=S at *
 generalize B t=T at *
 rotate_left;have qh:((hx a:Int)==((B a).size:Int))=false:=by rw[beq_eq_false_iff_ne,C];omega
 by_cases h8:hx a<8;have l:Hid (jS t 3 [] 0):=by rw[g];exact jmv D hh (.inl h8)
 have q8:(hx a:Int)<8:=by omega
 clear hh;clear y x C d;generalize B a=R at *
 generalize B s=S at *
 generalize B t=T at *
 rotate_left;have q8:¬(hx a:Int)<8:=by omega
 have aJ:hx a<=8:=by unfold hx;exact jop (jpd _).length_le (by simp;omega)
 have aK:hx a<=a.length:=by unfold hx;exact jop (jpd _).length_le (by simp;omega)
 have aL:8<(B a).size:=by omega
 have aR:(8:Int)<(B a).size:=by omega
 have e8:=xI aL;rw[jj]at e8;by_cases G:(B a)[8]=10;have a8:((((B a)[8]).toNat:Int)==10)=true:=by rw[G];rfl
 have ai:((((B a)[8]).toNat:Int) != 10)=false:=by rw[G];rfl
 rw[G]at e8;obtain⟨f,q,hf,av,ak,ag⟩:=jmw (by omega) e8;have xf:Hid ((B a).extract 0 8=B f):=by show _=_;rw[ext_take,ak]
 have xq:Hid ((B a).extract 9 (B a).size=B q):=by show _=_;rw[ext_drop,ag]
 have hq:q.length<=700000:=by rw[ag];simp;omega
 have j:t=jN v f++10::q:=by rw[g,av];unfold jN;simp
 have aY:(9:Int)<=(B a).size:=by omega
 clear ak ag G e8 hh aK aJ av;have bq:=jg q
 by_cases aq:q.length<v;have aM:((B q).size:Int)<v:=by omega
 have I:=jnS (Kt N D hf aq);rw[<- j]at I;have u:vW q v=(sp true q && !(fresh true q&&decide (v-q.length<2))):=rfl
 have L1:=jnS (fun w=>Vv (B q) (by omega) w);simp only[jj]at L1;by_cases h0:q.length=0;have q0:(B q).size=0:=by omega
 have l:Hid (jS t 2 [] 0):=yI (I.out.1.2 (by
  obtain rfl:=joX h0;have:¬v<2:=by omega
  rw[u];simp[sp,this]))
 have A:sp true q=true:=by obtain rfl:=joX h0;rfl
 rw[A]at L1;have w5:IntKind.i64.wrap (v:Int)=v:=jos _ (by omega)
 clear u A h0 bq I j g;clear y x C d;generalize B q=Q at *
 generalize B a=R at *
 generalize B s=S at *
 generalize B t=T at *
 rotate_left;have ay:(B q).size-1<(B q).size:=by omega
 have q0:((((B q).size:Nat):Int)==0)=false:=by rw[beq_eq_false_iff_ne];omega
 have aZ:¬(B q).size=0:=by omega
 have ae:=jeF ay;have wm:IntKind.i64.wrap (((B q).size:Int)-1)=(((B q).size-1:Nat):Int):=by rw[show((B q).size:Int)-1=(((B q).size-1:Nat):Int) by omega];exact jos _ (by omega)
 have c1:=Kd (c:=(B q)[(B q).size-1]) 10 10 rfl;obtain⟨m,hm⟩:∃m,(B q).size-1=m:=⟨_,rfl⟩
 have aA:∀(m:Nat) (h:m<(B q).size),(B q).size-1=m->((B q)[(B q).size-1]=(B q)[m]):=fun m h e=>by subst e;rfl
 have aH:m<(B q).size:=by omega
 have aQ:(m:Int)<(B q).size:=by omega
 have hk:=aA m aH hm;rw[hk]at c1 ae;rw[hm]at wm;clear aA hk;have w5:IntKind.i64.wrap ((v:Int)-((B q).size:Int))=(v:Int)-((B q).size:Int):=jos _ (by omega)
 rw[ae]at u;clear hm ae ay;generalize aG:((B q)[m]==10)=lb at *
 clear aG;cases A:sp true q;have l:Hid (jS t 3 [] 0):=vA (fun h=>by have:=I.out.1.1 h;rw[u,A]at this;simp at this) I.out.2
 rw[A]at L1;clear u A bq I j g h0;cases lb;have aa:¬(((B q)[m]).toNat:Int)=10:=by simpa using c1
 clear y x C d;generalize B q=Q at *
 generalize B a=R at *
 generalize B s=S at *
 generalize B t=T at *
 rotate_left;have aa:(((B q)[m]).toNat:Int)=10:=by simpa using c1
 clear y x C d;generalize B q=Q at *
 generalize B a=R at *
 generalize B s=S at *
 generalize B t=T at *
 rotate_left;rw[A]at L1 u;cases lb;have l:Hid (jS t 2 [] 0):=yI (I.out.1.2 (by rw[u];rfl))
 have aa:¬(((B q)[m]).toNat:Int)=10:=by simpa using c1
 clear u A bq I j g h0;clear y x C d;generalize B q=Q at *
 generalize B a=R at *
 generalize B s=S at *
 generalize B t=T at *
 rotate_left;have aa:(((B q)[m]).toNat:Int)=10:=by simpa using c1
 by_cases h2:v-q.length<2;have l:Hid (jS t 3 [] 0):=vA (fun h=>by have:=I.out.1.1 h;rw[u]at this;simp[h2]at this) I.out.2
 have q2:(v:Int)-((B q).size:Int)<2:=by omega
 clear u A bq I j g h0 h2;clear y x C d;generalize B q=Q at *
 generalize B a=R at *
 generalize B s=S at *
 generalize B t=T at *
 rotate_left;have l:Hid (jS t 2 [] 0):=yI (I.out.1.2 (by rw[u];simp;omega))
 have q2:¬(v:Int)-((B q).size:Int)<2:=by omega
 clear u A bq I j g h0 h2;clear y x C d;generalize B q=Q at *
 generalize B a=R at *
 generalize B s=S at *
 generalize B t=T at *
 rotate_left;have aM:¬((B q).size:Int)<v:=by omega
 have bg:(v:Int)<=(B q).size:=by omega
 have xb:Hid ((B q).extract 0 v=B (q.take v)):=ext_take q v;have xr:Hid ((B q).extract v (B q).size=B (q.drop v)):=ext_drop q v
 have X:(q.take v).length=v:=by simp;omega
 have ar:q=q.take v++q.drop v:=(joj v q).symm;rw[ar]at j;have G1:=jnS (fun w=>Zc (B (q.take v)) (by rw[jg];omega) w)
 simp only[jj]at G1;have aW:(q.drop v).length<=700000:=by simp;omega
 clear ar aq bq;generalize q.take v=J at *
 generalize q.drop v=V at *
 cases Y:goodR J;have l:Hid (jS t 3 [] 0):=by show jS _ _ _ _;rw[j];exact jiD N D hf X Y
 rw[Y]at G1;clear Y j g;clear y x C d;generalize B q=Q at *
 generalize B a=R at *
 generalize B s=S at *
 generalize B t=T at *
 rotate_left;rw[Y]at G1;have A1:=jnS (fun w=>Wx v D f (by rw[xy hf];omega) w)
 have aT:(zi v).length<=30:=by have:=xD (show v<=99999 by omega);unfold zi END;simp;omega
 have bf:=jg (zi v);have ah:=jg V
 by_cases au:V.length<(zi v).length;have aN:((B V).size:Int)<((B (zi v)).size:Int):=by omega
 have Z:=jnS (jgk N D hf X Y au);rw[<- j]at Z;have B2:=jnS (fun w=>Qg V (zi v) (by omega) (by omega) w)
 generalize Lib.hasPrefix (zi v) V=p at *
 generalize B (zi v)=F at *
 clear j g Y bf ah;generalize B V=RS at *
 rcases Bool.eq_false_or_eq_true p with rfl|rfl;have l:=jnS (Z.out.1 rfl)
 clear y x C d;generalize B q=Q at *
 generalize B a=R at *
 generalize B s=S at *
 generalize B t=T at *
 rotate_left;have l:=jnS (Z.out.2 rfl)
 clear y x C d;generalize B q=Q at *
 generalize B a=R at *
 generalize B s=S at *
 generalize B t=T at *
 rotate_left;have aN:¬((B V).size:Int)<((B (zi v)).size:Int):=by omega
 have Z:=jnS (jgj N D hf X Y au);rw[<- j]at Z;have B2:=jnS (fun w=>Jt V (zi v) (by omega) (by omega) w)
 have S1:=jnS (fun w=>Sm.refSum_any (B J) w (by rw[jg];unfold maxLen;omega));simp only[jj]at S1;have F1:=jnS (fun w=>Sm.refFigures_any (Sm.M.crc J) (Sm.M.crc_lt J) w)
 have eF:Sm.figs (Sm.M.crc J)=B (vn J):=(je8 _).symm;simp only[eF]at F1;have P:((B (vn J)).toList==(B f).toList)=decide (vn J=f):=by rw[jot,jot,jj,jj,joS];simp
 have LN:=jnS (fun w=>Ua (v:Int) w);have af:=jiA Y
 rw[X]at af;rw[af]at LN;generalize Lib.hasPrefix V (zi v)=p at *
 generalize B (zi v)=F at *
 clear j g Y bf ah af;generalize B V=RS at *
 cases p;have l:=jnS (Z.out.1 (.inl rfl))
 clear P;clear y x C d;generalize B q=Q at *
 generalize B a=R at *
 generalize B s=S at *
 generalize B t=T at *
 rotate_left;by_cases K:vn J=f;have l:=jnS (Z.out.2 rfl K)
 rw[decide_eq_true K]at P;clear K;generalize aC:B J=BD at *
 generalize B (vn J)=FG at *
 generalize B f=FF at *
 clear y x C d;generalize B q=Q at *
 generalize B a=R at *
 generalize B s=S at *
 generalize B t=T at *
 rotate_left;have l:=jnS (Z.out.1 (.inr K))
 rw[decide_eq_false K]at P;clear K;generalize B J=BD at *
 generalize B (vn J)=FG at *
 generalize B f=FF at *
 clear y x C d;generalize B q=Q at *
 generalize B a=R at *
 generalize B s=S at *
 generalize B t=T at *
 rotate_left;have l:Hid (jS t 3 [] 0):=by rw[g];exact jmv D hh (.inr (by rw[e8];simpa using G))
 have a8:((((B a)[8]).toNat:Int)==10)=false:=by have:=Kd (c:=(B a)[8]) 10 10 rfl;rw[this];simpa using G
 have aO:¬(((B a)[8]).toNat:Int)=10:=by simpa using a8
 have ai:((((B a)[8]).toNat:Int) != 10)=true:=by simpa using a8
 clear hh e8 G;clear y x C d;generalize B a=R at *
 generalize B s=S at *
 generalize B t=T at *
 rotate_left;have l:Hid (jS t 3 [] 0):=by rw[g,d];exact jhg (by omega) hc (.inl W)
 have aB:(c==32)=false:=by simpa using W
 rw[aB]at c2;have aS:((c.toNat:Int) != 32)=true:=by simpa using c2
 clear d;clear y x;generalize B s=S at *
 generalize B t=T at *
 rotate_left
 all_goals
  go_enter func57,ntmps57;rw[zA];go_wp2_with fail;refine(B1.out _).mono ?_;rintro e U ⟨rfl,rfl⟩;go_wp2_with fail
  try (rw[x7.out];refine(D1.out _).mono ?_;rintro e U ⟨rfl,rfl⟩;go_wp2_with fail)
  try (rw[xd.out];refine(N1.out _).mono ?_;rintro e U ⟨rfl,rfl⟩;go_wp2_with fail)
  try (rw[x8.out];refine(H1.out _).mono ?_;rintro e U ⟨rfl,rfl⟩;first | (have aX:=xf;(go_upto_region 26 with fail);rw[xf.out,xq.out];go_wp2_with fail) | go_wp2_with fail)
  try (refine(L1.out _).mono ?_;rintro e U ⟨rfl,rfl⟩;go_wp2_with fail)
  try (rw[xb.out];refine(G1.out _).mono ?_;rintro e U ⟨rfl,rfl⟩;go_wp2_with fail)
  try (rw[xr.out];refine(A1.out _).mono ?_;rintro e U ⟨rfl,rfl⟩;go_wp2_with fail)
  try (refine(B2.out _).mono ?_;rintro e U ⟨rfl,rfl⟩;go_wp2_with fail)
  try (refine(S1.out _).mono ?_;rintro e U ⟨rfl,rfl⟩;go_wp2_with fail)
  try (refine(F1.out _).mono ?_;rintro e U ⟨rfl,rfl⟩;go_wp2_with fail)
  try (refine(LN.out _).mono ?_;rintro e U ⟨rfl,rfl⟩;go_wp2_with fail)
  go_ret3;exact⟨_,_,_,l.out,by first | rfl | (rw[<- aC];rfl),rfl⟩
end Fr
section
attribute [local go_sem] jn9
theorem vB(u:Nat)(d:u<18446744073709551616)(w:World):Calls prog 197 #[.int .u64 u] w fun e f=>e=.returned (.string (B (Lib.decDigits u)))/\f=w:=by
 induction u using Nat.strongRecOn generalizing w with
 | _ u a =>
 by_cases h:u<10
 ·rw[jpB h];clear a d;obtain rfl|rfl|rfl|rfl|rfl|rfl|rfl|rfl|rfl|rfl:u=0\/u=1\/u=2\/u=3\/u=4\/u=5\/u=6\/u=7\/u=8\/u=9:=by omega
  all_goals
   go_enter func197,ntmps197;go_wp2_with fail;go_ret;exact⟨by kernel_rfl,rfl⟩
 have q:¬(u:Int)<10:=by omega
 have b:=jnS (a (u / 10) (by omega) (by omega));have c:=jnS (a (u % 10) (by omega) (by omega))
 rw[Int.natCast_ediv]at b;rw[Int.natCast_emod]at c;have E:Hid (B (Lib.decDigits (u / 10))++B (Lib.decDigits (u % 10))=B (Lib.decDigits u)):=by
  show _=_;rw[jn,jpB (i:=u % 10) (by omega)];congr 1
  conv=>rhs;rw[Lib.decDigits,dif_neg h]
 have j:(B (Lib.decDigits (u / 10))).size<=30:=by
  rw[jg,jpa];have:=jpJ (u / 10) (by omega)
  omega
 have k:(B (Lib.decDigits (u % 10))).size<=30:=by rw[jg,jpB (by omega)];exact(by decide:1<=30)
 clear a;generalize B (Lib.decDigits (u / 10))=x at *
 generalize B (Lib.decDigits (u % 10))=y at *
 go_enter func197,ntmps197;go_wp2_with fail;refine(b.out _).mono ?_;rintro e g ⟨rfl,rfl⟩;go_wp2_with fail;refine(c.out _).mono ?_;rintro e g ⟨rfl,rfl⟩;go_wp2_with fail;go_ret;exact⟨by rw[<- E.out];rfl,rfl⟩
theorem figures_any(n:Int)(c:I64 n)(w:World):Calls prog 154 #[.int .i64 n] w fun e d=>e=.returned (.string (B (Lib.itoa n)))/\d=w:=by
 obtain⟨i,j⟩:=c;by_cases h:n<0
 ·obtain⟨u,rfl⟩:∃u:Nat,n = -((u:Int)+1):=⟨(-n-1).toNat,by omega⟩
  have b:IntKind.i64.wrap (-((u:Int)+1)+1) = -(u:Int):=by rw[show -((u:Int)+1)+1 = -(u:Int) by omega];exact jos _ (by omega)
  have k:IntKind.i64.wrap (u:Int)=(u:Int):=jos _ (by omega);have f:IntKind.u64.wrap (u:Int)=(u:Int):=by rw[jpW];omega
  have l:IntKind.u64.wrap ((u:Int)+1)=(u:Int)+1:=by rw[jpW];omega
  have a:=jnS (vB (u+1) (by omega) w);rw[Int.natCast_add,show((1:Nat):Int)=1 from rfl]at a;have E:Hid ((⟨#[45]⟩:ByteArray)++B (Lib.decDigits (u+1))=B (Lib.itoa (-((u:Int)+1)))):=by show _=_;rw[show -((u:Int)+1) = -((u+1:Nat):Int) by omega,Lib.itoa_neg _ (by omega),show(⟨#[45]⟩:ByteArray)=B [45] from rfl,jn];rfl
  have g:(B (Lib.decDigits (u+1))).size<=30:=by
   rw[jg,jpa];have:=jpJ (u+1) (by omega)
   omega
  generalize B (Lib.decDigits (u+1))=x at *
  go_enter func154,ntmps154;go_wp2_with fail;refine a.out.mono ?_;rintro e b ⟨rfl,rfl⟩;go_wp2_with fail;go_ret;exact⟨by rw[<- E.out];rfl,rfl⟩
 obtain⟨u,rfl⟩:∃u:Nat,n=(u:Int):=⟨n.toNat,by omega⟩
 have f:IntKind.u64.wrap (u:Int)=(u:Int):=by rw[jpW];omega
 have a:=jnS (vB u (by omega) w);rw[jpb];generalize B (Lib.decDigits u)=x at *
 go_enter func154,ntmps154;go_wp2_with fail;refine a.out.mono ?_;rintro e b ⟨rfl,rfl⟩;go_wp2_with fail;go_ret;exact⟨rfl,rfl⟩
theorem Vy(k i:Int)(h:Value)(f:I64 i)(w:World):
  Calls prog 112 #[.agg #[.int .i64 k,.int .i64 i,h]] w fun e p=>e=.returned (.string (B (zg k i)))/\Below w.heap.size w p:=by
 have c:=jnS (show Below w.heap.size w (w.alloc (.cells #[.int .i64 k,.int .i64 i,h] 75)) from(jnV _ w).alloc (jnT _) _);have d:=jnS (fun W=>figures_any i f W)
 have g:=Lib.itoa_length_le i f.1 f.2;have q:(B (Lib.itoa i)).size<=21:=by rw[jg];exact g
 have E:Hid (∀b:Int,(b=1\/b=2\/b=3)->B (32::(qw b++[32]))++B (Lib.itoa i)=B (zg b i)):=by intro b o;rw[jn];unfold zg;rw[if_pos o];congr 1;simp
 generalize B (Lib.itoa i)=x at *
 by_cases j:k=1
 ·subst j;have a:=jnS (E.out 1 (.inl rfl))
  clear E;go_enter func112,ntmps112;go_wp2_with fail;refine(d.out _).mono ?_;rintro e n ⟨rfl,rfl⟩;go_wp2_with fail;go_ret;exact⟨by rw[<- a.out];rfl,c.out⟩
 have r:(k==1)=false:=by simpa using j
 by_cases l:k=2
 ·subst l;have a:=jnS (E.out 2 (.inr (.inl rfl)))
  clear E;go_enter func112,ntmps112;go_wp2_with fail;refine(d.out _).mono ?_;rintro e n ⟨rfl,rfl⟩;go_wp2_with fail;go_ret;exact⟨by rw[<- a.out];rfl,c.out⟩
 have s:(k==2)=false:=by simpa using l
 by_cases m:k=3
 ·subst m;have a:=jnS (E.out 3 (.inr (.inr rfl)))
  clear E;go_enter func112,ntmps112;go_wp2_with fail;refine(d.out _).mono ?_;rintro e n ⟨rfl,rfl⟩;go_wp2_with fail;go_ret;exact⟨by rw[<- a.out];rfl,c.out⟩
 have t:(k==3)=false:=by simpa using m
 have a:zg k i=[]:=by unfold zg;rw[if_neg (by omega)]
 rw[a];clear E a;go_enter func112,ntmps112;go_wp2_with fail;go_ret;exact⟨rfl,c.out⟩
end
end Go.Proofs.YtbapfpekklcicaaGreatDoor
