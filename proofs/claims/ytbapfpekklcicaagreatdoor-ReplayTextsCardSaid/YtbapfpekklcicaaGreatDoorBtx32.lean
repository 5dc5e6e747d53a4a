/- Texts put together:DT,AM,BD,BE. -/
import Derived.Test.YtbapfpekklcicaaGreatDoorBtx31
set_option linter.unusedVariables false
set_option maxRecDepth 100000
set_option maxHeartbeats 16000000
namespace Go.Proofs.YtbapfpekklcicaaGreatDoor
open Go.RowKit Go.Shelf Tryz
namespace Fr
attribute [local go_sem] joY
theorem jje{n:Nat}{f b r:List UInt8}(d:2<=n)(e:n<=50000)(g:Vb f)(hl:b.length=n)(a:goodR b=false):jT (jP n f++10::(b++r)) 3 [] 0:=by obtain⟨i,j⟩:=yR (r:=r) d e g hl;exact vD (fun h=>by have:=(i.1 h).1;rw[a]at this;cases this) (fun⟨c,h⟩=>by have:=((j c).1 h).2.1;rw[a]at this;cases this)
theorem jgT{n:Nat}{f b r:List UInt8}(j:2<=n)(k:n<=50000)(l:Vb f)(hl:b.length=n)(m:goodR b=true)(a:r.length<(zj n).length):
  (Lib.hasPrefix (zj n) r=true->jT (jP n f++10::(b++r)) 2 [] 0)/\(Lib.hasPrefix (zj n) r=false->jT (jP n f++10::(b++r)) 3 [] 0):=by
 obtain⟨g,p⟩:=yR (r:=r) j k l hl;have d:¬∃c,vK (jP n f++10::(b++r)) c:=by rintro⟨c,h⟩;obtain⟨_,_,_,zJ,e⟩:=(p c).1 h;rw[e]at a;simp at a;omega
 constructor
 ·intro h;obtain⟨q,e⟩:=qY.1 h;exact yO (g.2 ⟨m,q,e.symm,fun o=>by rw[o]at e;rw[e]at a;simp at a⟩)
 intro h;refine vD (fun i => ?_) d;obtain⟨_,z,e,_⟩:=g.1 i;have:=qY.2 ⟨z,e.symm⟩
 rw[h]at this;cases this
theorem jgS{n:Nat}{f b r:List UInt8}(l:2<=n)(m:n<=50000)(o:Vb f)(hl:b.length=n)(p:goodR b=true)(t:¬r.length<(zj n).length):
  (Lib.hasPrefix r (zj n)=false\/vt b≠f->jT (jP n f++10::(b++r)) 3 [] 0)/\(Lib.hasPrefix r (zj n)=true->vt b=f->jT (jP n f++10::(b++r)) 1 b (fullR b).length):=by
 obtain⟨s,c⟩:=yR (r:=r) l m o hl;have a:¬xO (jP n f++10::(b++r)):=by
  intro h;obtain⟨_,z,e,u⟩:=s.1 h;rw[<- e,joK]at t;have:z.length≠0:=fun q=>u (jpP q)
  omega
 constructor
 ·intro h;refine vD a ?_;rintro⟨d,k⟩;obtain⟨_,_,g,zJ,i⟩:=(c d).1 k;rcases h with h|h
  ·rw[qY.2 ⟨zJ,i⟩]at h;cases h
  exact h g
 intro h e;obtain⟨q,j⟩:=qY.1 h;exact .inl ⟨(c b).2 ⟨rfl,p,e,q,j⟩,rfl,rfl⟩
theorem jlq{a:List UInt8}(h:numL a=none):∀v,1<=v->v<=50000->a≠Lib.decDigits v:=by
 intro v _ b e;have:numL a=some (v:Int):=numL_some.2 ⟨by unfold I64;omega,by rw[e,jpZ]⟩
 rw[h]at this;cases this
theorem jgw{a:List UInt8}{i:Int}(h:numL a=some i)(d:i<1\/50000<i):∀v,1<=v->v<=50000->a≠Lib.decDigits v:=by
 intro v b c e;have:numL a=some (v:Int):=numL_some.2 ⟨by unfold I64;omega,by rw[e,jpZ]⟩
 rw[h]at this;have:=joN this
 omega
theorem jmX{a:List UInt8}{i:Int}(h:numL a=some i)(b:1<=i):a=Lib.decDigits i.toNat:=by
 have:=(numL_some.1 h).2;obtain⟨k,rfl⟩:∃k:Nat,i=k:=⟨i.toNat,by omega⟩
 rw[<- this,jpZ,jqs]
theorem je6{q:List UInt8}(h:(B q).size-1<(B q).size):fresh true q=((B q)[(B q).size-1]==10):=by
 unfold fresh;rw[jqL];have e:q[q.length-1]?=some ((B q)[(B q).size-1]):=by have:=xM h;rw[jj]at this;rw[<- this];congr 2
 rw[e]
theorem refRead_any(t:List UInt8)(hl:t.length<=700000)(w:World):
  Calls prog 57 #[.string (B t)] w fun e w'=>∃k b n,jT t k b n/\e=readV k b n/\w'=w:=by
 have y:=jg t;have zA:(⟨#[37,97,109,101,110,100,32]⟩:ByteArray)=B AMD:=rfl
 by_cases h7:t.length<=7
 ·have q7:((B t).size:Int)<=7:=by omega
  have B1:=joI (fun w=>Qj t AMD (by omega) (by decide) w);have HY:Hid (Lib.hasPrefix AMD t=true->jT t 2 [] 0):=fun h=>by obtain⟨q,e⟩:=qY.1 h;exact jmo e
  have HN:Hid (Lib.hasPrefix AMD t=false->jT t 3 [] 0):=fun h=>jnA h7 (fun⟨q,e⟩=>by rw[qY.2 ⟨q,e⟩]at h;cases h);generalize Lib.hasPrefix AMD t=q at *
  clear y;generalize B t=T at *
  go_enter func57,ntmps57;rw[zA];go_wp2_with fail;refine(B1.out _).mono ?_;rintro e U ⟨rfl,rfl⟩;cases q with
  | true =>
   have l:=joI (HY.out rfl);go_wp2_with fail;go_ret3;exact⟨2,[],0,l.out,rfl,rfl⟩
  | false =>
  have l:=joI (HN.out rfl);go_wp2_with fail;go_ret3;exact⟨3,[],0,l.out,rfl,rfl⟩
 have q7:¬((B t).size:Int)<=7:=by omega
 have bg:(7:Int)<=(B t).size:=by omega
 have B1:=joI (fun w=>JC t AMD (by omega) (by decide) w);cases hp:Lib.hasPrefix t AMD;have l:Hid (jT t 3 [] 0):=ji8 (by omega) (fun⟨q,e⟩=>by rw[qY.2 ⟨q,e⟩]at hp;cases hp)
 rw[hp]at B1;clear y hp;generalize B t=T at *
 rotate_left;obtain⟨s,hs⟩:=qY.1 hp;rw[hp]at B1;clear hp;have ax:t.drop 7=s:=by rw[hs];exact jp8 (l₁:=AMD)
 have x7:=joI (ext_drop t 7);rw[ax]at x7;have ay:s.length+7=t.length:=by rw[hs];simp[AMD]
 have x:=jg s;have D1:=joI (fun w=>jcG (B s) (by omega) w)
 simp only[jj]at D1;obtain⟨o,r,E,aj,O,L⟩:∃o r,s=o++r/\s.takeWhile dgB=o/\(∀c∈o,dgB c=true)/\∀c a,r=c::a->dgB c=false:=by
  refine⟨s.takeWhile dgB,s.dropWhile dgB,(List.takeWhile_append_dropWhile).symm,rfl,fun c hc=>List.all_eq_true.1 jqd c hc,fun c a h => ?_⟩;have:=List.head?_dropWhile_not dgB s
  rw[h]at this;simpa using this
 rw[aj]at D1;clear ax aj;have a7:o.length+r.length=s.length:=by rw[E];simp
 rw[E]at hs;have g:t=AMD++(o++r):=hs
 have xd:Hid ((B s).extract 0 o.length=B o):=by show _=_;rw[ext_take,E,jq0]
 have N1:=joI (fun w=>number_any o (by omega) w);have aV:(o.length:Int)<=(B s).size:=by omega
 by_cases h5:5<o.length;have q5:(5:Int)<(o.length:Int):=by omega
 have l:Hid (jT t 3 [] 0):=by rw[g];exact jnu O L h5
 clear y x;generalize B s=S at *
 generalize B t=T at *
 rotate_left;have q5:¬(5:Int)<(o.length:Int):=by omega
 have H:o++r≠[]:=by intro q;rw[<- E]at q;rw[q]at ay;simp at ay;omega
 rcases z:numL o with _|i;have l:Hid (jT t 3 [] 0):=by rw[g];exact jhR O L H (jlq z)
 have e0:numEnd o=.returned (.tuple #[.int .i64 0,.bool false]):=by unfold numEnd;rw[z];rfl
 simp only[e0]at N1;clear y x;generalize B s=S at *
 generalize B t=T at *
 rotate_left;have e0:numEnd o=.returned (.tuple #[.int .i64 i,.bool true]):=by unfold numEnd;rw[z];rfl
 simp only[e0]at N1;by_cases aE:i<1;have l:Hid (jT t 3 [] 0):=by rw[g];exact jhR O L H (jgw z (.inl aE))
 clear y x;generalize B s=S at *
 generalize B t=T at *
 rotate_left;by_cases aF:50000<i;have l:Hid (jT t 3 [] 0):=by rw[g];exact jhR O L H (jgw z (.inr aF))
 clear y x;generalize B s=S at *
 generalize B t=T at *
 rotate_left;obtain⟨v,rfl⟩:∃v:Nat,i=v:=⟨i.toNat,by omega⟩
 have d:=jmX z (by omega);rw[jqs]at d;clear e0 z;rcases r with _|⟨c,a⟩
 have l:Hid (jT t 2 [] 0):=by rw[g,jo9,d];exact jnt (by omega) (by omega)
 have am:o.length=(B s).size:=by rw[x,E];simp
 have aq:((o.length:Int)==((B s).size:Int))=true:=by rw[am];simp
 clear am d;clear y x;generalize B s=S at *
 generalize B t=T at *
 rotate_left;have hc:=L c a rfl
 have aG:o.length<(B s).size:=by rw[x,E];simp
 have aq:((o.length:Int)==((B s).size:Int))=false:=by rw[beq_eq_false_iff_ne];omega
 have g0:(B s)[o.length]=c:=by
  have e1:s[o.length]?=some c:=by rw[E,jo7 (joJ _),Nat.sub_self];rfl
  have:=xM aG;rw[jj]at this;exact joN (this.symm.trans e1)
 have c2:=Kt (c:=c) 32 32 rfl;by_cases W:c=32;by_cases aJ:v<2;have qv:(v:Int)<2:=by omega
 have l:Hid (jT t 3 [] 0):=by rw[g,d];exact jhQ (by omega) hc (.inr aJ)
 rw[W]at c2 g0;clear d;clear y x;generalize B s=S at *
 generalize B t=T at *
 rotate_left;have qv:¬(v:Int)<2:=by omega
 subst W;have c3:(((32:UInt8).toNat:Int)==32)=true:=rfl
 clear c2;have x8:Hid ((B s).extract (o.length+1) (B s).size=B a):=by show _=_;rw[ext_drop,E,<- jp7,jp8];rfl
 have aW:a.length<=700000:=by simp at a7;omega
 have aQ:(o.length:Int)+1<=(B s).size:=by omega
 have H1:=joI (fun w=>jlR (B a) (by rw[jg];omega) w);simp only[jj]at H1;have C:=jg a
 rw[d]at g;clear L H a7 O;have N:2<=v:=by omega
 have D:v<=50000:=by omega
 by_cases hh:hx a=a.length;have l:Hid (jT t 2 [] 0):=by rw[g];exact jnd N D hh
 have qh:((hx a:Int)==((B a).size:Int))=true:=by rw[hh,C];simp
 clear hh;clear y x C d;generalize B a=R at *
 generalize B s=S at *
 generalize B t=T at *
 rotate_left;have qh:((hx a:Int)==((B a).size:Int))=false:=by rw[beq_eq_false_iff_ne,C];omega
 by_cases h8:hx a<8;have l:Hid (jT t 3 [] 0):=by rw[g];exact jne D hh (.inl h8)
 have q8:(hx a:Int)<8:=by omega
 clear hh;clear y x C d;generalize B a=R at *
 generalize B s=S at *
 generalize B t=T at *
 rotate_left;have q8:¬(hx a:Int)<8:=by omega
 have aK:hx a<=8:=by unfold hx;exact jpg (jp1 _).length_le (by simp;omega)
 have aL:hx a<=a.length:=by unfold hx;exact jpg (jp1 _).length_le (by simp;omega)
 have aM:8<(B a).size:=by omega
 have aS:(8:Int)<(B a).size:=by omega
 have e8:=xM aM;rw[jj]at e8;by_cases G:(B a)[8]=10;have a8:((((B a)[8]).toNat:Int)==10)=true:=by rw[G];rfl
 have ai:((((B a)[8]).toNat:Int) != 10)=false:=by rw[G];rfl
 rw[G]at e8;obtain⟨f,q,hf,aw,ak,ag⟩:=jnf (by omega) e8;have xf:Hid ((B a).extract 0 8=B f):=by show _=_;rw[ext_take,ak]
 have xq:Hid ((B a).extract 9 (B a).size=B q):=by show _=_;rw[ext_drop,ag]
 have hq:q.length<=700000:=by rw[ag];simp;omega
 have j:t=jP v f++10::q:=by rw[g,aw];unfold jP;simp
 have aZ:(9:Int)<=(B a).size:=by omega
 clear ak ag G e8 hh aL aK aw;have bq:=jg q
 by_cases ar:q.length<v;have aN:((B q).size:Int)<v:=by omega
 have I:=joI (KK N D hf ar);rw[<- j]at I;have u:yb q v=(sp true q && !(fresh true q&&decide (v-q.length<2))):=rfl
 have L1:=joI (fun w=>Vy (B q) (by omega) w);simp only[jj]at L1;by_cases h0:q.length=0;have q0:(B q).size=0:=by omega
 have l:Hid (jT t 2 [] 0):=yO (I.out.1.2 (by
  obtain rfl:=jpP h0;have:¬v<2:=by omega
  rw[u];simp[sp,this]))
 have A:sp true q=true:=by obtain rfl:=jpP h0;rfl
 rw[A]at L1;have w5:IntKind.i64.wrap (v:Int)=v:=jph _ (by omega)
 clear u A h0 bq I j g;clear y x C d;generalize B q=Q at *
 generalize B a=R at *
 generalize B s=S at *
 generalize B t=T at *
 rotate_left;have aA:(B q).size-1<(B q).size:=by omega
 have q0:((((B q).size:Nat):Int)==0)=false:=by rw[beq_eq_false_iff_ne];omega
 have be:¬(B q).size=0:=by omega
 have ae:=je6 aA;have wm:IntKind.i64.wrap (((B q).size:Int)-1)=(((B q).size-1:Nat):Int):=by rw[show((B q).size:Int)-1=(((B q).size-1:Nat):Int) by omega];exact jph _ (by omega)
 have c1:=Kt (c:=(B q)[(B q).size-1]) 10 10 rfl;obtain⟨m,hm⟩:∃m,(B q).size-1=m:=⟨_,rfl⟩
 have aB:∀(m:Nat) (h:m<(B q).size),(B q).size-1=m->((B q)[(B q).size-1]=(B q)[m]):=fun m h e=>by subst e;rfl
 have aI:m<(B q).size:=by omega
 have aR:(m:Int)<(B q).size:=by omega
 have hk:=aB m aI hm;rw[hk]at c1 ae;rw[hm]at wm;clear aB hk;have w5:IntKind.i64.wrap ((v:Int)-((B q).size:Int))=(v:Int)-((B q).size:Int):=jph _ (by omega)
 rw[ae]at u;clear hm ae aA;generalize aH:((B q)[m]==10)=lb at *
 clear aH;cases A:sp true q;have l:Hid (jT t 3 [] 0):=vD (fun h=>by have:=I.out.1.1 h;rw[u,A]at this;simp at this) I.out.2
 rw[A]at L1;clear u A bq I j g h0;cases lb;have aa:¬(((B q)[m]).toNat:Int)=10:=by simpa using c1
 clear y x C d;generalize B q=Q at *
 generalize B a=R at *
 generalize B s=S at *
 generalize B t=T at *
 rotate_left;have aa:(((B q)[m]).toNat:Int)=10:=by simpa using c1
 clear y x C d;generalize B q=Q at *
 generalize B a=R at *
 generalize B s=S at *
 generalize B t=T at *
 rotate_left;rw[A]at L1 u;cases lb;have l:Hid (jT t 2 [] 0):=yO (I.out.1.2 (by rw[u];rfl))
 have aa:¬(((B q)[m]).toNat:Int)=10:=by simpa using c1
 clear u A bq I j g h0;clear y x C d;generalize B q=Q at *
 generalize B a=R at *
 generalize B s=S at *
 generalize B t=T at *
 rotate_left;have aa:(((B q)[m]).toNat:Int)=10:=by simpa using c1
 by_cases h2:v-q.length<2;have l:Hid (jT t 3 [] 0):=vD (fun h=>by have:=I.out.1.1 h;rw[u]at this;simp[h2]at this) I.out.2
 have q2:(v:Int)-((B q).size:Int)<2:=by omega
 clear u A bq I j g h0 h2;clear y x C d;generalize B q=Q at *
 generalize B a=R at *
 generalize B s=S at *
 generalize B t=T at *
 rotate_left;have l:Hid (jT t 2 [] 0):=yO (I.out.1.2 (by rw[u];simp;omega))
 have q2:¬(v:Int)-((B q).size:Int)<2:=by omega
 clear u A bq I j g h0 h2;clear y x C d;generalize B q=Q at *
 generalize B a=R at *
 generalize B s=S at *
 generalize B t=T at *
 rotate_left;have aN:¬((B q).size:Int)<v:=by omega
 have bi:(v:Int)<=(B q).size:=by omega
 have xb:Hid ((B q).extract 0 v=B (q.take v)):=ext_take q v;have xr:Hid ((B q).extract v (B q).size=B (q.drop v)):=ext_drop q v
 have X:(q.take v).length=v:=by simp;omega
 have au:q=q.take v++q.drop v:=(jpb v q).symm;rw[au]at j;have G1:=joI (fun w=>Zk (B (q.take v)) (by rw[jg];omega) w)
 simp only[jj]at G1;have aX:(q.drop v).length<=700000:=by simp;omega
 clear au ar bq;generalize q.take v=J at *
 generalize q.drop v=V at *
 cases Y:goodR J;have l:Hid (jT t 3 [] 0):=by show jT _ _ _ _;rw[j];exact jje N D hf X Y
 rw[Y]at G1;clear Y j g;clear y x C d;generalize B q=Q at *
 generalize B a=R at *
 generalize B s=S at *
 generalize B t=T at *
 rotate_left;rw[Y]at G1;have A1:=joI (fun w=>WX v D f (by rw[xC hf];omega) w)
 have aU:(zj v).length<=30:=by have:=xG (show v<=99999 by omega);unfold zj END;simp;omega
 have bf:=jg (zj v);have ah:=jg V
 by_cases av:V.length<(zj v).length;have aO:((B V).size:Int)<((B (zj v)).size:Int):=by omega
 have Z:=joI (jgT N D hf X Y av);rw[<- j]at Z;have B2:=joI (fun w=>Qj V (zj v) (by omega) (by omega) w)
 generalize Lib.hasPrefix (zj v) V=p at *
 generalize B (zj v)=F at *
 clear j g Y bf ah;generalize B V=RS at *
 rcases Bool.eq_false_or_eq_true p with rfl|rfl;have l:=joI (Z.out.1 rfl)
 clear y x C d;generalize B q=Q at *
 generalize B a=R at *
 generalize B s=S at *
 generalize B t=T at *
 rotate_left;have l:=joI (Z.out.2 rfl)
 clear y x C d;generalize B q=Q at *
 generalize B a=R at *
 generalize B s=S at *
 generalize B t=T at *
 rotate_left;have aO:¬((B V).size:Int)<((B (zj v)).size:Int):=by omega
 have Z:=joI (jgS N D hf X Y av);rw[<- j]at Z;have B2:=joI (fun w=>JC V (zj v) (by omega) (by omega) w)
 have S1:=joI (fun w=>Sm.refSum_any (B J) w (by rw[jg];unfold maxLen;omega));simp only[jj]at S1;have F1:=joI (fun w=>Sm.refFigures_any (Sm.M.crc J) (Sm.M.crc_lt J) w)
 have eF:Sm.figs (Sm.M.crc J)=B (vt J):=(jfB _).symm;simp only[eF]at F1;have P:((B (vt J)).toList==(B f).toList)=decide (vt J=f):=by rw[jpn,jpn,jj,jj,jpI];simp
 have LN:=joI (fun w=>Ur (v:Int) w);have af:=jjb Y
 rw[X]at af;rw[af]at LN;generalize Lib.hasPrefix V (zj v)=p at *
 generalize B (zj v)=F at *
 clear j g Y bf ah af;generalize B V=RS at *
 cases p;have l:=joI (Z.out.1 (.inl rfl))
 clear P;clear y x C d;generalize B q=Q at *
 generalize B a=R at *
 generalize B s=S at *
 generalize B t=T at *
 rotate_left;by_cases K:vt J=f;have l:=joI (Z.out.2 rfl K)
 rw[decide_eq_true K]at P;clear K;generalize aD:B J=BD at *
 generalize B (vt J)=FG at *
 generalize B f=FF at *
 clear y x C d;generalize B q=Q at *
 generalize B a=R at *
 generalize B s=S at *
 generalize B t=T at *
 rotate_left;have l:=joI (Z.out.1 (.inr K))
 rw[decide_eq_false K]at P;clear K;generalize B J=BD at *
 generalize B (vt J)=FG at *
 generalize B f=FF at *
 clear y x C d;generalize B q=Q at *
 generalize B a=R at *
 generalize B s=S at *
 generalize B t=T at *
 rotate_left;have l:Hid (jT t 3 [] 0):=by rw[g];exact jne D hh (.inr (by rw[e8];simpa using G))
 have a8:((((B a)[8]).toNat:Int)==10)=false:=by have:=Kt (c:=(B a)[8]) 10 10 rfl;rw[this];simpa using G
 have aP:¬(((B a)[8]).toNat:Int)=10:=by simpa using a8
 have ai:((((B a)[8]).toNat:Int) != 10)=true:=by simpa using a8
 clear hh e8 G;clear y x C d;generalize B a=R at *
 generalize B s=S at *
 generalize B t=T at *
 rotate_left;have l:Hid (jT t 3 [] 0):=by rw[g,d];exact jhQ (by omega) hc (.inl W)
 have aC:(c==32)=false:=by simpa using W
 rw[aC]at c2;have aT:((c.toNat:Int) != 32)=true:=by simpa using c2
 clear d;clear y x;generalize B s=S at *
 generalize B t=T at *
 rotate_left
 all_goals
  go_enter func57,ntmps57;rw[zA];go_wp2_with fail;refine(B1.out _).mono ?_;rintro e U ⟨rfl,rfl⟩;go_wp2_with fail
  try (rw[x7.out];refine(D1.out _).mono ?_;rintro e U ⟨rfl,rfl⟩;go_wp2_with fail)
  try (rw[xd.out];refine(N1.out _).mono ?_;rintro e U ⟨rfl,rfl⟩;go_wp2_with fail)
  try (rw[x8.out];refine(H1.out _).mono ?_;rintro e U ⟨rfl,rfl⟩;first | (have aY:=xf;(go_upto_region 26 with fail);rw[xf.out,xq.out];go_wp2_with fail) | go_wp2_with fail)
  try (refine(L1.out _).mono ?_;rintro e U ⟨rfl,rfl⟩;go_wp2_with fail)
  try (rw[xb.out];refine(G1.out _).mono ?_;rintro e U ⟨rfl,rfl⟩;go_wp2_with fail)
  try (rw[xr.out];refine(A1.out _).mono ?_;rintro e U ⟨rfl,rfl⟩;go_wp2_with fail)
  try (refine(B2.out _).mono ?_;rintro e U ⟨rfl,rfl⟩;go_wp2_with fail)
  try (refine(S1.out _).mono ?_;rintro e U ⟨rfl,rfl⟩;go_wp2_with fail)
  try (refine(F1.out _).mono ?_;rintro e U ⟨rfl,rfl⟩;go_wp2_with fail)
  try (refine(LN.out _).mono ?_;rintro e U ⟨rfl,rfl⟩;go_wp2_with fail)
  go_ret3;exact⟨_,_,_,l.out,by first | rfl | (rw[<- aD];rfl),rfl⟩
end Fr
section
attribute [local go_sem] joY
theorem vF(u:Nat)(d:u<18446744073709551616)(w:World):Calls prog 197 #[.int .u64 u] w fun e f=>e=.returned (.string (B (Lib.decDigits u)))/\f=w:=by
 induction u using Nat.strongRecOn generalizing w with
 | _ u a =>
 by_cases h:u<10
 ·rw[jqt h];clear a d;obtain rfl|rfl|rfl|rfl|rfl|rfl|rfl|rfl|rfl|rfl:u=0\/u=1\/u=2\/u=3\/u=4\/u=5\/u=6\/u=7\/u=8\/u=9:=by omega
  all_goals
   go_enter func197,ntmps197;go_wp2_with fail;go_ret;exact⟨by kernel_rfl,rfl⟩
 have q:¬(u:Int)<10:=by omega
 have b:=joI (a (u / 10) (by omega) (by omega));have c:=joI (a (u % 10) (by omega) (by omega))
 rw[Int.natCast_ediv]at b;rw[Int.natCast_emod]at c;have E:Hid (B (Lib.decDigits (u / 10))++B (Lib.decDigits (u % 10))=B (Lib.decDigits u)):=by
  show _=_;rw[jn,jqt (i:=u % 10) (by omega)];congr 1
  conv=>rhs;rw[Lib.decDigits,dif_neg h]
 have j:(B (Lib.decDigits (u / 10))).size<=30:=by
  rw[jg,jpY];have:=jqA (u / 10) (by omega)
  omega
 have k:(B (Lib.decDigits (u % 10))).size<=30:=by rw[jg,jqt (by omega)];exact(by decide:1<=30)
 clear a;generalize B (Lib.decDigits (u / 10))=x at *
 generalize B (Lib.decDigits (u % 10))=y at *
 go_enter func197,ntmps197;go_wp2_with fail;refine(b.out _).mono ?_;rintro e g ⟨rfl,rfl⟩;go_wp2_with fail;refine(c.out _).mono ?_;rintro e g ⟨rfl,rfl⟩;go_wp2_with fail;go_ret;exact⟨by rw[<- E.out];rfl,rfl⟩
theorem figures_any(n:Int)(c:I64 n)(w:World):Calls prog 154 #[.int .i64 n] w fun e d=>e=.returned (.string (B (Lib.itoa n)))/\d=w:=by
 obtain⟨i,j⟩:=c;by_cases h:n<0
 ·obtain⟨u,rfl⟩:∃u:Nat,n = -((u:Int)+1):=⟨(-n-1).toNat,by omega⟩
  have b:IntKind.i64.wrap (-((u:Int)+1)+1) = -(u:Int):=by rw[show -((u:Int)+1)+1 = -(u:Int) by omega];exact jph _ (by omega)
  have k:IntKind.i64.wrap (u:Int)=(u:Int):=jph _ (by omega);have f:IntKind.u64.wrap (u:Int)=(u:Int):=by rw[jqO];omega
  have l:IntKind.u64.wrap ((u:Int)+1)=(u:Int)+1:=by rw[jqO];omega
  have a:=joI (vF (u+1) (by omega) w);rw[Int.natCast_add,show((1:Nat):Int)=1 from rfl]at a;have E:Hid ((⟨#[45]⟩:ByteArray)++B (Lib.decDigits (u+1))=B (Lib.itoa (-((u:Int)+1)))):=by show _=_;rw[show -((u:Int)+1) = -((u+1:Nat):Int) by omega,Lib.itoa_neg _ (by omega),show(⟨#[45]⟩:ByteArray)=B [45] from rfl,jn];rfl
  have g:(B (Lib.decDigits (u+1))).size<=30:=by
   rw[jg,jpY];have:=jqA (u+1) (by omega)
   omega
  generalize B (Lib.decDigits (u+1))=x at *
  go_enter func154,ntmps154;go_wp2_with fail;refine a.out.mono ?_;rintro e b ⟨rfl,rfl⟩;go_wp2_with fail;go_ret;exact⟨by rw[<- E.out];rfl,rfl⟩
 obtain⟨u,rfl⟩:∃u:Nat,n=(u:Int):=⟨n.toNat,by omega⟩
 have f:IntKind.u64.wrap (u:Int)=(u:Int):=by rw[jqO];omega
 have a:=joI (vF u (by omega) w);rw[jpZ];generalize B (Lib.decDigits u)=x at *
 go_enter func154,ntmps154;go_wp2_with fail;refine a.out.mono ?_;rintro e b ⟨rfl,rfl⟩;go_wp2_with fail;go_ret;exact⟨rfl,rfl⟩
theorem VB(k i:Int)(h:Value)(f:I64 i)(w:World):
  Calls prog 112 #[.agg #[.int .i64 k,.int .i64 i,h]] w fun e p=>e=.returned (.string (B (zi k i)))/\Below w.heap.size w p:=by
 have c:=joI (show Below w.heap.size w (w.alloc (.cells #[.int .i64 k,.int .i64 i,h] 75)) from(joL _ w).alloc (joJ _) _);have d:=joI (fun W=>figures_any i f W)
 have g:=Lib.itoa_length_le i f.1 f.2;have q:(B (Lib.itoa i)).size<=21:=by rw[jg];exact g
 have E:Hid (∀b:Int,(b=1\/b=2\/b=3)->B (32::(qx b++[32]))++B (Lib.itoa i)=B (zi b i)):=by intro b o;rw[jn];unfold zi;rw[if_pos o];congr 1;simp
 generalize B (Lib.itoa i)=x at *
 by_cases j:k=1
 ·subst j;have a:=joI (E.out 1 (.inl rfl))
  clear E;go_enter func112,ntmps112;go_wp2_with fail;refine(d.out _).mono ?_;rintro e n ⟨rfl,rfl⟩;go_wp2_with fail;go_ret;exact⟨by rw[<- a.out];rfl,c.out⟩
 have r:(k==1)=false:=by simpa using j
 by_cases l:k=2
 ·subst l;have a:=joI (E.out 2 (.inr (.inl rfl)))
  clear E;go_enter func112,ntmps112;go_wp2_with fail;refine(d.out _).mono ?_;rintro e n ⟨rfl,rfl⟩;go_wp2_with fail;go_ret;exact⟨by rw[<- a.out];rfl,c.out⟩
 have s:(k==2)=false:=by simpa using l
 by_cases m:k=3
 ·subst m;have a:=joI (E.out 3 (.inr (.inr rfl)))
  clear E;go_enter func112,ntmps112;go_wp2_with fail;refine(d.out _).mono ?_;rintro e n ⟨rfl,rfl⟩;go_wp2_with fail;go_ret;exact⟨by rw[<- a.out];rfl,c.out⟩
 have t:(k==3)=false:=by simpa using m
 have a:zi k i=[]:=by unfold zi;rw[if_neg (by omega)]
 rw[a];clear E a;go_enter func112,ntmps112;go_wp2_with fail;go_ret;exact⟨rfl,c.out⟩
def numL(l:List UInt8):Option Int:=if -9223372036854775808<=qt l/\qt l<=9223372036854775807/\Lib.itoa (qt l)=l then some (qt l) else none
theorem numL_some{l:List UInt8}{i:Int}:numL l=some i↔I64 i/\Lib.itoa i=l:=by
 unfold numL;constructor
 ·intro h;split at h
  ·rename_i q;injection h with h;subst h;exact⟨⟨q.1,q.2.1⟩,q.2.2⟩
  cases h
 rintro⟨a,rfl⟩;rw[vB a,if_pos ⟨a.1,a.2,rfl⟩]
theorem Xf{l:List UInt8}(h:∀i,I64 i->Lib.itoa i≠l):numL l=none:=by
 cases e:numL l with
 | none=>rfl
 | some i=>exact absurd (numL_some.1 e).2 (h i (numL_some.1 e).1)
def numEnd(l:List UInt8):Ending:=.returned (.tuple #[.int .i64 ((numL l).getD 0),.bool (numL l).isSome])
theorem qB{l:List UInt8}(h:∀i,I64 i->Lib.itoa i≠l):numEnd l=.returned (.tuple #[.int .i64 0,.bool false]):=by unfold numEnd;rw[Xf h];rfl
theorem yQ{l:List UInt8}{i:Int}(h:I64 i)(e:Lib.itoa i=l):numEnd l=.returned (.tuple #[.int .i64 i,.bool true]):=by unfold numEnd;rw[numL_some.2 ⟨h,e⟩];rfl
theorem XM(u:Nat)(h:u<18446744073709551616):1<=(Lib.decDigits u).length/\(Lib.decDigits u).length<=20:=by
 refine⟨?_,by rw[jpY];exact jqA u h⟩;rcases jp3 (Lib.decDigits u).length with q|q
 ·exact absurd (List.length_eq_zero_iff.1 q) (WS u)
 exact q
theorem Gh{i:Int}(h:I64 i):1<=(Lib.itoa i).length/\(Lib.itoa i).length<=20:=by
 obtain⟨d,e⟩:=h;have a:∀u:Nat,u<=9223372036854775808->(Lib.decDigits u).length<=19:=fun u f=>by
  rcases jpc 19 (Lib.decDigits u).length with q|q
  ·exfalso;rw[jpY]at q;have:∀n u:Nat,n<Lib.nDigits u->10 ^ n<=u\/n=0:=by
    intro n
    induction n with
    | zero=>exact fun _ _=>.inr rfl
    | succ n c =>
    intro u b;rw[Lib.nDigits]at b;split at b
    ·omega
    rcases c (u / 10) (by omega) with z|z
    ·left;rw[jrc];omega
    subst z;left;omega
   rcases this 19 u q with z|z
   ·have:(10:Nat) ^ 19=10000000000000000000:=by decide
    omega
   omega
  exact q
 unfold Lib.itoa;split
 ·rw[joR];have:=a i.natAbs (by omega)
  omega
 exact⟨(XM _ (by omega)).1,(XM _ (by omega)).2⟩
theorem jbR(z:Int):I64 (wrap64 z):=by unfold I64 wrap64;omega
theorem yT{i:Int}(f:I64 i){l:List UInt8}(h:Lib.itoa i=l)(a:Nat)(b:a=if l.head?=some 45 then 1 else 0):
  ∃u:Nat,u<=9223372036854775808/\l.drop a=Lib.decDigits u/\i=(if a=1 then -(u:Int) else u):=by
 obtain⟨g,j⟩:=f;subst h;by_cases c:i<0
 ·have e:Lib.itoa i=45::Lib.decDigits i.natAbs:=by unfold Lib.itoa;rw[if_pos c]
  rw[e]at b ⊢;rw[if_pos (by rfl)]at b;subst b;exact⟨i.natAbs,by omega,rfl,by simp;omega⟩
 have e:Lib.itoa i=Lib.decDigits i.toNat:=by unfold Lib.itoa;rw[if_neg c]
 have d:(Lib.decDigits i.toNat).head?≠some 45:=fun q=>by have:=za i.toNat 45 (List.mem_of_mem_head? q);simp at this
 rw[e]at b ⊢;rw[if_neg d]at b;subst b;exact⟨i.toNat,by omega,rfl,by simp;omega⟩
theorem ZP{u:Nat}(i:u<=9223372036854775808){a:List UInt8}(d:a=Lib.decDigits u){j:Nat}{x:UInt8}(hx:a[j]?=some x):
  wrap64 (wrap64 (10*Jk 0 (a.take j))-((x.toNat:Int)-48))=Jk 0 (a.take (j+1)):=by
 subst d;have e:(Lib.decDigits u).take (j+1)=(Lib.decDigits u).take j++[x]:=by rw[jpd,hx];rfl
 obtain⟨k,b,f⟩:=JM u (j+1);obtain⟨m,c,h⟩:=JM u j;have g:=za u x (joW hx)
 rw[e,QV,c]at b ⊢;rw[jqJ (10 * -(m:Int)) (by omega),jqJ _ (by omega)]
theorem QU(s:ByteArray)(h1:1<=s.size)(U:s.size<=20)(Z:((s[0].toNat:Int)==45)=true)(w:World):
  Calls prog 95 #[.string s] w fun e I=>e=numEnd s.data.toList/\I=w:=by
 have h2:decide ((s.size:Int)<1)=false:=by simp;omega
 have h3:decide (20<(s.size:Int))=false:=by simp;omega
 have t:∀(k:Nat) (h:k<s.size),s.data.toList[k]?=some s[k]:=fun k h=>by rw[joM (by rw[<- jo2];exact h)];rfl
 have n:s.data.toList.head?=some s[0]:=by rw[jqV];exact t 0 (by omega)
 have J:1=if s.data.toList.head?=some 45 then 1 else 0:=by rw[n];rw[if_pos (by congr 1;apply UInt8.toNat_inj.1;have e3:(45:UInt8).toNat=45:=rfl;have:=eq_of_beq Z;omega)]
 have A:Hid (∀i,I64 i->Lib.itoa i=s.data.toList->∃u:Nat,u<=9223372036854775808/\s.data.toList.drop 1=Lib.decDigits u/\i=(if 1=1 then -(u:Int) else u)):=fun i c e=>yT c e 1 J;have x:=joI t
 have p:s.data.toList.length=s.size:=(jo2 s).symm;clear t J n;go_enter func95,ntmps95;go_wp2_with fail;go_loop [5,6] (fun o i=>∃(j:Nat) (z:Int),1<=j/\j<=s.size/\i=.int .i64 j/\o=.int .i64 z/\I64 z/\((∃i,I64 i/\Lib.itoa i=s.data.toList)->z=Jk 0 ((s.data.toList.drop 1).take (j-1)))) (fun _ i=>s.size-(intOf i).toNat)
 case atStart=>exact⟨1,0,joJ _,by omega,rfl,rfl,⟨by decide,by decide⟩,fun _=>rfl⟩
 case round =>
 obtain⟨j,z,W,hj,rfl,rfl,P,a⟩:=hrel;by_cases q:j<s.size
 ·have hb:=s[j].toNat_lt;have hx:=x.out j q
  by_cases H:¬(48<=s[j].toNat/\s[j].toNat<=57)
  ·have r:=joI (qB (l:=s.data.toList) (fun i c e=>by
    obtain⟨u,_,g,_⟩:=A.out i c e;have N:s[j]∈s.data.toList.drop 1:=joW (i:=j-1) (by rw[jpq,show 1+(j-1)=j by omega];exact hx)
    rw[g]at N;exact H (za u _ N)))
   clear a hx P;by_cases hc:s[j].toNat<48
   ·have Q:decide ((s[j].toNat:Int)<48)=true:=by simp;omega
    go_wp2_with fail;go_ret2;exact⟨by rw[r.out];rfl,rfl⟩
   have Q:decide ((s[j].toNat:Int)<48)=false:=by simp;omega
   have q2:decide (57<(s[j].toNat:Int))=true:=by simp;omega
   go_wp2_with fail;go_ret2;exact⟨by rw[r.out];rfl,rfl⟩
  replace H:=Classical.not_not.1 H;have Q:decide ((s[j].toNat:Int)<48)=false:=by simp;omega
  have q2:decide (57<(s[j].toNat:Int))=false:=by simp;omega
  have R:Hid ((∃i,I64 i/\Lib.itoa i=s.data.toList)->wrap64 (wrap64 (10*z)-((s[j].toNat:Int)-48))=Jk 0 ((s.data.toList.drop 1).take (j+1-1))):=fun m=>by obtain⟨i,c,e⟩:=_root_.id m;obtain⟨u,O,g,_⟩:=A.out i c e;rw[a m,show j+1-1=(j-1)+1 by omega];exact ZP O g (by rw[jpq,show 1+(j-1)=j by omega];exact hx)
  clear a hx;go_wp2_with fail;go_round
  case rel=>exact⟨j+1,_,by omega,q,by go_num,rfl,jbR _,R.out⟩
  case measure=>simp[intOf];omega
 obtain rfl:j=s.size:=by omega
 obtain⟨d,b⟩:∃d,d=z:=⟨_,rfl⟩
 have L:I64 d:=by rw[b];exact P
 have C:∀i,I64 i->Lib.itoa i=s.data.toList->d=i:=fun i c e=>by
  obtain⟨u,O,g,E⟩:=A.out i c e;have X:=a ⟨i,c,e⟩
  rw[jpi (by rw[joX,p];exact joJ _),g,Jj]at X;simp at E;omega
 have v:=joI (figures_any d L w);by_cases f:Lib.itoa d=s.data.toList
 ·have D:=joI (yQ L f);have K:B (Lib.itoa d)=s:=by rw[f];rfl
  rw[K]at v;clear a C f K;have y:=joI b
  clear b;go_wp2_with fail;rw[<- y.out];refine v.out.mono ?_;rintro e I ⟨rfl,rfl⟩;go_wp2_with fail;go_ret2;exact⟨by rw[D.out];rfl,rfl⟩
 have r:=joI (qB (l:=s.data.toList) (fun i c e=>f (by rw[C i c e];exact e)));have G:¬(B (Lib.itoa d)).toList=s.toList:=fun e=>f (by rw[jpn,jpn,jj]at e;exact e)
 have Y:((B (Lib.itoa d)).toList==s.toList)=false:=by simpa using G
 clear a C f;have y:=joI b
 clear b;generalize B (Lib.itoa d)=V at *
 go_wp2_with fail;rw[<- y.out];refine v.out.mono ?_;rintro e I ⟨rfl,rfl⟩;go_wp2_with fail;go_ret2;exact⟨by rw[r.out];rfl,rfl⟩
theorem QT(s:ByteArray)(h1:1<=s.size)(W:s.size<=20)(O:((s[0].toNat:Int)==45)=false)(w:World):
  Calls prog 95 #[.string s] w fun e I=>e=numEnd s.data.toList/\I=w:=by
 have h2:decide ((s.size:Int)<1)=false:=by simp;omega
 have h3:decide (20<(s.size:Int))=false:=by simp;omega
 have t:∀(k:Nat) (h:k<s.size),s.data.toList[k]?=some s[k]:=fun k h=>by rw[joM (by rw[<- jo2];exact h)];rfl
 have n:s.data.toList.head?=some s[0]:=by rw[jqV];exact t 0 (by omega)
 have J:0=if s.data.toList.head?=some 45 then 1 else 0:=by rw[n];rw[if_neg (fun e=>by have U:=congrArg UInt8.toNat (joN e);rw[U]at O;simp at O)]
 have A:Hid (∀i,I64 i->Lib.itoa i=s.data.toList->∃u:Nat,u<=9223372036854775808/\s.data.toList.drop 0=Lib.decDigits u/\i=(if 0=1 then -(u:Int) else u)):=fun i c e=>yT c e 0 J;have x:=joI t
 have p:s.data.toList.length=s.size:=(jo2 s).symm;clear t J n;go_enter func95,ntmps95;go_wp2_with fail;go_loop [5,6] (fun o i=>∃(j:Nat) (z:Int),0<=j/\j<=s.size/\i=.int .i64 j/\o=.int .i64 z/\I64 z/\((∃i,I64 i/\Lib.itoa i=s.data.toList)->z=Jk 0 ((s.data.toList.drop 0).take (j-0)))) (fun _ i=>s.size-(intOf i).toNat)
 case atStart=>exact⟨0,0,joJ _,by omega,rfl,rfl,⟨by decide,by decide⟩,fun _=>rfl⟩
 case round =>
 obtain⟨j,z,X,hj,rfl,rfl,hz,a⟩:=hrel;by_cases q:j<s.size
 ·have hb:=s[j].toNat_lt;have hx:=x.out j q
  by_cases H:¬(48<=s[j].toNat/\s[j].toNat<=57)
  ·have r:=joI (qB (l:=s.data.toList) (fun i c e=>by
    obtain⟨u,_,g,_⟩:=A.out i c e;have N:s[j]∈s.data.toList.drop 0:=joW (i:=j-0) (by rw[jpq,show 0+(j-0)=j by omega];exact hx)
    rw[g]at N;exact H (za u _ N)))
   clear a hx hz;by_cases hc:s[j].toNat<48
   ·have Q:decide ((s[j].toNat:Int)<48)=true:=by simp;omega
    go_wp2_with fail;go_ret2;exact⟨by rw[r.out];rfl,rfl⟩
   have Q:decide ((s[j].toNat:Int)<48)=false:=by simp;omega
   have q2:decide (57<(s[j].toNat:Int))=true:=by simp;omega
   go_wp2_with fail;go_ret2;exact⟨by rw[r.out];rfl,rfl⟩
  replace H:=Classical.not_not.1 H;have Q:decide ((s[j].toNat:Int)<48)=false:=by simp;omega
  have q2:decide (57<(s[j].toNat:Int))=false:=by simp;omega
  have R:Hid ((∃i,I64 i/\Lib.itoa i=s.data.toList)->wrap64 (wrap64 (10*z)-((s[j].toNat:Int)-48))=Jk 0 ((s.data.toList.drop 0).take (j+1-0))):=fun m=>by obtain⟨i,c,e⟩:=_root_.id m;obtain⟨u,P,g,_⟩:=A.out i c e;rw[a m,show j+1-0=(j-0)+1 by omega];exact ZP P g (by rw[jpq,show 0+(j-0)=j by omega];exact hx)
  clear a hx;go_wp2_with fail;go_round
  case rel=>exact⟨j+1,_,by omega,q,by go_num,rfl,jbR _,R.out⟩
  case measure=>simp[intOf];omega
 obtain rfl:j=s.size:=by omega
 obtain⟨d,b⟩:∃d,d=wrap64 (-z):=⟨_,rfl⟩
 have L:I64 d:=by rw[b];exact jbR _
 have C:∀i,I64 i->Lib.itoa i=s.data.toList->d=i:=fun i c e=>by
  obtain⟨u,P,g,E⟩:=A.out i c e;have Y:=a ⟨i,c,e⟩
  rw[jpi (by rw[joX,p];exact joJ _),g,Jj]at Y;obtain⟨i0,i1⟩:=c;simp at E;rw[b,jqJ _ (by omega)];omega
 have v:=joI (figures_any d L w);by_cases f:Lib.itoa d=s.data.toList
 ·have D:=joI (yQ L f);have K:B (Lib.itoa d)=s:=by rw[f];rfl
  rw[K]at v;clear a C f K;have y:=joI b
  clear b;go_wp2_with fail;rw[<- y.out];refine v.out.mono ?_;rintro e I ⟨rfl,rfl⟩;go_wp2_with fail;go_ret2;exact⟨by rw[D.out];rfl,rfl⟩
 have r:=joI (qB (l:=s.data.toList) (fun i c e=>f (by rw[C i c e];exact e)));have G:¬(B (Lib.itoa d)).toList=s.toList:=fun e=>f (by rw[jpn,jpn,jj]at e;exact e)
 have Z:((B (Lib.itoa d)).toList==s.toList)=false:=by simpa using G
 clear a C f;have y:=joI b
 clear b;generalize B (Lib.itoa d)=V at *
 go_wp2_with fail;rw[<- y.out];refine v.out.mono ?_;rintro e I ⟨rfl,rfl⟩;go_wp2_with fail;go_ret2;exact⟨by rw[r.out];rfl,rfl⟩
theorem number_any(l:List UInt8)(hl:l.length<=1000000)(w:World):
  Calls prog 95 #[.string (B l)] w fun e h=>e=numEnd l/\h=w:=by
 have d:=jg l;by_cases a:1<=(B l).size/\(B l).size<=20
 ·cases c:(((B l)[0]'(by omega)).toNat:Int)==45 with
  | true=>exact QU (B l) a.1 a.2 c w
  | false=>exact QT (B l) a.1 a.2 c w
 have b:=joI (qB (l:=l) (fun i f e=>by
  apply a;rw[d,<- e];exact Gh f))
 generalize B l=s at *
 by_cases j:s.size<1
 ·have g:decide ((s.size:Int)<1)=true:=by simp;omega
  go_enter func95,ntmps95;go_wp2_with fail;go_ret2;exact⟨by rw[b.out];rfl,rfl⟩
 have g:decide ((s.size:Int)<1)=false:=by simp;omega
 have k:decide (20<(s.size:Int))=true:=by simp;omega
 go_enter func95,ntmps95;go_wp2_with fail;go_ret2;exact⟨by rw[b.out];rfl,rfl⟩
theorem JD(l p:List UInt8)(hl:l.length<=1000000)(h:p.length<=1000)(w:World):
  Calls prog 111 #[.string (B l),.string (B p)] w fun e f=>e=.returned (.bool (Lib.hasPrefix l p))/\f=w:=by
 have g:=jg l;have b:=jg p
 have hx:(B l).extract 0 (B p).size=B (l.take p.length):=by apply jp5;apply Array.toList_inj.1;rw[jpS,jp2,Nat.sub_zero,jj,jj,b]
 by_cases c:p.length<=l.length
 ·have d:decide (((B p).size:Int)<=((B l).size:Int))=true:=by simp;omega
  have a:((B (l.take p.length)).toList==(B p).toList)=Lib.hasPrefix l p:=by rw[jpI];unfold Lib.hasPrefix;rw[jpW,List.prefix_iff_eq_take,beq_iff_eq,jpn,jpn,jj,jj];exact eq_comm
  generalize Lib.hasPrefix l p=q at *
  generalize B (l.take p.length)=V at *
  generalize B l=X at *
  generalize B p=Y at *
  go_enter func111,ntmps111;go_wp2_with fail;go_ret;exact⟨by rw[<- a,<- hx,b];rfl,rfl⟩
 have d:decide (((B p).size:Int)<=((B l).size:Int))=false:=by simp;omega
 have a:Lib.hasPrefix l p=false:=by
  cases q:Lib.hasPrefix l p with
  | false=>rfl
  | true =>
  unfold Lib.hasPrefix at q;have:=(List.isPrefixOf_iff_prefix.1 q).length_le
  omega
 rw[a];generalize B l=X at *
 generalize B p=Y at *
 go_enter func111,ntmps111;go_wp2_with fail;go_ret;exact⟨rfl,rfl⟩
end
def jki(eds:List Ed)(f:Fld):List Ed:=match eds.getLast? with | none=>eds | some e=>eds.dropLast++[⟨e.kind,e.id,e.fields++[f]⟩]
theorem Qo(p:List Ed)(e:Ed)(f:Fld):jki (p++[e]) f=p++[⟨e.kind,e.id,e.fields++[f]⟩]:=by unfold jki;simp
abbrev StD:=List Ed×List (List UInt8)
def zL(s:StD):Option StD:=if s.2=[] then some s else if jy s.2=0 then some (jki s.1 (jW s.2,jV s.2),[]) else none
def Ko(k:Int):List UInt8:=32::(qx k++[32])
def jbV(s:List UInt8)(k:Int)(x:Ed):Ed:=if Lib.hasPrefix s (Ko k) then (match numL (s.drop (Ko k).length) with | some n=>⟨k,n,[]⟩ | none=>x) else x
def headD(s:List UInt8):Ed:=jbV s 3 (jbV s 2 (jbV s 1 ⟨0,0,[]⟩))
def xy(s:StD)(x:List UInt8):Option StD :=
 if Lib.hasPrefix x [32,32] then (if s.1=[] then none else some (s.1,s.2++[x.drop 2]))
 else if (headD x).kind=0\/40<=s.1.length then none else some (s.1++[headD x],s.2)
def vq(s:StD)(x:List UInt8):Option StD:=(if Lib.hasPrefix x [32,32,32] then some s else zL s).bind fun s=>xy s x
def Jd:List (List UInt8)->StD->Option StD
 | [],s=>some s
 | x::r,s=>(vq s x).bind (Jd r)
theorem xl(a b:List (List UInt8))(s:StD):Jd (a++b) s=(Jd a s).bind (Jd b):=by
 induction a generalizing s with
 | nil=>rfl
 | cons x a c =>
 show(vq s x).bind (Jd (a++b))=((vq s x).bind (Jd a)).bind (Jd b);cases vq s x with
 | none=>rfl
 | some t=>exact c t
theorem je0{k i:Int}(d:k=1\/k=2\/k=3)(h:I64 i):headD (zi k i)=⟨k,i,[]⟩:=by
 have j:numL (Lib.itoa i)=some i:=numL_some.2 ⟨h,rfl⟩;have b:∀x,jbV (zi k i) k x=⟨k,i,[]⟩:=fun x=>by
  unfold jbV;have e:zi k i=Ko k++Lib.itoa i:=by unfold zi Ko;rw[if_pos d];simp
  have l:Lib.hasPrefix (zi k i) (Ko k)=true:=by unfold Lib.hasPrefix;rw[e];simp
  rw[if_pos l,e,jp8,j]
 have a:∀c x,(c=1\/c=2\/c=3)->c≠k->jbV (zi k i) c x=x:=fun c x f g=>by unfold jbV;rw[if_neg];unfold Lib.hasPrefix zi Ko;rw[if_pos d];rcases d with rfl|rfl|rfl<;>rcases f with rfl|rfl|rfl<;>first|exact absurd rfl g|simp[qx,List.isPrefixOf]
 unfold headD;rcases d with rfl|rfl|rfl
 ·rw[a 3 _ (by decide) (by decide),a 2 _ (by decide) (by decide),b]
 ·rw[a 3 _ (by decide) (by decide),b]
 rw[b]
def jij(p:List Ed)(s:StD):Prop:=zL s=some (p,[])
theorem jf2{p:List Ed}{s:StD}(h:jij p s){k i:Int}(a:k=1\/k=2\/k=3)(d:I64 i)(hl:p.length<40):vq s (zi k i)=some (p++[⟨k,i,[]⟩],[]):=by
 unfold vq;have b:=ja0 (id:=i) a
 have c:Lib.hasPrefix (zi k i) [32,32,32]=false:=by unfold zi Lib.hasPrefix;rw[if_pos a];rcases a with rfl|rfl|rfl<;>simp[qx,List.isPrefixOf]
 rw[c];show(zL s).bind _=_
 rw[h];show xy _ _=_
 unfold xy;rw[b,je0 a d,if_neg (by simp),if_neg];simp only;omega
theorem jeh{p:List Ed}{s:StD}(h:jij p s){x:List UInt8}(hx:x.head?≠some 32)(d:p≠[]):vq s (yu x)=some (p,[x]):=by
 unfold vq;have b:Lib.hasPrefix (yu x) [32,32,32]=false:=by
  unfold yu Lib.hasPrefix;cases x with
  | nil=>rfl
  | cons c r =>
  have:c≠32:=fun e=>hx (by rw[e];rfl);simp[List.isPrefixOf,Ne.symm this]
 have a:Lib.hasPrefix (yu x) [32,32]=true:=by unfold yu Lib.hasPrefix;simp[List.isPrefixOf]
 rw[b];show(zL s).bind _=_
 rw[h];show xy _ _=_
 unfold xy;rw[a,if_pos rfl,if_neg d];rfl
theorem jf1{s:StD}{x:List UInt8}(hx:x.head?=some 32)(d:s.1≠[]):vq s (yu x)=some (s.1,s.2++[x]):=by
 unfold vq;obtain⟨r,rfl⟩:∃r,x=32::r:=by
  cases x with
  | nil=>cases hx
  | cons c r=>cases hx;exact⟨r,rfl⟩
 have b:Lib.hasPrefix (yu (32::r)) [32,32,32]=true:=by unfold yu Lib.hasPrefix;simp[List.isPrefixOf]
 have a:Lib.hasPrefix (yu (32::r)) [32,32]=true:=by unfold yu Lib.hasPrefix;simp[List.isPrefixOf]
 rw[b];show xy _ _=_
 unfold xy;rw[a,if_pos rfl,if_neg d];rfl
theorem KL:∀(r:List (List UInt8)) (s:StD),(∀x∈r,x.head?=some 32)->s.1≠[]->Jd (r.map yu) s=some (s.1,s.2++r)
 | [],s,_,_=>by simp[Jd]
 | x::r,s,h,a=>by
  rw[jpr,Jd,jf1 (h x joV) a];show Jd _ _=_
  rw[KL r (s.1,s.2++[x]) (fun y b=>h y (joU _ b)) a];simp
theorem jbd(l:List UInt8):(jx l).head?=some 32:=by unfold jx;split<;>rfl
theorem je9{k l:List UInt8}(a:jF k=true):(zP k l).head?≠some 32:=by
 unfold jF at a;cases k with
 | nil=>simp at a
 | cons c r =>
 simp only[jpk]at a;obtain⟨⟨⟨⟨⟨_,_⟩,b⟩,_⟩,_⟩,_⟩:=a;have d:c≠32:=fun e=>by subst e;simp[vn,zZ]at b
 unfold zP;split<;>simp[d]
theorem jb2{p:List Ed}{e:Ed}{s:StD}(h:jij (p++[e]) s){f:Fld}(b:jF f.1=true)(g:f.2.length<=1000):
  ∃d,Jd ((jY f.1 f.2).map yu) s=some d/\jij (p++[⟨e.kind,e.id,e.fields++[f]⟩]) d:=by
 have c:p++[e]≠[]:=by simp
 have a:jY f.1 f.2=zP f.1 ((jv f.2).headD [])::(jv f.2).tail.map jx:=rfl;refine⟨(p++[e],jY f.1 f.2),?_,?_⟩
 ·rw[a,jpr,Jd,jeh h (je9 b) c];show Jd _ _=_
  rw[KL _ (p++[e],[zP f.1 ((jv f.2).headD [])]) (fun x hx=>by obtain⟨y,_,rfl⟩:=List.mem_map.1 hx;exact jbd y) c];rfl
 obtain⟨i,j,k⟩:=VC b g;unfold jij zL;rw[if_neg (by rw[a];simp),if_pos i,j,k,Qo]
theorem Vs:∀(a:List Fld) {p:List Ed} {e:Ed} {s:StD},jij (p++[e]) s->(∀f∈a,jF f.1=true/\f.2.length<=1000) ->
  ∃c,Jd ((jE a).map yu) s=some c/\jij (p++[⟨e.kind,e.id,e.fields++a⟩]) c
 | [],p,e,s,h,_=>⟨s,rfl,by rw[jo9];exact h⟩
 | f::a,p,e,s,h,b=>by
  obtain⟨g,i⟩:=b f joV;obtain⟨o,l,j⟩:=jb2 h g i;obtain⟨n,m,k⟩:=Vs a j (fun x hx=>b x (joU _ hx));refine⟨n,?_,?_⟩
  ·have d:jE (f::a)=jY f.1 f.2++jE a:=by unfold jE;rw[jo5]
   rw[d,jpt,xl,l];exact m
  simpa using k
theorem jax:∀(b p:List Ed) (s:StD),jij p s->(∀a∈b,zG a=0/\I64 a.id)->p.length+b.length<=40->∃d,Jd (zm b) s=some d/\jij (p++b) d
 | [],p,s,h,_,_=>⟨s,rfl,by rw[jo9];exact h⟩
 | a::r,p,s,h,c,hl=>by
  obtain⟨g,i⟩:=c a joV;rw[joR]at hl;have j:=jf2 h (yV g) i (by omega)
  have gf:=Zr g;obtain⟨o,m,k⟩:=Vs a.fields (p:=p) (e:=⟨a.kind,a.id,[]⟩) (s:=(p++[⟨a.kind,a.id,[]⟩],[])) (by unfold jij zL;rw[if_pos rfl]) gf.each;obtain⟨q,n,l⟩:=jax r (p++[a]) o (by simpa using k) (fun x hx=>c x (joU _ hx)) (by rw[List.length_append];simp;omega);refine⟨q,?_,by simpa using l⟩;have f:zm (a::r)=zi a.kind a.id::((jE a.fields).map yu++zm r):=by unfold zm;rw[jo5];rfl
  rw[f,Jd,j];show Jd _ _=_
  rw[xl,m];exact n
def jfF(ls:List (List UInt8)):Option (List Ed):=((Jd ls ([],[])).bind zL).map Prod.fst
theorem jfh{eds:List Ed}(b:∀a∈eds,zG a=0/\I64 a.id)(hl:eds.length<=40):jfF (zm eds)=some eds:=by
 obtain⟨s,r,p⟩:=jax eds [] ([],[]) (by unfold jij zL;rw[if_pos rfl]) b (by simpa using hl);unfold jfF;rw[r];show(zL s).map _=_
 rw[p];rfl
end Go.Proofs.YtbapfpekklcicaaGreatDoor
