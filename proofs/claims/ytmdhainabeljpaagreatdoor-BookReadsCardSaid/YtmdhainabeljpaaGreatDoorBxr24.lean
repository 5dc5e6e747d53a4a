/- Texts put together:DT. -/
import Derived.Test.YtmdhainabeljpaaGreatDoorBxr23
set_option linter.unusedVariables false
set_option maxRecDepth 100000
set_option maxHeartbeats 16000000
namespace Go.Proofs.YtmdhainabeljpaaGreatDoor.Fr
open Go.RowKit Go.Shelf
attribute [local go_sem] jil
theorem jdX{n:Nat}{f b r:List UInt8}(h2:2<=n)(h5:n<=50000)(hf:ZW f)(hl:b.length=n)(hg:qD b=false):jG (jH n f++10::(b++r)) 3 [] 0:=by
 obtain⟨hp,hw⟩:=yp (r:=r) h2 h5 hf hl
 exact qX (fun h=>by have:=(hp.1 h).1;rw[hg]at this;cases this) (fun⟨b',h⟩=>by have:=((hw b').1 h).2.1;rw[hg]at this;cases this)
theorem jcm{n:Nat}{f b r:List UInt8}(h2:2<=n)(h5:n<=50000)(hf:ZW f)(hl:b.length=n)(hg:qD b=true)(hr:r.length<(jW n).length):
  (Lib.hasPrefix (jW n) r=true->jG (jH n f++10::(b++r)) 2 [] 0)/\(Lib.hasPrefix (jW n) r=false->jG (jH n f++10::(b++r)) 3 [] 0):=by
 obtain⟨hp,hw⟩:=yp (r:=r) h2 h5 hf hl
 have hno:¬∃b',vh (jH n f++10::(b++r)) b':=by
  rintro⟨b',h⟩
  obtain⟨_,_,_,zv,e⟩:=(hw b').1 h
  rw[e]at hr;simp at hr;omega
 constructor
 ·intro h
  obtain⟨q,e⟩:=qA.1 h
  exact ym (hp.2 ⟨hg,q,e.symm,fun hq=>by rw[hq]at e;rw[e]at hr;simp at hr⟩)
 intro h
 refine qX (fun h' => ?_) hno
 obtain⟨_,z,e,_⟩:=hp.1 h'
 have:=qA.2 ⟨z,e.symm⟩
 rw[h]at this;cases this
theorem jcl{n:Nat}{f b r:List UInt8}(h2:2<=n)(h5:n<=50000)(hf:ZW f)(hl:b.length=n)(hg:qD b=true)(hr:¬r.length<(jW n).length):
  (Lib.hasPrefix r (jW n)=false\/vf b≠f->jG (jH n f++10::(b++r)) 3 [] 0)/\(Lib.hasPrefix r (jW n)=true->vf b=f->jG (jH n f++10::(b++r)) 1 b (fullR b).length):=by
 obtain⟨hp,hw⟩:=yp (r:=r) h2 h5 hf hl
 have hno:¬xB (jH n f++10::(b++r)):=by
  intro h
  obtain⟨_,z,e,hz⟩:=hp.1 h
  rw[<- e,jh7]at hr
  have:z.length≠0:=fun q=>hz (ji2 q)
  omega
 constructor
 ·intro h
  refine qX hno ?_
  rintro⟨b',h'⟩
  obtain⟨_,_,e1,zv,e2⟩:=(hw b').1 h'
  rcases h with h|h
  ·rw[qA.2 ⟨zv,e2⟩]at h;cases h
  exact h e1
 intro h e
 obtain⟨q,eq⟩:=qA.1 h
 exact .inl ⟨(hw b).2 ⟨rfl,hg,e,q,eq⟩,rfl,rfl⟩
theorem jfE{ds:List UInt8}(h:numL ds=none):∀v,1<=v->v<=50000->ds≠Lib.decDigits v:=by
 intro v _ h5 e
 have:numL ds=some (v:Int):=numL_some.2 ⟨by unfold I64;omega,by rw[e,jjc]⟩
 rw[h]at this;cases this
theorem jb2{ds:List UInt8}{i:Int}(h:numL ds=some i)(hi:i<1\/50000<i):∀v,1<=v->v<=50000->ds≠Lib.decDigits v:=by
 intro v h1 h5 e
 have:numL ds=some (v:Int):=numL_some.2 ⟨by unfold I64;omega,by rw[e,jjc]⟩
 rw[h]at this
 have:=jh9 this
 omega
theorem jgO{ds:List UInt8}{i:Int}(h:numL ds=some i)(h1:1<=i):ds=Lib.decDigits i.toNat:=by
 have:=(numL_some.1 h).2
 obtain⟨k,rfl⟩:∃k:Nat,i=k:=⟨i.toNat,by omega⟩
 rw[<- this,jjc,jju]
theorem jaW{q:List UInt8}(h:(B q).size-1<(B q).size):fresh true q=((B q)[(B q).size-1]==10):=by
 have hl:=je q
 unfold fresh
 rw[List.getLast?_eq_getElem?]
 have e:q[q.length-1]?=some ((B q)[(B q).size-1]):=by
  have:=yQ h
  rw[ji]at this
  rw[<- this]
  congr 2
 rw[e]
theorem refRead_any(t:List UInt8)(hl:t.length<=700000)(w:World):
  Calls Tryz.prog 22 #[.string (B t)] w fun e w'=>∃k b n,jG t k b n/\e=readV k b n/\w'=w:=by
 have bt:=je t
 have zA:(⟨#[37,97,109,101,110,100,32]⟩:ByteArray)=B AMD:=rfl
 by_cases h7:t.length<=7
 ·have q7:((B t).size:Int)<=7:=by omega
  have B1:=jh5 (fun w=>JW t AMD (by omega) (by decide) w)
  have HY:Hid (Lib.hasPrefix AMD t=true->jG t 2 [] 0):=fun h=>by obtain⟨q,e⟩:=qA.1 h;exact jgs e
  have HN:Hid (Lib.hasPrefix AMD t=false->jG t 3 [] 0):=fun h=>jhk h7 (fun⟨q,e⟩=>by rw[qA.2 ⟨q,e⟩]at h;cases h)
  generalize Lib.hasPrefix AMD t=q at *
  clear bt
  generalize B t=T at *
  go_enter Tryz.func22,Tryz.ntmps22
  rw[zA]
  go_wp2_with fail
  refine(B1.out _).mono ?_
  rintro e w1 ⟨rfl,rfl⟩
  cases q with
  | true =>
   have HO:=jh5 (HY.out rfl)
   go_wp2_with fail
   go_ret3
   exact⟨2,[],0,HO.out,rfl,rfl⟩
  | false =>
  have HO:=jh5 (HN.out rfl)
  go_wp2_with fail
  go_ret3
  exact⟨3,[],0,HO.out,rfl,rfl⟩
 have q7:¬((B t).size:Int)<=7:=by omega
 have q7b:(7:Int)<=(B t).size:=by omega
 have B1:=jh5 (fun w=>xz t AMD (by omega) (by decide) w)
 cases hp:Lib.hasPrefix t AMD with
 | false =>
  have HO:Hid (jG t 3 [] 0):=jdS (by omega) (fun⟨q,e⟩=>by rw[qA.2 ⟨q,e⟩]at hp;cases hp)
  rw[hp]at B1
  clear bt hp
  generalize B t=T at *
  go_enter Tryz.func22,Tryz.ntmps22
  rw[zA]
  go_wp2_with fail
  refine(B1.out _).mono ?_
  rintro e w1 ⟨rfl,rfl⟩
  go_wp2_with fail
  go_ret3
  exact⟨3,[],0,HO.out,rfl,rfl⟩
 | true =>
 obtain⟨s,hs⟩:=qA.1 hp
 rw[hp]at B1
 clear hp
 have hs7:t.drop 7=s:=by rw[hs];exact jjj (l₁:=AMD)
 have x7:=jh5 (ext_drop t 7)
 rw[hs7]at x7
 have hsl:s.length+7=t.length:=by rw[hs];simp[AMD]
 have bs:=je s
 have D1:=jh5 (fun w=>Uk (B s) (by omega) w)
 simp only[ji]at D1
 obtain⟨ds,r,hsr,hds,hdd,hrr⟩:∃ds r,s=ds++r/\s.takeWhile dgB=ds/\(∀c∈ds,dgB c=true)/\∀c r',r=c::r'->dgB c=false:=by
  refine⟨s.takeWhile dgB,s.dropWhile dgB,(List.takeWhile_append_dropWhile).symm,rfl,fun c hc=>List.all_eq_true.1 jjh c hc,fun c r' h => ?_⟩
  have:=List.head?_dropWhile_not dgB s
  rw[h]at this
  simpa using this
 rw[hds]at D1
 clear hs7 hds
 have hlen:ds.length+r.length=s.length:=by rw[hsr];simp
 rw[hsr]at hs
 have hx1:t=AMD++(ds++r):=hs
 have xd:Hid ((B s).extract 0 ds.length=B ds):=by show _=_;rw[ext_take,hsr,jkf]
 have N1:=jh5 (fun w=>number_any ds (by omega) w)
 have hkd:(ds.length:Int)<=(B s).size:=by omega
 by_cases h5:5<ds.length
 ·have q5:(5:Int)<(ds.length:Int):=by omega
  have HO:Hid (jG t 3 [] 0):=by rw[hx1];exact jhg hdd hrr h5
  clear bt bs
  generalize B s=S at *
  generalize B t=T at *
  go_enter Tryz.func22,Tryz.ntmps22
  rw[zA]
  go_wp2_with fail
  refine(B1.out _).mono ?_
  rintro e w1 ⟨rfl,rfl⟩
  go_wp2_with fail
  rw[x7.out]
  refine(D1.out _).mono ?_
  rintro e w1 ⟨rfl,rfl⟩
  go_wp2_with fail
  go_ret3
  exact⟨3,[],0,HO.out,rfl,rfl⟩
 have q5:¬(5:Int)<(ds.length:Int):=by omega
 have hsne:ds++r≠[]:=by intro q;rw[<- hsr]at q;rw[q]at hsl;simp at hsl;omega
 cases hnum:numL ds with
 | none =>
  have HO:Hid (jG t 3 [] 0):=by rw[hx1];exact jcZ hdd hrr hsne (jfE hnum)
  have e0:numEnd ds=.returned (.tuple #[.int .i64 0,.bool false]):=by unfold numEnd;rw[hnum];rfl
  simp only[e0]at N1
  clear bt bs
  generalize B s=S at *
  generalize B t=T at *
  go_enter Tryz.func22,Tryz.ntmps22
  rw[zA]
  go_wp2_with fail
  refine(B1.out _).mono ?_
  rintro e w1 ⟨rfl,rfl⟩
  go_wp2_with fail
  rw[x7.out]
  refine(D1.out _).mono ?_
  rintro e w1 ⟨rfl,rfl⟩
  go_wp2_with fail
  rw[xd.out]
  refine(N1.out _).mono ?_
  rintro e w1 ⟨rfl,rfl⟩
  go_wp2_with fail
  go_ret3
  exact⟨3,[],0,HO.out,rfl,rfl⟩
 | some i =>
 have e0:numEnd ds=.returned (.tuple #[.int .i64 i,.bool true]):=by unfold numEnd;rw[hnum];rfl
 simp only[e0]at N1
 by_cases hi1:i<1
 ·have HO:Hid (jG t 3 [] 0):=by rw[hx1];exact jcZ hdd hrr hsne (jb2 hnum (.inl hi1))
  clear bt bs
  generalize B s=S at *
  generalize B t=T at *
  go_enter Tryz.func22,Tryz.ntmps22
  rw[zA]
  go_wp2_with fail
  refine(B1.out _).mono ?_
  rintro e w1 ⟨rfl,rfl⟩
  go_wp2_with fail
  rw[x7.out]
  refine(D1.out _).mono ?_
  rintro e w1 ⟨rfl,rfl⟩
  go_wp2_with fail
  rw[xd.out]
  refine(N1.out _).mono ?_
  rintro e w1 ⟨rfl,rfl⟩
  go_wp2_with fail
  go_ret3
  exact⟨3,[],0,HO.out,rfl,rfl⟩
 by_cases hi5:50000<i
 ·have HO:Hid (jG t 3 [] 0):=by rw[hx1];exact jcZ hdd hrr hsne (jb2 hnum (.inr hi5))
  clear bt bs
  generalize B s=S at *
  generalize B t=T at *
  go_enter Tryz.func22,Tryz.ntmps22
  rw[zA]
  go_wp2_with fail
  refine(B1.out _).mono ?_
  rintro e w1 ⟨rfl,rfl⟩
  go_wp2_with fail
  rw[x7.out]
  refine(D1.out _).mono ?_
  rintro e w1 ⟨rfl,rfl⟩
  go_wp2_with fail
  rw[xd.out]
  refine(N1.out _).mono ?_
  rintro e w1 ⟨rfl,rfl⟩
  go_wp2_with fail
  go_ret3
  exact⟨3,[],0,HO.out,rfl,rfl⟩
 obtain⟨v,rfl⟩:∃v:Nat,i=v:=⟨i.toNat,by omega⟩
 have hdv:=jgO hnum (by omega)
 rw[jju]at hdv
 clear e0 hnum
 cases r with
 | nil =>
  have HO:Hid (jG t 2 [] 0):=by rw[hx1,jix,hdv];exact jhf (by omega) (by omega)
  have hks:ds.length=(B s).size:=by rw[bs,hsr];simp
  have hks2:((ds.length:Int)==((B s).size:Int))=true:=by rw[hks];simp
  clear hks hdv
  clear bt bs
  generalize B s=S at *
  generalize B t=T at *
  go_enter Tryz.func22,Tryz.ntmps22
  rw[zA]
  go_wp2_with fail
  refine(B1.out _).mono ?_
  rintro e w1 ⟨rfl,rfl⟩
  go_wp2_with fail
  rw[x7.out]
  refine(D1.out _).mono ?_
  rintro e w1 ⟨rfl,rfl⟩
  go_wp2_with fail
  rw[xd.out]
  refine(N1.out _).mono ?_
  rintro e w1 ⟨rfl,rfl⟩
  go_wp2_with fail
  go_ret3
  exact⟨2,[],0,HO.out,rfl,rfl⟩
 | cons c r' =>
 have hc:=hrr c r' rfl
 have hkz:ds.length<(B s).size:=by rw[bs,hsr];simp
 have hks2:((ds.length:Int)==((B s).size:Int))=false:=by rw[beq_eq_false_iff_ne];omega
 have g0:(B s)[ds.length]=c:=by
  have e1:s[ds.length]?=some c:=by rw[hsr,jiD (jh6 _),Nat.sub_self];rfl
  have:=yQ hkz
  rw[ji]at this
  exact jh9 (this.symm.trans e1)
 have c2:=VO (c:=c) 32 32 rfl
 by_cases h32:c=32
 ·by_cases hv2:v<2
  ·have qv:(v:Int)<2:=by omega
   have HO:Hid (jG t 3 [] 0):=by rw[hx1,hdv];exact jcY (by omega) hc (.inr hv2)
   rw[h32]at c2 g0
   have c2:(((32:UInt8).toNat:Int)==32)=true:=rfl
   clear hdv
   clear bt bs
   generalize B s=S at *
   generalize B t=T at *
   go_enter Tryz.func22,Tryz.ntmps22
   rw[zA]
   go_wp2_with fail
   refine(B1.out _).mono ?_
   rintro e w1 ⟨rfl,rfl⟩
   go_wp2_with fail
   rw[x7.out]
   refine(D1.out _).mono ?_
   rintro e w1 ⟨rfl,rfl⟩
   go_wp2_with fail
   rw[xd.out]
   refine(N1.out _).mono ?_
   rintro e w1 ⟨rfl,rfl⟩
   go_wp2_with fail
   go_ret3
   exact⟨3,[],0,HO.out,rfl,rfl⟩
  have qv:¬(v:Int)<2:=by omega
  subst h32
  have c3:(((32:UInt8).toNat:Int)==32)=true:=rfl
  clear c2
  have x8:Hid ((B s).extract (ds.length+1) (B s).size=B r'):=by show _=_;rw[ext_drop,hsr,<- jji,jjj];rfl
  have hr':r'.length<=700000:=by simp at hlen;omega
  have hks3:(ds.length:Int)+1<=(B s).size:=by omega
  have H1:=jh5 (fun w=>jf5 (B r') (by rw[je];omega) w)
  simp only[ji]at H1
  have br:=je r'
  rw[hdv]at hx1
  clear hrr hsne hlen hdd
  have h2v:2<=v:=by omega
  have h5v:v<=50000:=by omega
  by_cases hh:hx r'=r'.length
  ·have HO:Hid (jG t 2 [] 0):=by rw[hx1];exact jg4 h2v h5v hh
   have qh:((hx r':Int)==((B r').size:Int))=true:=by rw[hh,br];simp
   clear hh
   clear bt bs br hdv
   generalize B r'=R at *
   generalize B s=S at *
   generalize B t=T at *
   go_enter Tryz.func22,Tryz.ntmps22
   rw[zA]
   go_wp2_with fail
   refine(B1.out _).mono ?_
   rintro e w1 ⟨rfl,rfl⟩
   go_wp2_with fail
   rw[x7.out]
   refine(D1.out _).mono ?_
   rintro e w1 ⟨rfl,rfl⟩
   go_wp2_with fail
   rw[xd.out]
   refine(N1.out _).mono ?_
   rintro e w1 ⟨rfl,rfl⟩
   go_wp2_with fail
   rw[x8.out]
   refine(H1.out _).mono ?_
   rintro e w1 ⟨rfl,rfl⟩
   go_wp2_with fail
   go_ret3
   exact⟨2,[],0,HO.out,rfl,rfl⟩
  have qh:((hx r':Int)==((B r').size:Int))=false:=by rw[beq_eq_false_iff_ne,br];omega
  by_cases h8:hx r'<8
  ·have HO:Hid (jG t 3 [] 0):=by rw[hx1];exact jg5 h5v hh (.inl h8)
   have q8:(hx r':Int)<8:=by omega
   clear hh
   clear bt bs br hdv
   generalize B r'=R at *
   generalize B s=S at *
   generalize B t=T at *
   go_enter Tryz.func22,Tryz.ntmps22
   rw[zA]
   go_wp2_with fail
   refine(B1.out _).mono ?_
   rintro e w1 ⟨rfl,rfl⟩
   go_wp2_with fail
   rw[x7.out]
   refine(D1.out _).mono ?_
   rintro e w1 ⟨rfl,rfl⟩
   go_wp2_with fail
   rw[xd.out]
   refine(N1.out _).mono ?_
   rintro e w1 ⟨rfl,rfl⟩
   go_wp2_with fail
   rw[x8.out]
   refine(H1.out _).mono ?_
   rintro e w1 ⟨rfl,rfl⟩
   go_wp2_with fail
   go_ret3
   exact⟨3,[],0,HO.out,rfl,rfl⟩
  have q8:¬(hx r':Int)<8:=by omega
  have hx8:hx r'<=8:=by unfold hx;exact jiv (ji9 _).length_le (by simp;omega)
  have hxl:hx r'<=r'.length:=by unfold hx;exact jiv (ji9 _).length_le (by simp;omega)
  have hz8:8<(B r').size:=by omega
  have hz8i:(8:Int)<(B r').size:=by omega
  have e8:=yQ hz8
  rw[ji]at e8
  by_cases h10:(B r')[8]=10
  ·have c10:((((B r')[8]).toNat:Int)==10)=true:=by rw[h10];rfl
   have c10q:((((B r')[8]).toNat:Int) != 10)=false:=by rw[h10];rfl
   rw[h10]at e8
   obtain⟨f,q,hf,hrq,hf8,hq9⟩:=jg6 (by omega) e8
   have xf:Hid ((B r').extract 0 8=B f):=by show _=_;rw[ext_take,hf8]
   have xq:Hid ((B r').extract 9 (B r').size=B q):=by show _=_;rw[ext_drop,hq9]
   have hq:q.length<=700000:=by rw[hq9];simp;omega
   have hx2:t=jH v f++10::q:=by rw[hx1,hrq];unfold jH;simp
   have hz9:(9:Int)<=(B r').size:=by omega
   clear hf8 hq9 h10 e8 hh hxl hx8 hrq
   have bq:=je q
   by_cases hlt:q.length<v
   ·have qlt:((B q).size:Int)<v:=by omega
    have HS:=jh5 (Ya h2v h5v hf hlt)
    rw[<- hx2]at HS
    have hbp:vu q v=(sp true q && !(fresh true q&&decide (v-q.length<2))):=rfl
    have L1:=jh5 (fun w=>ZL (B q) (by omega) w)
    simp only[ji]at L1
    by_cases h0:q.length=0
    ·have q0:(B q).size=0:=by omega
     have HO:Hid (jG t 2 [] 0):=ym (HS.out.1.2 (by
      obtain rfl:=ji2 h0
      have:¬v<2:=by omega
      rw[hbp];simp[sp,this]))
     have hsp:sp true q=true:=by obtain rfl:=ji2 h0;rfl
     rw[hsp]at L1
     have w5:IntKind.i64.wrap (v:Int)=v:=jiz _ (by omega)
     clear hbp hsp h0 bq HS hx2 hx1
     clear bt bs br hdv
     generalize B q=Q at *
     generalize B r'=R at *
     generalize B s=S at *
     generalize B t=T at *
     go_enter Tryz.func22,Tryz.ntmps22
     rw[zA]
     go_wp2_with fail
     refine(B1.out _).mono ?_
     rintro e w1 ⟨rfl,rfl⟩
     go_wp2_with fail
     rw[x7.out]
     refine(D1.out _).mono ?_
     rintro e w1 ⟨rfl,rfl⟩
     go_wp2_with fail
     rw[xd.out]
     refine(N1.out _).mono ?_
     rintro e w1 ⟨rfl,rfl⟩
     go_wp2_with fail
     rw[x8.out]
     refine(H1.out _).mono ?_
     rintro e w1 ⟨rfl,rfl⟩
     go_upto_region 26 with fail
     rw[xf.out,xq.out]
     go_wp2_with fail
     refine(L1.out _).mono ?_
     rintro e w1 ⟨rfl,rfl⟩
     go_wp2_with fail
     go_ret3
     exact⟨2,[],0,HO.out,rfl,rfl⟩
    have hz1:(B q).size-1<(B q).size:=by omega
    have q0:((((B q).size:Nat):Int)==0)=false:=by rw[beq_eq_false_iff_ne];omega
    have q0b:¬(B q).size=0:=by omega
    have hfl:=jaW hz1
    have wm:IntKind.i64.wrap (((B q).size:Int)-1)=(((B q).size-1:Nat):Int):=by rw[show((B q).size:Int)-1=(((B q).size-1:Nat):Int) by omega];exact jiz _ (by omega)
    have c1:=VO (c:=(B q)[(B q).size-1]) 10 10 rfl
    obtain⟨m,hm⟩:∃m,(B q).size-1=m:=⟨_,rfl⟩
    have key:∀(m:Nat) (h:m<(B q).size),(B q).size-1=m->((B q)[(B q).size-1]=(B q)[m]):=fun m h e=>by subst e;rfl
    have hmz:m<(B q).size:=by omega
    have hmz2:(m:Int)<(B q).size:=by omega
    have hk:=key m hmz hm
    rw[hk]at c1 hfl
    rw[hm]at wm
    clear key hk
    have w5:IntKind.i64.wrap ((v:Int)-((B q).size:Int))=(v:Int)-((B q).size:Int):=jiz _ (by omega)
    rw[hfl]at hbp
    clear hm hfl hz1
    generalize hlb:((B q)[m]==10)=lb at *
    clear hlb
    cases hsp:sp true q with
    | false =>
     have HO:Hid (jG t 3 [] 0):=qX (fun h=>by have:=HS.out.1.1 h;rw[hbp,hsp]at this;simp at this) HS.out.2
     rw[hsp]at L1
     clear hbp hsp bq HS hx2 hx1 h0
     cases lb with
     | false =>
      have c1p:¬(((B q)[m]).toNat:Int)=10:=by simpa using c1
      clear bt bs br hdv
      generalize B q=Q at *
      generalize B r'=R at *
      generalize B s=S at *
      generalize B t=T at *
      go_enter Tryz.func22,Tryz.ntmps22
      rw[zA]
      go_wp2_with fail
      refine(B1.out _).mono ?_
      rintro e w1 ⟨rfl,rfl⟩
      go_wp2_with fail
      rw[x7.out]
      refine(D1.out _).mono ?_
      rintro e w1 ⟨rfl,rfl⟩
      go_wp2_with fail
      rw[xd.out]
      refine(N1.out _).mono ?_
      rintro e w1 ⟨rfl,rfl⟩
      go_wp2_with fail
      rw[x8.out]
      refine(H1.out _).mono ?_
      rintro e w1 ⟨rfl,rfl⟩
      go_upto_region 26 with fail
      rw[xf.out,xq.out]
      go_wp2_with fail
      refine(L1.out _).mono ?_
      rintro e w1 ⟨rfl,rfl⟩
      go_wp2_with fail
      go_ret3
      exact⟨3,[],0,HO.out,rfl,rfl⟩
     | true =>
     have c1p:(((B q)[m]).toNat:Int)=10:=by simpa using c1
     clear bt bs br hdv
     generalize B q=Q at *
     generalize B r'=R at *
     generalize B s=S at *
     generalize B t=T at *
     go_enter Tryz.func22,Tryz.ntmps22
     rw[zA]
     go_wp2_with fail
     refine(B1.out _).mono ?_
     rintro e w1 ⟨rfl,rfl⟩
     go_wp2_with fail
     rw[x7.out]
     refine(D1.out _).mono ?_
     rintro e w1 ⟨rfl,rfl⟩
     go_wp2_with fail
     rw[xd.out]
     refine(N1.out _).mono ?_
     rintro e w1 ⟨rfl,rfl⟩
     go_wp2_with fail
     rw[x8.out]
     refine(H1.out _).mono ?_
     rintro e w1 ⟨rfl,rfl⟩
     go_upto_region 26 with fail
     rw[xf.out,xq.out]
     go_wp2_with fail
     refine(L1.out _).mono ?_
     rintro e w1 ⟨rfl,rfl⟩
     go_wp2_with fail
     go_ret3
     exact⟨3,[],0,HO.out,rfl,rfl⟩
    | true =>
    rw[hsp]at L1 hbp
    cases lb with
    | false =>
     have HO:Hid (jG t 2 [] 0):=ym (HS.out.1.2 (by rw[hbp];rfl))
     have c1p:¬(((B q)[m]).toNat:Int)=10:=by simpa using c1
     clear hbp hsp bq HS hx2 hx1 h0
     clear bt bs br hdv
     generalize B q=Q at *
     generalize B r'=R at *
     generalize B s=S at *
     generalize B t=T at *
     go_enter Tryz.func22,Tryz.ntmps22
     rw[zA]
     go_wp2_with fail
     refine(B1.out _).mono ?_
     rintro e w1 ⟨rfl,rfl⟩
     go_wp2_with fail
     rw[x7.out]
     refine(D1.out _).mono ?_
     rintro e w1 ⟨rfl,rfl⟩
     go_wp2_with fail
     rw[xd.out]
     refine(N1.out _).mono ?_
     rintro e w1 ⟨rfl,rfl⟩
     go_wp2_with fail
     rw[x8.out]
     refine(H1.out _).mono ?_
     rintro e w1 ⟨rfl,rfl⟩
     go_upto_region 26 with fail
     rw[xf.out,xq.out]
     go_wp2_with fail
     refine(L1.out _).mono ?_
     rintro e w1 ⟨rfl,rfl⟩
     go_wp2_with fail
     go_ret3
     exact⟨2,[],0,HO.out,rfl,rfl⟩
    | true =>
    have c1p:(((B q)[m]).toNat:Int)=10:=by simpa using c1
    by_cases h2:v-q.length<2
    ·have HO:Hid (jG t 3 [] 0):=qX (fun h=>by have:=HS.out.1.1 h;rw[hbp]at this;simp[h2]at this) HS.out.2
     have q2:(v:Int)-((B q).size:Int)<2:=by omega
     clear hbp hsp bq HS hx2 hx1 h0 h2
     clear bt bs br hdv
     generalize B q=Q at *
     generalize B r'=R at *
     generalize B s=S at *
     generalize B t=T at *
     go_enter Tryz.func22,Tryz.ntmps22
     rw[zA]
     go_wp2_with fail
     refine(B1.out _).mono ?_
     rintro e w1 ⟨rfl,rfl⟩
     go_wp2_with fail
     rw[x7.out]
     refine(D1.out _).mono ?_
     rintro e w1 ⟨rfl,rfl⟩
     go_wp2_with fail
     rw[xd.out]
     refine(N1.out _).mono ?_
     rintro e w1 ⟨rfl,rfl⟩
     go_wp2_with fail
     rw[x8.out]
     refine(H1.out _).mono ?_
     rintro e w1 ⟨rfl,rfl⟩
     go_upto_region 26 with fail
     rw[xf.out,xq.out]
     go_wp2_with fail
     refine(L1.out _).mono ?_
     rintro e w1 ⟨rfl,rfl⟩
     go_wp2_with fail
     go_ret3
     exact⟨3,[],0,HO.out,rfl,rfl⟩
    have HO:Hid (jG t 2 [] 0):=ym (HS.out.1.2 (by rw[hbp];simp;omega))
    have q2:¬(v:Int)-((B q).size:Int)<2:=by omega
    clear hbp hsp bq HS hx2 hx1 h0 h2
    clear bt bs br hdv
    generalize B q=Q at *
    generalize B r'=R at *
    generalize B s=S at *
    generalize B t=T at *
    go_enter Tryz.func22,Tryz.ntmps22
    rw[zA]
    go_wp2_with fail
    refine(B1.out _).mono ?_
    rintro e w1 ⟨rfl,rfl⟩
    go_wp2_with fail
    rw[x7.out]
    refine(D1.out _).mono ?_
    rintro e w1 ⟨rfl,rfl⟩
    go_wp2_with fail
    rw[xd.out]
    refine(N1.out _).mono ?_
    rintro e w1 ⟨rfl,rfl⟩
    go_wp2_with fail
    rw[x8.out]
    refine(H1.out _).mono ?_
    rintro e w1 ⟨rfl,rfl⟩
    go_upto_region 26 with fail
    rw[xf.out,xq.out]
    go_wp2_with fail
    refine(L1.out _).mono ?_
    rintro e w1 ⟨rfl,rfl⟩
    go_wp2_with fail
    go_ret3
    exact⟨2,[],0,HO.out,rfl,rfl⟩
   have qlt:¬((B q).size:Int)<v:=by omega
   have qle:(v:Int)<=(B q).size:=by omega
   have xb:Hid ((B q).extract 0 v=B (q.take v)):=ext_take q v
   have xr:Hid ((B q).extract v (B q).size=B (q.drop v)):=ext_drop q v
   have hbl:(q.take v).length=v:=by simp;omega
   have hqe:q=q.take v++q.drop v:=(jiy v q).symm
   rw[hqe]at hx2
   have G1:=jh5 (fun w=>xY (B (q.take v)) (by rw[je];omega) w)
   simp only[ji]at G1
   have hrl:(q.drop v).length<=700000:=by simp;omega
   clear hqe hlt bq
   generalize q.take v=bd at *
   generalize q.drop v=rs at *
   cases hg:qD bd with
   | false =>
    have HO:Hid (jG t 3 [] 0):=by show jG _ _ _ _;rw[hx2];exact jdX h2v h5v hf hbl hg
    rw[hg]at G1
    clear hg hx2 hx1
    clear bt bs br hdv
    generalize B q=Q at *
    generalize B r'=R at *
    generalize B s=S at *
    generalize B t=T at *
    go_enter Tryz.func22,Tryz.ntmps22
    rw[zA]
    go_wp2_with fail
    refine(B1.out _).mono ?_
    rintro e w1 ⟨rfl,rfl⟩
    go_wp2_with fail
    rw[x7.out]
    refine(D1.out _).mono ?_
    rintro e w1 ⟨rfl,rfl⟩
    go_wp2_with fail
    rw[xd.out]
    refine(N1.out _).mono ?_
    rintro e w1 ⟨rfl,rfl⟩
    go_wp2_with fail
    rw[x8.out]
    refine(H1.out _).mono ?_
    rintro e w1 ⟨rfl,rfl⟩
    go_upto_region 26 with fail
    rw[xf.out,xq.out]
    go_wp2_with fail
    rw[xb.out]
    refine(G1.out _).mono ?_
    rintro e w1 ⟨rfl,rfl⟩
    go_wp2_with fail
    go_ret3
    exact⟨3,[],0,HO.out,rfl,rfl⟩
   | true =>
   rw[hg]at G1
   have A1:=jh5 (fun w=>YO v h5v f (by rw[yJ hf];omega) w)
   have hfo:(jW v).length<=30:=by
    have:=yN (show v<=99999 by omega)
    unfold jW END;simp;omega
   have bf:=je (jW v)
   have brs:=je rs
   by_cases hrf:rs.length<(jW v).length
   ·have qrf:((B rs).size:Int)<((B (jW v)).size:Int):=by omega
    have HL:=jh5 (jcm h2v h5v hf hbl hg hrf)
    rw[<- hx2]at HL
    have B2:=jh5 (fun w=>JW rs (jW v) (by omega) (by omega) w)
    generalize Lib.hasPrefix (jW v) rs=p at *
    generalize B (jW v)=F at *
    clear hx2 hx1 hg bf brs
    generalize B rs=RS at *
    cases p with
    | true =>
     have HO:=jh5 (HL.out.1 rfl)
     clear bt bs br hdv
     generalize B q=Q at *
     generalize B r'=R at *
     generalize B s=S at *
     generalize B t=T at *
     go_enter Tryz.func22,Tryz.ntmps22
     rw[zA]
     go_wp2_with fail
     refine(B1.out _).mono ?_
     rintro e w1 ⟨rfl,rfl⟩
     go_wp2_with fail
     rw[x7.out]
     refine(D1.out _).mono ?_
     rintro e w1 ⟨rfl,rfl⟩
     go_wp2_with fail
     rw[xd.out]
     refine(N1.out _).mono ?_
     rintro e w1 ⟨rfl,rfl⟩
     go_wp2_with fail
     rw[x8.out]
     refine(H1.out _).mono ?_
     rintro e w1 ⟨rfl,rfl⟩
     go_upto_region 26 with fail
     rw[xf.out,xq.out]
     go_wp2_with fail
     rw[xb.out]
     refine(G1.out _).mono ?_
     rintro e w1 ⟨rfl,rfl⟩
     go_wp2_with fail
     rw[xr.out]
     refine(A1.out _).mono ?_
     rintro e w1 ⟨rfl,rfl⟩
     go_wp2_with fail
     refine(B2.out _).mono ?_
     rintro e w1 ⟨rfl,rfl⟩
     go_wp2_with fail
     go_ret3
     exact⟨2,[],0,HO.out,rfl,rfl⟩
    | false =>
    have HO:=jh5 (HL.out.2 rfl)
    clear bt bs br hdv
    generalize B q=Q at *
    generalize B r'=R at *
    generalize B s=S at *
    generalize B t=T at *
    go_enter Tryz.func22,Tryz.ntmps22
    rw[zA]
    go_wp2_with fail
    refine(B1.out _).mono ?_
    rintro e w1 ⟨rfl,rfl⟩
    go_wp2_with fail
    rw[x7.out]
    refine(D1.out _).mono ?_
    rintro e w1 ⟨rfl,rfl⟩
    go_wp2_with fail
    rw[xd.out]
    refine(N1.out _).mono ?_
    rintro e w1 ⟨rfl,rfl⟩
    go_wp2_with fail
    rw[x8.out]
    refine(H1.out _).mono ?_
    rintro e w1 ⟨rfl,rfl⟩
    go_upto_region 26 with fail
    rw[xf.out,xq.out]
    go_wp2_with fail
    rw[xb.out]
    refine(G1.out _).mono ?_
    rintro e w1 ⟨rfl,rfl⟩
    go_wp2_with fail
    rw[xr.out]
    refine(A1.out _).mono ?_
    rintro e w1 ⟨rfl,rfl⟩
    go_wp2_with fail
    refine(B2.out _).mono ?_
    rintro e w1 ⟨rfl,rfl⟩
    go_wp2_with fail
    go_ret3
    exact⟨3,[],0,HO.out,rfl,rfl⟩
   have qrf:¬((B rs).size:Int)<((B (jW v)).size:Int):=by omega
   have HL:=jh5 (jcl h2v h5v hf hbl hg hrf)
   rw[<- hx2]at HL
   have B2:=jh5 (fun w=>xz rs (jW v) (by omega) (by omega) w)
   have S1:=jh5 (fun w=>Sm.refSum_any (B bd) w (by rw[je];unfold maxLen;omega))
   simp only[ji]at S1
   have F1:=jh5 (fun w=>Sm.refFigures_any (Sm.M.crc bd) (Sm.M.crc_lt bd) w)
   have eF:Sm.figs (Sm.M.crc bd)=B (vf bd):=(jbh _).symm
   simp only[eF]at F1
   have same:((B (vf bd)).toList==(B f).toList)=decide (vf bd=f):=by rw[jiu,jiu,ji,ji,jiX];simp
   have LN:=jh5 (fun w=>Xc (v:Int) w)
   have hle:=jdV hg
   rw[hbl]at hle
   rw[hle]at LN
   generalize Lib.hasPrefix rs (jW v)=p at *
   generalize B (jW v)=F at *
   clear hx2 hx1 hg bf brs hle
   generalize B rs=RS at *
   cases p with
   | false =>
    have HO:=jh5 (HL.out.1 (.inl rfl))
    clear same
    clear bt bs br hdv
    generalize B q=Q at *
    generalize B r'=R at *
    generalize B s=S at *
    generalize B t=T at *
    go_enter Tryz.func22,Tryz.ntmps22
    rw[zA]
    go_wp2_with fail
    refine(B1.out _).mono ?_
    rintro e w1 ⟨rfl,rfl⟩
    go_wp2_with fail
    rw[x7.out]
    refine(D1.out _).mono ?_
    rintro e w1 ⟨rfl,rfl⟩
    go_wp2_with fail
    rw[xd.out]
    refine(N1.out _).mono ?_
    rintro e w1 ⟨rfl,rfl⟩
    go_wp2_with fail
    rw[x8.out]
    refine(H1.out _).mono ?_
    rintro e w1 ⟨rfl,rfl⟩
    go_upto_region 26 with fail
    rw[xf.out,xq.out]
    go_wp2_with fail
    rw[xb.out]
    refine(G1.out _).mono ?_
    rintro e w1 ⟨rfl,rfl⟩
    go_wp2_with fail
    rw[xr.out]
    refine(A1.out _).mono ?_
    rintro e w1 ⟨rfl,rfl⟩
    go_wp2_with fail
    refine(B2.out _).mono ?_
    rintro e w1 ⟨rfl,rfl⟩
    go_wp2_with fail
    go_ret3
    exact⟨3,[],0,HO.out,rfl,rfl⟩
   | true =>
   by_cases hfe:vf bd=f
   ·have HO:=jh5 (HL.out.2 rfl hfe)
    rw[decide_eq_true hfe]at same
    clear hfe
    generalize hBD:B bd=BD at *
    generalize B (vf bd)=FG at *
    generalize B f=FF at *
    clear bt bs br hdv
    generalize B q=Q at *
    generalize B r'=R at *
    generalize B s=S at *
    generalize B t=T at *
    go_enter Tryz.func22,Tryz.ntmps22
    rw[zA]
    go_wp2_with fail
    refine(B1.out _).mono ?_
    rintro e w1 ⟨rfl,rfl⟩
    go_wp2_with fail
    rw[x7.out]
    refine(D1.out _).mono ?_
    rintro e w1 ⟨rfl,rfl⟩
    go_wp2_with fail
    rw[xd.out]
    refine(N1.out _).mono ?_
    rintro e w1 ⟨rfl,rfl⟩
    go_wp2_with fail
    rw[x8.out]
    refine(H1.out _).mono ?_
    rintro e w1 ⟨rfl,rfl⟩
    go_upto_region 26 with fail
    rw[xf.out,xq.out]
    go_wp2_with fail
    rw[xb.out]
    refine(G1.out _).mono ?_
    rintro e w1 ⟨rfl,rfl⟩
    go_wp2_with fail
    rw[xr.out]
    refine(A1.out _).mono ?_
    rintro e w1 ⟨rfl,rfl⟩
    go_wp2_with fail
    refine(B2.out _).mono ?_
    rintro e w1 ⟨rfl,rfl⟩
    go_wp2_with fail
    refine(S1.out _).mono ?_
    rintro e w1 ⟨rfl,rfl⟩
    go_wp2_with fail
    refine(F1.out _).mono ?_
    rintro e w1 ⟨rfl,rfl⟩
    go_wp2_with fail
    refine(LN.out _).mono ?_
    rintro e w1 ⟨rfl,rfl⟩
    go_wp2_with fail
    go_ret3
    exact⟨1,bd,(fullR bd).length,HO.out,by rw[<- hBD];rfl,rfl⟩
   have HO:=jh5 (HL.out.1 (.inr hfe))
   rw[decide_eq_false hfe]at same
   clear hfe
   generalize B bd=BD at *
   generalize B (vf bd)=FG at *
   generalize B f=FF at *
   clear bt bs br hdv
   generalize B q=Q at *
   generalize B r'=R at *
   generalize B s=S at *
   generalize B t=T at *
   go_enter Tryz.func22,Tryz.ntmps22
   rw[zA]
   go_wp2_with fail
   refine(B1.out _).mono ?_
   rintro e w1 ⟨rfl,rfl⟩
   go_wp2_with fail
   rw[x7.out]
   refine(D1.out _).mono ?_
   rintro e w1 ⟨rfl,rfl⟩
   go_wp2_with fail
   rw[xd.out]
   refine(N1.out _).mono ?_
   rintro e w1 ⟨rfl,rfl⟩
   go_wp2_with fail
   rw[x8.out]
   refine(H1.out _).mono ?_
   rintro e w1 ⟨rfl,rfl⟩
   go_upto_region 26 with fail
   rw[xf.out,xq.out]
   go_wp2_with fail
   rw[xb.out]
   refine(G1.out _).mono ?_
   rintro e w1 ⟨rfl,rfl⟩
   go_wp2_with fail
   rw[xr.out]
   refine(A1.out _).mono ?_
   rintro e w1 ⟨rfl,rfl⟩
   go_wp2_with fail
   refine(B2.out _).mono ?_
   rintro e w1 ⟨rfl,rfl⟩
   go_wp2_with fail
   refine(S1.out _).mono ?_
   rintro e w1 ⟨rfl,rfl⟩
   go_wp2_with fail
   refine(F1.out _).mono ?_
   rintro e w1 ⟨rfl,rfl⟩
   go_wp2_with fail
   go_ret3
   exact⟨3,[],0,HO.out,rfl,rfl⟩
  have HO:Hid (jG t 3 [] 0):=by rw[hx1];exact jg5 h5v hh (.inr (by rw[e8];simpa using h10))
  have c10:((((B r')[8]).toNat:Int)==10)=false:=by
   have:=VO (c:=(B r')[8]) 10 10 rfl
   rw[this];simpa using h10
  have c10p:¬(((B r')[8]).toNat:Int)=10:=by simpa using c10
  have c10q:((((B r')[8]).toNat:Int) != 10)=true:=by simpa using c10
  clear hh e8 h10
  clear bt bs br hdv
  generalize B r'=R at *
  generalize B s=S at *
  generalize B t=T at *
  go_enter Tryz.func22,Tryz.ntmps22
  rw[zA]
  go_wp2_with fail
  refine(B1.out _).mono ?_
  rintro e w1 ⟨rfl,rfl⟩
  go_wp2_with fail
  rw[x7.out]
  refine(D1.out _).mono ?_
  rintro e w1 ⟨rfl,rfl⟩
  go_wp2_with fail
  rw[xd.out]
  refine(N1.out _).mono ?_
  rintro e w1 ⟨rfl,rfl⟩
  go_wp2_with fail
  rw[x8.out]
  refine(H1.out _).mono ?_
  rintro e w1 ⟨rfl,rfl⟩
  go_wp2_with fail
  go_ret3
  exact⟨3,[],0,HO.out,rfl,rfl⟩
 have HO:Hid (jG t 3 [] 0):=by rw[hx1,hdv];exact jcY (by omega) hc (.inl h32)
 have e32:(c==32)=false:=by simpa using h32
 rw[e32]at c2
 have c2p:¬(c.toNat:Int)=32:=by simpa using c2
 have c2q:((c.toNat:Int) != 32)=true:=by simpa using c2
 clear hdv
 clear bt bs
 generalize B s=S at *
 generalize B t=T at *
 go_enter Tryz.func22,Tryz.ntmps22
 rw[zA]
 go_wp2_with fail
 refine(B1.out _).mono ?_
 rintro e w1 ⟨rfl,rfl⟩
 go_wp2_with fail
 rw[x7.out]
 refine(D1.out _).mono ?_
 rintro e w1 ⟨rfl,rfl⟩
 go_wp2_with fail
 rw[xd.out]
 refine(N1.out _).mono ?_
 rintro e w1 ⟨rfl,rfl⟩
 go_wp2_with fail
 go_ret3
 exact⟨3,[],0,HO.out,rfl,rfl⟩
end Go.Proofs.YtmdhainabeljpaaGreatDoor.Fr
