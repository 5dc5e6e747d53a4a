/- Texts put together:SA,DC,DE,CB,CC,CD,DF,DG. -/
import Derived.Test.YtpibhbjmcmfnmaaGreatDoorBfn20
set_option linter.unusedVariables false
set_option maxRecDepth 100000
set_option maxHeartbeats 16000000
namespace Go.Proofs.YtpibhbjmcmfnmaaGreatDoor
open Go.RowKit Go.Shelf Tryz
abbrev jne:=@ByteArray.size_append
abbrev jn1:=@Array.getElem?_modify
abbrev jn2:=@List.drop_left
abbrev joq:=@Go.Sort.heap_grow_old
namespace Bk
open Go.Lib Go.Proofs.YtpibhbjmcmfnmaaGreatDoor.Fr Go.Proofs.YtpibhbjmcmfnmaaGreatDoor.Hd
def jfC(l:List UInt8):Bool:=hasPrefix l [37]&&decide (jJ l=5)
def ZB(xs:List Ln)(n:Nat):Nat:=match xs.find? (fun x=>jfC x.text) with | some x=>x.at_ | none=>n
def yN(t:List UInt8):List UInt8:=t.take (ZB (je t) t.length)
theorem Zt(l:List UInt8):(10:UInt8)∉head l:=fun h=>by
 have:=List.all_eq_true.1 (jnT (p:=fun c:UInt8=>c != 10) (l:=l)) 10 h
 simp at this
theorem JS:∀{l:List UInt8},(10:UInt8)∉l->head l=l
 | [],_=>rfl
 | c::l,h=>by
  have hc:(c != 10)=true:=by
   simp only[bne_iff_ne]
   rintro rfl
   exact h jml
  unfold head
  rw[jnc,if_pos hc]
  exact congrArg (c :: ·) (JS fun hm=>h (jmj _ hm))
theorem jbn(t:List UInt8):ZB (je t) t.length<=t.length:=by
 unfold ZB
 cases h:(je t).find? (fun x=>jfC x.text) with
 | none=>exact jma _
 | some x =>
 obtain⟨_,pre,post,he,_⟩:=List.find?_eq_some_iff_append.1 h
 obtain⟨_,ha⟩:=vD t pre x post he
 have hj:=zg t
 rw[he,jmL]at hj
 show x.at_<=t.length
 rw[ha,<- hj,jmb]
 omega
theorem Yh(t:List UInt8):(yN t).length=ZB (je t) t.length:=by
 unfold yN;rw[jmi];have:=jbn t;omega
theorem Yg(t:List UInt8):t=yN t++t.drop (yN t).length:=by
 have h:=Yh t
 rw[h]
 exact(jmQ _ t).symm
theorem jae(t:List UInt8):t.drop (yN t).length=[]\/jfC (head (t.drop (yN t).length))=true:=by
 rw[Yh]
 unfold ZB
 cases h:(je t).find? (fun x=>jfC x.text) with
 | none=>left;simp
 | some x =>
 obtain⟨hb,pre,post,he,_⟩:=List.find?_eq_some_iff_append.1 h
 obtain⟨_,ha⟩:=vD t pre x post he
 have hpe:∀y∈pre,y.ended=true:=by
  intro y hy
  have hall:∀(xs:List Ln) (no a:Nat) (l:List UInt8) (z:Ln) (zs:List Ln),za no a l=xs++z::zs->∀y∈xs,y.ended=true:=by
   intro xs
   induction xs with
   | nil=>intro no a l z zs _ y hy;cases hy
   | cons u us ih =>
   intro no a l z zs e y hy
   have hl:l≠[]:=by rintro rfl;rw[jr]at e;cases e
   rw[jA _ _ _ hl,jmu]at e
   obtain⟨e1,e2⟩:=List.cons.inj e
   rcases List.mem_cons.1 hy with hy|hy
   ·subst hy
    rw[<- e1]
    show nl l=true
    cases hn:nl l with
    | true=>rfl
    | false =>
    exfalso
    have hs:=zA l
    rw[hn]at hs
    have hu:qI l=(head l).length:=by unfold qI;rw[hn];rfl
    have h9:l.drop (qI l)=[]:=by
     have hm:(10:UInt8)∉l:=by unfold nl at hn;simpa using hn
     have:head l=l:=JS hm
     rw[hu,this]
     exact jnC
    rw[h9,jr]at e2
    cases us<;>cases e2
   exact ih _ _ _ _ _ e2 y hy
  exact hall pre 0 0 t x post he y hy
 obtain⟨_,c2⟩:=Vh pre (x::post) 0 0 t he hpe
 right
 show jfC (head (t.drop x.at_))=true
 rw[ha]
 have hne:t.drop (pre.flatMap Ln.bytes).length≠[]:=by
  intro e
  rw[e,jr]at c2
  cases c2
 rw[jA _ _ _ hne]at c2
 have:=(List.cons.inj c2).1
 rw[this]at hb
 exact hb
structure jfD(D:List UInt8->Bool)(s:List UInt8)(bds:List (List UInt8))(rest:List UInt8):Prop where
 eq:s=bds.flatMap fullR++rest
 good:∀b∈bds,goodR b=true/\D b=true
def jjC(D:List UInt8->Bool)(r:List UInt8):Prop:=(¬xF r/\¬∃b,vr r b)\/∃b,vr r b/\D b=false
def Fin(D:List UInt8->Bool)(r:List UInt8):Prop:=xF r\/jjC D r
theorem jeO{D:List UInt8->Bool}{r b:List UInt8}(h:Fin D r)(hw:vr r b)(hd:D b=true):False:=by
 rcases h with h|⟨_,h⟩|⟨b',hb,h⟩
 ·exact xS hw h
 ·exact h ⟨b,hw⟩
 rw[KJ hw hb]at hd;rw[hd]at h;cases h
theorem jgU{D:List UInt8->Bool}{r:List UInt8}(h:xF r)(h':jjC D r):False:=by
 rcases h' with ⟨h1,_⟩|⟨b,hb,_⟩
 ·exact h1 h
 exact xS hb h
theorem XU{D:List UInt8->Bool}:∀{s:List UInt8} {x y:List (List UInt8)} {r q:List UInt8},jfD D s x r->jfD D s y q->Fin D r->Fin D q->x=y/\r=q
 | s,[],[],r,q,h,h',_,_=>⟨rfl,by have e:=h.eq;rw[h'.eq]at e;simpa using e.symm⟩
 | s,[],b::y,r,q,h,h',hf,_=>by
  exfalso
  have e:=h.eq
  have e':=h'.eq
  rw[List.flatMap_nil,jmS]at e
  rw[jmt,jmA]at e'
  obtain⟨g,d⟩:=h'.good b jml
  exact jeO hf ⟨g,_,e.symm.trans e'⟩ d
 | s,b::x,[],r,q,h,h',_,hf=>by
  exfalso
  have e:=h.eq
  have e':=h'.eq
  rw[List.flatMap_nil,jmS]at e'
  rw[jmt,jmA]at e
  obtain⟨g,d⟩:=h.good b jml
  exact jeO hf ⟨g,_,e'.symm.trans e⟩ d
 | s,b::x,c::y,r,q,h,h',hr,hq=>by
  have e:=h.eq
  have e':=h'.eq
  rw[jmt,jmA]at e e'
  obtain⟨g,d⟩:=h.good b jml
  obtain⟨g',d'⟩:=h'.good c jml
  have hbc:b=c:=KJ ⟨g,_,e⟩ ⟨g',_,e'⟩
  subst hbc
  have e2:=joh (e.symm.trans e')
  obtain⟨h1,h2⟩:=XU (s:=x.flatMap fullR++r) ⟨rfl,fun b hb=>h.good b (jmj _ hb)⟩ ⟨e2,fun b hb=>h'.good b (jmj _ hb)⟩ hr hq
  exact⟨by rw[h1],h2⟩
theorem jfD.snoc{D:List UInt8->Bool}{s r b:List UInt8}{bds:List (List UInt8)}(h:jfD D s bds r)(hw:vr r b)(hd:D b=true):jfD D s (bds++[b]) (r.drop (fullR b).length):=by
 obtain⟨g,m,hm⟩:=hw
 refine⟨?_,fun c hc => ?_⟩
 ·rw[h.eq,hm,jn2,jmL]
  simp
 rcases List.mem_append.1 hc with hc|hc
 ·exact h.good c hc
 rw[List.mem_singleton.1 hc];exact⟨g,hd⟩
def qq:Nat->List (List UInt8)->List Nat
 | _,[]=>[]
 | s,b::r=>(s+(fullR b).length)::qq (s+(fullR b).length) r
theorem yJ:∀(s:Nat) (bds:List (List UInt8)) (b:List UInt8),qq s (bds++[b])=qq s bds++[s+(bds.flatMap fullR).length+(fullR b).length]
 | s,[],b=>by simp[qq]
 | s,c::r,b=>by
  have:=yJ (s+(fullR c).length) r b
  simp only[jmu,qq]
  rw[this]
  simp only[jmt,jmb,jnM]
theorem xv:∀(s:Nat) (bds:List (List UInt8)),(qq s bds).length=bds.length
 | _,[]=>rfl
 | s,b::r=>by simp[qq,xv]
theorem Kj(s:Nat)(bds:List (List UInt8))(h:bds≠[]):(qq s bds)[bds.length-1]?=some (s+(bds.flatMap fullR).length):=by
 rcases List.eq_nil_or_concat bds with hb|⟨r,b,hb⟩
 ·exact absurd hb h
 rw[List.concat_eq_append]at hb
 subst hb
 rw[yJ,jmr (by rw[xv];simp),xv]
 simp[Nat.add_assoc]
theorem ja3(b:List UInt8):7<=(fullR b).length:=by unfold fullR recR zq AMD;simp
theorem KB:∀(bds:List (List UInt8)),bds.length<=(bds.flatMap fullR).length
 | []=>jma _
 | b::r=>by
  have h:=KB r
  have:=ja3 b
  rw[jmt,jmb,jme]
  omega
def hl(n:Nat):Nat:=if 1<=n/\n<=2147483648 then (qZ n).length else 0
theorem jkb{t:List UInt8}{n:Nat}(h:Yw t n):hl n<=t.length:=by
 unfold hl
 split
 ·rename_i h1
  rcases h with ⟨_,_,r,e⟩|⟨rfl,_⟩
  ·rw[e];simp
  omega
 omega
structure yO(D:List UInt8->Bool)(t:List UInt8)(n:Nat)(base:List UInt8)(bds:List (List UInt8))(tail:List UInt8):Prop where
 gen:Yw t n
 parse:∃its,jI base=.ok its
 isB:yN (t.drop (hl n))=base
 recd:jfD D (t.drop (hl n+base.length)) bds tail
 fin:xF tail
theorem jaN:xF []:=full_begins (b:=[32,10]) (by decide) (k:=0) (by decide)
def zG(n:Nat)(base:List UInt8)(bds:List (List UInt8)):Nat:=hl n+base.length+(bds.flatMap fullR).length
theorem WZ(t:List UInt8)(a b:Nat):t.drop (a+b)=(t.drop a).drop b:=by rw[jnD]
structure jls(t:List UInt8)(n:Nat)(base:List UInt8)(bds:List (List UInt8))(tail:List UInt8):Prop where
 eq:t=t.take (hl n)++(base++(bds.flatMap fullR++tail))
 take:t.take (zG n base bds)=t.take (hl n)++(base++bds.flatMap fullR)
 len:t.length=zG n base bds+tail.length
 tail:t.drop (zG n base bds)=tail
theorem yO.parts{D:List UInt8->Bool}{t base tail:List UInt8}{n:Nat}{bds:List (List UInt8)}(h:yO D t n base bds tail):jls t n base bds tail:=by
 have hle:=jkb h.gen
 have e1:=Yg (t.drop (hl n))
 rw[h.isB]at e1
 have e2:=h.recd.eq
 rw[WZ]at e2
 rw[e2]at e1
 have e3:t=t.take (hl n)++(base++(bds.flatMap fullR++tail)):=by
  rw[<- e1];exact(jmQ _ t).symm
 have hk:(t.take (hl n)).length=hl n:=by rw[jmi];omega
 have e4:t=(t.take (hl n)++(base++bds.flatMap fullR))++tail:=by
  rw[jmA,jmA];exact e3
 have hw:(t.take (hl n)++(base++bds.flatMap fullR)).length=zG n base bds:=by
  unfold zG;simp only[jmb,hk];omega
 refine⟨e3,?_,?_,?_⟩
 ·conv=>lhs;rw[e4]
  rw[<- hw,List.take_left]
 ·conv=>lhs;rw[e4]
  rw[jmb,hw]
 conv=>lhs;rw[e4]
 rw[<- hw,jn2]
end Bk
namespace Fr
open Go.Lib
def xZ:List UInt8:=[48,48,48,48,48,48,48,48]
def zT:List UInt8:=[37,97,109,101,110,100,32,53,48,48,48,48,32,48,48,48,48,48,48,48,48]
theorem Jy:UW xZ:=QA.2 ⟨rfl,by decide⟩
theorem Xe:zT=zq 50000 xZ:=by
 unfold zq
 rw[yM (by omega),yM (by omega),yM (by omega),yM (by omega),decDigits_one (by omega)]
 rfl
theorem je1:decDigits 10=[49,48]:=by rw[yM (by omega),decDigits_one (by omega)];rfl
theorem jlW:decDigits 1=[49]:=by rw[decDigits_one (by omega)];rfl
theorem jau{a b x y:List UInt8}(h:a++x=b++y):(∃q,b=a++q/\x=q++y)\/(∃c q,a=b++c::q/\y=c::q++x):=by
 rcases List.append_eq_append_iff.1 h with ⟨q,h1,h2⟩|⟨q,h1,h2⟩
 ·exact .inl ⟨q,h1,h2⟩
 cases q with
 | nil=>exact .inl ⟨[],by simpa using h1.symm,by simpa using h2.symm⟩
 | cons c q=>exact .inr ⟨c,q,h1,h2⟩
theorem jgX{r z f:List UInt8}(hf:UW f)(h:r++z=f):UW (r++xZ.drop r.length):=by
 obtain⟨h8,hx⟩:=QA.1 hf
 have hl:r.length<=8:=by have:=congrArg List.length h;simp at this;omega
 refine QA.2 ⟨by simp[xZ];omega,?_⟩
 rw[jnS,jmv]
 rw[<- h,jnS,jmv]at hx
 exact⟨hx.1,List.all_eq_true.2 fun c hc=>by have:=jm6 hc;simp[xZ]at this;subst this;decide⟩
theorem jcn{l:List UInt8}:vA l↔∃at_,at_<=21/\∃n f,Uw (l++zT.drop at_) n f:=by
 constructor
 ·rintro⟨n,f,z,h2,h5,hf,he⟩
  unfold zq at he
  rcases jau he with ⟨q,e1,e2⟩|⟨c,q,e1,e2⟩
  ·have hq:q=AMD.drop l.length:=by rw[e1];simp
   have hl:l.length<=7:=by have:=congrArg List.length e1;simp[AMD]at this;omega
   refine⟨l.length,by omega,50000,xZ,by omega,by omega,Jy,?_⟩
   rw[<- Xe]
   have e3:zT=l++(q++zT.drop 7):=by rw[<- jmA,<- e1];rfl
   have e4:zT.drop l.length=q++zT.drop 7:=by rw[e3,jn2,<- e3]
   rw[e4];exact e3.symm
  rcases jau e2 with ⟨q2,e3,e4⟩|⟨d,q2,e3,e4⟩
  ·
   cases q2 with
   | nil =>
    rw[jmT]at e3
    refine⟨12,by omega,n,xZ,h2,h5,Jy,?_⟩
    rw[e1,e3];unfold zq;rw[jmA];rfl
   | cons d q2 =>
   rw[jmu]at e4
   injection e4 with e5 e6
   subst e5
   have hl:q2.length<=8:=by have:=congrArg List.length e6;have:=Vw hf;simp at *;omega
   refine⟨13+q2.length,by omega,n,q2++xZ.drop q2.length,h2,h5,jgX hf e6.symm,?_⟩
   rw[e1,e3];unfold zq
   have:zT.drop (13+q2.length)=xZ.drop q2.length:=by rw[<- jnD];rfl
   rw[this];simp
  ·
   obtain⟨v,e5,hv,h1v⟩:=jcJ n (c::q) (d::q2) (by simp) e3.symm
   have h1:=h1v (by omega)
   by_cases hv1:v=1
   ·subst hv1
    refine⟨11,by omega,10,xZ,by omega,by omega,Jy,?_⟩
    rw[e1,e5];unfold zq;rw[je1,jlW];rfl
   refine⟨12,by omega,v,xZ,by omega,by omega,Jy,?_⟩
   rw[e1,e5];unfold zq;rw[jmA];rfl
 rintro⟨at_,_,n,f,h⟩
 exact⟨n,f,_,h.lo,h.hi,h.fig,h.eq⟩
theorem jge{l:List UInt8}(h:vA l):l.length<=21:=by
 obtain⟨n,f,z,h2,h5,hf,he⟩:=h
 have:=congrArg List.length he
 have:=QB (show n<=99999 by omega)
 have:=Vw hf
 unfold zq AMD at *
 simp at *
 omega
theorem jim{t:List UInt8}(h:vA t):yv t 2 [] 0:=by
 have h10:(10:UInt8)∉t:=by
  obtain⟨n,f,z,h2,h5,hf,he⟩:=h
  intro hm
  exact vN (n:=n) hf (by rw[<- he];simp[hm])
 exact .inr (.inl ⟨(Wo h10).2 h,rfl,rfl,rfl⟩)
def hx(l:List UInt8):Nat:=((l.take 8).takeWhile jjr).length
end Fr
namespace Fr
attribute [local go_sem] jmk
theorem vI{P:Program}{w w':World}{N:Nat}{name:String}{cs:Array Value}(h:w.var? P name=some cs)(hb:Below N w w')(hN:w.heap.size<=N):w'.var? P name=some cs:=by
 unfold World.var? at *
 cases hg:P.globalNamed name with
 | none=>simp[hg]at h
 | some g =>
 simp only[hg,Option.bind_some]at h ⊢
 have hlt:g<w.heap.size:=by
  rcases jmF g w.heap.size with h'|h'
  ·exact h'
  rw[jmV h']at h;simp at h
 rw[hb.block g (by omega)]
 exact h
structure TabsN(w:World):Prop where
 pow:Lib.TabIs prog w "internal/strconv.uint64pow10" .u64 Lib.pow10Tab
 syn:∃tp p,w.var? prog "strconv.ErrSyntax" = some #[.iface tp p]
 ran:∃tp p,w.var? prog "strconv.ErrRange" = some #[.iface tp p]
theorem TabsN.below{w w':World}{N:Nat}(h:TabsN w)(hb:Below N w w')(hN:w.heap.size<=N):TabsN w':=by
 obtain⟨a,⟨t1,p1,c⟩,⟨t2,p2,d⟩⟩:=h
 exact⟨vI a hb hN,⟨t1,p1,vI c hb hN⟩,⟨t2,p2,vI d hb hN⟩⟩
theorem xp{N:Nat}{w w':World}(h:Below N w w'){p:Addr}(hp:N<=p.block)(k:Nat):Below N w (w'.freeze p k):=by
 unfold World.freeze
 by_cases hk:k=0
 ·rw[if_pos hk];exact h
 rw[if_neg hk]
 refine⟨h.os,h.tape,h.output,?_,fun j hj => ?_⟩
 ·simp;exact h.size
 simp only[jn1]
 rw[if_neg (by omega)]
 exact h.block j hj
theorem Jt(w:World)(e:TypeId)(s:ByteArray):Below w.heap.size w (Lib.bytesWorld w e s):=by
 unfold Lib.bytesWorld
 exact xp ((jmc _ w).drew.alloc (jma _) _) (jma _) _
theorem atoi_any(l:List UInt8)(hl:l.length<=1000000)(w:World)(ht:TabsN w):
  Calls prog 138 #[.string (B l)] w fun e w'=>(∃T q,e=.returned (.tuple #[.int .i64 (qH l),.nilIface])\/e=.returned (.tuple #[.int .i64 (qH l),.iface T q]))/\Below w.heap.size w w':=by
 cases h:Lib.atoiAll l with
 | ok v =>
  refine(Tryz.strconv_Atoi_ok (B l) (by rw[jq];omega) v (by rw[ju];exact h) w).mono ?_
  rintro e w' ⟨rfl,hw⟩
  refine⟨⟨0,undef,.inl (by unfold qH;rw[h])⟩,?_⟩
  rcases hw with rfl|⟨t,rfl⟩
  ·exact jmc _ _
  exact Jt _ _ _
 | range =>
  obtain⟨tp,p,hv⟩:=ht.ran
  refine(Tryz.strconv_Atoi_range_var (B l) (by rw[jq];omega) (by rw[ju];exact h) tp p w hv).mono ?_
  rintro e w' ⟨N,rfl,_,_,hb⟩
  exact⟨⟨_,_,.inr (by unfold qH;rw[h,ju])⟩,hb⟩
 | _ =>
 obtain⟨tp,p,hv⟩:=ht.syn
 refine(Tryz.strconv_Atoi_syntax_var (B l) (by rw[jq];omega) (by rw[ju];exact h) tp p w hv).mono ?_
 rintro e w' ⟨N,rfl,_,_,hb⟩
 exact⟨⟨_,_,.inr (by unfold qH;rw[h])⟩,hb⟩
end Fr
namespace Sm
theorem vJ(s:ByteArray)(k:Nat)(h:k<s.size):s.data.toList.take (k+1)=s.data.toList.take k++[s[k]]:=by
 rw[jnk (by simpa using h)];rfl
theorem jlL(x c:Nat)(hx:x<4294967296)(hc:c<256):bits .xor .u32 (x:Int) ((c:Int)*16777216)=((x ^^^ c*16777216:Nat):Int):=by
 have h:=M.m24 c hc
 have e:((c:Int)*16777216)=((c*16777216:Nat):Int):=by omega
 rw[e]
 exact u32_xor_nat _ _ hx h
theorem jdE{k:IntKind}{a b:Int}(h:a=b):Ending.returned (.int k a)=.returned (.int k b):=by rw[h]
theorem jjL(z:Nat)(hz:z<4294967296)(h:((z:Int) / 2147483648==1)=true):bits .xor .u32 ((z:Int)*2 % 4294967296) 79764919=((M.st z:Nat):Int):=by
 have h1:(z:Int) / 2147483648=1:=by simpa using h
 have h2:z / 2147483648=1:=by omega
 unfold M.st
 rw[if_pos h2]
 have e:((z:Int)*2 % 4294967296)=((z*2 % 4294967296:Nat):Int):=by omega
 rw[e]
 exact u32_xor_nat _ 79764919 (jog _ (by decide)) (by decide)
theorem jk6(z:Nat)(h:((z:Int) / 2147483648==1)=false):((z:Int)*2 % 4294967296)=((M.st z:Nat):Int):=by
 have h1:¬(z:Int) / 2147483648=1:=by simpa using h
 have h2:¬z / 2147483648=1:=by omega
 unfold M.st
 rw[if_neg h2]
 omega
def T(k j:Nat):Nat:=if j<k then M.stn 4 (j*268435456) else 0
def tab(k:Nat):Array Value:=#[.int .u32 (T k 0:Nat),.int .u32 (T k 1:Nat),.int .u32 (T k 2:Nat),.int .u32 (T k 3:Nat),.int .u32 (T k 4:Nat),.int .u32 (T k 5:Nat),.int .u32 (T k 6:Nat),.int .u32 (T k 7:Nat),.int .u32 (T k 8:Nat),.int .u32 (T k 9:Nat),.int .u32 (T k 10:Nat),.int .u32 (T k 11:Nat),.int .u32 (T k 12:Nat),.int .u32 (T k 13:Nat),.int .u32 (T k 14:Nat),.int .u32 (T k 15:Nat)]
theorem Qq(k:Nat):(tab k).size=16:=rfl
theorem XH(k j:Nat)(h:j<16):(tab k)[j]?=some (.int .u32 (T k j:Nat)):=by
 match j,h with
 | 0,_ | 1,_ | 2,_ | 3,_ | 4,_ | 5,_ | 6,_ | 7,_ | 8,_ | 9,_ | 10,_ | 11,_ | 12,_ | 13,_ | 14,_ | 15,_=>rfl
 | n+16,h=>omega
theorem jh0(k:Nat)(h:k<16):(tab k).setIfInBounds k (.int .u32 (M.stn 4 (k*268435456):Nat))=tab (k+1):=by
 apply Array.ext_getElem?
 intro j
 rw[jm4]
 by_cases hj:j<16
 ·rw[XH _ _ hj,XH _ _ hj,Qq]
  by_cases e:k=j
  ·subst e;simp[h,T]
  have:T (k+1) j=T k j:=by unfold T;by_cases a:j<k<;>simp[a]<;>omega
  rw[if_neg e,this]
 have:k≠j:=by omega
 rw[if_neg this,jmV (by rw[Qq];omega),jmV (by rw[Qq];omega)]
theorem jco(w:World):
  Calls prog 167 #[] w fun e w'=>e=.returned (.agg (tab 16))/\Below w.heap.size w w':=by
 go_enter func167,ntmps167
 go_wp2
 go_loopw [3,5] (fun r i wr=>∃k:Nat,k<=16/\i=.int .i64 k/\wr=(w.alloc (.cells #[Value.int IntKind.u32 0,Value.int IntKind.u32 0,Value.int IntKind.u32 0,Value.int IntKind.u32 0,Value.int IntKind.u32 0,Value.int IntKind.u32 0,Value.int IntKind.u32 0,Value.int IntKind.u32 0,Value.int IntKind.u32 0,Value.int IntKind.u32 0,Value.int IntKind.u32 0,Value.int IntKind.u32 0,Value.int IntKind.u32 0,Value.int IntKind.u32 0,Value.int IntKind.u32 0,Value.int IntKind.u32 0] 250)).alloc (.cells (tab k) 250)) (fun _ i _=>16-(intOf i).toNat)
 case atStart=>exact⟨0,by omega,rfl,rfl⟩
 case round =>
 obtain⟨k,hk,rfl,rfl⟩:=hrel
 by_cases hlt:k<16
 ·have hx:k*268435456<4294967296:=by omega
  go_wp2
  go_loop [3,11] (fun x i=>∃j:Nat,j<=4/\i=.int .i64 j/\x=.int .u32 (M.stn j (k*268435456):Nat)) (fun _ i=>4-(intOf i).toNat)
  case atStart=>exact⟨0,by omega,rfl,by simp[M.stn]⟩
  case round =>
  obtain⟨j,hj,rfl,rfl⟩:=hrel
  have hz:=M.stn_lt j _ hx
  have hst:=M.stn_succ j (k*268435456)
  have ht:=XH k k hlt
  have hset:=jh0 k hlt
  generalize hzz:M.stn j (k*268435456)=z at *
  have HZ:=jl9 hzz
  have HQ:=jl9 hst
  have HS:=jl9 hset
  clear hzz hst hset
  go_wp2
  ·have ht:((z:Int) / 2147483648==1)=true:=by assumption
   go_round
   case rel=>exact⟨j+1,by omega,by go_num,by rw[HQ.out,jjL z hz ht]⟩
   case measure=>simp[intOf];omega
  ·have ht:((z:Int) / 2147483648==1)=false:=by assumption
   go_round
   case rel=>exact⟨j+1,by omega,by go_num,by rw[HQ.out,jk6 z ht]⟩
   case measure=>simp[intOf];omega
  have:j=4:=by omega
  go_roundw
  case rel=>exact⟨k+1,by omega,by go_num,by rw[<- HS.out,<- HZ.out,this]⟩
  case measure=>simp[intOf];omega
 have:k=16:=by omega
 subst this
 simp only[tab]
 go_wp2
 exact bodyPost_ret (v:=.agg (tab 16)) (by simp[results,results167,go_sem,tab]) rfl ⟨rfl,by repeat (first | exact jmc _ _ | (refine Below.alloc ?_ (by simp) _) | (refine Below.setCell ?_ (by simp) _))⟩
theorem jkn(y:Nat)(hy:y<4294967296):(tab 16)[y / 268435456]?=some (.int .u32 (M.stn 4 (y / 268435456*268435456):Nat)):=by
 have h:y / 268435456<16:=by omega
 rw[XH 16 _ h]
 unfold T
 rw[if_pos h]
theorem jlD(y:Nat)(hy:y<4294967296):bits .xor .u32 ((y:Int)*16 % 4294967296) (M.stn 4 (y / 268435456*268435456):Nat)=((M.stn 4 y:Nat):Int):=by
 have h1:y / 268435456*268435456<4294967296:=by omega
 have h2:=M.stn_lt 4 _ h1
 rw[M.four y hy]
 have e:((y:Int)*16 % 4294967296)=((y*16 % 4294967296:Nat):Int):=by omega
 rw[e]
 exact u32_xor_nat _ _ (jog _ (by decide)) h2
theorem jgZ(x:Nat)(hx:x<4294967296)(s:ByteArray)(w:World)(hs:s.size<=maxLen):
  Calls prog 168 #[.int .u32 x,.agg (tab 16),.string s] w fun e w'=>e=.returned (.int .u32 (M.feed x s.data.toList:Nat))/\Below w.heap.size w w':=by
 unfold maxLen at hs
 go_enter func168,ntmps168
 go_wp2
 go_loop [0,10] (fun r i=>∃k:Nat,k<=s.size/\i=.int .i64 k/\r=.int .u32 (M.feed x (s.data.toList.take k):Nat)) (fun _ i=>s.size-(intOf i).toNat)
 case atStart=>exact⟨0,by omega,rfl,rfl⟩
 case round =>
 obtain⟨k,hk,rfl,rfl⟩:=hrel
 by_cases hlt:k<s.size
 ·have hx0:=M.feed_lt (s.data.toList.take k) x hx
  have hc:=s[k].toNat_lt
  have HS:Hid (M.feed x (s.data.toList.take (k+1))=M.stn 4 (M.stn 4 (M.feed x (s.data.toList.take k) ^^^ s[k].toNat*16777216))):=by
   rw[vJ s k hlt,M.feed_snoc];rfl
  generalize M.feed x (s.data.toList.take k)=x0 at *
  have X:=jlL _ _ hx0 hc
  have hy:x0 ^^^ s[k].toNat*16777216<4294967296:=jnU (n:=32) hx0 (M.m24 _ hc)
  generalize x0 ^^^ s[k].toNat*16777216=y at *
  have hz:=M.stn_lt 4 y hy
  have c1:=jkn y hy
  have x1:=jlD y hy
  generalize M.stn 4 y=z at *
  have c2:=jkn z hz
  have x2:=jlD z hz
  go_wp2
  go_round
  case rel=>exact⟨k+1,by omega,by go_num,by rw[HS.out]⟩
  case measure=>simp[intOf];omega
 go_wp2
 have:k=s.size:=by omega
 subst this
 go_ret
 exact⟨by rw[jmH (by simp)];rfl,(jmc _ _).alloc (jma _) _⟩
def Strs(w:World)(v:Value)(ss:List ByteArray):Prop :=
 ∃A cap,v=.slice A ss.length cap/\(∀i s,ss[i]?=some s->∃b off,A=some ⟨b,off,none⟩/\b<w.heap.size/\w.cell? ⟨b,off+i,none⟩=some (.string s))
theorem jaD:(prog.info? 250).map (·.size)=some (tab 16).size:=by kernel_rfl
theorem jh1:(tab 16).all (·.oneCell')=true:=by kernel_rfl
theorem jlp(x:Nat)(h:x<4294967296):bits .xor .u32 IntKind.u32.max (x:Int)=((4294967295-x:Nat):Int):=by
 have e:IntKind.u32.max=((4294967295:Nat):Int):=by decide
 rw[e,u32_xor_nat _ _ (by decide) h]
 congr 1
 apply jow
 intro i
 have h1:(4294967295-x)=2 ^ 32-(x+1):=by omega
 have h2:(4294967295:Nat)=2 ^ 32-1:=by decide
 rw[h1,joa,Nat.testBit_two_pow_sub_succ h,h2,Nat.testBit_two_pow_sub_one]
 by_cases hi:i<32
 ·simp[hi]
 have h3:2 ^ 32<=2 ^ i:=Nat.pow_le_pow_right (by decide) (by omega)
 have:x.testBit i=false:=Nat.testBit_lt_two_pow (jmp h h3)
 simp[hi,this]
def jkE(w:World)(B:Nat):Prop:=w.heap[B]?=some (.cells (tab 16) 250 (0,0))
theorem sum_any(v:Value)(ss:List ByteArray)(w:World)(hv:Strs w v ss)(hl:ss.length<=maxLen)(hs:∀(i:Nat) (s:ByteArray),ss[i]?=some s->s.size<=maxLen):
  Calls prog 125 #[v] w fun e w'=>e=.returned (.int .u32 (4294967295-M.feed 4294967295 (cat ss):Nat))/\Below w.heap.size w w':=by
 obtain⟨A,cap,rfl,hc⟩:=hv
 unfold maxLen at hl
 go_enter func125,ntmps125
 go_wp2_with (go_at_call 167;refine(jco _).mono ?_;rintro e w1 ⟨rfl,hb1⟩;have hst:=run_storeCells_new (P:=prog) w1 250 #[Value.int IntKind.u32 0,Value.int IntKind.u32 0,Value.int IntKind.u32 0,Value.int IntKind.u32 0,Value.int IntKind.u32 0,Value.int IntKind.u32 0,Value.int IntKind.u32 0,Value.int IntKind.u32 0,Value.int IntKind.u32 0,Value.int IntKind.u32 0,Value.int IntKind.u32 0,Value.int IntKind.u32 0,Value.int IntKind.u32 0,Value.int IntKind.u32 0,Value.int IntKind.u32 0,Value.int IntKind.u32 0] (tab 16) jaD (by rfl) jh1;have hsz:=Qq 16)
 clear hst hsz
 have hrow:jkE (w1.alloc (.cells (tab 16) 250)) w1.heap.size:=heap_alloc_last _ _
 have hbw:Below w.heap.size w (w1.alloc (.cells (tab 16) 250)):=hb1.alloc hb1.size _
 have hlt:w.heap.size<=w1.heap.size:=hb1.size
 have hlt':w1.heap.size<(w1.alloc (.cells (tab 16) 250)).heap.size:=by simp
 generalize (w1.alloc (.cells (tab 16) 250))=w2 at *
 generalize w1.heap.size=L at *
 clear hb1
 go_loopw [4,10] (fun r i wr=>∃k:Nat,k<=ss.length/\i=.int .i64 k/\r=.int .u32 (M.feed 4294967295 (cat (ss.take k)):Nat)/\Below w.heap.size w wr/\jkE wr L/\L<wr.heap.size) (fun _ i _=>ss.length-(intOf i).toNat)
 case atStart=>exact⟨0,by omega,rfl,rfl,hbw,hrow,hlt'⟩
 case round =>
 obtain⟨k,hk,rfl,rfl,hb,hr,hL⟩:=hrel
 by_cases hlt:k<ss.length
 ·obtain⟨s,hsk⟩:∃s,ss[k]?=some s:=⟨_,jmd hlt⟩
  obtain⟨b,off,rfl,hbb,hcell⟩:=hc k s hsk
  have hcw:wr.cell? ⟨b,off+k,none⟩=some (.string s):=(hb.cell (p:=⟨b,off+k,none⟩) hbb).trans hcell
  have hx:=M.feed_lt (cat (ss.take k)) 4294967295 (by decide)
  have HS:Hid (M.feed 4294967295 (cat (ss.take (k+1)))=M.feed (M.feed 4294967295 (cat (ss.take k))) s.data.toList):=by
   rw[jhj ss k s hsk,M.feed_append];rfl
  have hsz:=hs k s hsk
  generalize M.feed 4294967295 (cat (ss.take k))=x0 at *
  clear hc hcell hbw hrow hlt' hs hsk
  go_wp2_with (first | (refine wpList_load_row rfl 250 _ rfl L rfl 250 (tab 16) (0,0) _ hr underlying250 rfl jaD ?_) | (go_at_call 168;refine(jgZ _ hx _ _ hsz).mono ?_;rintro e w3 ⟨rfl,hb3⟩))
  go_roundw
  case rel=>exact⟨k+1,by omega,by go_num,by rw[HS.out],hb.trans (hb3.mono hb.size),(hb3.block _ hL).trans hr,jmp hL hb3.size⟩
  case measure=>simp[intOf];omega
 have:k=ss.length:=by omega
 subst this
 have hfl:=M.feed_lt (cat ss) 4294967295 (by decide)
 rw[jmJ]
 go_wp2
 go_ret
 exact⟨jdE (jlp _ hfl),hb⟩
def F(x k j:Nat):Nat:=if j<k then (dg (x / 16 ^ (7-j) % 16)).toNat else 0
def jiP(x k:Nat):Array Value:=#[.int .u8 (F x k 0:Nat),.int .u8 (F x k 1:Nat),.int .u8 (F x k 2:Nat),.int .u8 (F x k 3:Nat),.int .u8 (F x k 4:Nat),.int .u8 (F x k 5:Nat),.int .u8 (F x k 6:Nat),.int .u8 (F x k 7:Nat)]
theorem Qx(x k j:Nat)(h:j<8):(jiP x k)[j]?=some (.int .u8 (F x k j:Nat)):=by
 match j,h with
 | 0,_ | 1,_ | 2,_ | 3,_ | 4,_ | 5,_ | 6,_ | 7,_=>rfl
 | n+8,h=>omega
theorem Vr(x k:Nat):(jiP x k).size=8:=rfl
theorem jgN(x k:Nat)(h:k<8):(jiP x k).setIfInBounds k (.int .u8 ((dg (x / 16 ^ (7-k) % 16)).toNat:Nat))=jiP x (k+1):=by
 apply Array.ext_getElem?
 intro j
 rw[jm4]
 by_cases hj:j<8
 ·rw[Qx _ _ _ hj,Qx _ _ _ hj,Vr]
  by_cases e:k=j
  ·subst e;simp[h,F]
  have:F x (k+1) j=F x k j:=by unfold F;by_cases a:j<k<;>simp[a]<;>omega
  rw[if_neg e,this]
 have:k≠j:=by omega
 rw[if_neg this,jmV (by rw[Vr];omega),jmV (by rw[Vr];omega)]
theorem jeX(d:Nat)(h:d<16)(h':d<(⟨#[48,49,50,51,52,53,54,55,56,57,97,98,99,100,101,102]⟩:ByteArray).size):
  (⟨#[48,49,50,51,52,53,54,55,56,57,97,98,99,100,101,102]⟩:ByteArray)[d]=dg d:=by
 match d,h with
 | 0,_ | 1,_ | 2,_ | 3,_ | 4,_ | 5,_ | 6,_ | 7,_ | 8,_ | 9,_ | 10,_ | 11,_ | 12,_ | 13,_ | 14,_ | 15,_=>rfl
 | n+16,h=>omega
theorem nib(x k:Nat)(hx:x<4294967296)(h:k<8):x*16 ^ k % 4294967296 / 268435456=x / 16 ^ (7-k) % 16:=by
 match k,h with
 | 0,_ | 1,_ | 2,_ | 3,_ | 4,_ | 5,_ | 6,_ | 7,_=>simp only[Nat.reduceSub,Nat.reducePow];omega
 | n+8,h=>omega
theorem jlM(x k:Nat):((x*16 ^ k % 4294967296:Nat):Int)*16 % 4294967296=((x*16 ^ (k+1) % 4294967296:Nat):Int):=by
 rw[Nat.pow_succ,<- Nat.mul_assoc]
 omega
def jgQ(x:Nat):List Int:=[(F x 8 0:Nat),(F x 8 1:Nat),(F x 8 2:Nat),(F x 8 3:Nat),(F x 8 4:Nat),(F x 8 5:Nat),(F x 8 6:Nat),(F x 8 7:Nat)]
theorem jeD(x i:Nat)(h:i<8):(jgQ x).getD i 0=(F x 8 i:Nat):=by
 match i,h with
 | 0,_ | 1,_ | 2,_ | 3,_ | 4,_ | 5,_ | 6,_ | 7,_=>rfl
 | n+8,h=>omega
theorem jeC(x:Nat):strOfNums (jgQ x)=figs x:=by
 simp[strOfNums,jgQ,figs,F]
theorem figures_any(x:Nat)(hx:x<4294967296)(w:World):
  Calls prog 124 #[.int .u32 x] w fun e w'=>e=.returned (.string (figs x))/\Below w.heap.size w w':=by
 go_enter func124,ntmps124
 go_wp2
 go_loopw [0,5] (fun r i wr=>∃k:Nat,k<=8/\i=.int .i64 k/\r=.int .u32 (x*16 ^ k % 4294967296:Nat)/\wr=w.alloc (.cells (jiP x k) 249)) (fun _ i _=>8-(intOf i).toNat)
 case atStart=>exact⟨0,by omega,rfl,by simp;omega,rfl⟩
 case round =>
 obtain⟨k,hk,rfl,rfl,rfl⟩:=hrel
 by_cases hlt:k<8
 ·have hy:x*16 ^ k % 4294967296<4294967296:=jog _ (by decide)
  have hn:=nib x k hx hlt
  have hs:=jlM x k
  generalize x*16 ^ k % 4294967296=y at *
  have HN:=jl9 hn
  have HS:=jl9 hs
  clear hn hs
  have ht:(jiP x k)[k]?=some (.int .u8 (F x k k:Nat)):=Qx x k k hlt
  go_wp2
  go_round
  case rel =>
   refine⟨k+1,by omega,by go_num,by rw[HS.out],?_⟩
   rw[jeX _ (by omega),HN.out,jgN x k hlt]
  case measure=>simp[intOf];omega
 have:k=8:=by omega
 subst this
 have hcv:=run_convert_bytes_arg (P:=prog) (w.alloc (.cells (jiP x 8) 249)) 153 5 underlying153 underlying5 w.heap.size 0 8 8 (jgQ x) rfl (fun i hi=>by
  rw[jny _ _ _ _ rfl,jmP,Qx x 8 i hi,jeD x i hi]) 9 underlying9
 rw[jeC]at hcv
 go_wp2
 go_ret
 exact⟨rfl,(jmc _ _).alloc (jma _) _⟩
theorem jiG:∀c:Fin 256,Lib.indexByte DIG (UInt8.ofNat c.val)=ix c.val:=by decide +kernel
theorem idx(c:UInt8):Lib.indexByte DIG c=ix c.toNat:=by
 have:=jiG ⟨c.toNat,c.toNat_lt⟩
 simpa using this
def takeV(l:List UInt8):Value:=match takes l with
 | some n=>.tuple #[.int .u32 (n:Nat),.bool true]
 | none=>.tuple #[.int .u32 0,.bool false]
theorem jdq{l:List UInt8}(h:l.length≠8):takeV l=.tuple #[.int .u32 0,.bool false]:=by
 unfold takeV takes;rw[if_neg h]
theorem jbJ{l:List UInt8}{n:Nat}(hl:l.length=8)(h:tk 0 l=some n):takeV l=.tuple #[.int .u32 (n:Nat),.bool true]:=by
 unfold takeV takes;rw[if_pos hl,h]
theorem jbK{l:List UInt8}(hl:l.length=8)(h:tk 0 l=none):takeV l=.tuple #[.int .u32 0,.bool false]:=by
 unfold takeV takes;rw[if_pos hl,h]
theorem or4(x d:Nat)(hx:x<4294967296)(hd:d<16):bits .or .u32 ((x:Int)*16 % 4294967296) (d:Int)=((x*16 % 4294967296+d:Nat):Int):=by
 have e:((x:Int)*16 % 4294967296)=((x*16 % 4294967296:Nat):Int):=by omega
 rw[e,u32_or_nat _ _ (jog _ (by decide)) (by omega),nat_join 4 _ _ (by omega) (by omega)]
theorem JR(c:UInt8)(w:World):
  Calls prog 194 #[.string ⟨#[48,49,50,51,52,53,54,55,56,57,97,98,99,100,101,102]⟩,.int .u8 (c.toNat:Int)] w fun e w'=>e=.returned (.int .i64 (ix c.toNat))/\w=w' :=
 (Tryz.strings_IndexByte _ _ w).mono fun _ _ ⟨he,hw⟩=>⟨by rw[he];exact jdE (by rw[<- idx c];simp[DIG]),hw.symm⟩
theorem jci(c:UInt8)(h:val c.toNat=none)(w:World):
  Calls prog 194 #[.string ⟨#[48,49,50,51,52,53,54,55,56,57,97,98,99,100,101,102]⟩,.int .u8 (c.toNat:Int)] w fun e w'=>e=.returned (.int .i64 (-1))/\w=w' :=
 (JR c w).mono fun _ _ ⟨he,hw⟩=>⟨by rw[he,ix,h],hw⟩
theorem jch(c:UInt8)(d:Nat)(h:val c.toNat=some d)(w:World):
  Calls prog 194 #[.string ⟨#[48,49,50,51,52,53,54,55,56,57,97,98,99,100,101,102]⟩,.int .u8 (c.toNat:Int)] w fun e w'=>e=.returned (.int .i64 (d:Int))/\w=w' :=
 (JR c w).mono fun _ _ ⟨he,hw⟩=>⟨by rw[he,ix,h],hw⟩
theorem take_any(s:ByteArray)(w:World)(hs:s.size<=maxLen):
  Calls prog 149 #[.string s] w fun e w'=>e=.returned (takeV s.data.toList)/\w=w':=by
 unfold maxLen at hs
 by_cases h8:s.size=8
 ·have hb2:((s.size:Int) != 8)=false:=by simp[h8]
  have H8:=jl9 h8
  have hle:s.size<=8:=by omega
  clear h8
  go_enter func149,ntmps149
  go_wp2_with fail
  go_loop [4,12] (fun r i=>∃k x:Nat,k<=s.size/\x<4294967296/\i=.int .i64 k/\r=.int .u32 (x:Nat)/\tk 0 s.data.toList=tk x (s.data.toList.drop k)) (fun _ i=>s.size-(intOf i).toNat)
  case atStart=>exact⟨0,0,by omega,by omega,rfl,rfl,rfl⟩
  case round =>
  obtain⟨k,x,hk,hx,rfl,rfl,htk⟩:=hrel
  have HT:=jl9 htk
  clear htk
  by_cases hlt:k<s.size
  ·have hsplit:s.data.toList.drop k=s[k]::s.data.toList.drop (k+1):=by
    rw[jnn (by simpa using hlt)];rfl
   cases hv:val s[k].toNat with
   | none =>
    have HN:Hid (tk 0 s.data.toList=none):=by
     show _=_
     rw[HT.out,hsplit,tk,hv]
    clear hsplit
    go_wp2_with fail
    refine(jci _ hv _).mono ?_
    clear hv
    rintro e w1 ⟨rfl,rfl⟩
    go_wp2_with fail
    go_ret2
    exact⟨by rw[jbK (by simpa using H8.out) HN.out];rfl,rfl⟩
   | some d =>
   have hd:=jjG hv
   have HN:Hid (tk 0 s.data.toList=tk (x*16 % 4294967296+d) (s.data.toList.drop (k+1))):=by
    show _=_
    rw[HT.out,hsplit,tk,hv]
   clear hsplit
   have ho:=or4 x d hx hd
   go_wp2_with fail
   refine(jch _ _ hv _).mono ?_
   clear hv
   rintro e w1 ⟨rfl,rfl⟩
   go_wp2_with fail
   go_round
   case rel=>exact⟨k+1,x*16 % 4294967296+d,by omega,by omega,by go_num,rfl,HN.out⟩
   case measure=>simp[intOf];omega
  have HN:Hid (tk 0 s.data.toList=some x):=by
   show _=_
   rw[HT.out,jm1 (by simp;omega)];rfl
  go_wp2
  go_ret2
  exact⟨by rw[jbJ (by simpa using H8.out) HN.out];rfl,rfl⟩
 have hb:(!((s.size:Int)==8))=true:=by simp;omega
 have hb2:((s.size:Int) != 8)=true:=by simp;omega
 go_enter func149,ntmps149
 go_wp2_with fail
 go_ret2
 exact⟨by rw[jdq (by simpa using h8)];rfl,rfl⟩
theorem takeV_of{l:List UInt8}{n:Nat}(h:takes l=some n):takeV l=.tuple #[.int .u32 (n:Nat),.bool true]:=by unfold takeV;rw[h]
theorem takeV_not{l:List UInt8}(h:takes l=none):takeV l=.tuple #[.int .u32 0,.bool false]:=by unfold takeV;rw[h]
end Sm
namespace Fr
attribute [local go_sem] jmk
theorem mkB(l:List UInt8):(⟨l.toArray⟩:ByteArray)=B l:=rfl
theorem fits_any(n:Int)(w:World):Calls prog 150 #[.int .i64 n] w fun e w'=>e=.returned (.bool (decide (2<=n/\n<=50000)))/\w'=w:=by
 by_cases h1:2<=n
 ·by_cases h2:n<=50000
  ·have e:decide (2<=n/\n<=50000)=true:=by simp[h1,h2]
   rw[e]
   go_enter func150,ntmps150
   go_wp2_with fail
   go_ret
   exact⟨rfl,rfl⟩
  have e:decide (2<=n/\n<=50000)=false:=by simp[h2]
  rw[e]
  go_enter func150,ntmps150
  go_wp2_with fail
  go_ret
  exact⟨rfl,rfl⟩
 have e:decide (2<=n/\n<=50000)=false:=by simp[h1]
 rw[e]
 go_enter func150,ntmps150
 go_wp2_with fail
 go_ret
 exact⟨rfl,rfl⟩
theorem Zr(w:World):Calls prog 105 #[.bool true] w fun e w'=>e=.returned (.tuple #[.int .i64 2,.string (B []),.int .i64 0])/\w'=w:=by
 go_enter func105,ntmps105
 go_wp2_with fail
 go_ret3
 exact⟨rfl,rfl⟩
theorem JM(w:World):Calls prog 105 #[.bool false] w fun e w'=>e=.returned (.tuple #[.int .i64 3,.string (B []),.int .i64 0])/\w'=w:=by
 go_enter func105,ntmps105
 go_wp2_with fail
 go_ret3
 exact⟨rfl,rfl⟩
theorem ym{w:World}(n:Nat)(os:Array Obj):Below w.heap.size w (Go.Sort.grow (w.drewN n) os) :=
 ⟨rfl,rfl,rfl,by rw[Go.Sort.size_grow];exact jn3 _ _,fun k hk=>joq _ _ hk⟩
theorem Qv(n:Nat)(hn:n<=9223372036854775807)(w:World)(ht:TabsN w):Calls prog 163 #[.int .i64 (n:Int)] w fun e w'=>e=.returned (.string (B (Lib.decDigits n)))/\Below w.heap.size w w' :=
 (Tryz.strconv_Itoa n (by omega) (by omega) w ht.pow).mono fun e w' ⟨he,k,os,hw⟩=>⟨by rw[he,Lib.itoa_nonneg];rfl,by rw[hw];exact ym k os⟩
theorem jbg(n:Nat)(hn:n<=9223372036854775807):(B (Lib.decDigits n)).size<=20:=by
 rw[jq,Lib.decDigits_length]
 exact Lib.nDigits_le20 n (by omega)
theorem Ke(n:Nat)(hn:n<=9223372036854775807)(f:List UInt8)(hf:f.length<=1000000)(w:World)(ht:TabsN w):
  Calls prog 123 #[.int .i64 (n:Int),.string (B f)] w fun e w'=>e=.returned (.string (B (zq n f)))/\Below w.heap.size w w':=by
 have IT:=jl9 (Qv n hn w ht)
 have E:Hid ((⟨#[37,97,109,101,110,100,32]⟩:ByteArray)++B (Lib.decDigits n) ++ ⟨#[32]⟩++B f=B (zq n f)):=by
  show _=_
  rw[show(⟨#[37,97,109,101,110,100,32]⟩:ByteArray)=B AMD from rfl,show(⟨#[32]⟩:ByteArray)=B [32] from rfl,jS,jS,jS]
  unfold zq;simp
 have hs:=jbg n hn
 have hfs:(B f).size<=1000000:=by rw[jq];exact hf
 generalize B (Lib.decDigits n)=d at *
 generalize B f=g at *
 have s1:((⟨#[37,97,109,101,110,100,32]⟩:ByteArray)++d).size<=27:=by rw[jne];show 7+_<=_;omega
 have s2:((⟨#[37,97,109,101,110,100,32]⟩:ByteArray)++d ++ ⟨#[32]⟩).size<=28:=by rw[jne];show _+1<=_;omega
 clear ht
 go_enter func123,ntmps123
 go_wp2_with fail
 refine IT.out.mono ?_
 rintro e w1 ⟨rfl,hb⟩
 go_wp2_with fail
 go_ret
 exact⟨by rw[<- E.out];rfl,hb⟩
theorem ja5(n:Nat)(hn:n<=9223372036854775807)(w:World)(ht:TabsN w):
  Calls prog 126 #[.int .i64 (n:Int)] w fun e w'=>e=.returned (.string (B (qo n)))/\Below w.heap.size w w':=by
 have IT:=jl9 (Qv n hn w ht)
 have E:Hid ((⟨#[37,101,110,100,32]⟩:ByteArray)++B (Lib.decDigits n) ++ ⟨#[10]⟩=B (qo n)):=by
  show _=_
  rw[show(⟨#[37,101,110,100,32]⟩:ByteArray)=B END from rfl,show(⟨#[10]⟩:ByteArray)=B [10] from rfl,jS,jS]
  unfold qo;simp
 have hs:=jbg n hn
 generalize B (Lib.decDigits n)=d at *
 have s1:((⟨#[37,101,110,100,32]⟩:ByteArray)++d).size<=25:=by rw[jne];show 5+_<=_;omega
 clear ht
 go_enter func126,ntmps126
 go_wp2_with fail
 refine IT.out.mono ?_
 rintro e w1 ⟨rfl,hb⟩
 go_wp2_with fail
 go_ret
 exact⟨by rw[<- E.out];rfl,hb⟩
end Fr
namespace Fr
open Go.Lib
def JT(x:Ln):Bool:=x.ended&&hasPrefix x.text [32]
theorem jaF:∀(h:List UInt8),(10:UInt8)∉h->sp false h=true/\yI false h=false
 | [],_=>⟨rfl,rfl⟩
 | c::h,hc=>by
  have hc1:c≠10:=fun e=>hc (e▸jml)
  have ih:=jaF h (fun q=>hc (jmj _ q))
  have e:(c==10)=false:=by simpa using hc1
  refine⟨by simp[sp,e,ih.1],?_⟩
  have:=ih.2
  unfold yI at *
  rw[List.getLast?_cons]
  cases hl:h.getLast? with
  | none=>simpa using hc1
  | some d=>rw[hl]at this;simpa using this
theorem jdu(h:List UInt8)(hc:(10:UInt8)∉h):sp true (h++[10])=hasPrefix h [32]:=by
 cases h with
 | nil=>rfl
 | cons c h =>
 have hc1:c≠10:=fun e=>hc (e▸jml)
 have h1:=jaF h (fun q=>hc (jmj _ q))
 have e:(c==10)=false:=by simpa using hc1
 rw[jmu]
 unfold sp
 rw[e,qm,h1.1,h1.2]
 by_cases h32:c=32
 ·subst h32;rfl
 have e1:(c==32)=false:=by simpa using h32
 have e2:hasPrefix (c::h) [32]=((32==c)&&true):=by simp[hasPrefix,List.isPrefixOf]
 have e3:((32:UInt8)==c)=false:=by simpa using fun e=>h32 e.symm
 rw[e1,e2,e3];rfl
theorem yZ:∀{l:List UInt8},(10:UInt8)∈head l->False
 | [],h=>by simp[head]at h
 | c::l,h=>by
  unfold head at h
  rw[jnc]at h
  by_cases hc:c=10
  ·subst hc;simp at h
  have e:(c != 10)=true:=by simpa using hc
  rw[if_pos e]at h
  rcases List.mem_cons.1 h with h|h
  ·exact hc h.symm
  exact yZ h
theorem Xo:∀(n no at_:Nat) (l:List UInt8),l.length<=n->((za no at_ l).all JT=true↔(sp true l=true/\(l=[]\/vW l=true)))
 | n,no,at_,l,hn=>by
  by_cases h0:l=[]
  ·subst h0;simp[jr,sp]
  rw[jA no at_ l h0,jn5]
  have hs:=zA l
  have hu:=qz l h0
  have hlen:=XF l
  have hc:(10:UInt8)∉head l:=by
   intro hm
   exact yZ hm
  cases hnl:nl l with
  | false =>
   have h10:(10:UInt8)∉l:=by unfold nl at hnl;simpa using hnl
   have:vW l=false:=by
    unfold vW
    cases hg:l.getLast? with
    | none=>rfl
    | some c =>
    have:=List.mem_of_getLast? hg
    have:c≠10:=fun e=>h10 (e▸this)
    simpa using this
   simp[JT,this,h0]
  | true =>
  match n,hn with
  | 0,hn=>exact absurd (jnb (by omega)) h0
  | n+1,hn =>
  have ih:=Xo n (no+1) (at_+qI l) (l.drop (qI l)) (by rw[jmn];omega)
  rw[hnl,if_pos rfl]at hs
  rw[jmv,ih]
  generalize l.drop (qI l)=r at *
  generalize hh:head l=h at *
  subst hs
  rw[qm,jdu h hc,ZZ h [10] true (by simp)]
  have e2:yI true ([10]:List UInt8)=true:=rfl
  rw[e2]
  have e3:vW (h++[10]++r)=true↔(r=[]\/vW r=true):=by
   unfold vW
   rw[List.getLast?_append]
   cases hr:r.getLast? with
   | none=>rw[List.getLast?_eq_none_iff.1 hr];simp
   | some c =>
   have:r≠[]:=fun e=>by rw[e]at hr;cases hr
   simp[this]
  rw[e3]
  simp[JT,and_assoc]
theorem jiJ(l:List UInt8):goodR l=(decide (2<=(l.length:Int)/\(l.length:Int)<=50000)&&(je l).all JT):=by
 rw[jm8,good_iff,jmv]
 unfold je
 rw[Xo l.length 0 0 l (jma _)]
 constructor
 ·rintro⟨a,b,c,d⟩
  exact⟨by simp;omega,d,.inr c⟩
 rintro⟨a,d,c⟩
 simp at a
 have:l≠[]:=by rintro rfl;simp at a
 exact⟨by omega,by omega,c.resolve_left this,d⟩
attribute [local go_sem] jmk
def jlx(w:World)(pre:List Ln)(W:World):Prop:=Boxed W w.heap.size 4 (.bool false)/\Below w.heap.size w W/\pre.all JT=true
def jl3(w:World)(c:Code)(pre:List Ln)(W:World):Prop:=Boxed W w.heap.size 4 (.bool false)/\Below w.heap.size w W/\c=.ret/\pre.all JT=false
theorem jew(w W:World)(b:Bool)(tmps:Array Value)(h:Boxed W w.heap.size 4 (.bool b))(hK:W.heap[w.heap.size+2]?=some (.deferred (some [])))(hB:Below w.heap.size w W)(t2:tmps[2]?=some (.pointer (some ⟨w.heap.size,0,none⟩))):
  bodyPostM Fence.wide 9 prog Tryz.f110 (fun e w'=>e=.returned (.bool b)/\Below w.heap.size w w') .ret {tmps:=tmps,defers:=[{target:=.collected (w.heap.size+2),args:=#[]}]} W:=by
 have p1:=grownBy_putObj' W (w.heap.size+2) (.deferred none)
 have zW:w.heap.size+2<W.heap.size:=(Array.getElem?_eq_some_iff.1 hK).1
 have r:Boxed (W.putObj (w.heap.size+2) (.deferred none)) w.heap.size 4 (.bool b):=(p1.block _ (by omega) (fun e=>by have:=jmf e;omega)).trans h
 have c:=r.cell
 refine⟨by simp,.inl ⟨_,_,rfl,run_takeDeferred hK,?_⟩⟩
 exact⟨.bool b,by simp[results,Tryz.f110,go_sem,t2,c],rfl,hB.trans (belowK_b (w:=w) (jma _) W _ _ _ (by omega) hK rfl rfl)⟩
theorem jgH(s:ByteArray)(hsz:s.size<=1000000)(w:World):
  Calls prog 110 #[.string s] w fun e w'=>e=.returned (.bool (goodR s.data.toList))/\Below w.heap.size w w':=by
 have hg:=jiJ s.data.toList
 rw[<- jmq]at hg
 have FT:=jl9 (fits_any (s.size:Int))
 generalize goodR s.data.toList=g at *
 obtain⟨xs,hxs⟩:∃xs,je s.data.toList=xs:=⟨_,rfl⟩
 rw[hxs]at hg
 have HXS:=jl9 hxs
 have HH:=fun w b=>qL s b w
 rw[hxs]at HH
 clear hxs
 refine callsIn_wide (n:=9).1 ?_
 refine callsIn_of_wp_marks func110 rfl trivial ?_ rfl
 simp only[ntmps110,jmN,jme,jmB,Nat.reduceAdd,Nat.reduceSub,jmW,jmX,jm5,jm0,jmS,jmu]
 have k1:=jnr w 4 (.bool false)
 have kb:Below w.heap.size w (w.alloc (.cells #[.bool false] 4)):=(jmc _ w).alloc (jma _) _
 cases hf:decide (2<=(s.size:Int)/\(s.size:Int)<=50000) with
 | false =>
  rw[hf]at hg FT
  simp only[Bool.false_and]at hg
  subst hg
  clear hf HH
  gi_wp2_with fail
  refine⟨trivial,(callsIn_wide.2 (FT.out _)).mono ?_⟩
  rintro e w3 ⟨rfl,rfl⟩
  gi_wp2
  have c:=k1.cell
  exact⟨.bool false,by simp[results,Tryz.f110,go_sem,c],rfl,kb⟩
 | true =>
 rw[hf]at hg FT
 simp only[jnL]at hg
 clear hf
 gi_wp2_with fail
 refine⟨trivial,(callsIn_wide.2 (FT.out _)).mono ?_⟩
 rintro e w3 ⟨rfl,rfl⟩
 gi_wp2_with fail
 refine⟨trivial,(callsIn_wide.2 (yj s _)).mono ?_⟩
 rintro e w3 ⟨rfl,rfl⟩
 gi_wp2_with fail
 have k2:=xC w (.cells #[.bool false] 4) 9 (.string s)
 have kb2:=kb.alloc (o:=.cells #[.string s] 9) kb.size
 have k1b:=k1.alloc (.cells #[.string s] 9)
 have kz:((w.alloc (.cells #[.bool false] 4)).alloc (.cells #[.string s] 9)).heap.size=w.heap.size+2:=by simp
 generalize (w.alloc (.cells #[.bool false] 4)).alloc (.cells #[.string s] 9)=w1 at *
 clear k1 kb FT
 have ab:∀k,k<=5->zD (w.heap.size+2) k (jlx w):=fun k hk pre W W' h ht =>
  ⟨ht.box h.1 (.inl (by omega)),h.2.1.trans (ht.below (by omega) h.2.1.size),h.2.2⟩
 refine vC (gf:=139) (lb:=#[.pointer (some ⟨w.heap.size+1,0,none⟩)]) rfl (enters_of func139 (by kernel_rfl) rfl) (HH w1 _ k2 (by omega)) (fun _=>rfl)
  (jlx w) (jl3 w) (by rw[kz];exact ab _ (by omega)) (fun c pre W W' h ht=>⟨ht.box h.1 (.inl (by rw[kz];omega)),h.2.1.trans (ht.below (by rw[kz];omega) h.2.1.size),h.2.2⟩) ⟨k1b,kb2,rfl⟩
  (fun a pre x a' W=>∃Bx,w.heap.size+2+5<=Bx/\a'={tmps:=(a.tmps.setIfInBounds 10 (.agg (qP x))).setIfInBounds 3 (.pointer (some ⟨Bx,0,none⟩)),defers:=[]}/\ja W Bx 164 (qP x)/\jlx w pre W)
  ?hM ?assign ?body ?done ?stop
 case hM =>
  rw[kz]
  rintro a pre x a' _ W W' ⟨Bx,h1,h2,h3,h4⟩ ht
  exact⟨Bx,h1,h2,(ht.same Bx h3.lt (.inr (by omega))).trans h3,ab 2 (by omega) pre W W' h4 ht⟩
 case assign =>
  rw[kz]
  intro l pre x post W hx hsz hi
  clear hx
  dsimp only[qP]
  gi_wp2
  exact⟨(vz.refl _ _ W).alloc hsz _,W.heap.size,by omega,rfl,ja.new _ _ _,hi.1.alloc _,hi.2.1.alloc hi.2.1.size _,hi.2.2⟩
 case body =>
  rw[kz]
  rintro l pre x post a' W hx hsz ⟨Bx,hB,rfl,hc,h1,h2,h3⟩
  clear hx
  simp only[jms,jm2,jm3,qP]at hc ⊢
  have gx:JT x=(x.ended&&Lib.hasPrefix x.text [32]):=rfl
  have gs:(pre++[x]).all JT=JT x:=by rw[jnS,h3];simp
  have c3:=h1.cell
  have f3:=h1.frozen
  have p2:W.cell? ⟨Bx,2,none⟩=some (.string ⟨x.text.toArray⟩):=hc.cell 2
  have p3:W.cell? ⟨Bx,3,none⟩=some (.bool x.ended):=hc.cell 3
  generalize x.ended=en at *
  cases en with
  | false =>
   gi_wp2_with fail
   refine⟨trivial,?_⟩
   gi_wp2
   exact⟨(vz.refl _ _ _).setCell (.inl (by show w.heap.size<_;omega)) _,jnd _ h1,h2.setCell (p:=⟨w.heap.size,0,none⟩) (jma _) _,rfl,by rw[gs,gx];rfl⟩
  | true =>
  gi_wp2_with fail
  refine⟨trivial,((callsIn_wide.2 (Tryz.strings_HasPrefix ⟨x.text.toArray⟩ ⟨#[32]⟩ W)).inRound l).mono ?_⟩
  rintro e V ⟨rfl,rfl⟩
  have eh:Lib.hasPrefix (⟨x.text.toArray⟩:ByteArray).data.toList (⟨#[32]⟩:ByteArray).data.toList=Lib.hasPrefix x.text [32]:=rfl
  rw[eh]
  rw[jnL]at gx
  generalize Lib.hasPrefix x.text [32]=hp at *
  cases hp with
  | false =>
   gi_wp2
   exact⟨(vz.refl _ _ _).setCell (.inl (by show w.heap.size<_;omega)) _,jnd _ h1,h2.setCell (p:=⟨w.heap.size,0,none⟩) (jma _) _,rfl,by rw[gs,gx]⟩
  | true =>
  gi_wp2
  exact⟨vz.refl _ _ _,h1,h2,by rw[gs,gx]⟩
 case done =>
  rw[kz]
  rintro W ⟨h1,h2,h3⟩ hmark
  have zW:w.heap.size+2<W.heap.size:=(Array.getElem?_eq_some_iff.1 hmark).1
  have c3:=h1.cell
  have f3:=h1.frozen
  rw[h3]at hg
  subst hg
  gi_wp2
  exact jew w _ true _ (jnd _ h1) ((jmz _ _ _ _ (by show w.heap.size+2≠w.heap.size;omega)).trans hmark) (h2.setCell (p:=⟨w.heap.size,0,none⟩) (jma _) _) rfl
 case stop =>
 rw[kz]
 rintro c pre W hpre ⟨h1,h2,rfl,h3⟩ hmark
 have hg0:g=false:=by
  rw[hg]
  obtain⟨z,rfl⟩:=hpre
  rw[jnS,h3];rfl
 subst hg0
 gi_wp2
 exact jew w W false _ h1 hmark h2 rfl
theorem xL(l:List UInt8)(hl:l.length<=1000000)(w:World):
  Calls prog 110 #[.string (B l)] w fun e w'=>e=.returned (.bool (goodR l))/\Below w.heap.size w w':=by
 have:=jgH (B l) (by rw[jq];exact hl) w
 rwa [ju]at this
end Fr
end Go.Proofs.YtpibhbjmcmfnmaaGreatDoor
