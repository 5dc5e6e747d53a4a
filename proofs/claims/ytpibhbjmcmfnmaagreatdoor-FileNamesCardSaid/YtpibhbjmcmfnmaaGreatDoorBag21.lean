/- Texts put together:SA,DC,DE,CB,CC,CD,DF. -/
import Derived.Test.YtpibhbjmcmfnmaaGreatDoorBag20
set_option linter.unusedVariables false
set_option maxRecDepth 100000
set_option maxHeartbeats 16000000
namespace Go.Proofs.YtpibhbjmcmfnmaaGreatDoor
open Go.RowKit Go.Shelf Tryz
abbrev joj:=@ByteArray.size_append
abbrev joW:=@List.drop_left
abbrev jo8:=@Array.getElem?_modify
abbrev jpA:=@Go.Sort.heap_grow_old
namespace Bk
open Go.Lib Go.Proofs.YtpibhbjmcmfnmaaGreatDoor.Fr Go.Proofs.YtpibhbjmcmfnmaaGreatDoor.Hd
def Xo(l:List UInt8):Bool:=hasPrefix l [37]&&decide (jL l=5)
def JS(xs:List Ln)(n:Nat):Nat:=match xs.find? (fun x=>Xo x.text) with | some x=>x.at_ | none=>n
def vn(t:List UInt8):List UInt8:=t.take (JS (jf t) t.length)
def jaF(l:List UInt8):Prop:=l=[]\/∃r,l=r++[10]
theorem Jg(l:List UInt8):(10:UInt8)∉head l:=fun h=>by
 have:=List.all_eq_true.1 (jo1 (p:=fun c:UInt8=>c != 10) (l:=l)) 10 h
 simp at this
theorem Zq:∀{l:List UInt8},(10:UInt8)∉l->head l=l
 | [],_=>rfl
 | c::l,h=>by
  have hc:(c != 10)=true:=by
   simp only[bne_iff_ne]
   rintro rfl
   exact h jno
  unfold head
  rw[joe,if_pos hc]
  exact congrArg (c :: ·) (Zq fun hm=>h (jnm _ hm))
theorem jjL{l:List UInt8}(h:(10:UInt8)∈l):l=head l++10::l.drop (qI l):=by
 have hn:nl l=true:=by unfold nl;simpa using h
 have:=zI l
 rw[hn,if_pos rfl]at this
 rw[jnx]at this
 exact this
theorem jiw{l:List UInt8}(h:jaF l)(h0:l≠[]):(10:UInt8)∈l:=by
 rcases h with h|⟨r,h⟩
 ·exact absurd h h0
 rw[h];simp
theorem jf6{a b:List UInt8}(h:jaF (a++b)):jaF b:=by
 rcases jo9 b with hb|⟨b',c,hb⟩
 ·exact .inl hb
 rw[jpa]at hb
 subst hb
 rcases h with h|⟨r,h⟩
 ·simp at h
 rw[<- jnx]at h
 obtain⟨_,h2⟩:=List.append_inj' h rfl
 exact .inr ⟨b',by rw[h2]⟩
theorem Gn:∀(n:Nat) (b x:List UInt8) (no a:Nat),b.length<=n->jaF b->∃k,jQ no a (b++x)=jQ no a b++jQ (no+k) (a+b.length) x
 | 0,b,x,no,a,h,_=>by
  have:b=[]:=List.length_eq_zero_iff.1 (by omega)
  subst this
  exact⟨0,by simp[jp]⟩
 | n+1,b,x,no,a,h,he=>by
  by_cases hb:b=[]
  ·subst hb
   exact⟨0,by simp[jp]⟩
  have hm:=jiw he hb
  have hs:=jjL hm
  generalize hr:b.drop (qI b)=r at hs
  generalize hh:head b=hd at hs
  have hc:(10:UInt8)∉hd:=by rw[<- hh];exact Jg b
  subst hs
  have her:jaF r:=jf6 (a:=hd++[10]) (by rw[jnx];exact he)
  obtain⟨k,hk⟩:=Gn n r x (no+1) (a+hd.length+1) (by simp at h;omega) her
  refine⟨k+1,?_⟩
  rw[jnx,jny,Yx _ _ _ _ hc,Yx _ _ _ _ hc,hk]
  simp only[jny,jnf,jni]
  have e1:no+1+k=no+(k+1):=by omega
  have e2:a+hd.length+1+r.length=a+(hd.length+(r.length+1)):=by omega
  rw[e1,e2]
theorem jdM{l:List UInt8}(h:∀x∈jf l,x.ended=true):jaF l:=by
 have hj:=zg l
 rcases jo9 (jf l) with h0|⟨xs,x,h0⟩
 ·rw[h0]at hj;exact .inl hj.symm
 rw[jpa]at h0
 rw[h0]at hj h
 have hx:=h x (by simp)
 refine .inr ⟨xs.flatMap Ln.bytes++x.text,?_⟩
 rw[<- hj,jnO]
 unfold Ln.bytes
 simp[hx]
theorem UV(t:List UInt8):∀(xs:List Ln) (p q:PS),vK t p xs=.ok q->∀x∈xs,jL x.text≠5/\x.ended=true
 | [],_,_,_,x,hx=>by cases hx
 | y::xs,p,q,h,x,hx=>by
  unfold vK at h
  cases ht:zO t p y with
  | error e=>rw[ht]at h;cases h
  | ok p' =>
  rw[ht]at h
  obtain⟨_,hw,_⟩:=yF ht
  unfold vI at hw
  rcases List.mem_cons.1 hx with e|hx
  ·subst e
   simp only[Bool.or_eq_false_iff,Bool.not_eq_false']at hw
   exact⟨by simpa using hw.1.1,hw.2⟩
  exact UV t xs p' q h x hx
theorem Yi{t:List UInt8}{its:List It}(h:jE t=.ok its):∀x∈jf t,jL x.text≠5/\x.ended=true:=by
 unfold jE at h
 cases hr:vK t PS.new (jf t) with
 | error e=>rw[hr]at h;cases h
 | ok p=>exact UV t _ _ _ hr
theorem XY{t:List UInt8}{its:List It}(h:jE t=.ok its):jaF t:=jdM fun x hx=>(Yi h x hx).2
theorem jdi{t:List UInt8}{its:List It}(h:jE t=.ok its):∀x∈jf t,Xo x.text=false:=fun x hx=>by
 unfold Xo
 rw[decide_eq_false (Yi h x hx).1,Bool.and_false]
theorem jcv(t:List UInt8):JS (jf t) t.length<=t.length:=by
 unfold JS
 cases h:(jf t).find? (fun x=>Xo x.text) with
 | none=>exact jnd _
 | some x =>
 obtain⟨_,pre,post,he,_⟩:=List.find?_eq_some_iff_append.1 h
 obtain⟨_,ha⟩:=vX t pre x post he
 have hj:=zg t
 rw[he,jnO]at hj
 show x.at_<=t.length
 rw[ha,<- hj,jnf]
 omega
theorem Xb(t:List UInt8):(vn t).length=JS (jf t) t.length:=by
 unfold vn;rw[jnk];have:=jcv t;omega
theorem Xa(t:List UInt8):t=vn t++t.drop (vn t).length:=by
 have h:=Xb t
 rw[h]
 exact(jnQ _ t).symm
theorem jbo(t:List UInt8):t.drop (vn t).length=[]\/Xo (head (t.drop (vn t).length))=true:=by
 rw[Xb]
 unfold JS
 cases h:(jf t).find? (fun x=>Xo x.text) with
 | none=>left;simp
 | some x =>
 obtain⟨hb,pre,post,he,_⟩:=List.find?_eq_some_iff_append.1 h
 obtain⟨_,ha⟩:=vX t pre x post he
 have hpe:∀y∈pre,y.ended=true:=by
  intro y hy
  have hall:∀(xs:List Ln) (no a:Nat) (l:List UInt8) (z:Ln) (zs:List Ln),jQ no a l=xs++z::zs->∀y∈xs,y.ended=true:=by
   intro xs
   induction xs with
   | nil=>intro no a l z zs _ y hy;cases hy
   | cons u us ih =>
   intro no a l z zs e y hy
   have hl:l≠[]:=by rintro rfl;rw[jp]at e;cases e
   rw[jx _ _ _ hl,jny]at e
   obtain⟨e1,e2⟩:=List.cons.inj e
   rcases List.mem_cons.1 hy with hy|hy
   ·subst hy
    rw[<- e1]
    show nl l=true
    cases hn:nl l with
    | true=>rfl
    | false =>
    exfalso
    have hs:=zI l
    rw[hn]at hs
    have hu:qI l=(head l).length:=by unfold qI;rw[hn];rfl
    have h9:l.drop (qI l)=[]:=by
     have hm:(10:UInt8)∉l:=by unfold nl at hn;simpa using hn
     have:head l=l:=Zq hm
     rw[hu,this]
     exact joI
    rw[h9,jp]at e2
    cases us<;>cases e2
   exact ih _ _ _ _ _ e2 y hy
  exact hall pre 0 0 t x post he y hy
 obtain⟨_,c2⟩:=Yy pre (x::post) 0 0 t he hpe
 right
 show Xo (head (t.drop x.at_))=true
 rw[ha]
 have hne:t.drop (pre.flatMap Ln.bytes).length≠[]:=by
  intro e
  rw[e,jp]at c2
  cases c2
 rw[jx _ _ _ hne]at c2
 have:=(List.cons.inj c2).1
 rw[this]at hb
 exact hb
theorem jec{b x:List UInt8}(he:jaF b)(hb:∀y∈jf b,Xo y.text=false)(hx:x=[]\/Xo (head x)=true):vn (b++x)=b:=by
 obtain⟨k,hk⟩:=Gn _ b x 0 0 (jnd _) he
 have hc:JS (jf (b++x)) (b++x).length=b.length:=by
  unfold JS jf
  rw[hk,jpu]
  have h1:(jQ 0 0 b).find? (fun x=>Xo x.text)=none:=List.find?_eq_none.2 fun y hy=>by rw[hb y hy];simp
  rw[h1]
  rcases hx with rfl|hx
  ·simp[jp]
  have hne:x≠[]:=by
   rintro rfl
   exact absurd hx (by decide)
  rw[jx _ _ _ hne,Option.none_or,jpF]
  simp only[hx]
  simp
 unfold vn
 rw[hc,List.take_left']
 rfl
theorem jhS{l r:List UInt8}(h:l=37::r)(h10:(10:UInt8)∉l)(h58:(58:UInt8)∉l):Xo l=true:=by
 subst h
 have e1:yB (37::r) 10=false:=by
  rw[Bool.eq_false_iff];intro hh;exact h10 (by simpa [yB]using hh)
 have e2:yB (37::r) 58=false:=by
  rw[Bool.eq_false_iff];intro hh;exact h58 (by simpa [yB]using hh)
 have e3:jL (37::r)=5:=by
  unfold jL
  rw[e1,e2]
  have e4:zH (37::r)=false:=by unfold zH;rw[joZ];rfl
  have e5:ZY (37::r)=false:=rfl
  have e6:yi (37::r)=false:=rfl
  rw[e4,e5,e6]
  simp
 unfold Xo
 rw[e3]
 simp[hasPrefix]
theorem jmz{c:UInt8}(h:jks c=true):c≠58:=by rintro rfl;exact absurd h (by decide)
theorem Ws{n:Nat}{f:List UInt8}(hf:GQ f):(10:UInt8)∉zn n f/\(58:UInt8)∉zn n f:=by
 refine⟨vx hf,?_⟩
 unfold zn AMD
 intro h
 simp only[jny,jnU,joS,List.mem_append]at h
 rcases h with h|h|h|h|h|h|h|h|h|h
 all_goals first
  | exact absurd h (by decide)
  | skip
 ·have:=qG n _ h;simp at this
 exact jmz (List.all_eq_true.1 (Zw.1 hf).2 _ h) rfl
theorem jh4{a r:List UInt8}(h:(10:UInt8)∉a):head (a++10::r)=a:=(YH a r h).1
theorem Gz(b:List UInt8):fullR b=zn b.length (yL b)++10::(b++qt b.length):=rfl
theorem jiS(b m:List UInt8):Xo (head (fullR b++m))=true:=by
 have hf:=vt b
 rw[Gz,jnx,jny,jh4 (Ws hf).1]
 exact jhS (r:=(zn b.length (yL b)).tail) rfl (Ws hf).1 (Ws hf).2
structure jgO(D:List UInt8->Bool)(s:List UInt8)(bds:List (List UInt8))(rest:List UInt8):Prop where
 eq:s=bds.flatMap fullR++rest
 good:∀b∈bds,goodR b=true/\D b=true
def jlk(D:List UInt8->Bool)(r:List UInt8):Prop:=(¬xu r/\¬∃b,vN r b)\/∃b,vN r b/\D b=false
def Fin(D:List UInt8->Bool)(r:List UInt8):Prop:=xu r\/jlk D r
theorem jf2{D:List UInt8->Bool}{r b:List UInt8}(h:Fin D r)(hw:vN r b)(hd:D b=true):False:=by
 rcases h with h|⟨_,h⟩|⟨b',hb,h⟩
 ·exact Jq hw h
 ·exact h ⟨b,hw⟩
 rw[Uk hw hb]at hd;rw[hd]at h;cases h
theorem jim{D:List UInt8->Bool}{r:List UInt8}(h:xu r)(h':jlk D r):False:=by
 rcases h' with ⟨h1,_⟩|⟨b,hb,_⟩
 ·exact h1 h
 exact Jq hb h
theorem We{D:List UInt8->Bool}:∀{s:List UInt8} {x y:List (List UInt8)} {r q:List UInt8},jgO D s x r->jgO D s y q->Fin D r->Fin D q->x=y/\r=q
 | s,[],[],r,q,h,h',_,_=>⟨rfl,by have e:=h.eq;rw[h'.eq]at e;simpa using e.symm⟩
 | s,[],b::y,r,q,h,h',hf,_=>by
  exfalso
  have e:=h.eq
  have e':=h'.eq
  rw[List.flatMap_nil,jnU]at e
  rw[jnA,jnx]at e'
  obtain⟨g,d⟩:=h'.good b jno
  exact jf2 hf ⟨g,_,e.symm.trans e'⟩ d
 | s,b::x,[],r,q,h,h',_,hf=>by
  exfalso
  have e:=h.eq
  have e':=h'.eq
  rw[List.flatMap_nil,jnU]at e'
  rw[jnA,jnx]at e
  obtain⟨g,d⟩:=h.good b jno
  exact jf2 hf ⟨g,_,e'.symm.trans e⟩ d
 | s,b::x,c::y,r,q,h,h',hr,hq=>by
  have e:=h.eq
  have e':=h'.eq
  rw[jnA,jnx]at e e'
  obtain⟨g,d⟩:=h.good b jno
  obtain⟨g',d'⟩:=h'.good c jno
  have hbc:b=c:=Uk ⟨g,_,e⟩ ⟨g',_,e'⟩
  subst hbc
  have e2:=jpr (e.symm.trans e')
  obtain⟨h1,h2⟩:=We (s:=x.flatMap fullR++r) ⟨rfl,fun b hb=>h.good b (jnm _ hb)⟩ ⟨e2,fun b hb=>h'.good b (jnm _ hb)⟩ hr hq
  exact⟨by rw[h1],h2⟩
theorem jgO.snoc{D:List UInt8->Bool}{s r b:List UInt8}{bds:List (List UInt8)}(h:jgO D s bds r)(hw:vN r b)(hd:D b=true):jgO D s (bds++[b]) (r.drop (fullR b).length):=by
 obtain⟨g,m,hm⟩:=hw
 refine⟨?_,fun c hc => ?_⟩
 ·rw[h.eq,hm,joW,jnO]
  simp
 rcases List.mem_append.1 hc with hc|hc
 ·exact h.good c hc
 rw[List.mem_singleton.1 hc];exact⟨g,hd⟩
def qB:Nat->List (List UInt8)->List Nat
 | _,[]=>[]
 | s,b::r=>(s+(fullR b).length)::qB (s+(fullR b).length) r
theorem xh:∀(s:Nat) (bds:List (List UInt8)) (b:List UInt8),qB s (bds++[b])=qB s bds++[s+(bds.flatMap fullR).length+(fullR b).length]
 | s,[],b=>by simp[qB]
 | s,c::r,b=>by
  have:=xh (s+(fullR c).length) r b
  simp only[jny,qB]
  rw[this]
  simp only[jnA,jnf,joT]
theorem xS:∀(s:Nat) (bds:List (List UInt8)),(qB s bds).length=bds.length
 | _,[]=>rfl
 | s,b::r=>by simp[qB,xS]
theorem Ww(s:Nat)(bds:List (List UInt8))(h:bds≠[]):(qB s bds)[bds.length-1]?=some (s+(bds.flatMap fullR).length):=by
 rcases jo9 bds with hb|⟨r,b,hb⟩
 ·exact absurd hb h
 rw[jpa]at hb
 subst hb
 rw[xh,jnz (by rw[xS];simp),xS]
 simp[Nat.add_assoc]
theorem jcd(b:List UInt8):7<=(fullR b).length:=by unfold fullR recR zn AMD;simp
theorem Ua:∀(bds:List (List UInt8)),bds.length<=(bds.flatMap fullR).length
 | []=>jnd _
 | b::r=>by
  have h:=Ua r
  have:=jcd b
  rw[jnA,jnf,jni]
  omega
def hl(n:Nat):Nat:=if 1<=n/\n<=2147483648 then (zE n).length else 0
theorem jkr{t:List UInt8}{n:Nat}(h:Qs t n):hl n<=t.length:=by
 unfold hl
 split
 ·rename_i h1
  rcases h with ⟨_,_,r,e⟩|⟨rfl,_⟩
  ·rw[e];simp
  omega
 omega
theorem jh5{g i:Nat}(h:(zE g)[i]?=some 37):i=1:=by
 unfold zE Ui at h
 match i,h with
 | 0,h=>simp at h
 | 1,_=>rfl
 | 2,h=>simp at h
 | 3,h=>simp at h
 | 4,h=>simp at h
 | 5,h=>simp at h
 | i+6,h =>
 exfalso
 have h2:(decDigits g++[10,10])[i]?=some 37:=by simpa using h
 have:=jnC h2
 rcases List.mem_append.1 this with h|h
 ·have:=qG g _ h;simp at this
 exact absurd h (by decide)
theorem jic{t p q x:List UInt8}{n:Nat}(h:Qs t n)(ht:t=p++q)(hp:hl n<=p.length)(he:jaF p)(hx:x=[]\/∃y,x=37::y):Qs (p++x) n:=by
 rcases h with ⟨h1,h2,r,e⟩|⟨rfl,hno⟩
 ·left
  refine⟨h1,h2,?_⟩
  have hl':hl n=(zE n).length:=by unfold hl;rw[if_pos ⟨h1,h2⟩]
  rw[hl']at hp
  have e2:p=zE n++p.drop (zE n).length:=by
   have e3:(p++q).take (zE n).length=zE n:=by rw[<- ht,e];simp
   rw[List.take_append_of_le_length hp]at e3
   have:=jnQ (zE n).length p
   rw[e3]at this
   exact this.symm
  exact⟨p.drop (zE n).length++x,by rw[<- jnx,<- e2]⟩
 right
 refine⟨rfl,fun g hg => ?_⟩
 obtain⟨h1,h2,r,e⟩:=hg
 by_cases hlen:(zE g).length<=p.length
 ·have e3:(zE g++r).take (zE g).length=zE g:=by simp
  rw[<- e,List.take_append_of_le_length hlen]at e3
  have:=jnQ (zE g).length p
  rw[e3]at this
  exact hno g ⟨h1,h2,p.drop (zE g).length++q,by rw[ht,<- jnx,this]⟩
 rcases hx with rfl|⟨y,rfl⟩
 ·rw[jnR]at e
  have:=congrArg List.length e
  simp at this
  omega
 have e4:(zE g)[p.length]?=some 37:=by
  have:(zE g++r)[p.length]?=some 37:=by rw[<- e];simp
  rwa [jnJ (by omega)]at this
 have hp1:=jh5 e4
 have e5:(zE g++r)[0]?=some 35:=by unfold zE Ui;rfl
 rw[<- e]at e5
 rcases he with he|⟨z,he⟩
 ·rw[he]at hp1;simp at hp1
 rw[he]at hp1 e5
 have hz:z=[]:=by simpa using hp1
 rw[hz]at e5
 simp at e5
structure qL(D:List UInt8->Bool)(t:List UInt8)(n:Nat)(base:List UInt8)(bds:List (List UInt8))(tail:List UInt8):Prop where
 gen:Qs t n
 parse:∃its,jE base=.ok its
 isB:vn (t.drop (hl n))=base
 recd:jgO D (t.drop (hl n+base.length)) bds tail
 fin:xu tail
theorem Wi:xu []:=full_begins (b:=[32,10]) (by decide) (k:=0) (by decide)
def jo(n:Nat)(base:List UInt8)(bds:List (List UInt8)):Nat:=hl n+base.length+(bds.flatMap fullR).length
theorem YS(t:List UInt8)(a b:Nat):t.drop (a+b)=(t.drop a).drop b:=by rw[joJ]
structure jmJ(t:List UInt8)(n:Nat)(base:List UInt8)(bds:List (List UInt8))(tail:List UInt8):Prop where
 eq:t=t.take (hl n)++(base++(bds.flatMap fullR++tail))
 take:t.take (jo n base bds)=t.take (hl n)++(base++bds.flatMap fullR)
 len:t.length=jo n base bds+tail.length
 tail:t.drop (jo n base bds)=tail
theorem qL.parts{D:List UInt8->Bool}{t base tail:List UInt8}{n:Nat}{bds:List (List UInt8)}(h:qL D t n base bds tail):jmJ t n base bds tail:=by
 have hle:=jkr h.gen
 have e1:=Xa (t.drop (hl n))
 rw[h.isB]at e1
 have e2:=h.recd.eq
 rw[YS]at e2
 rw[e2]at e1
 have e3:t=t.take (hl n)++(base++(bds.flatMap fullR++tail)):=by
  rw[<- e1];exact(jnQ _ t).symm
 have hk:(t.take (hl n)).length=hl n:=by rw[jnk];omega
 have e4:t=(t.take (hl n)++(base++bds.flatMap fullR))++tail:=by
  rw[jnx,jnx];exact e3
 have hw:(t.take (hl n)++(base++bds.flatMap fullR)).length=jo n base bds:=by
  unfold jo;simp only[jnf,hk];omega
 refine⟨e3,?_,?_,?_⟩
 ·conv=>lhs;rw[e4]
  rw[<- hw,jpq]
 ·conv=>lhs;rw[e4]
  rw[jnf,hw]
 conv=>lhs;rw[e4]
 rw[<- hw,joW]
theorem Wz{a b:List UInt8}(ha:jaF a)(hb:jaF b):jaF (a++b):=by
 rcases hb with rfl|⟨r,rfl⟩
 ·rw[jnR];exact ha
 exact .inr ⟨a++r,by rw[jnx]⟩
theorem jf7(b:List UInt8):jaF (fullR b):=.inr ⟨zn b.length (yL b)++10::(b++(END++decDigits b.length)),by
 rw[Gz];unfold qt;simp⟩
theorem GX:∀bds:List (List UInt8),jaF (bds.flatMap fullR)
 | []=>.inl rfl
 | b::r=>by rw[jnA];exact Wz (jf7 b) (GX r)
theorem jix{t:List UInt8}{n:Nat}(h:Qs t n):jaF (t.take (hl n)):=by
 rcases h with ⟨h1,h2,r,e⟩|⟨rfl,_⟩
 ·have e1:hl n=(zE n).length:=by unfold hl;rw[if_pos ⟨h1,h2⟩]
  rw[e1,e,jpq]
  exact .inr ⟨Ui++(decDigits n++[10]),by unfold zE;simp⟩
 exact .inl (by unfold hl;simp)
theorem jgw{x:List UInt8}(h:Xo (head x)=true):∃y,x=37::y:=by
 unfold Xo at h
 simp only[jnv]at h
 obtain⟨h,_⟩:=h
 cases x with
 | nil=>exact absurd h (by decide)
 | cons c r =>
 unfold head at h
 rw[joe]at h
 split at h
 ·unfold hasPrefix at h
  simp[List.isPrefixOf]at h
  exact⟨r,by rw[h]⟩
 exact absurd h (by decide)
theorem qL.again{D:List UInt8->Bool}{t base tail x:List UInt8}{n:Nat}{bds more:List (List UInt8)}{tail':List UInt8}(h:qL D t n base bds tail)(hx:x=[]\/Xo (head x)=true)(hm:jgO D x more tail')(hf:xu tail'):
  qL D (t.take (jo n base bds)++x) n base (bds++more) tail':=by
 have P:=h.parts
 have hle:=jkr h.gen
 have hk:(t.take (hl n)).length=hl n:=by rw[jnk];omega
 obtain⟨its,hp⟩:=h.parse
 have hw:hl n<=(t.take (jo n base bds)).length:=by rw[P.take,jnf,hk];omega
 have hE:jaF (t.take (jo n base bds)):=by rw[P.take];exact Wz (jix h.gen) (Wz (XY hp) (GX bds))
 have hx':x=[]\/∃y,x=37::y:=hx.imp id jgw
 have hd:(t.take (jo n base bds)++x).drop (hl n)=base++(bds.flatMap fullR++x):=by
  rw[P.take,jnx,jnx]
  exact jos hk
 have hb:bds.flatMap fullR++x=[]\/Xo (head (bds.flatMap fullR++x))=true:=by
  cases bds with
  | nil=>exact hx
  | cons b r=>right;rw[jnA,jnx];exact jiS b _
 have hbase:vn (base++(bds.flatMap fullR++x))=base:=jec (XY hp) (jdi hp) hb
 refine⟨jic h.gen (jnQ _ t).symm hw hE hx',⟨its,hp⟩,by rw[hd];exact hbase,?_,hf⟩
 rw[YS,hd,joW]
 refine⟨by rw[hm.eq,jnO,jnx],fun b hb => ?_⟩
 rcases List.mem_append.1 hb with hb|hb
 ·exact h.recd.good b hb
 exact hm.good b hb
end Bk
namespace Fr
open Go.Lib
def Jy:List UInt8:=[48,48,48,48,48,48,48,48]
def qh:List UInt8:=[37,97,109,101,110,100,32,53,48,48,48,48,32,48,48,48,48,48,48,48,48]
theorem JY:GQ Jy:=Zw.2 ⟨rfl,by decide⟩
theorem Kd:qh=zn 50000 Jy:=by
 unfold zn
 rw[xk (by omega),xk (by omega),xk (by omega),xk (by omega),decDigits_one (by omega)]
 rfl
theorem jgh:decDigits 10=[49,48]:=by rw[xk (by omega),decDigits_one (by omega)];rfl
theorem jm3:decDigits 1=[49]:=by rw[decDigits_one (by omega)];rfl
theorem jbB{a b x y:List UInt8}(h:a++x=b++y):(∃q,b=a++q/\x=q++y)\/(∃c q,a=b++c::q/\y=c::q++x):=by
 rcases List.append_eq_append_iff.1 h with ⟨q,h1,h2⟩|⟨q,h1,h2⟩
 ·exact .inl ⟨q,h1,h2⟩
 cases q with
 | nil=>exact .inl ⟨[],by simpa using h1.symm,by simpa using h2.symm⟩
 | cons c q=>exact .inr ⟨c,q,h1,h2⟩
theorem jip{r z f:List UInt8}(hf:GQ f)(h:r++z=f):GQ (r++Jy.drop r.length):=by
 obtain⟨h8,hx⟩:=Zw.1 hf
 have hl:r.length<=8:=by have:=congrArg List.length h;simp at this;omega
 refine Zw.2 ⟨by simp[Jy];omega,?_⟩
 rw[jo0,jnv]
 rw[<- h,jo0,jnv]at hx
 exact⟨hx.1,List.all_eq_true.2 fun c hc=>by have:=job hc;simp[Jy]at this;subst this;decide⟩
theorem jdy{l:List UInt8}:vU l↔∃at_,at_<=21/\∃n f,jaB (l++qh.drop at_) n f:=by
 constructor
 ·rintro⟨n,f,z,h2,h5,hf,he⟩
  unfold zn at he
  rcases jbB he with ⟨q,e1,e2⟩|⟨c,q,e1,e2⟩
  ·have hq:q=AMD.drop l.length:=by rw[e1];simp
   have hl:l.length<=7:=by have:=congrArg List.length e1;simp[AMD]at this;omega
   refine⟨l.length,by omega,50000,Jy,by omega,by omega,JY,?_⟩
   rw[<- Kd]
   have e3:qh=l++(q++qh.drop 7):=by rw[<- jnx,<- e1];rfl
   have e4:qh.drop l.length=q++qh.drop 7:=by rw[e3,joW,<- e3]
   rw[e4];exact e3.symm
  rcases jbB e2 with ⟨q2,e3,e4⟩|⟨d,q2,e3,e4⟩
  ·
   cases q2 with
   | nil =>
    rw[jnR]at e3
    refine⟨12,by omega,n,Jy,h2,h5,JY,?_⟩
    rw[e1,e3];unfold zn;rw[jnx];rfl
   | cons d q2 =>
   rw[jny]at e4
   injection e4 with e5 e6
   subst e5
   have hl:q2.length<=8:=by have:=congrArg List.length e6;have:=YQ hf;simp at *;omega
   refine⟨13+q2.length,by omega,n,q2++Jy.drop q2.length,h2,h5,jip hf e6.symm,?_⟩
   rw[e1,e3];unfold zn
   have:qh.drop (13+q2.length)=Jy.drop q2.length:=by rw[<- joJ];rfl
   rw[this];simp
  ·
   obtain⟨v,e5,hv,h1v⟩:=jdV n (c::q) (d::q2) (by simp) e3.symm
   have h1:=h1v (by omega)
   by_cases hv1:v=1
   ·subst hv1
    refine⟨11,by omega,10,Jy,by omega,by omega,JY,?_⟩
    rw[e1,e5];unfold zn;rw[jgh,jm3];rfl
   refine⟨12,by omega,v,Jy,by omega,by omega,JY,?_⟩
   rw[e1,e5];unfold zn;rw[jnx];rfl
 rintro⟨at_,_,n,f,h⟩
 exact⟨n,f,_,h.lo,h.hi,h.fig,h.eq⟩
theorem jhx{l:List UInt8}(h:vU l):l.length<=21:=by
 obtain⟨n,f,z,h2,h5,hf,he⟩:=h
 have:=congrArg List.length he
 have:=Vr (show n<=99999 by omega)
 have:=YQ hf
 unfold zn AMD at *
 simp at *
 omega
theorem jjY{t:List UInt8}(h:vU t):yQ t 2 [] 0:=by
 have h10:(10:UInt8)∉t:=by
  obtain⟨n,f,z,h2,h5,hf,he⟩:=h
  intro hm
  exact vx (n:=n) hf (by rw[<- he];simp[hm])
 exact .inr (.inl ⟨(Gg h10).2 h,rfl,rfl,rfl⟩)
def hx(l:List UInt8):Nat:=((l.take 8).takeWhile jks).length
end Fr
namespace Fr
attribute [local go_sem] jnn
theorem yc{P:Program}{w w':World}{N:Nat}{name:String}{cs:Array Value}(h:w.var? P name=some cs)(hb:Below N w w')(hN:w.heap.size<=N):w'.var? P name=some cs:=by
 unfold World.var? at *
 cases hg:P.globalNamed name with
 | none=>simp[hg]at h
 | some g =>
 simp only[hg,Option.bind_some]at h ⊢
 have hlt:g<w.heap.size:=by
  rcases jnK g w.heap.size with h'|h'
  ·exact h'
  rw[jn2 h']at h;simp at h
 rw[hb.block g (by omega)]
 exact h
structure TabsN(w:World):Prop where
 pow:Lib.TabIs prog w "internal/strconv.uint64pow10" .u64 Lib.pow10Tab
 syn:∃tp p,w.var? prog "strconv.ErrSyntax" = some #[.iface tp p]
 ran:∃tp p,w.var? prog "strconv.ErrRange" = some #[.iface tp p]
theorem TabsN.below{w w':World}{N:Nat}(h:TabsN w)(hb:Below N w w')(hN:w.heap.size<=N):TabsN w':=by
 obtain⟨a,⟨t1,p1,c⟩,⟨t2,p2,d⟩⟩:=h
 exact⟨yc a hb hN,⟨t1,p1,yc c hb hN⟩,⟨t2,p2,yc d hb hN⟩⟩
theorem xP{N:Nat}{w w':World}(h:Below N w w'){p:Addr}(hp:N<=p.block)(k:Nat):Below N w (w'.freeze p k):=by
 unfold World.freeze
 by_cases hk:k=0
 ·rw[if_pos hk];exact h
 rw[if_neg hk]
 refine⟨h.os,h.tape,h.output,?_,fun j hj => ?_⟩
 ·simp;exact h.size
 simp only[jo8]
 rw[if_neg (by omega)]
 exact h.block j hj
theorem JU(w:World)(e:TypeId)(s:ByteArray):Below w.heap.size w (Lib.bytesWorld w e s):=by
 unfold Lib.bytesWorld
 exact xP ((jne _ w).drew.alloc (jnd _) _) (jnd _) _
theorem atoi_any(l:List UInt8)(hl:l.length<=1000000)(w:World)(ht:TabsN w):
  Calls prog 138 #[.string (B l)] w fun e w'=>(∃T q,e=.returned (.tuple #[.int .i64 (qX l),.nilIface])\/e=.returned (.tuple #[.int .i64 (qX l),.iface T q]))/\Below w.heap.size w w':=by
 cases h:Lib.atoiAll l with
 | ok v =>
  refine(Tryz.strconv_Atoi_ok (B l) (by rw[jm];omega) v (by rw[ju];exact h) w).mono ?_
  rintro e w' ⟨rfl,hw⟩
  refine⟨⟨0,undef,.inl (by unfold qX;rw[h])⟩,?_⟩
  rcases hw with rfl|⟨t,rfl⟩
  ·exact jne _ _
  exact JU _ _ _
 | range =>
  obtain⟨tp,p,hv⟩:=ht.ran
  refine(Tryz.strconv_Atoi_range_var (B l) (by rw[jm];omega) (by rw[ju];exact h) tp p w hv).mono ?_
  rintro e w' ⟨N,rfl,_,_,hb⟩
  exact⟨⟨_,_,.inr (by unfold qX;rw[h,ju])⟩,hb⟩
 | _ =>
 obtain⟨tp,p,hv⟩:=ht.syn
 refine(Tryz.strconv_Atoi_syntax_var (B l) (by rw[jm];omega) (by rw[ju];exact h) tp p w hv).mono ?_
 rintro e w' ⟨N,rfl,_,_,hb⟩
 exact⟨⟨_,_,.inr (by unfold qX;rw[h])⟩,hb⟩
end Fr
namespace Sm
theorem ye(s:ByteArray)(k:Nat)(h:k<s.size):s.data.toList.take (k+1)=s.data.toList.take k++[s[k]]:=by
 rw[joo (by simpa using h)];rfl
theorem jmX(x c:Nat)(hx:x<4294967296)(hc:c<256):bits .xor .u32 (x:Int) ((c:Int)*16777216)=((x ^^^ c*16777216:Nat):Int):=by
 have h:=M.m24 c hc
 have e:((c:Int)*16777216)=((c*16777216:Nat):Int):=by omega
 rw[e]
 exact u32_xor_nat _ _ hx h
theorem jeS{k:IntKind}{a b:Int}(h:a=b):Ending.returned (.int k a)=.returned (.int k b):=by rw[h]
theorem jlu(z:Nat)(hz:z<4294967296)(h:((z:Int) / 2147483648==1)=true):bits .xor .u32 ((z:Int)*2 % 4294967296) 79764919=((M.st z:Nat):Int):=by
 have h1:(z:Int) / 2147483648=1:=by simpa using h
 have h2:z / 2147483648=1:=by omega
 unfold M.st
 rw[if_pos h2]
 have e:((z:Int)*2 % 4294967296)=((z*2 % 4294967296:Nat):Int):=by omega
 rw[e]
 exact u32_xor_nat _ 79764919 (jpp _ (by decide)) (by decide)
theorem jmo(z:Nat)(h:((z:Int) / 2147483648==1)=false):((z:Int)*2 % 4294967296)=((M.st z:Nat):Int):=by
 have h1:¬(z:Int) / 2147483648=1:=by simpa using h
 have h2:¬z / 2147483648=1:=by omega
 unfold M.st
 rw[if_neg h2]
 omega
def T(k j:Nat):Nat:=if j<k then M.stn 4 (j*268435456) else 0
def tab(k:Nat):Array Value:=#[.int .u32 (T k 0:Nat),.int .u32 (T k 1:Nat),.int .u32 (T k 2:Nat),.int .u32 (T k 3:Nat),.int .u32 (T k 4:Nat),.int .u32 (T k 5:Nat),.int .u32 (T k 6:Nat),.int .u32 (T k 7:Nat),.int .u32 (T k 8:Nat),.int .u32 (T k 9:Nat),.int .u32 (T k 10:Nat),.int .u32 (T k 11:Nat),.int .u32 (T k 12:Nat),.int .u32 (T k 13:Nat),.int .u32 (T k 14:Nat),.int .u32 (T k 15:Nat)]
theorem Vf(k:Nat):(tab k).size=16:=rfl
theorem KQ(k j:Nat)(h:j<16):(tab k)[j]?=some (.int .u32 (T k j:Nat)):=by
 match j,h with
 | 0,_ | 1,_ | 2,_ | 3,_ | 4,_ | 5,_ | 6,_ | 7,_ | 8,_ | 9,_ | 10,_ | 11,_ | 12,_ | 13,_ | 14,_ | 15,_=>rfl
 | n+16,h=>omega
theorem jjy(k:Nat)(h:k<16):(tab k).setIfInBounds k (.int .u32 (M.stn 4 (k*268435456):Nat))=tab (k+1):=by
 apply Array.ext_getElem?
 intro j
 rw[jn9]
 by_cases hj:j<16
 ·rw[KQ _ _ hj,KQ _ _ hj,Vf]
  by_cases e:k=j
  ·subst e;simp[h,T]
  have:T (k+1) j=T k j:=by unfold T;by_cases a:j<k<;>simp[a]<;>omega
  rw[if_neg e,this]
 have:k≠j:=by omega
 rw[if_neg this,jn2 (by rw[Vf];omega),jn2 (by rw[Vf];omega)]
theorem jdz(w:World):
  Calls prog 167 #[] w fun e w'=>e=.returned (.agg (tab 16))/\Below w.heap.size w w':=by
 go_enter func167,ntmps167
 go_wp2
 go_loopw [3,5] (fun r i wr=>∃k:Nat,k<=16/\i=.int .i64 k/\wr=(w.alloc (.cells #[Value.int IntKind.u32 0,Value.int IntKind.u32 0,Value.int IntKind.u32 0,Value.int IntKind.u32 0,Value.int IntKind.u32 0,Value.int IntKind.u32 0,Value.int IntKind.u32 0,Value.int IntKind.u32 0,Value.int IntKind.u32 0,Value.int IntKind.u32 0,Value.int IntKind.u32 0,Value.int IntKind.u32 0,Value.int IntKind.u32 0,Value.int IntKind.u32 0,Value.int IntKind.u32 0,Value.int IntKind.u32 0] 250)).alloc (.cells (tab k) 250)) (fun _ i _=>16-(intOf i).toNat)
 case atStart=>exact⟨0,by omega,rfl,rfl⟩
 case round =>
 obtain⟨k,hk,rfl,rfl⟩:=hrel
 by_cases hlt:k<16
 ·have hx:k*268435456<4294967296:=by omega
  go_wp2
  go_loop [3,11] (fun x i=>∃j:Nat,j<=4/\i=.int .i64 j/\x=.int .u32 (M.stn j (k*268435456):Nat)) (fun _ i=>4-(intOf i).toNat)
  case atStart=>exact⟨0,by omega,rfl,by simp[M.stn]⟩
  case round =>
  obtain⟨j,hj,rfl,rfl⟩:=hrel
  have hz:=M.stn_lt j _ hx
  have hst:=M.stn_succ j (k*268435456)
  have ht:=KQ k k hlt
  have hset:=jjy k hlt
  generalize hzz:M.stn j (k*268435456)=z at *
  have HZ:=jnc hzz
  have HQ:=jnc hst
  have HS:=jnc hset
  clear hzz hst hset
  go_wp2
  ·have ht:((z:Int) / 2147483648==1)=true:=by assumption
   go_round
   case rel=>exact⟨j+1,by omega,by go_num,by rw[HQ.out,jlu z hz ht]⟩
   case measure=>simp[intOf];omega
  ·have ht:((z:Int) / 2147483648==1)=false:=by assumption
   go_round
   case rel=>exact⟨j+1,by omega,by go_num,by rw[HQ.out,jmo z ht]⟩
   case measure=>simp[intOf];omega
  have:j=4:=by omega
  go_roundw
  case rel=>exact⟨k+1,by omega,by go_num,by rw[<- HS.out,<- HZ.out,this]⟩
  case measure=>simp[intOf];omega
 have:k=16:=by omega
 subst this
 simp only[tab]
 go_wp2
 exact bodyPost_ret (v:=.agg (tab 16)) (by simp[results,results167,go_sem,tab]) rfl ⟨rfl,by repeat (first | exact jne _ _ | (refine Below.alloc ?_ (by simp) _) | (refine Below.setCell ?_ (by simp) _))⟩
theorem jlU(y:Nat)(hy:y<4294967296):(tab 16)[y / 268435456]?=some (.int .u32 (M.stn 4 (y / 268435456*268435456):Nat)):=by
 have h:y / 268435456<16:=by omega
 rw[KQ 16 _ h]
 unfold T
 rw[if_pos h]
theorem jmT(y:Nat)(hy:y<4294967296):bits .xor .u32 ((y:Int)*16 % 4294967296) (M.stn 4 (y / 268435456*268435456):Nat)=((M.stn 4 y:Nat):Int):=by
 have h1:y / 268435456*268435456<4294967296:=by omega
 have h2:=M.stn_lt 4 _ h1
 rw[M.four y hy]
 have e:((y:Int)*16 % 4294967296)=((y*16 % 4294967296:Nat):Int):=by omega
 rw[e]
 exact u32_xor_nat _ _ (jpp _ (by decide)) h2
theorem jir(x:Nat)(hx:x<4294967296)(s:ByteArray)(w:World)(hs:s.size<=maxLen):
  Calls prog 168 #[.int .u32 x,.agg (tab 16),.string s] w fun e w'=>e=.returned (.int .u32 (M.feed x s.data.toList:Nat))/\Below w.heap.size w w':=by
 unfold maxLen at hs
 go_enter func168,ntmps168
 go_wp2
 go_loop [0,10] (fun r i=>∃k:Nat,k<=s.size/\i=.int .i64 k/\r=.int .u32 (M.feed x (s.data.toList.take k):Nat)) (fun _ i=>s.size-(intOf i).toNat)
 case atStart=>exact⟨0,by omega,rfl,rfl⟩
 case round =>
 obtain⟨k,hk,rfl,rfl⟩:=hrel
 by_cases hlt:k<s.size
 ·have hx0:=M.feed_lt (s.data.toList.take k) x hx
  have hc:=s[k].toNat_lt
  have HS:Hid (M.feed x (s.data.toList.take (k+1))=M.stn 4 (M.stn 4 (M.feed x (s.data.toList.take k) ^^^ s[k].toNat*16777216))):=by
   rw[ye s k hlt,M.feed_snoc];rfl
  generalize M.feed x (s.data.toList.take k)=x0 at *
  have X:=jmX _ _ hx0 hc
  have hy:x0 ^^^ s[k].toNat*16777216<4294967296:=jo2 (n:=32) hx0 (M.m24 _ hc)
  generalize x0 ^^^ s[k].toNat*16777216=y at *
  have hz:=M.stn_lt 4 y hy
  have c1:=jlU y hy
  have x1:=jmT y hy
  generalize M.stn 4 y=z at *
  have c2:=jlU z hz
  have x2:=jmT z hz
  go_wp2
  go_round
  case rel=>exact⟨k+1,by omega,by go_num,by rw[HS.out]⟩
  case measure=>simp[intOf];omega
 go_wp2
 have:k=s.size:=by omega
 subst this
 go_ret
 exact⟨by rw[jnD (by simp)];rfl,(jne _ _).alloc (jnd _) _⟩
def Strs(w:World)(v:Value)(ss:List ByteArray):Prop :=
 ∃A cap,v=.slice A ss.length cap/\(∀i s,ss[i]?=some s->∃b off,A=some ⟨b,off,none⟩/\b<w.heap.size/\w.cell? ⟨b,off+i,none⟩=some (.string s))
theorem jbK:(prog.info? 250).map (·.size)=some (tab 16).size:=by kernel_rfl
theorem jjz:(tab 16).all (·.oneCell')=true:=by kernel_rfl
theorem jmF(x:Nat)(h:x<4294967296):bits .xor .u32 IntKind.u32.max (x:Int)=((4294967295-x:Nat):Int):=by
 have e:IntKind.u32.max=((4294967295:Nat):Int):=by decide
 rw[e,u32_xor_nat _ _ (by decide) h]
 congr 1
 apply jpH
 intro i
 have h1:(4294967295-x)=2 ^ 32-(x+1):=by omega
 have h2:(4294967295:Nat)=2 ^ 32-1:=by decide
 rw[h1,jpj,Nat.testBit_two_pow_sub_succ h,h2,Nat.testBit_two_pow_sub_one]
 by_cases hi:i<32
 ·simp[hi]
 have h3:2 ^ 32<=2 ^ i:=Nat.pow_le_pow_right (by decide) (by omega)
 have:x.testBit i=false:=Nat.testBit_lt_two_pow (jnw h h3)
 simp[hi,this]
def jmc(w:World)(B:Nat):Prop:=w.heap[B]?=some (.cells (tab 16) 250 (0,0))
theorem sum_any(v:Value)(ss:List ByteArray)(w:World)(hv:Strs w v ss)(hl:ss.length<=maxLen)(hs:∀(i:Nat) (s:ByteArray),ss[i]?=some s->s.size<=maxLen):
  Calls prog 125 #[v] w fun e w'=>e=.returned (.int .u32 (4294967295-M.feed 4294967295 (cat ss):Nat))/\Below w.heap.size w w':=by
 obtain⟨A,cap,rfl,hc⟩:=hv
 unfold maxLen at hl
 go_enter func125,ntmps125
 go_wp2_with (go_at_call 167;refine(jdz _).mono ?_;rintro e w1 ⟨rfl,hb1⟩;have hst:=run_storeCells_new (P:=prog) w1 250 #[Value.int IntKind.u32 0,Value.int IntKind.u32 0,Value.int IntKind.u32 0,Value.int IntKind.u32 0,Value.int IntKind.u32 0,Value.int IntKind.u32 0,Value.int IntKind.u32 0,Value.int IntKind.u32 0,Value.int IntKind.u32 0,Value.int IntKind.u32 0,Value.int IntKind.u32 0,Value.int IntKind.u32 0,Value.int IntKind.u32 0,Value.int IntKind.u32 0,Value.int IntKind.u32 0,Value.int IntKind.u32 0] (tab 16) jbK (by rfl) jjz;have hsz:=Vf 16)
 clear hst hsz
 have hrow:jmc (w1.alloc (.cells (tab 16) 250)) w1.heap.size:=heap_alloc_last _ _
 have hbw:Below w.heap.size w (w1.alloc (.cells (tab 16) 250)):=hb1.alloc hb1.size _
 have hlt:w.heap.size<=w1.heap.size:=hb1.size
 have hlt':w1.heap.size<(w1.alloc (.cells (tab 16) 250)).heap.size:=by simp
 generalize (w1.alloc (.cells (tab 16) 250))=w2 at *
 generalize w1.heap.size=L at *
 clear hb1
 go_loopw [4,10] (fun r i wr=>∃k:Nat,k<=ss.length/\i=.int .i64 k/\r=.int .u32 (M.feed 4294967295 (cat (ss.take k)):Nat)/\Below w.heap.size w wr/\jmc wr L/\L<wr.heap.size) (fun _ i _=>ss.length-(intOf i).toNat)
 case atStart=>exact⟨0,by omega,rfl,rfl,hbw,hrow,hlt'⟩
 case round =>
 obtain⟨k,hk,rfl,rfl,hb,hr,hL⟩:=hrel
 by_cases hlt:k<ss.length
 ·obtain⟨s,hsk⟩:∃s,ss[k]?=some s:=⟨_,jnh hlt⟩
  obtain⟨b,off,rfl,hbb,hcell⟩:=hc k s hsk
  have hcw:wr.cell? ⟨b,off+k,none⟩=some (.string s):=(hb.cell (p:=⟨b,off+k,none⟩) hbb).trans hcell
  have hx:=M.feed_lt (cat (ss.take k)) 4294967295 (by decide)
  have HS:Hid (M.feed 4294967295 (cat (ss.take (k+1)))=M.feed (M.feed 4294967295 (cat (ss.take k))) s.data.toList):=by
   rw[jiP ss k s hsk,M.feed_append];rfl
  have hsz:=hs k s hsk
  generalize M.feed 4294967295 (cat (ss.take k))=x0 at *
  clear hc hcell hbw hrow hlt' hs hsk
  go_wp2_with (first | (refine wpList_load_row rfl 250 _ rfl L rfl 250 (tab 16) (0,0) _ hr underlying250 rfl jbK ?_) | (go_at_call 168;refine(jir _ hx _ _ hsz).mono ?_;rintro e w3 ⟨rfl,hb3⟩))
  go_roundw
  case rel=>exact⟨k+1,by omega,by go_num,by rw[HS.out],hb.trans (hb3.mono hb.size),(hb3.block _ hL).trans hr,jnw hL hb3.size⟩
  case measure=>simp[intOf];omega
 have:k=ss.length:=by omega
 subst this
 have hfl:=M.feed_lt (cat ss) 4294967295 (by decide)
 rw[jnP]
 go_wp2
 go_ret
 exact⟨jeS (jmF _ hfl),hb⟩
def F(x k j:Nat):Nat:=if j<k then (dg (x / 16 ^ (7-j) % 16)).toNat else 0
def jkA(x k:Nat):Array Value:=#[.int .u8 (F x k 0:Nat),.int .u8 (F x k 1:Nat),.int .u8 (F x k 2:Nat),.int .u8 (F x k 3:Nat),.int .u8 (F x k 4:Nat),.int .u8 (F x k 5:Nat),.int .u8 (F x k 6:Nat),.int .u8 (F x k 7:Nat)]
theorem Vn(x k j:Nat)(h:j<8):(jkA x k)[j]?=some (.int .u8 (F x k j:Nat)):=by
 match j,h with
 | 0,_ | 1,_ | 2,_ | 3,_ | 4,_ | 5,_ | 6,_ | 7,_=>rfl
 | n+8,h=>omega
theorem YK(x k:Nat):(jkA x k).size=8:=rfl
theorem jif(x k:Nat)(h:k<8):(jkA x k).setIfInBounds k (.int .u8 ((dg (x / 16 ^ (7-k) % 16)).toNat:Nat))=jkA x (k+1):=by
 apply Array.ext_getElem?
 intro j
 rw[jn9]
 by_cases hj:j<8
 ·rw[Vn _ _ _ hj,Vn _ _ _ hj,YK]
  by_cases e:k=j
  ·subst e;simp[h,F]
  have:F x (k+1) j=F x k j:=by unfold F;by_cases a:j<k<;>simp[a]<;>omega
  rw[if_neg e,this]
 have:k≠j:=by omega
 rw[if_neg this,jn2 (by rw[YK];omega),jn2 (by rw[YK];omega)]
theorem jgd(d:Nat)(h:d<16)(h':d<(⟨#[48,49,50,51,52,53,54,55,56,57,97,98,99,100,101,102]⟩:ByteArray).size):
  (⟨#[48,49,50,51,52,53,54,55,56,57,97,98,99,100,101,102]⟩:ByteArray)[d]=dg d:=by
 match d,h with
 | 0,_ | 1,_ | 2,_ | 3,_ | 4,_ | 5,_ | 6,_ | 7,_ | 8,_ | 9,_ | 10,_ | 11,_ | 12,_ | 13,_ | 14,_ | 15,_=>rfl
 | n+16,h=>omega
theorem nib(x k:Nat)(hx:x<4294967296)(h:k<8):x*16 ^ k % 4294967296 / 268435456=x / 16 ^ (7-k) % 16:=by
 match k,h with
 | 0,_ | 1,_ | 2,_ | 3,_ | 4,_ | 5,_ | 6,_ | 7,_=>simp only[Nat.reduceSub,Nat.reducePow];omega
 | n+8,h=>omega
theorem jmY(x k:Nat):((x*16 ^ k % 4294967296:Nat):Int)*16 % 4294967296=((x*16 ^ (k+1) % 4294967296:Nat):Int):=by
 rw[Nat.pow_succ,<- Nat.mul_assoc]
 omega
def jii(x:Nat):List Int:=[(F x 8 0:Nat),(F x 8 1:Nat),(F x 8 2:Nat),(F x 8 3:Nat),(F x 8 4:Nat),(F x 8 5:Nat),(F x 8 6:Nat),(F x 8 7:Nat)]
theorem jfQ(x i:Nat)(h:i<8):(jii x).getD i 0=(F x 8 i:Nat):=by
 match i,h with
 | 0,_ | 1,_ | 2,_ | 3,_ | 4,_ | 5,_ | 6,_ | 7,_=>rfl
 | n+8,h=>omega
theorem jfP(x:Nat):strOfNums (jii x)=figs x:=by
 simp[strOfNums,jii,figs,F]
theorem figures_any(x:Nat)(hx:x<4294967296)(w:World):
  Calls prog 124 #[.int .u32 x] w fun e w'=>e=.returned (.string (figs x))/\Below w.heap.size w w':=by
 go_enter func124,ntmps124
 go_wp2
 go_loopw [0,5] (fun r i wr=>∃k:Nat,k<=8/\i=.int .i64 k/\r=.int .u32 (x*16 ^ k % 4294967296:Nat)/\wr=w.alloc (.cells (jkA x k) 249)) (fun _ i _=>8-(intOf i).toNat)
 case atStart=>exact⟨0,by omega,rfl,by simp;omega,rfl⟩
 case round =>
 obtain⟨k,hk,rfl,rfl,rfl⟩:=hrel
 by_cases hlt:k<8
 ·have hy:x*16 ^ k % 4294967296<4294967296:=jpp _ (by decide)
  have hn:=nib x k hx hlt
  have hs:=jmY x k
  generalize x*16 ^ k % 4294967296=y at *
  have HN:=jnc hn
  have HS:=jnc hs
  clear hn hs
  have ht:(jkA x k)[k]?=some (.int .u8 (F x k k:Nat)):=Vn x k k hlt
  go_wp2
  go_round
  case rel =>
   refine⟨k+1,by omega,by go_num,by rw[HS.out],?_⟩
   rw[jgd _ (by omega),HN.out,jif x k hlt]
  case measure=>simp[intOf];omega
 have:k=8:=by omega
 subst this
 have hcv:=run_convert_bytes_arg (P:=prog) (w.alloc (.cells (jkA x 8) 249)) 153 5 underlying153 underlying5 w.heap.size 0 8 8 (jii x) rfl (fun i hi=>by
  rw[joF _ _ _ _ rfl,jnX,Vn x 8 i hi,jfQ x i hi]) 9 underlying9
 rw[jfP]at hcv
 go_wp2
 go_ret
 exact⟨rfl,(jne _ _).alloc (jnd _) _⟩
theorem jkp:∀c:Fin 256,Lib.indexByte DIG (UInt8.ofNat c.val)=ix c.val:=by decide +kernel
theorem idx(c:UInt8):Lib.indexByte DIG c=ix c.toNat:=by
 have:=jkp ⟨c.toNat,c.toNat_lt⟩
 simpa using this
def takeV(l:List UInt8):Value:=match takes l with
 | some n=>.tuple #[.int .u32 (n:Nat),.bool true]
 | none=>.tuple #[.int .u32 0,.bool false]
theorem jeA{l:List UInt8}(h:l.length≠8):takeV l=.tuple #[.int .u32 0,.bool false]:=by
 unfold takeV takes;rw[if_neg h]
theorem jcU{l:List UInt8}{n:Nat}(hl:l.length=8)(h:tk 0 l=some n):takeV l=.tuple #[.int .u32 (n:Nat),.bool true]:=by
 unfold takeV takes;rw[if_pos hl,h]
theorem jcV{l:List UInt8}(hl:l.length=8)(h:tk 0 l=none):takeV l=.tuple #[.int .u32 0,.bool false]:=by
 unfold takeV takes;rw[if_pos hl,h]
theorem or4(x d:Nat)(hx:x<4294967296)(hd:d<16):bits .or .u32 ((x:Int)*16 % 4294967296) (d:Int)=((x*16 % 4294967296+d:Nat):Int):=by
 have e:((x:Int)*16 % 4294967296)=((x*16 % 4294967296:Nat):Int):=by omega
 rw[e,u32_or_nat _ _ (jpp _ (by decide)) (by omega),nat_join 4 _ _ (by omega) (by omega)]
theorem Zp(c:UInt8)(w:World):
  Calls prog 194 #[.string ⟨#[48,49,50,51,52,53,54,55,56,57,97,98,99,100,101,102]⟩,.int .u8 (c.toNat:Int)] w fun e w'=>e=.returned (.int .i64 (ix c.toNat))/\w=w' :=
 (Tryz.strings_IndexByte _ _ w).mono fun _ _ ⟨he,hw⟩=>⟨by rw[he];exact jeS (by rw[<- idx c];simp[DIG]),hw.symm⟩
theorem jdt(c:UInt8)(h:val c.toNat=none)(w:World):
  Calls prog 194 #[.string ⟨#[48,49,50,51,52,53,54,55,56,57,97,98,99,100,101,102]⟩,.int .u8 (c.toNat:Int)] w fun e w'=>e=.returned (.int .i64 (-1))/\w=w' :=
 (Zp c w).mono fun _ _ ⟨he,hw⟩=>⟨by rw[he,ix,h],hw⟩
theorem jds(c:UInt8)(d:Nat)(h:val c.toNat=some d)(w:World):
  Calls prog 194 #[.string ⟨#[48,49,50,51,52,53,54,55,56,57,97,98,99,100,101,102]⟩,.int .u8 (c.toNat:Int)] w fun e w'=>e=.returned (.int .i64 (d:Int))/\w=w' :=
 (Zp c w).mono fun _ _ ⟨he,hw⟩=>⟨by rw[he,ix,h],hw⟩
theorem take_any(s:ByteArray)(w:World)(hs:s.size<=maxLen):
  Calls prog 149 #[.string s] w fun e w'=>e=.returned (takeV s.data.toList)/\w=w':=by
 unfold maxLen at hs
 by_cases h8:s.size=8
 ·have hb2:((s.size:Int) != 8)=false:=by simp[h8]
  have H8:=jnc h8
  have hle:s.size<=8:=by omega
  clear h8
  go_enter func149,ntmps149
  go_wp2_with fail
  go_loop [4,12] (fun r i=>∃k x:Nat,k<=s.size/\x<4294967296/\i=.int .i64 k/\r=.int .u32 (x:Nat)/\tk 0 s.data.toList=tk x (s.data.toList.drop k)) (fun _ i=>s.size-(intOf i).toNat)
  case atStart=>exact⟨0,0,by omega,by omega,rfl,rfl,rfl⟩
  case round =>
  obtain⟨k,x,hk,hx,rfl,rfl,htk⟩:=hrel
  have HT:=jnc htk
  clear htk
  by_cases hlt:k<s.size
  ·have hsplit:s.data.toList.drop k=s[k]::s.data.toList.drop (k+1):=by
    rw[jot (by simpa using hlt)];rfl
   cases hv:val s[k].toNat with
   | none =>
    have HN:Hid (tk 0 s.data.toList=none):=by
     show _=_
     rw[HT.out,hsplit,tk,hv]
    clear hsplit
    go_wp2_with fail
    refine(jdt _ hv _).mono ?_
    clear hv
    rintro e w1 ⟨rfl,rfl⟩
    go_wp2_with fail
    go_ret2
    exact⟨by rw[jcV (by simpa using H8.out) HN.out];rfl,rfl⟩
   | some d =>
   have hd:=jlp hv
   have HN:Hid (tk 0 s.data.toList=tk (x*16 % 4294967296+d) (s.data.toList.drop (k+1))):=by
    show _=_
    rw[HT.out,hsplit,tk,hv]
   clear hsplit
   have ho:=or4 x d hx hd
   go_wp2_with fail
   refine(jds _ _ hv _).mono ?_
   clear hv
   rintro e w1 ⟨rfl,rfl⟩
   go_wp2_with fail
   go_round
   case rel=>exact⟨k+1,x*16 % 4294967296+d,by omega,by omega,by go_num,rfl,HN.out⟩
   case measure=>simp[intOf];omega
  have HN:Hid (tk 0 s.data.toList=some x):=by
   show _=_
   rw[HT.out,jn6 (by simp;omega)];rfl
  go_wp2
  go_ret2
  exact⟨by rw[jcU (by simpa using H8.out) HN.out];rfl,rfl⟩
 have hb:(!((s.size:Int)==8))=true:=by simp;omega
 have hb2:((s.size:Int) != 8)=true:=by simp;omega
 go_enter func149,ntmps149
 go_wp2_with fail
 go_ret2
 exact⟨by rw[jeA (by simpa using h8)];rfl,rfl⟩
theorem takeV_of{l:List UInt8}{n:Nat}(h:takes l=some n):takeV l=.tuple #[.int .u32 (n:Nat),.bool true]:=by unfold takeV;rw[h]
theorem takeV_not{l:List UInt8}(h:takes l=none):takeV l=.tuple #[.int .u32 0,.bool false]:=by unfold takeV;rw[h]
end Sm
namespace Fr
attribute [local go_sem] jnn
theorem mkB(l:List UInt8):(⟨l.toArray⟩:ByteArray)=B l:=rfl
theorem fits_any(n:Int)(w:World):Calls prog 150 #[.int .i64 n] w fun e w'=>e=.returned (.bool (decide (2<=n/\n<=50000)))/\w'=w:=by
 by_cases h1:2<=n
 ·by_cases h2:n<=50000
  ·have e:decide (2<=n/\n<=50000)=true:=by simp[h1,h2]
   rw[e]
   go_enter func150,ntmps150
   go_wp2_with fail
   go_ret
   exact⟨rfl,rfl⟩
  have e:decide (2<=n/\n<=50000)=false:=by simp[h2]
  rw[e]
  go_enter func150,ntmps150
  go_wp2_with fail
  go_ret
  exact⟨rfl,rfl⟩
 have e:decide (2<=n/\n<=50000)=false:=by simp[h1]
 rw[e]
 go_enter func150,ntmps150
 go_wp2_with fail
 go_ret
 exact⟨rfl,rfl⟩
theorem ZU(w:World):Calls prog 105 #[.bool true] w fun e w'=>e=.returned (.tuple #[.int .i64 2,.string (B []),.int .i64 0])/\w'=w:=by
 go_enter func105,ntmps105
 go_wp2_with fail
 go_ret3
 exact⟨rfl,rfl⟩
theorem Zl(w:World):Calls prog 105 #[.bool false] w fun e w'=>e=.returned (.tuple #[.int .i64 3,.string (B []),.int .i64 0])/\w'=w:=by
 go_enter func105,ntmps105
 go_wp2_with fail
 go_ret3
 exact⟨rfl,rfl⟩
theorem yJ{w:World}(n:Nat)(os:Array Obj):Below w.heap.size w (Go.Sort.grow (w.drewN n) os) :=
 ⟨rfl,rfl,rfl,by rw[Go.Sort.size_grow];exact jpb _ _,fun k hk=>jpA _ _ hk⟩
theorem Vl(n:Nat)(hn:n<=9223372036854775807)(w:World)(ht:TabsN w):Calls prog 163 #[.int .i64 (n:Int)] w fun e w'=>e=.returned (.string (B (Lib.decDigits n)))/\Below w.heap.size w w' :=
 (Tryz.strconv_Itoa n (by omega) (by omega) w ht.pow).mono fun e w' ⟨he,k,os,hw⟩=>⟨by rw[he,Lib.itoa_nonneg];rfl,by rw[hw];exact yJ k os⟩
theorem jcp(n:Nat)(hn:n<=9223372036854775807):(B (Lib.decDigits n)).size<=20:=by
 rw[jm,Lib.decDigits_length]
 exact Lib.nDigits_le20 n (by omega)
theorem Wq(n:Nat)(hn:n<=9223372036854775807)(f:List UInt8)(hf:f.length<=1000000)(w:World)(ht:TabsN w):
  Calls prog 123 #[.int .i64 (n:Int),.string (B f)] w fun e w'=>e=.returned (.string (B (zn n f)))/\Below w.heap.size w w':=by
 have IT:=jnc (Vl n hn w ht)
 have E:Hid ((⟨#[37,97,109,101,110,100,32]⟩:ByteArray)++B (Lib.decDigits n) ++ ⟨#[32]⟩++B f=B (zn n f)):=by
  show _=_
  rw[show(⟨#[37,97,109,101,110,100,32]⟩:ByteArray)=B AMD from rfl,show(⟨#[32]⟩:ByteArray)=B [32] from rfl,jZ,jZ,jZ]
  unfold zn;simp
 have hs:=jcp n hn
 have hfs:(B f).size<=1000000:=by rw[jm];exact hf
 generalize B (Lib.decDigits n)=d at *
 generalize B f=g at *
 have s1:((⟨#[37,97,109,101,110,100,32]⟩:ByteArray)++d).size<=27:=by rw[joj];show 7+_<=_;omega
 have s2:((⟨#[37,97,109,101,110,100,32]⟩:ByteArray)++d ++ ⟨#[32]⟩).size<=28:=by rw[joj];show _+1<=_;omega
 clear ht
 go_enter func123,ntmps123
 go_wp2_with fail
 refine IT.out.mono ?_
 rintro e w1 ⟨rfl,hb⟩
 go_wp2_with fail
 go_ret
 exact⟨by rw[<- E.out];rfl,hb⟩
theorem jcf(n:Nat)(hn:n<=9223372036854775807)(w:World)(ht:TabsN w):
  Calls prog 126 #[.int .i64 (n:Int)] w fun e w'=>e=.returned (.string (B (qt n)))/\Below w.heap.size w w':=by
 have IT:=jnc (Vl n hn w ht)
 have E:Hid ((⟨#[37,101,110,100,32]⟩:ByteArray)++B (Lib.decDigits n) ++ ⟨#[10]⟩=B (qt n)):=by
  show _=_
  rw[show(⟨#[37,101,110,100,32]⟩:ByteArray)=B END from rfl,show(⟨#[10]⟩:ByteArray)=B [10] from rfl,jZ,jZ]
  unfold qt;simp
 have hs:=jcp n hn
 generalize B (Lib.decDigits n)=d at *
 have s1:((⟨#[37,101,110,100,32]⟩:ByteArray)++d).size<=25:=by rw[joj];show 5+_<=_;omega
 clear ht
 go_enter func126,ntmps126
 go_wp2_with fail
 refine IT.out.mono ?_
 rintro e w1 ⟨rfl,hb⟩
 go_wp2_with fail
 go_ret
 exact⟨by rw[<- E.out];rfl,hb⟩
end Fr
end Go.Proofs.YtpibhbjmcmfnmaaGreatDoor
