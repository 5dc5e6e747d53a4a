/- Texts put together:LM,KM,FM,PA,PO,PQ,PR,PU. -/
set_option linter.unusedVariables false
set_option maxRecDepth 100000
set_option maxHeartbeats 16000000
namespace Go.Proofs.YtbapfpekklcicaaGreatDoor
abbrev jnT:=@Nat.le_refl
abbrev jnU:=@List.length_append
abbrev jn1:=@List.length_cons
abbrev jn4:=@List.mem_cons_of_mem
abbrev jn5:=@List.mem_cons_self
abbrev jn6:=@List.length_drop
abbrev joc:=@List.flatMap_cons
abbrev jog:=@List.cons_append
abbrev joi:=@List.length_map
abbrev joj:=@List.take_append_drop
abbrev jok:=@List.append_nil
abbrev jol:=@List.take_of_length_le
abbrev jom:=@List.take_length
abbrev jop:=@Nat.le_trans
abbrev jov:=@Nat.zero_add
abbrev jow:=@List.flatMap_append
abbrev joy:=@List.map_cons
abbrev joC:=@Bool.and_eq_true
abbrev joG:=@List.takeWhile_cons
abbrev joL:=@List.nil_append
abbrev joS:=@Bool.eq_iff_iff
abbrev jo2:=@List.sum_cons
abbrev jpg:=@List.drop_drop
abbrev jpi:=@List.drop_left'
abbrev jpm:=@List.all_takeWhile
abbrev jpC:=@Nat.add_assoc
abbrev jpH:=@List.takeWhile_append_of_pos
abbrev jpO:=@List.cons.injEq
abbrev jpQ:=@List.all_cons
abbrev jpY:=@List.append_of_mem
abbrev jp2:=@Bool.not_eq_true'
abbrev jp3:=@List.map_map
abbrev jqa:=@List.all_eq_true
abbrev jqd:=@List.drop_succ_cons
abbrev jqe:=@List.map_congr_left
abbrev jqf:=@Nat.min_eq_left
abbrev jql:=@List.take_take
abbrev jqs:=@List.flatMap_nil
end Go.Proofs.YtbapfpekklcicaaGreatDoor
namespace Go.Proofs.YtbapfpekklcicaaGreatDoor
structure Ln where
 no:Nat
 at_:Nat
 text:List UInt8
 ended:Bool
deriving DecidableEq
def head(l:List UInt8):List UInt8:=l.takeWhile (· != 10)
def nl(l:List UInt8):Bool:=l.contains 10
def qF(l:List UInt8):Nat:=(head l).length+if nl l then 1 else 0
def VD:Nat->Nat->Nat->List UInt8->List Ln
 | 0,_,_,_=>[]
 | f+1,no,at_,l=>if l=[] then [] else ⟨no,at_,head l,nl l⟩::VD f (no+1) (at_+qF l) (l.drop (qF l))
def jP(no at_:Nat)(l:List UInt8):List Ln:=VD l.length no at_ l
def jf(l:List UInt8):List Ln:=jP 0 0 l
def Ln.bytes(x:Ln):List UInt8:=x.text++if x.ended then [10] else []
theorem jlf(l:List UInt8):(head l).length<=l.length:=by
 unfold head
 induction l with
 | nil=>simp
 | cons a t b =>
 simp only[joG];split
 ·simp;exact b
 simp
theorem zp(l:List UInt8):l=head l++(if nl l then [10] else [])++l.drop (qF l):=by
 unfold qF
 induction l with
 | nil=>simp[head,nl]
 | cons a t b =>
 by_cases h:a=10
 ·subst h;simp[head,nl]
 have c:head (a::t)=a::head t:=by simp[head,h]
 have d:nl (a::t)=nl t:=by simp[nl,Ne.symm h]
 rw[c,d];simp only[jn1,jog];rw[show(head t).length+1+(if nl t=true then 1 else 0)=((head t).length+if nl t=true then 1 else 0)+1 by omega,jqd];exact congrArg (a :: ·) b
theorem Wy(l:List UInt8):qF l<=l.length:=by
 have:=congrArg List.length (zp l);unfold qF at this ⊢;simp only[jnU,jn6]at this;have a:(if nl l=true then [(10:UInt8)] else []).length=if nl l=true then 1 else 0:=by split<;>rfl
 rw[a]at this;omega
theorem qJ(l:List UInt8)(h:l≠[]):1<=qF l:=by
 unfold qF;cases l with
 | nil=>exact absurd rfl h
 | cons a t =>
 by_cases h:a=10
 ·subst h;simp[nl]
 simp[head,h];omega
theorem YZ:∀(f g b a:Nat) (l:List UInt8),l.length<=f->l.length<=g->VD f b a l=VD g b a l
 | 0,0,_,_,_,_,_=>rfl
 | 0,g+1,b,a,l,h,_=>by have:l=[]:=List.length_eq_zero_iff.1 (by omega);simp[VD,this]
 | f+1,0,b,a,l,_,h=>by have:l=[]:=List.length_eq_zero_iff.1 (by omega);simp[VD,this]
 | f+1,g+1,b,a,l,e,d=>by
  unfold VD;split
  ·rfl
  rename_i c;have:=qJ l c
  rw[YZ f g _ _ _ (by simp only[jn6];omega) (by simp only[jn6];omega)]
theorem jq(no at_:Nat):jP no at_ []=[]:=rfl
theorem jx(no at_:Nat)(l:List UInt8)(h:l≠[]):jP no at_ l=⟨no,at_,head l,nl l⟩::jP (no+1) (at_+qF l) (l.drop (qF l)):=by
 unfold jP;cases l with
 | nil=>exact absurd rfl h
 | cons a t =>
 have:=qJ _ h;rw[show(a::t).length=t.length+1 from rfl]
 conv=>lhs;unfold VD
 rw[if_neg h,YZ t.length ((a::t).drop (qF (a::t))).length _ _ _ (by simp only[jn6,jn1];omega) (jnT _)]
theorem VB:∀(n b a:Nat) (l:List UInt8),l.length<=n->(jP b a l).flatMap Ln.bytes=l
 | 0,_,_,l,h=>by have:l=[]:=List.length_eq_zero_iff.1 (by omega);subst this;rfl
 | n+1,b,a,l,h=>by
  by_cases hl:l=[]
  ·subst hl;rfl
  have c:=qJ l hl;rw[jx _ _ _ hl,joc,VB n _ _ _ (by simp only[jn6];omega)];exact(zp l).symm
theorem jJ(l:List UInt8):(jf l).flatMap Ln.bytes=l:=VB _ _ _ _ (jnT _)
theorem Wb:∀(n g f:Nat) (l:List UInt8),l.length<=n->∀c x d,jP g f l=c++x::d->x.no=g+c.length/\x.at_=f+(c.flatMap Ln.bytes).length
 | 0,_,_,l,h,c,x,d,e=>by have:l=[]:=List.length_eq_zero_iff.1 (by omega);subst this;rw[jq]at e;exact absurd (congrArg List.length e) (by simp)
 | n+1,g,f,l,h,c,x,d,e=>by
  by_cases hl:l=[]
  ·subst hl;rw[jq]at e;exact absurd (congrArg List.length e) (by simp)
  have i:=qJ l hl;rw[jx _ _ _ hl]at e;cases c with
  | nil=>simp only[joL,jpO]at e;obtain⟨rfl,_⟩:=e;simp
  | cons y c =>
  simp only[jog,jpO]at e;obtain⟨rfl,e⟩:=e;obtain⟨a,b⟩:=Wb n _ _ _ (by simp only[jn6];omega) c x d e;refine⟨by rw[a];simp;omega,?_⟩;rw[b,joc,jnU];have:(Ln.bytes ⟨g,f,head l,nl l⟩).length=qF l:=by unfold Ln.bytes qF;simp only[jnU];split<;>rfl
  rw[this];omega
theorem qR(l:List UInt8)(a:List Ln)(x:Ln)(b:List Ln)(e:jf l=a++x::b):x.no=a.length/\x.at_=(a.flatMap Ln.bytes).length:=by have:=Wb _ 0 0 l (jnT _) a x b e;simpa using this
theorem vN:∀(n b a:Nat) (l:List UInt8),l.length<=n->∀x∈jP b a l,(10:UInt8)∉x.text
 | 0,_,_,l,h,x,hx=>by have:l=[]:=List.length_eq_zero_iff.1 (by omega);subst this;rw[jq]at hx;cases hx
 | n+1,b,a,l,h,x,hx=>by
  by_cases hl:l=[]
  ·subst hl;rw[jq]at hx;cases hx
  have e:=qJ l hl;rw[jx _ _ _ hl]at hx;rcases List.mem_cons.1 hx with rfl|hx
  ·intro d;have:=jpm (p:=fun(c:UInt8)=>c != 10) (l:=l)
   have:=List.all_eq_true.1 this 10 d;simp at this
  exact vN n _ _ _ (by simp only[jn6];omega) x hx
theorem JT:∀(n b a:Nat) (l:List UInt8),l.length<=n->(jP b a l).length<=l.length
 | 0,_,_,l,h=>by have:l=[]:=List.length_eq_zero_iff.1 (by omega);subst this;simp[jq]
 | n+1,b,a,l,h=>by
  by_cases hl:l=[]
  ·subst hl;simp[jq]
  have c:=qJ l hl;rw[jx _ _ _ hl];have:=JT n (b+1) (a+qF l) (l.drop (qF l)) (by simp only[jn6];omega)
  simp only[jn1,jn6]at this ⊢;have:=Wy l
  omega
theorem zL(l:List UInt8):(jf l).length<=l.length:=JT _ _ _ _ (jnT _)
def zY(c:UInt8):Bool:=c==32 || c==9
def vh:List UInt8->Bool
 | []=>false
 | c::_=>zY c
def Zi:List UInt8->Bool
 | []=>false
 | c::_=>c==35
def qH(l:List UInt8)(c:UInt8):Bool:=l.contains c
def jR(l:List UInt8):Bool:=l.all zY
def jF(k:List UInt8):Bool:=decide (1<=k.length)&&decide (k.length<=32) && !vh k && !Zi k && !qH k 58 && !qH k 10
def before(l:List UInt8):List UInt8:=l.takeWhile (· != 58)
def jm(l:List UInt8):Nat :=
 if qH l 10=true then 5 else if jR l=true then 1 else if Zi l=true then 2 else if vh l=true then 3 else if qH l 58=true/\jF (before l)=true then 4 else 5
theorem JW{l:List UInt8}(h:jR l=false):∃c t,l=c::t:=by
 cases l with
 | nil=>simp[jR]at h
 | cons c t=>exact⟨c,t,rfl⟩
theorem Xm(a b:List UInt8)(c:UInt8):qH (a++b) c=(qH a c || qH b c):=by unfold qH;rw[joS];simp
theorem Xl(a:UInt8)(b:List UInt8)(c:UInt8):qH (a::b) c=((c==a) || qH b c):=by unfold qH;rw[List.contains_cons]
theorem UU{l:List UInt8}{c:UInt8}(h:c∉l):qH l c=false:=by unfold qH;simpa using h
theorem Qh(a b:List UInt8)(h:qH a 58=false):before (a++58::b)=a:=by
 unfold before;have c:∀x∈a,(x != 58)=true:=by
  intro x hx;unfold qH at h;have:(58:UInt8)∉a:=by simpa using h
  simp;rintro rfl;exact this hx
 rw[jpH c,joG,if_neg (by simp),jok]
theorem yb{k:List UInt8}(h:jF k=true):1<=k.length/\k.length<=32/\vh k=false/\Zi k=false/\qH k 58=false/\qH k 10=false:=by unfold jF at h;simp only[joC,decide_eq_true_eq,jp2]at h;exact⟨h.1.1.1.1.1,h.1.1.1.1.2,h.1.1.1.2,h.1.1.2,h.1.2,h.2⟩
theorem jgm{k r:List UInt8}(h:jF k=true)(e:qH r 10=false):jm (k++58::r)=4:=by
 obtain⟨a1,i,a2,a3,a4,a5⟩:=yb h;have g:qH (k++58::r) 10=false:=by rw[Xm,a5,Bool.false_or,Xl,e];rfl
 have f:qH (k++58::r) 58=true:=by rw[Xm,Xl];simp
 have b3:=Qh k r a4;cases k with
 | nil=>simp at a1
 | cons c t =>
 have d:vh (c::t++58::r)=false:=a2;have b:Zi (c::t++58::r)=false:=a3
 have a:jR (c::t++58::r)=false:=by have:zY c=false:=a2;unfold jR;rw[jog,jpQ,this];rfl
 unfold jm;rw[g,if_neg (by decide),a,if_neg (by decide),b,if_neg (by decide),d,if_neg (by decide),f,b3,h];rfl
theorem jbb(b:List UInt8):∀a:List UInt8,(a++58::b).drop (a.length+1)=b
 | []=>rfl
 | _::a=>jbb b a
def jr:List UInt8->List (List UInt8)
 | []=>[[]]
 | c::t=>if c=10 then []::jr t else (c::(jr t).headD [])::(jr t).tail
def zX:List (List UInt8)->List UInt8
 | []=>[]
 | [p]=>p
 | p::q::r=>p++10::zX (q::r)
theorem jbW(p:List UInt8)(r:List (List UInt8))(h:r≠[]):zX (p::r)=p++10::zX r:=by
 cases r with
 | nil=>exact absurd rfl h
 | cons q r=>rfl
theorem zj(l:List UInt8):jr l=(jr l).headD []::(jr l).tail:=by
 cases l with
 | nil=>rfl
 | cons c t=>unfold jr;split<;>rfl
theorem jaC(l:List UInt8):jr l≠[]:=by rw[zj];simp
theorem yt:∀(l:List UInt8),∀p∈jr l,(10:UInt8)∉p
 | [],p,h=>by unfold jr at h;simp at h;subst h;simp
 | c::t,p,h=>by
  have a:=yt t;rw[zj t]at a;unfold jr at h;split at h
  ·rw[zj t]at h;rcases List.mem_cons.1 h with rfl|h
   ·simp
   exact a p h
  rename_i d;rcases List.mem_cons.1 h with rfl|h
  ·intro b;rcases List.mem_cons.1 b with e|b
   ·exact d e.symm
   exact a _ (by simp) b
  exact a p (jn4 _ h)
theorem yJ:∀(l:List UInt8),(jr l).length=l.count 10+1
 | []=>rfl
 | c::t=>by
  have b:=yJ t;unfold jr;split
  ·rename_i a;subst a;rw[jn1,b,List.count_cons_self]
  rename_i a;rw[List.count_cons_of_ne a,<- b,zj t];simp
theorem YK:∀(l:List UInt8),zX (jr l)=l
 | []=>rfl
 | c::t=>by
  have a:=YK t;unfold jr;split
  ·rename_i b;subst b;rw[jbW _ _ (jaC t),a];rfl
  rw[zj t]at a;generalize (jr t).headD []=p at *
  generalize (jr t).tail=r at *
  cases r with
  | nil=>simp only[zX]at a ⊢;rw[a]
  | cons q r=>simp only[zX]at a ⊢;rw[<- a];rfl
theorem jbQ(c:UInt8)(t:List UInt8):jr (c::t)=if c=10 then []::jr t else (c::(jr t).headD [])::(jr t).tail:=rfl
theorem KF:∀(p r:List UInt8),(10:UInt8)∉p->jr (p++10::r)=p::jr r
 | [],r,_=>by simp[jr]
 | c::p,r,h=>by
  have b:c≠10:=fun e=>h (by rw[e];simp);have a:=KF p r (fun e=>h (jn4 _ e))
  rw[jog,jbQ,if_neg b,a];rfl
theorem KG:∀(p:List UInt8),(10:UInt8)∉p->jr p=[p]
 | [],_=>rfl
 | c::p,h=>by
  have b:c≠10:=fun e=>h (by rw[e];simp);have a:=KG p (fun e=>h (jn4 _ e))
  unfold jr;rw[if_neg b,a];rfl
theorem yz:∀(l:List UInt8),jr (l++[10])=jr l++[[]]
 | []=>rfl
 | c::t=>by have a:=yz t;rw[jog];unfold jr;rw[a,zj t];split<;>simp
theorem YJ:∀(l:List UInt8) (c:UInt8),c≠10->∃a p,jr l=a++[p]/\jr (l++[c])=a++[p++[c]]
 | [],c,h=>⟨[],[],rfl,by simp[jr,h]⟩
 | d::t,c,h=>by
  obtain⟨a,p,e,f⟩:=YJ t c h;rw[jog];unfold jr;rw[e,f];by_cases b:d=10
  ·rw[if_pos b,if_pos b];exact⟨[]::a,p,rfl,rfl⟩
  rw[if_neg b,if_neg b];cases a with
  | nil=>exact⟨[],d::p,rfl,rfl⟩
  | cons q r=>exact⟨(d::q)::r,p,rfl,rfl⟩
def zM(k l:List UInt8):List UInt8:=if l=[] then k++[58] else k++58::32::l
def Jp(l:List UInt8):Bool:=jR l || (l.head?==some 46)
def js(l:List UInt8):List UInt8:=if Jp l then 32::46::l else 32::l
def jW(k v:List UInt8):List (List UInt8):=zM k ((jr v).headD [])::(jr v).tail.map js
def ze(k v:List UInt8):Nat:=if jF k then (if v.length<=1000 then 0 else 6) else 5
def jp(ls:List (List UInt8)):List UInt8:=ls.flatMap fun l=>l++[10]
def vo(l:List UInt8):List UInt8:=if l.head?=some 32 then l.tail else l
def zw(l:List UInt8):List UInt8:=if l.head?=some 46 then l.tail else l
def qU(l:List UInt8):List UInt8:=l.drop ((before l).length+1)
def GA:List (List UInt8)->Bool
 | []=>false
 | a::r=>(jm a==4)&&r.all (fun l=>jm l==3)
def Yz(ls:List (List UInt8)):List (List UInt8):=vo (qU (ls.headD []))::ls.tail.map fun l=>zw l.tail
def qE(ls:List (List UInt8)):List UInt8:=zX (Yz ls)
def jt(ls:List (List UInt8)):Nat:=if GA ls then (if (qE ls).length<=1000 then 0 else 6) else 2
def jU(ls:List (List UInt8)):List UInt8:=if jt ls=0 then before (ls.headD []) else []
def jT(ls:List (List UInt8)):List UInt8:=if jt ls=0 then qE ls else []
theorem Wc(k v:List UInt8):(jW k v).length=v.count 10+1:=by rw[<- yJ,zj v];unfold jW;simp
theorem ZV{l:List UInt8}(h:(10:UInt8)∉l):(10:UInt8)∉js l:=by unfold js;split<;>simp[h]
theorem jcd{k l:List UInt8}(b:qH k 10=false)(h:(10:UInt8)∉l):(10:UInt8)∉zM k l:=by
 have a:(10:UInt8)∉k:=by unfold qH at b;simpa using b
 unfold zM;split<;>simp[h,a]
theorem JF(v:List UInt8):(10:UInt8)∉(jr v).headD []:=yt v _ (by rw[zj v];simp)
theorem Kq(v:List UInt8):∀p∈(jr v).tail,(10:UInt8)∉p:=fun p a=>yt v p (List.mem_of_mem_tail a)
theorem VC{k:List UInt8}(v:List UInt8)(a:jF k=true):∀l∈jW k v,(10:UInt8)∉l:=by
 intro l hl;unfold jW at hl;rcases List.mem_cons.1 hl with rfl|hl
 ·exact jcd (yb a).2.2.2.2.2 (JF v)
 obtain⟨p,b,rfl⟩:=List.mem_map.1 hl;exact ZV (Kq v p b)
theorem jaZ{l:List UInt8}(h:(10:UInt8)∉l):jm (js l)=3:=by
 have a:=UU (ZV h);unfold js at a ⊢;unfold jm;by_cases b:Jp l=true
 ·rw[if_pos b]at a ⊢;rw[a];simp[jR,zY,Zi,vh]
 rw[if_neg b]at a ⊢;have d:jR l=false:=by unfold Jp at b;cases h:jR l<;>simp[h]at b ⊢
 have c:jR (32::l)=false:=by unfold jR at d ⊢;rw[jpQ,d];simp
 rw[a,c];simp[zY,Zi,vh]
theorem ja1(l:List UInt8):zw (js l).tail=l:=by
 unfold js;by_cases a:Jp l=true
 ·rw[if_pos a];simp[zw]
 rw[if_neg a];have:¬l.head?=some 46:=fun e=>a (by unfold Jp;rw[e];simp)
 simp[zw,this]
theorem Wl(k l:List UInt8):∃r,zM k l=k++58::r/\vo r=l/\((10:UInt8)∉l->qH r 10=false):=by
 unfold zM;by_cases h:l=[]
 ·subst h;exact⟨[],by simp,by simp[vo],fun _=>by simp[qH]⟩
 rw[if_neg h];exact⟨32::l,rfl,by simp[vo],fun hl=>by rw[Xl,UU hl];rfl⟩
theorem jeH{k l:List UInt8}(b:jF k=true)(h:(10:UInt8)∉l):jm (zM k l)=4:=by obtain⟨r,e,_,a⟩:=Wl k l;rw[e];exact jgm b (a h)
theorem VJ{k l:List UInt8}(b:jF k=true):before (zM k l)=k/\vo (qU (zM k l))=l:=by
 obtain⟨r,e,c,_⟩:=Wl k l;have a:=Qh k r (yb b).2.2.2.2.1
 rw[e];refine⟨a,?_⟩;unfold qU;rw[a,jbb,c]
theorem jaK{k v:List UInt8}(a:jF k=true):GA (jW k v)=true:=by
 unfold jW;show(jm _==4&&_)=true
 rw[jeH a (JF v),joC];refine⟨rfl,?_⟩;rw[jqa];intro l hl;obtain⟨p,b,rfl⟩:=List.mem_map.1 hl;rw[jaZ (Kq v p b)];rfl
theorem KW{k v:List UInt8}(a:jF k=true):qE (jW k v)=v:=by
 have:Yz (jW k v)=jr v:=by
  unfold Yz jW;simp only[List.headD_cons,List.tail_cons,jp3];rw[(VJ a).2]
  conv=>rhs;rw[zj v]
  congr 1
  conv=>rhs;rw[<- List.map_id (jr v).tail]
  apply jqe;intro l _;exact ja1 l
 unfold qE;rw[this,YK]
theorem VA{k v:List UInt8}(a:jF k=true)(b:v.length<=1000):jt (jW k v)=0/\jU (jW k v)=k/\jT (jW k v)=v:=by
 have h:jt (jW k v)=0:=by unfold jt;rw[jaK a,KW a,if_pos rfl,if_pos b]
 refine⟨h,?_,?_⟩
 ·unfold jU;rw[if_pos h];unfold jW;exact(VJ a).1
 unfold jT;rw[if_pos h,KW a]
theorem Xj:∀(p r:List UInt8),(10:UInt8)∉p->head (p++10::r)=p/\nl (p++10::r)=true
 | p,r,h=>by
  have a:∀x∈p,(x != 10)=true:=by intro x hx;simp;rintro rfl;exact h hx
  refine⟨?_,by unfold nl;simp⟩;unfold head;rw[jpH a,joG,if_neg (by simp),jok]
theorem xS(a b:List (List UInt8)):jp (a++b)=jp a++jp b:=by unfold jp;simp
theorem xR:∀(a:List (List UInt8)),(jp a).length=(a.map List.length).sum+a.length
 | []=>rfl
 | l::r=>by
  have e:jp (l::r)=l++10::jp r:=by unfold jp;simp
  rw[e,jnU,jn1,xR r];simp;omega
theorem Wf:∀(a:List (List UInt8)),(zX a).length<=(a.map List.length).sum+a.length
 | []=>by simp[zX]
 | [p]=>by simp[zX]
 | p::q::r=>by
  have b:=Wf (q::r);show(p++10::zX (q::r)).length<=_
  rw[jnU,jn1];simp only[joy,jo2,jn1]at b ⊢;omega
theorem Yd:∀(l:List UInt8),((jr l).map List.length).sum+(jr l).length=l.length+1
 | []=>rfl
 | c::t=>by
  have a:=Yd t;rw[zj t]at a;unfold jr;split
  ·rw[zj t];simp at a ⊢;omega
  simp at a ⊢;omega
theorem Vm:∀(r:List (List UInt8)),((r.map js).map List.length).sum<=(r.map List.length).sum+2*r.length
 | []=>by simp
 | p::r=>by
  have a:=Vm r;have h:(js p).length<=p.length+2:=by unfold js;split<;>simp
  simp only[joy,jo2,jn1]at a ⊢;omega
theorem jaJ(k v:List UInt8):((jW k v).map List.length).sum+(jW k v).length<=k.length+3*v.length+8:=by
 have a:=Yd v;rw[zj v]at a;have b:=Vm (jr v).tail
 have c:(zM k ((jr v).headD [])).length<=k.length+((jr v).headD []).length+2:=by unfold zM;split<;>simp<;>omega
 unfold jW;simp only[joy,jo2,jn1,joi]at a b ⊢;omega
theorem jg5(l:List UInt8):(vo l).length<=l.length:=by unfold vo;split<;>simp
theorem jeS(l:List UInt8):(zw l).length<=l.length:=by unfold zw;split<;>simp
theorem jhE(l:List UInt8):(qU l).length<=l.length:=by unfold qU;rw[jn6];omega
theorem jcH:∀r:List (List UInt8),((r.map fun l=>zw l.tail).map List.length).sum<=(r.map List.length).sum
 | []=>by simp
 | a::r=>by
  have b:=jcH r;have h:=jeS a.tail
  have c:a.tail.length<=a.length:=by simp
  simp only[joy,jo2]at b ⊢;omega
theorem ZB(ls:List (List UInt8)):(qE ls).length<=(ls.map List.length).sum+ls.length+1:=by
 have h:=Wf (Yz ls);have hl:(Yz ls).length<=ls.length+1:=by unfold Yz;cases ls<;>simp
 have c:((Yz ls).map List.length).sum<=(ls.map List.length).sum:=by
  cases ls with
  | nil=>decide
  | cons a r =>
  unfold Yz;have b:=jcH r
  have d:=jg5 (qU a);have e:=jhE a
  simp only[List.headD_cons,List.tail_cons,joy,jo2]at b ⊢;omega
 unfold qE;omega
abbrev Fld:=List UInt8×List UInt8
structure It where
 kind:Int
 raw:List UInt8
 fields:List Fld
deriving DecidableEq
structure PS where
 begin_:Nat
 said:List (List UInt8)
 items:List It
 stanzas:Nat
 at_:Nat
 fields:List Fld
deriving DecidableEq
def PS.new:PS:=⟨0,[],[],0,0,[]⟩
abbrev Res(α:Type):=Except (Nat×Nat) α
def vO(p:PS):Bool:=if p.fields.length=0 then p.stanzas==400 else p.fields.length==40
def ji(p:PS):Nat:=if p.said=[] then 0 else if jt p.said≠0 then jt p.said else if vO p then 11 else 0
def ja(p:PS):PS:=if p.said=[] then p else {p with fields:=p.fields++[(jU p.said,jT p.said)],said:=[]}
def zk(text:List UInt8)(p:PS)(kind end_:Nat):PS:={p with items:=p.items++[⟨kind,(text.take end_).drop p.at_,p.fields⟩],at_:=end_,fields:=[]}
def jk(text:List UInt8)(p:PS)(end_:Nat):PS :=
 if p.at_=end_ then p else if p.fields.length=0 then zk text p 2 end_ else {zk text p 3 end_ with stanzas:=p.stanzas+1}
def vf(p:PS)(x:Ln):Bool:=jm x.text==3 && !(p.said.isEmpty)
def zy(p:PS)(x:Ln):PS:=if vf p x then {p with said:=p.said++[x.text]} else p
def zO(p:PS)(x:Ln):Bool:=jm x.text==5 || (jm x.text==3 && !vf p x) || !x.ended
def qW(p:PS)(x:Ln):Bool:=zO p x || !vf p x
def JC(text:List UInt8)(p:PS)(x:Ln):PS :=
 if jm x.text=4 then {p with begin_:=x.no,said:=[x.text]}
 else if jm x.text=1 then zk text (jk text p x.at_) 1 (x.at_+x.text.length+1)
 else p
def qN(p:PS)(x:Ln):PS:=if qW p x then ja (zy p x) else zy p x
def zo(text:List UInt8)(p:PS)(x:Ln):Res PS :=
 if qW p x=true/\ji (zy p x)≠0 then .error ((zy p x).begin_,ji (zy p x))
 else if zO p x then .error (x.no,2)
 else .ok (JC text (qN p x) x)
def qO(text:List UInt8):PS->List Ln->Res PS
 | p,[]=>.ok p
 | p,x::xs=>match zo text p x with
  | .error e=>.error e
  | .ok q=>qO text q xs
def ZM(text:List UInt8)(p:PS):Res (List It) :=
 if ji p≠0 then .error (p.begin_,ji p) else .ok (jk text (ja p) text.length).items
def jv(text:List UInt8):Res (List It) :=
 match qO text PS.new (jf text) with
 | .error e=>.error e
 | .ok p=>ZM text p
theorem vq(text:List UInt8):∀(p:PS) (a b:List Ln),qO text p (a++b)=match qO text p a with | .error e=>.error e | .ok q=>qO text q b
 | p,[],b=>rfl
 | p,x::a,b=>by
  show(match zo text p x with | .error e=>_ | .ok q=>qO text q (a++b))=match (match zo text p x with | .error e=>_ | .ok q=>qO text q a) with | .error e=>_ | .ok q=>_
  cases zo text p x with
  | error e=>rfl
  | ok q=>exact vq text q a b
theorem Qp(ls:List (List UInt8)):jt ls<=6:=by
 unfold jt;split
 ·split<;>decide
 decide
theorem VN(p:PS):ji p<=11:=by
 unfold ji;have:=Qp p.said
 split
 ·decide
 split
 ·omega
 split<;>decide
structure Inv(p:PS)(c:Nat):Prop where
 at_:p.at_<=c
 items:p.items.length<=p.at_
 stanzas:p.stanzas<=p.at_
 begin_:p.begin_<=c
 fields:p.fields.length<=c
 said:(p.said.map List.length).sum+p.said.length<=c
 both:p.fields.length+p.said.length<=c
theorem Inv.new:Inv PS.new 0:=⟨jnT _,jnT _,jnT _,jnT _,jnT _,jnT _,jnT _⟩
theorem Inv.mono{p:PS}{c d:Nat}(h:Inv p c)(a:c<=d):Inv p d :=
 ⟨jop h.at_ a,h.items,h.stanzas,jop h.begin_ a,jop h.fields a,jop h.said a,jop h.both a⟩
theorem Inv.endField{p:PS}{c:Nat}(h:Inv p c):Inv (ja p) c:=by
 unfold ja;split
 ·exact h
 rename_i b;have e:=h.both
 have:1<=p.said.length:=by cases d:p.said with | nil=>exact absurd d b | cons a l=>simp
 exact⟨h.at_,h.items,h.stanzas,h.begin_,by simp;omega,by simp,by simp;omega⟩
theorem Inv.endItem{p:PS}{c:Nat}(text:List UInt8)(kind e:Nat)(h:Inv p c)(f:p.at_<e)(d:e<=c):Inv (zk text p kind e) c:=by
 have a:=h.items;have b:=h.stanzas
 refine⟨d,?_,?_,h.begin_,by simp[zk],h.said,?_⟩
 ·simp[zk];omega
 ·simp[zk];omega
 have:=h.both;simp[zk];omega
theorem Inv.endBlock{p:PS}{c:Nat}(text:List UInt8)(e:Nat)(h:Inv p c)(b:p.at_<=e)(a:e<=c):Inv (jk text p e) c:=by
 unfold jk;split
 ·exact h
 split
 ·exact h.endItem text 2 e (by omega) a
 have g:=h.endItem text 3 e (by omega) a;exact⟨g.at_,g.items,by have:=h.stanzas;show p.stanzas+1<=e;omega,g.begin_,g.fields,g.said,g.both⟩
theorem Zp(p:PS):(ja p).at_=p.at_:=by unfold ja;split<;>rfl
theorem ql(p:PS):(ja p).said=[]:=by unfold ja;split<;>simp_all
theorem yl(text:List UInt8)(p:PS)(e:Nat)(h:p.at_<=e):(jk text p e).at_=e:=by
 unfold jk;split
 ·assumption
 split<;>rfl
theorem Gf(text:List UInt8)(p:PS)(e:Nat):(jk text p e).said=p.said:=by
 unfold jk;split
 ·rfl
 split<;>rfl
theorem jcx(p:PS)(x:Ln):(zy p x).at_=p.at_:=by unfold zy;split<;>rfl
theorem Inv.went{p:PS}{x:Ln}{c:Nat}(h:Inv p c):Inv (zy p x) (c+x.text.length+1):=by
 unfold zy;split
 ·have a:=h.said;have b:=h.both
  refine⟨by have:=h.at_;show p.at_<=_;omega,h.items,h.stanzas,by have:=h.begin_;show p.begin_<=_;omega,by have:=h.fields;show p.fields.length<=_;omega,?_,?_⟩
  ·simp;omega
  simp;omega
 exact h.mono (by omega)
theorem Inv.then_{p:PS}{x:Ln}{c:Nat}(h:Inv p c):Inv (qN p x) (c+x.text.length+1):=by
 unfold qN;split
 ·exact h.went.endField
 exact h.went
theorem jcC(p:PS)(x:Ln):(qN p x).at_=p.at_:=by
 unfold qN;split
 ·rw[Zp,jcx]
 exact jcx p x
theorem jlS{p:PS}{x:Ln}(h:vf p x=false):(qN p x).said=[]:=by unfold qN qW;rw[h];simp only[Bool.not_false,Bool.or_true,if_true];exact ql _
theorem ZT{p:PS}{x:Ln}(h:jm x.text≠3):vf p x=false:=by unfold vf;simp[h]
theorem Inv.take{text:List UInt8}{p q:PS}{x:Ln}(h:Inv p x.at_)(c:x.no<=x.at_)(a:zo text p x=.ok q):Inv q (x.at_+x.bytes.length)/\x.ended=true:=by
 unfold zo at a;split at a
 ·cases a
 split at a
 ·cases a
 rename_i e;have b:x.ended=true:=by
  cases hx:x.ended with
  | true=>rfl
  | false=>exact absurd (by unfold zO;rw[hx];simp) e
 have d:x.at_+x.bytes.length=x.at_+x.text.length+1:=by unfold Ln.bytes;rw[b];simp;omega
 refine⟨?_,b⟩;rw[d];cases a;have t:=h.then_ (x:=x)
 unfold JC;split
 ·rename_i f;refine⟨t.at_,t.items,t.stanzas,by show x.no<=_;omega,t.fields,by simp,?_⟩;have j:(qN p x).fields.length<=x.at_:=by have g:=ZT (p:=p) (x:=x) (by omega);unfold qN qW zy;rw[g];simp only[Bool.not_false,Bool.or_true,if_true];exact(Inv.endField h).fields
  simp;omega
 split
 ·have i:=jcC p x;have k:=h.at_
  refine Inv.endItem text 1 _ (t.endBlock text x.at_ (by omega) (by omega)) ?_ (by omega);rw[yl text _ _ (by omega)];omega
 exact t
structure Vg(t:List UInt8)(p:PS):Prop where
 st:p.stanzas<=400
 st':p.fields≠[]->p.stanzas<=399
 fl:p.fields.length<=40
 each:∀it∈p.items,it.fields.length<=40
 join:p.items.flatMap It.raw=t.take p.at_
theorem Vg.new(t:List UInt8):Vg t PS.new:=⟨by decide,fun h=>absurd rfl h,by decide,(fun a h=>by cases h),rfl⟩
theorem Vg.endField{t:List UInt8}{p:PS}(h:Vg t p)(b:ji p=0):Vg t (ja p):=by
 unfold ja;split
 ·exact h
 rename_i c;unfold ji at b;rw[if_neg c]at b;split at b
 ·rename_i d;exact absurd b d
 have a:vO p=false:=by
  cases g:vO p with
  | false=>rfl
  | true=>rw[g]at b;simp at b
 unfold vO at a;have fl:=h.fl
 have st:=h.st;refine⟨h.st,fun _ => ?_,?_,h.each,h.join⟩
 ·show p.stanzas<=399;split at a
  ·have:p.stanzas≠400:=by simpa using a
   omega
  rename_i f;exact h.st' (fun e=>f (by rw[e];rfl))
 show(p.fields++[_]).length<=40;rw[jnU];split at a
 ·simp;omega
 have:p.fields.length≠40:=by simpa using a
 simp;omega
theorem Kc(t:List UInt8)(a e:Nat)(h:a<=e):t.take a++(t.take e).drop a=t.take e:=by
 conv=>rhs;rw[<- joj a (t.take e),jql,jqf h]
theorem Vg.endItem{t:List UInt8}{p:PS}(h:Vg t p)(kind e:Nat)(b:p.at_<=e):Vg t (zk t p kind e):=by
 refine⟨h.st,fun c=>absurd rfl c,by simp[zk],?_,?_⟩
 ·intro d a;rcases List.mem_append.1 a with a|a
  ·exact h.each d a
  rw[List.mem_singleton.1 a];exact h.fl
 show(p.items++[_]).flatMap It.raw=t.take e;rw[jow,h.join];simp only[joc,jqs,jok];exact Kc t p.at_ e b
theorem Vg.endBlock{t:List UInt8}{p:PS}(h:Vg t p)(e:Nat)(a:p.at_<=e):Vg t (jk t p e):=by
 unfold jk;split
 ·exact h
 split
 ·exact h.endItem 2 e a
 rename_i c;have g:=h.endItem 3 e a
 have:=h.st' (fun e=>c (by rw[e];rfl));exact⟨by show p.stanzas+1<=400;omega,fun b=>absurd rfl b,g.fl,g.each,g.join⟩
theorem Vg.went{t:List UInt8}{p:PS}(h:Vg t p)(x:Ln):Vg t (zy p x):=by
 unfold zy;split
 ·exact⟨h.st,h.st',h.fl,h.each,h.join⟩
 exact h
theorem yE{t:List UInt8}{p q:PS}{x:Ln}(a:zo t p x=.ok q):(qW p x=true->ji (zy p x)=0)/\zO p x=false/\q=JC t (qN p x) x:=by
 unfold zo at a;split at a
 ·cases a
 rename_i d;split at a
 ·cases a
 rename_i b;cases a;refine⟨fun c => ?_,by simpa using b,rfl⟩;rcases Nat.decEq (ji (zy p x)) 0 with e|e
 ·exact absurd ⟨c,e⟩ d
 exact e
theorem yx{t:List UInt8}{p:PS}{x:Ln}(b:qW p x=true->ji (zy p x)=0)(a:zO p x=false):zo t p x=.ok (JC t (qN p x) x):=by unfold zo;rw[if_neg (fun h=>h.2 (b h.1)),a];rfl
theorem Vg.then_{t:List UInt8}{p:PS}{x:Ln}(h:Vg t p)(b:qW p x=true->ji (zy p x)=0):Vg t (qN p x):=by
 unfold qN;split
 ·rename_i a;exact(h.went x).endField (b a)
 exact h.went x
theorem Vg.put{t:List UInt8}{p:PS}{x:Ln}(h:Vg t p)(a:p.at_<=x.at_):Vg t (JC t p x):=by
 unfold JC;split
 ·exact⟨h.st,h.st',h.fl,h.each,h.join⟩
 split
 ·refine(h.endBlock x.at_ a).endItem 1 _ ?_;rw[yl t p _ a];omega
 exact h
theorem Vg.take{t:List UInt8}{p q:PS}{x:Ln}(h:Vg t p)(c:p.at_<=x.at_)(a:zo t p x=.ok q):Vg t q:=by obtain⟨b,_,rfl⟩:=yE a;exact(h.then_ b).put (by rw[jcC];exact c)
def jm3:Nat->Nat->List Ln->Prop
 | _,_,[]=>True
 | no,c,x::xs=>x.no=no/\x.at_=c/\1<=x.bytes.length/\jm3 (no+1) (c+x.bytes.length) xs
theorem xW:∀(n b a:Nat) (l:List UInt8),l.length<=n->jm3 b a (jP b a l)
 | 0,b,a,l,h=>by have:l=[]:=List.length_eq_zero_iff.1 (by omega);subst this;rw[jq];trivial
 | n+1,b,a,l,h=>by
  by_cases hl:l=[]
  ·subst hl;rw[jq];trivial
  have d:=qJ l hl;rw[jx _ _ _ hl];have c:(Ln.bytes ⟨b,a,head l,nl l⟩).length=qF l:=by unfold Ln.bytes qF;simp only[jnU];split<;>rfl
  refine⟨rfl,rfl,by rw[c];exact d,?_⟩;rw[c];exact xW n _ _ _ (by simp only[jn6];omega)
theorem jcT(t:List UInt8):∀(g:List Ln) (i c:Nat) (p q:PS),jm3 i c g->i<=c->Inv p c->Vg t p->qO t p g=.ok q->Inv q (c+(g.flatMap Ln.bytes).length)/\Vg t q/\∀x∈g,x.ended=true
 | [],i,c,p,q,_,_,j,l,f=>by cases f;exact⟨by simpa using j,l,fun x h=>by cases h⟩
 | x::g,i,c,p,q,u,A,j,l,f=>by
  obtain⟨z,o,C,s⟩:=u;unfold qO at f;cases k:zo t p x with
  | error e=>rw[k]at f;cases f
  | ok v =>
  rw[k]at f;dsimp only at f;rw[<- o]at j;obtain⟨n,r⟩:=Inv.take j (by omega) k;have w:=l.take j.at_ k
  rw[o]at n;obtain⟨a,b,d⟩:=jcT t g (i+1) (c+x.bytes.length) v q s (by omega) n w f;refine⟨?_,b,fun y m => ?_⟩
  ·rw[joc,jnU,<- jpC];exact a
  rcases List.mem_cons.1 m with rfl|m
  ·exact r
  exact d y m
theorem QM{t:List UInt8}{its:List It}(h:jv t=.ok its):∃p,qO t PS.new (jf t)=.ok p/\ji p=0/\its=(jk t (ja p) t.length).items/\Vg t (jk t (ja p) t.length)/\Inv (jk t (ja p) t.length) t.length/\(ja p).at_<=t.length:=by
 unfold jv at h;cases d:qO t PS.new (jf t) with
 | error e=>rw[d]at h;cases h
 | ok p =>
 rw[d]at h;dsimp only at h;unfold ZM at h;split at h
 ·cases h
 rename_i c;have c:ji p=0:=by simpa using c
 cases h;obtain⟨a,b,_⟩:=jcT t _ 0 0 _ _ (xW _ 0 0 t (jnT _)) (jnT _) Inv.new (Vg.new t) d;rw[show jP 0 0 t=jf t from rfl,jJ,jov]at a;exact⟨p,rfl,c,rfl,(b.endField c).endBlock _ a.endField.at_,a.endField.endBlock t _ a.endField.at_ (jnT _),a.endField.at_⟩
theorem vt{t:List UInt8}{its:List It}(h:jv t=.ok its):its.flatMap It.raw=t/\its.length<=t.length/\∀c∈its,c.fields.length<=40/\c.raw.length<=t.length:=by
 obtain⟨p,_,_,rfl,g,i,f⟩:=QM h;have k:=yl t (ja p) t.length f
 have d:=g.join;rw[k,jom]at d;refine⟨d,by have:=i.items;rw[k]at this;exact this,fun c j=>⟨g.each c j,?_⟩⟩;obtain⟨a,b,e⟩:=jpY j;rw[e,jow,joc]at d;have:=congrArg List.length d
 simp only[jnU]at this;omega
theorem YY:∀(a b:List Ln) (f c:Nat) (l:List UInt8),jP f c l=a++b->(∀x∈a,x.ended=true) ->
  jP f c (l.take (a.flatMap Ln.bytes).length)=a/\b=jP (f+a.length) (c+(a.flatMap Ln.bytes).length) (l.drop (a.flatMap Ln.bytes).length)
 | [],b,f,c,l,h,_=>by refine⟨by simp[jq],?_⟩;simpa using h.symm
 | x::a,b,f,c,l,h,t=>by
  have hl:l≠[]:=by rintro rfl;rw[jq]at h;cases h
  rw[jx _ _ _ hl,jog]at h;obtain⟨hx,w⟩:=List.cons.inj h;have u:x.bytes.length=qF l:=by rw[<- hx];unfold Ln.bytes qF;simp only[jnU];split<;>rfl
  have e:nl l=true:=by have:=t x jn5;rw[<- hx]at this;exact this
  obtain⟨z,A⟩:=YY a b (f+1) (c+qF l) (l.drop (qF l)) w (fun y C=>t y (jn4 _ C));have i:=zp l
  rw[e,if_pos rfl]at i;have q:qF l=(head l).length+1:=by unfold qF;rw[e];rfl
  have k:=vN _ f c l (jnT _) ⟨f,c,head l,nl l⟩ (by rw[jx _ _ _ hl];exact jn5);have g:((x::a).flatMap Ln.bytes).length=qF l+(a.flatMap Ln.bytes).length:=by rw[joc,jnU,u]
  rw[g];rw[e]at hx;clear g u e;generalize head l=d at *
  generalize D:l.drop (qF l)=r at *
  rw[q]at *
  have p:l=d++10::r:=by rw[i];simp
  clear i q;generalize (a.flatMap Ln.bytes).length=m at *
  have j:l.take (d.length+1+m)=d++10::r.take m:=by rw[p,List.take_append,jol (by omega),show d.length+1+m-d.length=m+1 by omega];simp
  refine⟨?_,?_⟩
  ·rw[j,jx _ _ _ (by simp)];obtain⟨s,v⟩:=Xj d (r.take m) k;have o:qF (d++10::r.take m)=d.length+1:=by unfold qF;rw[s,v];rfl
   have n:(d++10::r.take m).drop (d.length+1)=r.take m:=by rw[show d++10::r.take m=(d++[10])++r.take m by simp];exact jpi (by simp)
   rw[s,v,o,n,z,<- hx]
  rw[A,<- D,jpg,jn1,jpC f,Nat.add_comm 1,jpC c]
def re(p:PS)(n:Nat):PS:={p with begin_:=n}
def num:Nat->Nat->List (List UInt8)->List Ln
 | _,_,[]=>[]
 | no,c,l::r=>⟨no,c,l,true⟩::num (no+1) (c+l.length+1) r
theorem xm:∀(b:List (List UInt8)) (a c:Nat),(∀l∈b,(10:UInt8)∉l)->jP a c (jp b)=num a c b
 | [],a,c,_=>rfl
 | l::r,a,c,h=>by
  have e:jp (l::r)=l++10::jp r:=by unfold jp;simp
  obtain⟨f,d⟩:=Xj l (jp r) (h l jn5);have g:qF (l++10::jp r)=l.length+1:=by unfold qF;rw[f,d];rfl
  rw[e,jx _ _ _ (by simp),f,d,g];have j:(l++10::jp r).drop (l.length+1)=jp r:=by rw[show l++10::jp r=(l++[10])++jp r by simp];exact jpi (by simp)
  rw[j,xm r _ _ (fun y i=>h y (jn4 _ i))];rfl
theorem JD:∀(a b:List (List UInt8)) (d c:Nat),num d c (a++b)=num d c a++num (d+a.length) (c+(jp a).length) b
 | [],b,d,c=>rfl
 | l::a,b,d,c=>by
  have:=JD a b (d+1) (c+l.length+1);show _::num _ _ (a++b)=_::_++_
  rw[this];have e:(jp (l::a)).length=l.length+1+(jp a).length:=by unfold jp;simp;omega
  rw[e,jn1,show c+(l.length+1+(jp a).length)=c+l.length+1+(jp a).length by omega,show d+(a.length+1)=d+1+a.length by omega];rfl
theorem Ya{t:List UInt8}{p q:PS}{x:Ln}{xs:List Ln}(h:zo t p x=.ok q):qO t p (x::xs)=qO t q xs:=by show(match zo t p x with | .error e=>Except.error e | .ok q=>qO t q xs)=_;rw[h]
theorem jcS(t:List UInt8):∀(r:List (List UInt8)) (p:PS) (d c:Nat),p.said≠[]->(∀l∈r,jm l=3)->qO t p (num d c r)=.ok {p with said:=p.said++r}
 | [],p,d,c,_,_=>by show Except.ok p=_;rw[jok]
 | l::r,p,d,c,n,j=>by
  have e:=j l jn5;have f:vf p ⟨d,c,l,true⟩=true:=by
   unfold vf;rw[e];cases o:p.said with
   | nil=>exact absurd o n
   | cons a b=>rfl
  have g:zO p ⟨d,c,l,true⟩=false:=by unfold zO;rw[f,e];rfl
  have i:qW p ⟨d,c,l,true⟩=false:=by unfold qW;rw[g,f];rfl
  have k:zo t p ⟨d,c,l,true⟩=.ok {p with said:=p.said++[l]}:=by
   rw[yx (by rw[i];intro h;cases h) g];have m:qN p ⟨d,c,l,true⟩={p with said:=p.said++[l]}:=by unfold qN;rw[i,if_neg (by decide)];unfold zy;rw[f,if_pos rfl]
   rw[m];unfold JC;rw[e];rfl
  show qO t p (⟨d,c,l,true⟩::num (d+1) (c+l.length+1) r)=_;rw[Ya k,jcS t r _ _ _ (by simp) (fun y q=>j y (jn4 _ q))];simp
theorem jac{t:List UInt8}{p:PS}{no c:Nat}{l:List UInt8}(d:jm l≠3)(f:jm l≠5)(g:ji p=0):zo t p ⟨no,c,l,true⟩=.ok (JC t (ja p) ⟨no,c,l,true⟩):=by
 have b:vf p ⟨no,c,l,true⟩=false:=ZT d;have h:zO p ⟨no,c,l,true⟩=false:=by unfold zO;rw[b];simp[d,f]
 have e:qW p ⟨no,c,l,true⟩=true:=by unfold qW;rw[b];simp
 have a:zy p ⟨no,c,l,true⟩=p:=by unfold zy;rw[b];rfl
 rw[yx (by rw[a];exact fun _=>g) h];unfold qN;rw[e,if_pos rfl,a]
def jD(fs:List Fld):List (List UInt8):=fs.flatMap fun f=>jW f.1 f.2
theorem Zh{k v:List UInt8}(a:jF k=true):∃x r,jW k v=x::r/\jm x=4/\∀l∈r,jm l=3:=by
 have h:=jaK (v:=v) a;have e:jW k v=zM k ((jr v).headD [])::(jr v).tail.map js:=rfl
 rw[e]at h ⊢;refine⟨_,_,rfl,?_⟩;unfold GA at h;simp only[joC,beq_iff_eq,jqa]at h;exact h
theorem Kv(t:List UInt8):∀(b:List Fld) (p:PS) (a c:Nat),ji p=0->(∀f∈b,jF f.1=true/\f.2.length<=1000)->(ja p).fields.length+b.length<=40->(ja p).stanzas<=399 ->
  ∃q,qO t p (num a c (jD b))=.ok q/\ji q=0/\(ja q).fields=(ja p).fields++b/\(ja q).items=(ja p).items/\(ja q).stanzas=(ja p).stanzas/\(ja q).at_=(ja p).at_
 | [],p,a,c,g,_,_,_=>⟨p,rfl,g,by simp,rfl,rfl,rfl⟩
 | f::b,p,a,c,g,h,u,A=>by
  obtain⟨i,E⟩:=h f jn5;obtain⟨x,r,e,I,l⟩:=Zh (v:=f.2) i;obtain⟨m,j,C⟩:=VA i E;have hl:jD (f::b)=(x::r)++jD b:=by unfold jD;rw[joc,e]
  have n:zo t p ⟨a,c,x,true⟩=.ok {ja p with begin_:=a,said:=[x]}:=by rw[jac (by omega) (by omega) g];unfold JC;rw[if_pos I]
  have d:qO t p (num a c (x::r))=.ok {ja p with begin_:=a,said:=x::r}:=by show qO t p (⟨a,c,x,true⟩::num _ _ r)=_;rw[Ya n,jcS t r _ _ _ (by simp) l];rfl
  rw[hl,JD,vq,d];dsimp only;rw[jn1]at u;have G:ji {ja p with begin_:=a,said:=x::r}=0:=by
   unfold ji;rw[if_neg (by simp)];show(if jt (x::r)≠0 then _ else _)=0
   rw[<- e,m,if_neg (by simp)];have:vO {ja p with begin_:=a,said:=jW f.1 f.2}=false:=by
    unfold vO;show(if (ja p).fields.length=0 then (ja p).stanzas==400 else (ja p).fields.length==40)=false
    split
    ·simp;omega
    simp;omega
   rw[this];rfl
  have hP:ja {ja p with begin_:=a,said:=x::r}={ja p with begin_:=a,said:=[],fields:=(ja p).fields++[f]}:=by
   unfold ja;rw[if_neg (by simp)];show {ja p with begin_:=a,said:=[],fields:=(ja p).fields++[(jU (x::r),jT (x::r))]}=_
   rw[<- e,j,C];rfl
  obtain⟨q,s,k,o,w,H,z⟩:=Kv t b {ja p with begin_:=a,said:=x::r} (a+(x::r).length) (c+(jp (x::r)).length) G (fun y D=>h y (jn4 _ D)) (by rw[hP];simp;omega) (by rw[hP];exact A);refine⟨q,s,k,?_,?_,?_,?_⟩
  ·rw[o,hP];simp
  ·rw[w,hP]
  ·rw[H,hP]
  rw[z,hP]
end Go.Proofs.YtbapfpekklcicaaGreatDoor
