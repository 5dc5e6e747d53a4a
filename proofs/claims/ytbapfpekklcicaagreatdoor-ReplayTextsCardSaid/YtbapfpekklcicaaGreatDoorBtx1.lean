/- Texts put together:LM,KM,FM,PA,PO,PQ,PR,PU. -/
set_option linter.unusedVariables false
set_option maxRecDepth 100000
set_option maxHeartbeats 16000000
namespace Go.Proofs.YtbapfpekklcicaaGreatDoor
abbrev joJ:=@Nat.le_refl
abbrev joK:=@List.length_append
abbrev joR:=@List.length_cons
abbrev joU:=@List.mem_cons_of_mem
abbrev joV:=@List.mem_cons_self
abbrev joX:=@List.length_drop
abbrev jo5:=@List.flatMap_cons
abbrev jo6:=@List.cons_append
abbrev jo8:=@List.length_map
abbrev jo9:=@List.append_nil
abbrev jpa:=@List.take_length
abbrev jpb:=@List.take_append_drop
abbrev jpg:=@Nat.le_trans
abbrev jpi:=@List.take_of_length_le
abbrev jpk:=@Bool.and_eq_true
abbrev jpl:=@Nat.zero_add
abbrev jpo:=@List.flatMap_append
abbrev jpr:=@List.map_cons
abbrev jpy:=@List.takeWhile_cons
abbrev jpC:=@List.nil_append
abbrev jpI:=@Bool.eq_iff_iff
abbrev jpR:=@List.sum_cons
abbrev jp7:=@List.drop_drop
abbrev jp9:=@List.drop_left'
abbrev jqd:=@List.all_takeWhile
abbrev jqj:=@List.map_map
abbrev jqn:=@List.all_eq_true
abbrev jqu:=@Nat.add_assoc
abbrev jqy:=@List.takeWhile_append_of_pos
abbrev jqD:=@List.cons.injEq
abbrev jqG:=@List.all_cons
abbrev jqM:=@List.flatMap_nil
abbrev jqR:=@List.append_of_mem
abbrev jq3:=@List.drop_succ_cons
abbrev jq4:=@List.map_congr_left
abbrev jq5:=@Nat.min_eq_left
abbrev jrd:=@List.take_take
abbrev jre:=@Bool.not_eq_true'
end Go.Proofs.YtbapfpekklcicaaGreatDoor
namespace Go.Proofs.YtbapfpekklcicaaGreatDoor
structure Ln where
 no:Nat
 at_:Nat
 text:List UInt8
 ended:Bool
deriving DecidableEq
def head(l:List UInt8):List UInt8:=l.takeWhile (· != 10)
def nl(l:List UInt8):Bool:=l.contains 10
def qK(l:List UInt8):Nat:=(head l).length+if nl l then 1 else 0
def VF:Nat->Nat->Nat->List UInt8->List Ln
 | 0,_,_,_=>[]
 | f+1,no,at_,l=>if l=[] then [] else ⟨no,at_,head l,nl l⟩::VF f (no+1) (at_+qK l) (l.drop (qK l))
def jR(no at_:Nat)(l:List UInt8):List Ln:=VF l.length no at_ l
def jf(l:List UInt8):List Ln:=jR 0 0 l
def Ln.bytes(x:Ln):List UInt8:=x.text++if x.ended then [10] else []
theorem jlT(l:List UInt8):(head l).length<=l.length:=by
 unfold head
 induction l with
 | nil=>simp
 | cons a t b =>
 simp only[jpy];split
 ·simp;exact b
 simp
theorem zu(l:List UInt8):l=head l++(if nl l then [10] else [])++l.drop (qK l):=by
 unfold qK
 induction l with
 | nil=>simp[head,nl]
 | cons a t d =>
 by_cases h:a=10
 ·subst h;simp[head,nl]
 have b:head (a::t)=a::head t:=by simp[head,h]
 have c:nl (a::t)=nl t:=by simp[nl,Ne.symm h]
 rw[b,c];simp only[joR,jo6];rw[show(head t).length+1+(if nl t=true then 1 else 0)=((head t).length+if nl t=true then 1 else 0)+1 by omega,jq3];exact congrArg (a :: ·) d
theorem Ua(l:List UInt8):qK l<=l.length:=by
 have:=congrArg List.length (zu l);unfold qK at this ⊢;simp only[joK,joX]at this;have a:(if nl l=true then [(10:UInt8)] else []).length=if nl l=true then 1 else 0:=by split<;>rfl
 rw[a]at this;omega
theorem qP(l:List UInt8)(h:l≠[]):1<=qK l:=by
 unfold qK;cases l with
 | nil=>exact absurd rfl h
 | cons a t =>
 by_cases h:a=10
 ·subst h;simp[nl]
 simp[head,h];omega
theorem Xl:∀(f g b a:Nat) (l:List UInt8),l.length<=f->l.length<=g->VF f b a l=VF g b a l
 | 0,0,_,_,_,_,_=>rfl
 | 0,g+1,b,a,l,h,_=>by have:l=[]:=List.length_eq_zero_iff.1 (by omega);simp[VF,this]
 | f+1,0,b,a,l,_,h=>by have:l=[]:=List.length_eq_zero_iff.1 (by omega);simp[VF,this]
 | f+1,g+1,b,a,l,d,e=>by
  unfold VF;split
  ·rfl
  rename_i c;have:=qP l c
  rw[Xl f g _ _ _ (by simp only[joX];omega) (by simp only[joX];omega)]
theorem jr(no at_:Nat):jR no at_ []=[]:=rfl
theorem jC(no at_:Nat)(l:List UInt8)(h:l≠[]):jR no at_ l=⟨no,at_,head l,nl l⟩::jR (no+1) (at_+qK l) (l.drop (qK l)):=by
 unfold jR;cases l with
 | nil=>exact absurd rfl h
 | cons a t =>
 have:=qP _ h;rw[show(a::t).length=t.length+1 from rfl]
 conv=>lhs;unfold VF
 rw[if_neg h,Xl t.length ((a::t).drop (qK (a::t))).length _ _ _ (by simp only[joX,joR];omega) (joJ _)]
theorem VD:∀(n b a:Nat) (l:List UInt8),l.length<=n->(jR b a l).flatMap Ln.bytes=l
 | 0,_,_,l,h=>by have:l=[]:=List.length_eq_zero_iff.1 (by omega);subst this;rfl
 | n+1,b,a,l,h=>by
  by_cases hl:l=[]
  ·subst hl;rfl
  have c:=qP l hl;rw[jC _ _ _ hl,jo5,VD n _ _ _ (by simp only[joX];omega)];exact(zu l).symm
theorem jL(l:List UInt8):(jf l).flatMap Ln.bytes=l:=VD _ _ _ _ (joJ _)
theorem Wn:∀(n g f:Nat) (l:List UInt8),l.length<=n->∀c x d,jR g f l=c++x::d->x.no=g+c.length/\x.at_=f+(c.flatMap Ln.bytes).length
 | 0,_,_,l,h,c,x,d,e=>by have:l=[]:=List.length_eq_zero_iff.1 (by omega);subst this;rw[jr]at e;exact absurd (congrArg List.length e) (by simp)
 | n+1,g,f,l,h,c,x,d,e=>by
  by_cases hl:l=[]
  ·subst hl;rw[jr]at e;exact absurd (congrArg List.length e) (by simp)
  have i:=qP l hl;rw[jC _ _ _ hl]at e;cases c with
  | nil=>simp only[jpC,jqD]at e;obtain⟨rfl,_⟩:=e;simp
  | cons y c =>
  simp only[jo6,jqD]at e;obtain⟨rfl,e⟩:=e;obtain⟨a,b⟩:=Wn n _ _ _ (by simp only[joX];omega) c x d e;refine⟨by rw[a];simp;omega,?_⟩;rw[b,jo5,joK];have:(Ln.bytes ⟨g,f,head l,nl l⟩).length=qK l:=by unfold Ln.bytes qK;simp only[joK];split<;>rfl
  rw[this];omega
theorem qX(l:List UInt8)(a:List Ln)(x:Ln)(b:List Ln)(e:jf l=a++x::b):x.no=a.length/\x.at_=(a.flatMap Ln.bytes).length:=by have:=Wn _ 0 0 l (joJ _) a x b e;simpa using this
theorem vT:∀(n b a:Nat) (l:List UInt8),l.length<=n->∀x∈jR b a l,(10:UInt8)∉x.text
 | 0,_,_,l,h,x,hx=>by have:l=[]:=List.length_eq_zero_iff.1 (by omega);subst this;rw[jr]at hx;cases hx
 | n+1,b,a,l,h,x,hx=>by
  by_cases hl:l=[]
  ·subst hl;rw[jr]at hx;cases hx
  have e:=qP l hl;rw[jC _ _ _ hl]at hx;rcases List.mem_cons.1 hx with rfl|hx
  ·intro d;have:=jqd (p:=fun(c:UInt8)=>c != 10) (l:=l)
   have:=List.all_eq_true.1 this 10 d;simp at this
  exact vT n _ _ _ (by simp only[joX];omega) x hx
theorem Za:∀(n b a:Nat) (l:List UInt8),l.length<=n->(jR b a l).length<=l.length
 | 0,_,_,l,h=>by have:l=[]:=List.length_eq_zero_iff.1 (by omega);subst this;simp[jr]
 | n+1,b,a,l,h=>by
  by_cases hl:l=[]
  ·subst hl;simp[jr]
  have c:=qP l hl;rw[jC _ _ _ hl];have:=Za n (b+1) (a+qK l) (l.drop (qK l)) (by simp only[joX];omega)
  simp only[joR,joX]at this ⊢;have:=Ua l
  omega
theorem zO(l:List UInt8):(jf l).length<=l.length:=Za _ _ _ _ (joJ _)
def zZ(c:UInt8):Bool:=c==32 || c==9
def vn:List UInt8->Bool
 | []=>false
 | c::_=>zZ c
def Zp:List UInt8->Bool
 | []=>false
 | c::_=>c==35
def qM(l:List UInt8)(c:UInt8):Bool:=l.contains c
def jS(l:List UInt8):Bool:=l.all zZ
def jF(k:List UInt8):Bool:=decide (1<=k.length)&&decide (k.length<=32) && !vn k && !Zp k && !qM k 58 && !qM k 10
def before(l:List UInt8):List UInt8:=l.takeWhile (· != 58)
def jm(l:List UInt8):Nat :=
 if qM l 10=true then 5 else if jS l=true then 1 else if Zp l=true then 2 else if vn l=true then 3 else if qM l 58=true/\jF (before l)=true then 4 else 5
theorem Ze{l:List UInt8}(h:jS l=false):∃c t,l=c::t:=by
 cases l with
 | nil=>simp[jS]at h
 | cons c t=>exact⟨c,t,rfl⟩
theorem Xz(a b:List UInt8)(c:UInt8):qM (a++b) c=(qM a c || qM b c):=by unfold qM;rw[jpI];simp
theorem Xy(a:UInt8)(b:List UInt8)(c:UInt8):qM (a::b) c=((c==a) || qM b c):=by unfold qM;rw[List.contains_cons]
theorem Gn{l:List UInt8}{c:UInt8}(h:c∉l):qM l c=false:=by unfold qM;simpa using h
theorem Qk(a b:List UInt8)(h:qM a 58=false):before (a++58::b)=a:=by
 unfold before;have c:∀x∈a,(x != 58)=true:=by
  intro x hx;unfold qM at h;have:(58:UInt8)∉a:=by simpa using h
  simp;rintro rfl;exact this hx
 rw[jqy c,jpy,if_neg (by simp),jo9]
theorem yf{k:List UInt8}(h:jF k=true):1<=k.length/\k.length<=32/\vn k=false/\Zp k=false/\qM k 58=false/\qM k 10=false:=by unfold jF at h;simp only[jpk,decide_eq_true_eq,jre]at h;exact⟨h.1.1.1.1.1,h.1.1.1.1.2,h.1.1.1.2,h.1.1.2,h.1.2,h.2⟩
theorem jgV{k r:List UInt8}(h:jF k=true)(g:qM r 10=false):jm (k++58::r)=4:=by
 obtain⟨a1,i,a2,a3,a4,a5⟩:=yf h;have a:qM (k++58::r) 10=false:=by rw[Xz,a5,Bool.false_or,Xy,g];rfl
 have b:qM (k++58::r) 58=true:=by rw[Xz,Xy];simp
 have b3:=Qk k r a4;cases k with
 | nil=>simp at a1
 | cons c t =>
 have d:vn (c::t++58::r)=false:=a2;have e:Zp (c::t++58::r)=false:=a3
 have f:jS (c::t++58::r)=false:=by have:zZ c=false:=a2;unfold jS;rw[jo6,jqG,this];rfl
 unfold jm;rw[a,if_neg (by decide),f,if_neg (by decide),e,if_neg (by decide),d,if_neg (by decide),b,b3,h];rfl
theorem jbp(b:List UInt8):∀a:List UInt8,(a++58::b).drop (a.length+1)=b
 | []=>rfl
 | _::a=>jbp b a
def jv:List UInt8->List (List UInt8)
 | []=>[[]]
 | c::t=>if c=10 then []::jv t else (c::(jv t).headD [])::(jv t).tail
def zY:List (List UInt8)->List UInt8
 | []=>[]
 | [p]=>p
 | p::q::r=>p++10::zY (q::r)
theorem jcg(p:List UInt8)(r:List (List UInt8))(h:r≠[]):zY (p::r)=p++10::zY r:=by
 cases r with
 | nil=>exact absurd rfl h
 | cons q r=>rfl
theorem zk(l:List UInt8):jv l=(jv l).headD []::(jv l).tail:=by
 cases l with
 | nil=>rfl
 | cons c t=>unfold jv;split<;>rfl
theorem jaO(l:List UInt8):jv l≠[]:=by rw[zk];simp
theorem yw:∀(l:List UInt8),∀p∈jv l,(10:UInt8)∉p
 | [],p,h=>by unfold jv at h;simp at h;subst h;simp
 | c::t,p,h=>by
  have a:=yw t;rw[zk t]at a;unfold jv at h;split at h
  ·rw[zk t]at h;rcases List.mem_cons.1 h with rfl|h
   ·simp
   exact a p h
  rename_i d;rcases List.mem_cons.1 h with rfl|h
  ·intro b;rcases List.mem_cons.1 b with e|b
   ·exact d e.symm
   exact a _ (by simp) b
  exact a p (joU _ h)
theorem yP:∀(l:List UInt8),(jv l).length=l.count 10+1
 | []=>rfl
 | c::t=>by
  have b:=yP t;unfold jv;split
  ·rename_i a;subst a;rw[joR,b,List.count_cons_self]
  rename_i a;rw[List.count_cons_of_ne a,<- b,zk t];simp
theorem YV:∀(l:List UInt8),zY (jv l)=l
 | []=>rfl
 | c::t=>by
  have a:=YV t;unfold jv;split
  ·rename_i b;subst b;rw[jcg _ _ (jaO t),a];rfl
  rw[zk t]at a;generalize (jv t).headD []=p at *
  generalize (jv t).tail=r at *
  cases r with
  | nil=>simp only[zY]at a ⊢;rw[a]
  | cons q r=>simp only[zY]at a ⊢;rw[<- a];rfl
theorem jca(c:UInt8)(t:List UInt8):jv (c::t)=if c=10 then []::jv t else (c::(jv t).headD [])::(jv t).tail:=rfl
theorem KW:∀(p r:List UInt8),(10:UInt8)∉p->jv (p++10::r)=p::jv r
 | [],r,_=>by simp[jv]
 | c::p,r,h=>by
  have a:c≠10:=fun e=>h (by rw[e];simp);have b:=KW p r (fun e=>h (joU _ e))
  rw[jo6,jca,if_neg a,b];rfl
theorem KY:∀(p:List UInt8),(10:UInt8)∉p->jv p=[p]
 | [],_=>rfl
 | c::p,h=>by
  have a:c≠10:=fun e=>h (by rw[e];simp);have b:=KY p (fun e=>h (joU _ e))
  unfold jv;rw[if_neg a,b];rfl
theorem yD:∀(l:List UInt8),jv (l++[10])=jv l++[[]]
 | []=>rfl
 | c::t=>by have a:=yD t;rw[jo6];unfold jv;rw[a,zk t];split<;>simp
theorem YU:∀(l:List UInt8) (c:UInt8),c≠10->∃a p,jv l=a++[p]/\jv (l++[c])=a++[p++[c]]
 | [],c,h=>⟨[],[],rfl,by simp[jv,h]⟩
 | d::t,c,h=>by
  obtain⟨a,p,e,f⟩:=YU t c h;rw[jo6];unfold jv;rw[e,f];by_cases b:d=10
  ·rw[if_pos b,if_pos b];exact⟨[]::a,p,rfl,rfl⟩
  rw[if_neg b,if_neg b];cases a with
  | nil=>exact⟨[],d::p,rfl,rfl⟩
  | cons q r=>exact⟨(d::q)::r,p,rfl,rfl⟩
def zP(k l:List UInt8):List UInt8:=if l=[] then k++[58] else k++58::32::l
def Jz(l:List UInt8):Bool:=jS l || (l.head?==some 46)
def jx(l:List UInt8):List UInt8:=if Jz l then 32::46::l else 32::l
def jY(k v:List UInt8):List (List UInt8):=zP k ((jv v).headD [])::(jv v).tail.map jx
def zh(k v:List UInt8):Nat:=if jF k then (if v.length<=1000 then 0 else 6) else 5
def jq(ls:List (List UInt8)):List UInt8:=ls.flatMap fun l=>l++[10]
def vu(l:List UInt8):List UInt8:=if l.head?=some 32 then l.tail else l
def zw(l:List UInt8):List UInt8:=if l.head?=some 46 then l.tail else l
def qZ(l:List UInt8):List UInt8:=l.drop ((before l).length+1)
def jaf:List (List UInt8)->Bool
 | []=>false
 | a::r=>(jm a==4)&&r.all (fun l=>jm l==3)
def YK(ls:List (List UInt8)):List (List UInt8):=vu (qZ (ls.headD []))::ls.tail.map fun l=>zw l.tail
def qI(ls:List (List UInt8)):List UInt8:=zY (YK ls)
def jy(ls:List (List UInt8)):Nat:=if jaf ls then (if (qI ls).length<=1000 then 0 else 6) else 2
def jW(ls:List (List UInt8)):List UInt8:=if jy ls=0 then before (ls.headD []) else []
def jV(ls:List (List UInt8)):List UInt8:=if jy ls=0 then qI ls else []
theorem Wo(k v:List UInt8):(jY k v).length=v.count 10+1:=by rw[<- yP,zk v];unfold jY;simp
theorem ZZ{l:List UInt8}(h:(10:UInt8)∉l):(10:UInt8)∉jx l:=by unfold jx;split<;>simp[h]
theorem jcy{k l:List UInt8}(b:qM k 10=false)(h:(10:UInt8)∉l):(10:UInt8)∉zP k l:=by
 have a:(10:UInt8)∉k:=by unfold qM at b;simpa using b
 unfold zP;split<;>simp[h,a]
theorem JO(v:List UInt8):(10:UInt8)∉(jv v).headD []:=yw v _ (by rw[zk v];simp)
theorem KJ(v:List UInt8):∀p∈(jv v).tail,(10:UInt8)∉p:=fun p a=>yw v p (List.mem_of_mem_tail a)
theorem VE{k:List UInt8}(v:List UInt8)(a:jF k=true):∀l∈jY k v,(10:UInt8)∉l:=by
 intro l hl;unfold jY at hl;rcases List.mem_cons.1 hl with rfl|hl
 ·exact jcy (yf a).2.2.2.2.2 (JO v)
 obtain⟨p,b,rfl⟩:=List.mem_map.1 hl;exact ZZ (KJ v p b)
theorem jbc{l:List UInt8}(h:(10:UInt8)∉l):jm (jx l)=3:=by
 have a:=Gn (ZZ h);unfold jx at a ⊢;unfold jm;by_cases b:Jz l=true
 ·rw[if_pos b]at a ⊢;rw[a];simp[jS,zZ,Zp,vn]
 rw[if_neg b]at a ⊢;have d:jS l=false:=by unfold Jz at b;cases h:jS l<;>simp[h]at b ⊢
 have c:jS (32::l)=false:=by unfold jS at d ⊢;rw[jqG,d];simp
 rw[a,c];simp[zZ,Zp,vn]
theorem jbe(l:List UInt8):zw (jx l).tail=l:=by
 unfold jx;by_cases a:Jz l=true
 ·rw[if_pos a];simp[zw]
 rw[if_neg a];have:¬l.head?=some 46:=fun e=>a (by unfold Jz;rw[e];simp)
 simp[zw,this]
theorem Wy(k l:List UInt8):∃r,zP k l=k++58::r/\vu r=l/\((10:UInt8)∉l->qM r 10=false):=by
 unfold zP;by_cases h:l=[]
 ·subst h;exact⟨[],by simp,by simp[vu],fun _=>by simp[qM]⟩
 rw[if_neg h];exact⟨32::l,rfl,by simp[vu],fun hl=>by rw[Xy,Gn hl];rfl⟩
theorem je8{k l:List UInt8}(b:jF k=true)(h:(10:UInt8)∉l):jm (zP k l)=4:=by obtain⟨r,e,_,a⟩:=Wy k l;rw[e];exact jgV b (a h)
theorem VO{k l:List UInt8}(c:jF k=true):before (zP k l)=k/\vu (qZ (zP k l))=l:=by
 obtain⟨r,e,b,_⟩:=Wy k l;have a:=Qk k r (yf c).2.2.2.2.1
 rw[e];refine⟨a,?_⟩;unfold qZ;rw[a,jbp,b]
theorem jaW{k v:List UInt8}(a:jF k=true):jaf (jY k v)=true:=by
 unfold jY;show(jm _==4&&_)=true
 rw[je8 a (JO v),jpk];refine⟨rfl,?_⟩;rw[jqn];intro l hl;obtain⟨p,b,rfl⟩:=List.mem_map.1 hl;rw[jbc (KJ v p b)];rfl
theorem Wk{k v:List UInt8}(a:jF k=true):qI (jY k v)=v:=by
 have:YK (jY k v)=jv v:=by
  unfold YK jY;simp only[List.headD_cons,List.tail_cons,jqj];rw[(VO a).2]
  conv=>rhs;rw[zk v]
  congr 1
  conv=>rhs;rw[<- List.map_id (jv v).tail]
  apply jq4;intro l _;exact jbe l
 unfold qI;rw[this,YV]
theorem VC{k v:List UInt8}(a:jF k=true)(b:v.length<=1000):jy (jY k v)=0/\jW (jY k v)=k/\jV (jY k v)=v:=by
 have h:jy (jY k v)=0:=by unfold jy;rw[jaW a,Wk a,if_pos rfl,if_pos b]
 refine⟨h,?_,?_⟩
 ·unfold jW;rw[if_pos h];unfold jY;exact(VO a).1
 unfold jV;rw[if_pos h,Wk a]
theorem Xw:∀(p r:List UInt8),(10:UInt8)∉p->head (p++10::r)=p/\nl (p++10::r)=true
 | p,r,h=>by
  have a:∀x∈p,(x != 10)=true:=by intro x hx;simp;rintro rfl;exact h hx
  refine⟨?_,by unfold nl;simp⟩;unfold head;rw[jqy a,jpy,if_neg (by simp),jo9]
theorem xZ(a b:List (List UInt8)):jq (a++b)=jq a++jq b:=by unfold jq;simp
theorem xY:∀(a:List (List UInt8)),(jq a).length=(a.map List.length).sum+a.length
 | []=>rfl
 | l::r=>by
  have e:jq (l::r)=l++10::jq r:=by unfold jq;simp
  rw[e,joK,joR,xY r];simp;omega
theorem Wq:∀(a:List (List UInt8)),(zY a).length<=(a.map List.length).sum+a.length
 | []=>by simp[zY]
 | [p]=>by simp[zY]
 | p::q::r=>by
  have b:=Wq (q::r);show(p++10::zY (q::r)).length<=_
  rw[joK,joR];simp only[jpr,jpR,joR]at b ⊢;omega
theorem Yn:∀(l:List UInt8),((jv l).map List.length).sum+(jv l).length=l.length+1
 | []=>rfl
 | c::t=>by
  have a:=Yn t;rw[zk t]at a;unfold jv;split
  ·rw[zk t];simp at a ⊢;omega
  simp at a ⊢;omega
theorem Vq:∀(r:List (List UInt8)),((r.map jx).map List.length).sum<=(r.map List.length).sum+2*r.length
 | []=>by simp
 | p::r=>by
  have a:=Vq r;have h:(jx p).length<=p.length+2:=by unfold jx;split<;>simp
  simp only[jpr,jpR,joR]at a ⊢;omega
theorem jaV(k v:List UInt8):((jY k v).map List.length).sum+(jY k v).length<=k.length+3*v.length+8:=by
 have a:=Yn v;rw[zk v]at a;have b:=Vq (jv v).tail
 have c:(zP k ((jv v).headD [])).length<=k.length+((jv v).headD []).length+2:=by unfold zP;split<;>simp<;>omega
 unfold jY;simp only[jpr,jpR,joR,jo8]at a b ⊢;omega
theorem jhF(l:List UInt8):(vu l).length<=l.length:=by unfold vu;split<;>simp
theorem jfj(l:List UInt8):(zw l).length<=l.length:=by unfold zw;split<;>simp
theorem jig(l:List UInt8):(qZ l).length<=l.length:=by unfold qZ;rw[joX];omega
theorem jc6:∀r:List (List UInt8),((r.map fun l=>zw l.tail).map List.length).sum<=(r.map List.length).sum
 | []=>by simp
 | a::r=>by
  have b:=jc6 r;have h:=jfj a.tail
  have c:a.tail.length<=a.length:=by simp
  simp only[jpr,jpR]at b ⊢;omega
theorem ZJ(ls:List (List UInt8)):(qI ls).length<=(ls.map List.length).sum+ls.length+1:=by
 have h:=Wq (YK ls);have hl:(YK ls).length<=ls.length+1:=by unfold YK;cases ls<;>simp
 have e:((YK ls).map List.length).sum<=(ls.map List.length).sum:=by
  cases ls with
  | nil=>decide
  | cons a r =>
  unfold YK;have b:=jc6 r
  have c:=jhF (qZ a);have d:=jig a
  simp only[List.headD_cons,List.tail_cons,jpr,jpR]at b ⊢;omega
 unfold qI;omega
abbrev Fld:=List UInt8×List UInt8
structure It where
 kind:Int
 raw:List UInt8
 fields:List Fld
deriving DecidableEq
structure PS where
 begin_:Nat
 said:List (List UInt8)
 items:List It
 stanzas:Nat
 at_:Nat
 fields:List Fld
deriving DecidableEq
def PS.new:PS:=⟨0,[],[],0,0,[]⟩
abbrev Res(α:Type):=Except (Nat×Nat) α
def vU(p:PS):Bool:=if p.fields.length=0 then p.stanzas==400 else p.fields.length==40
def ji(p:PS):Nat:=if p.said=[] then 0 else if jy p.said≠0 then jy p.said else if vU p then 11 else 0
def jd(p:PS):PS:=if p.said=[] then p else {p with fields:=p.fields++[(jW p.said,jV p.said)],said:=[]}
def zl(text:List UInt8)(p:PS)(kind end_:Nat):PS:={p with items:=p.items++[⟨kind,(text.take end_).drop p.at_,p.fields⟩],at_:=end_,fields:=[]}
def jk(text:List UInt8)(p:PS)(end_:Nat):PS :=
 if p.at_=end_ then p else if p.fields.length=0 then zl text p 2 end_ else {zl text p 3 end_ with stanzas:=p.stanzas+1}
def vl(p:PS)(x:Ln):Bool:=jm x.text==3 && !(p.said.isEmpty)
def zx(p:PS)(x:Ln):PS:=if vl p x then {p with said:=p.said++[x.text]} else p
def zQ(p:PS)(x:Ln):Bool:=jm x.text==5 || (jm x.text==3 && !vl p x) || !x.ended
def ve(p:PS)(x:Ln):Bool:=zQ p x || !vl p x
def JK(text:List UInt8)(p:PS)(x:Ln):PS :=
 if jm x.text=4 then {p with begin_:=x.no,said:=[x.text]}
 else if jm x.text=1 then zl text (jk text p x.at_) 1 (x.at_+x.text.length+1)
 else p
def qT(p:PS)(x:Ln):PS:=if ve p x then jd (zx p x) else zx p x
def zq(text:List UInt8)(p:PS)(x:Ln):Res PS :=
 if ve p x=true/\ji (zx p x)≠0 then .error ((zx p x).begin_,ji (zx p x))
 else if zQ p x then .error (x.no,2)
 else .ok (JK text (qT p x) x)
def qU(text:List UInt8):PS->List Ln->Res PS
 | p,[]=>.ok p
 | p,x::xs=>match zq text p x with
  | .error e=>.error e
  | .ok q=>qU text q xs
def ZS(text:List UInt8)(p:PS):Res (List It) :=
 if ji p≠0 then .error (p.begin_,ji p) else .ok (jk text (jd p) text.length).items
def jD(text:List UInt8):Res (List It) :=
 match qU text PS.new (jf text) with
 | .error e=>.error e
 | .ok p=>ZS text p
theorem vx(text:List UInt8):∀(p:PS) (a b:List Ln),qU text p (a++b)=match qU text p a with | .error e=>.error e | .ok q=>qU text q b
 | p,[],b=>rfl
 | p,x::a,b=>by
  show(match zq text p x with | .error e=>_ | .ok q=>qU text q (a++b))=match (match zq text p x with | .error e=>_ | .ok q=>qU text q a) with | .error e=>_ | .ok q=>_
  cases zq text p x with
  | error e=>rfl
  | ok q=>exact vx text q a b
theorem Qv(ls:List (List UInt8)):jy ls<=6:=by
 unfold jy;split
 ·split<;>decide
 decide
theorem VS(p:PS):ji p<=11:=by
 unfold ji;have:=Qv p.said
 split
 ·decide
 split
 ·omega
 split<;>decide
structure Inv(p:PS)(c:Nat):Prop where
 at_:p.at_<=c
 items:p.items.length<=p.at_
 stanzas:p.stanzas<=p.at_
 begin_:p.begin_<=c
 fields:p.fields.length<=c
 said:(p.said.map List.length).sum+p.said.length<=c
 both:p.fields.length+p.said.length<=c
theorem Inv.new:Inv PS.new 0:=⟨joJ _,joJ _,joJ _,joJ _,joJ _,joJ _,joJ _⟩
theorem Inv.mono{p:PS}{c d:Nat}(h:Inv p c)(a:c<=d):Inv p d :=
 ⟨jpg h.at_ a,h.items,h.stanzas,jpg h.begin_ a,jpg h.fields a,jpg h.said a,jpg h.both a⟩
theorem Inv.endField{p:PS}{c:Nat}(h:Inv p c):Inv (jd p) c:=by
 unfold jd;split
 ·exact h
 rename_i d;have e:=h.both
 have:1<=p.said.length:=by cases b:p.said with | nil=>exact absurd b d | cons a l=>simp
 exact⟨h.at_,h.items,h.stanzas,h.begin_,by simp;omega,by simp,by simp;omega⟩
theorem Inv.endItem{p:PS}{c:Nat}(text:List UInt8)(kind e:Nat)(h:Inv p c)(f:p.at_<e)(d:e<=c):Inv (zl text p kind e) c:=by
 have a:=h.items;have b:=h.stanzas
 refine⟨d,?_,?_,h.begin_,by simp[zl],h.said,?_⟩
 ·simp[zl];omega
 ·simp[zl];omega
 have:=h.both;simp[zl];omega
theorem Inv.endBlock{p:PS}{c:Nat}(text:List UInt8)(e:Nat)(h:Inv p c)(b:p.at_<=e)(a:e<=c):Inv (jk text p e) c:=by
 unfold jk;split
 ·exact h
 split
 ·exact h.endItem text 2 e (by omega) a
 have g:=h.endItem text 3 e (by omega) a;exact⟨g.at_,g.items,by have:=h.stanzas;show p.stanzas+1<=e;omega,g.begin_,g.fields,g.said,g.both⟩
theorem Zw(p:PS):(jd p).at_=p.at_:=by unfold jd;split<;>rfl
theorem qm(p:PS):(jd p).said=[]:=by unfold jd;split<;>simp_all
theorem yo(text:List UInt8)(p:PS)(e:Nat)(h:p.at_<=e):(jk text p e).at_=e:=by
 unfold jk;split
 ·assumption
 split<;>rfl
theorem Gz(text:List UInt8)(p:PS)(e:Nat):(jk text p e).said=p.said:=by
 unfold jk;split
 ·rfl
 split<;>rfl
theorem jcW(p:PS)(x:Ln):(zx p x).at_=p.at_:=by unfold zx;split<;>rfl
theorem Inv.went{p:PS}{x:Ln}{c:Nat}(h:Inv p c):Inv (zx p x) (c+x.text.length+1):=by
 unfold zx;split
 ·have a:=h.said;have b:=h.both
  refine⟨by have:=h.at_;show p.at_<=_;omega,h.items,h.stanzas,by have:=h.begin_;show p.begin_<=_;omega,by have:=h.fields;show p.fields.length<=_;omega,?_,?_⟩
  ·simp;omega
  simp;omega
 exact h.mono (by omega)
theorem Inv.then_{p:PS}{x:Ln}{c:Nat}(h:Inv p c):Inv (qT p x) (c+x.text.length+1):=by
 unfold qT;split
 ·exact h.went.endField
 exact h.went
theorem jc1(p:PS)(x:Ln):(qT p x).at_=p.at_:=by
 unfold qT;split
 ·rw[Zw,jcW]
 exact jcW p x
theorem jmy{p:PS}{x:Ln}(h:vl p x=false):(qT p x).said=[]:=by unfold qT ve;rw[h];simp only[Bool.not_false,Bool.or_true,if_true];exact qm _
theorem ZX{p:PS}{x:Ln}(h:jm x.text≠3):vl p x=false:=by unfold vl;simp[h]
theorem Inv.take{text:List UInt8}{p q:PS}{x:Ln}(h:Inv p x.at_)(d:x.no<=x.at_)(a:zq text p x=.ok q):Inv q (x.at_+x.bytes.length)/\x.ended=true:=by
 unfold zq at a;split at a
 ·cases a
 split at a
 ·cases a
 rename_i e;have b:x.ended=true:=by
  cases hx:x.ended with
  | true=>rfl
  | false=>exact absurd (by unfold zQ;rw[hx];simp) e
 have c:x.at_+x.bytes.length=x.at_+x.text.length+1:=by unfold Ln.bytes;rw[b];simp;omega
 refine⟨?_,b⟩;rw[c];cases a;have t:=h.then_ (x:=x)
 unfold JK;split
 ·rename_i j;refine⟨t.at_,t.items,t.stanzas,by show x.no<=_;omega,t.fields,by simp,?_⟩;have i:(qT p x).fields.length<=x.at_:=by have g:=ZX (p:=p) (x:=x) (by omega);unfold qT ve zx;rw[g];simp only[Bool.not_false,Bool.or_true,if_true];exact(Inv.endField h).fields
  simp;omega
 split
 ·have k:=jc1 p x;have f:=h.at_
  refine Inv.endItem text 1 _ (t.endBlock text x.at_ (by omega) (by omega)) ?_ (by omega);rw[yo text _ _ (by omega)];omega
 exact t
structure Vm(t:List UInt8)(p:PS):Prop where
 st:p.stanzas<=400
 st':p.fields≠[]->p.stanzas<=399
 fl:p.fields.length<=40
 each:∀it∈p.items,it.fields.length<=40
 join:p.items.flatMap It.raw=t.take p.at_
theorem Vm.new(t:List UInt8):Vm t PS.new:=⟨by decide,fun h=>absurd rfl h,by decide,(fun a h=>by cases h),rfl⟩
theorem Vm.endField{t:List UInt8}{p:PS}(h:Vm t p)(b:ji p=0):Vm t (jd p):=by
 unfold jd;split
 ·exact h
 rename_i d;unfold ji at b;rw[if_neg d]at b;split at b
 ·rename_i f;exact absurd b f
 have a:vU p=false:=by
  cases c:vU p with
  | false=>rfl
  | true=>rw[c]at b;simp at b
 unfold vU at a;have fl:=h.fl
 have st:=h.st;refine⟨h.st,fun _ => ?_,?_,h.each,h.join⟩
 ·show p.stanzas<=399;split at a
  ·have:p.stanzas≠400:=by simpa using a
   omega
  rename_i g;exact h.st' (fun e=>g (by rw[e];rfl))
 show(p.fields++[_]).length<=40;rw[joK];split at a
 ·simp;omega
 have:p.fields.length≠40:=by simpa using a
 simp;omega
theorem Ks(t:List UInt8)(a e:Nat)(h:a<=e):t.take a++(t.take e).drop a=t.take e:=by
 conv=>rhs;rw[<- jpb a (t.take e),jrd,jq5 h]
theorem Vm.endItem{t:List UInt8}{p:PS}(h:Vm t p)(kind e:Nat)(b:p.at_<=e):Vm t (zl t p kind e):=by
 refine⟨h.st,fun c=>absurd rfl c,by simp[zl],?_,?_⟩
 ·intro d a;rcases List.mem_append.1 a with a|a
  ·exact h.each d a
  rw[List.mem_singleton.1 a];exact h.fl
 show(p.items++[_]).flatMap It.raw=t.take e;rw[jpo,h.join];simp only[jo5,jqM,jo9];exact Ks t p.at_ e b
theorem Vm.endBlock{t:List UInt8}{p:PS}(h:Vm t p)(e:Nat)(a:p.at_<=e):Vm t (jk t p e):=by
 unfold jk;split
 ·exact h
 split
 ·exact h.endItem 2 e a
 rename_i c;have g:=h.endItem 3 e a
 have:=h.st' (fun e=>c (by rw[e];rfl));exact⟨by show p.stanzas+1<=400;omega,fun b=>absurd rfl b,g.fl,g.each,g.join⟩
theorem Vm.went{t:List UInt8}{p:PS}(h:Vm t p)(x:Ln):Vm t (zx p x):=by
 unfold zx;split
 ·exact⟨h.st,h.st',h.fl,h.each,h.join⟩
 exact h
theorem yK{t:List UInt8}{p q:PS}{x:Ln}(a:zq t p x=.ok q):(ve p x=true->ji (zx p x)=0)/\zQ p x=false/\q=JK t (qT p x) x:=by
 unfold zq at a;split at a
 ·cases a
 rename_i b;split at a
 ·cases a
 rename_i c;cases a;refine⟨fun d => ?_,by simpa using c,rfl⟩;rcases Nat.decEq (ji (zx p x)) 0 with e|e
 ·exact absurd ⟨d,e⟩ b
 exact e
theorem yB{t:List UInt8}{p:PS}{x:Ln}(a:ve p x=true->ji (zx p x)=0)(b:zQ p x=false):zq t p x=.ok (JK t (qT p x) x):=by unfold zq;rw[if_neg (fun h=>h.2 (a h.1)),b];rfl
theorem Vm.then_{t:List UInt8}{p:PS}{x:Ln}(h:Vm t p)(a:ve p x=true->ji (zx p x)=0):Vm t (qT p x):=by
 unfold qT;split
 ·rename_i b;exact(h.went x).endField (a b)
 exact h.went x
theorem Vm.put{t:List UInt8}{p:PS}{x:Ln}(h:Vm t p)(a:p.at_<=x.at_):Vm t (JK t p x):=by
 unfold JK;split
 ·exact⟨h.st,h.st',h.fl,h.each,h.join⟩
 split
 ·refine(h.endBlock x.at_ a).endItem 1 _ ?_;rw[yo t p _ a];omega
 exact h
theorem Vm.take{t:List UInt8}{p q:PS}{x:Ln}(h:Vm t p)(b:p.at_<=x.at_)(c:zq t p x=.ok q):Vm t q:=by obtain⟨a,_,rfl⟩:=yK c;exact(h.then_ a).put (by rw[jc1];exact b)
def jnM:Nat->Nat->List Ln->Prop
 | _,_,[]=>True
 | no,c,x::xs=>x.no=no/\x.at_=c/\1<=x.bytes.length/\jnM (no+1) (c+x.bytes.length) xs
theorem Jc:∀(n b a:Nat) (l:List UInt8),l.length<=n->jnM b a (jR b a l)
 | 0,b,a,l,h=>by have:l=[]:=List.length_eq_zero_iff.1 (by omega);subst this;rw[jr];trivial
 | n+1,b,a,l,h=>by
  by_cases hl:l=[]
  ·subst hl;rw[jr];trivial
  have d:=qP l hl;rw[jC _ _ _ hl];have c:(Ln.bytes ⟨b,a,head l,nl l⟩).length=qK l:=by unfold Ln.bytes qK;simp only[joK];split<;>rfl
  refine⟨rfl,rfl,by rw[c];exact d,?_⟩;rw[c];exact Jc n _ _ _ (by simp only[joX];omega)
theorem jdg(t:List UInt8):∀(g:List Ln) (j c:Nat) (p q:PS),jnM j c g->j<=c->Inv p c->Vm t p->qU t p g=.ok q->Inv q (c+(g.flatMap Ln.bytes).length)/\Vm t q/\∀x∈g,x.ended=true
 | [],j,c,p,q,_,_,i,l,f=>by cases f;exact⟨by simpa using i,l,fun x h=>by cases h⟩
 | x::g,j,c,p,q,u,z,i,l,f=>by
  obtain⟨A,o,C,w⟩:=u;unfold qU at f;cases k:zq t p x with
  | error e=>rw[k]at f;cases f
  | ok v =>
  rw[k]at f;dsimp only at f;rw[<- o]at i;obtain⟨n,r⟩:=Inv.take i (by omega) k;have s:=l.take i.at_ k
  rw[o]at n;obtain⟨a,b,d⟩:=jdg t g (j+1) (c+x.bytes.length) v q w (by omega) n s f;refine⟨?_,b,fun y m => ?_⟩
  ·rw[jo5,joK,<- jqu];exact a
  rcases List.mem_cons.1 m with rfl|m
  ·exact r
  exact d y m
theorem QS{t:List UInt8}{its:List It}(h:jD t=.ok its):∃p,qU t PS.new (jf t)=.ok p/\ji p=0/\its=(jk t (jd p) t.length).items/\Vm t (jk t (jd p) t.length)/\Inv (jk t (jd p) t.length) t.length/\(jd p).at_<=t.length:=by
 unfold jD at h;cases d:qU t PS.new (jf t) with
 | error e=>rw[d]at h;cases h
 | ok p =>
 rw[d]at h;dsimp only at h;unfold ZS at h;split at h
 ·cases h
 rename_i c;have c:ji p=0:=by simpa using c
 cases h;obtain⟨a,b,_⟩:=jdg t _ 0 0 _ _ (Jc _ 0 0 t (joJ _)) (joJ _) Inv.new (Vm.new t) d;rw[show jR 0 0 t=jf t from rfl,jL,jpl]at a;exact⟨p,rfl,c,rfl,(b.endField c).endBlock _ a.endField.at_,a.endField.endBlock t _ a.endField.at_ (joJ _),a.endField.at_⟩
theorem ye{t:List UInt8}{its:List It}(h:jD t=.ok its):its.flatMap It.raw=t/\its.length<=t.length/\∀d∈its,d.fields.length<=40/\d.raw.length<=t.length:=by
 obtain⟨p,_,_,rfl,g,i,f⟩:=QS h;have j:=yo t (jd p) t.length f
 have c:=g.join;rw[j,jpa]at c;refine⟨c,by have:=i.items;rw[j]at this;exact this,fun d k=>⟨g.each d k,?_⟩⟩;obtain⟨a,b,e⟩:=jqR k;rw[e,jpo,jo5]at c;have:=congrArg List.length c
 simp only[joK]at this;omega
theorem Xk:∀(a b:List Ln) (f c:Nat) (l:List UInt8),jR f c l=a++b->(∀x∈a,x.ended=true) ->
  jR f c (l.take (a.flatMap Ln.bytes).length)=a/\b=jR (f+a.length) (c+(a.flatMap Ln.bytes).length) (l.drop (a.flatMap Ln.bytes).length)
 | [],b,f,c,l,h,_=>by refine⟨by simp[jr],?_⟩;simpa using h.symm
 | x::a,b,f,c,l,h,u=>by
  have hl:l≠[]:=by rintro rfl;rw[jr]at h;cases h
  rw[jC _ _ _ hl,jo6]at h;obtain⟨hx,z⟩:=List.cons.inj h;have t:x.bytes.length=qK l:=by rw[<- hx];unfold Ln.bytes qK;simp only[joK];split<;>rfl
  have e:nl l=true:=by have:=u x joV;rw[<- hx]at this;exact this
  obtain⟨C,D⟩:=Xk a b (f+1) (c+qK l) (l.drop (qK l)) z (fun y A=>u y (joU _ A));have i:=zu l
  rw[e,if_pos rfl]at i;have v:qK l=(head l).length+1:=by unfold qK;rw[e];rfl
  have j:=vT _ f c l (joJ _) ⟨f,c,head l,nl l⟩ (by rw[jC _ _ _ hl];exact joV);have g:((x::a).flatMap Ln.bytes).length=qK l+(a.flatMap Ln.bytes).length:=by rw[jo5,joK,t]
  rw[g];rw[e]at hx;clear g t e;generalize head l=d at *
  generalize w:l.drop (qK l)=r at *
  rw[v]at *
  have n:l=d++10::r:=by rw[i];simp
  clear i v;generalize (a.flatMap Ln.bytes).length=m at *
  have o:l.take (d.length+1+m)=d++10::r.take m:=by rw[n,List.take_append,jpi (by omega),show d.length+1+m-d.length=m+1 by omega];simp
  refine⟨?_,?_⟩
  ·rw[o,jC _ _ _ (by simp)];obtain⟨q,s⟩:=Xw d (r.take m) j;have p:qK (d++10::r.take m)=d.length+1:=by unfold qK;rw[q,s];rfl
   have k:(d++10::r.take m).drop (d.length+1)=r.take m:=by rw[show d++10::r.take m=(d++[10])++r.take m by simp];exact jp9 (by simp)
   rw[q,s,p,k,C,<- hx]
  rw[D,<- w,jp7,joR,jqu f,Nat.add_comm 1,jqu c]
def re(p:PS)(n:Nat):PS:={p with begin_:=n}
def num:Nat->Nat->List (List UInt8)->List Ln
 | _,_,[]=>[]
 | no,c,l::r=>⟨no,c,l,true⟩::num (no+1) (c+l.length+1) r
theorem xx:∀(b:List (List UInt8)) (a c:Nat),(∀l∈b,(10:UInt8)∉l)->jR a c (jq b)=num a c b
 | [],a,c,_=>rfl
 | l::r,a,c,h=>by
  have e:jq (l::r)=l++10::jq r:=by unfold jq;simp
  obtain⟨d,f⟩:=Xw l (jq r) (h l joV);have i:qK (l++10::jq r)=l.length+1:=by unfold qK;rw[d,f];rfl
  rw[e,jC _ _ _ (by simp),d,f,i];have g:(l++10::jq r).drop (l.length+1)=jq r:=by rw[show l++10::jq r=(l++[10])++jq r by simp];exact jp9 (by simp)
  rw[g,xx r _ _ (fun y j=>h y (joU _ j))];rfl
theorem JL:∀(a b:List (List UInt8)) (d c:Nat),num d c (a++b)=num d c a++num (d+a.length) (c+(jq a).length) b
 | [],b,d,c=>rfl
 | l::a,b,d,c=>by
  have:=JL a b (d+1) (c+l.length+1);show _::num _ _ (a++b)=_::_++_
  rw[this];have e:(jq (l::a)).length=l.length+1+(jq a).length:=by unfold jq;simp;omega
  rw[e,joR,show c+(l.length+1+(jq a).length)=c+l.length+1+(jq a).length by omega,show d+(a.length+1)=d+1+a.length by omega];rfl
theorem Yk{t:List UInt8}{p q:PS}{x:Ln}{xs:List Ln}(h:zq t p x=.ok q):qU t p (x::xs)=qU t q xs:=by show(match zq t p x with | .error e=>Except.error e | .ok q=>qU t q xs)=_;rw[h]
theorem jdf(t:List UInt8):∀(r:List (List UInt8)) (p:PS) (d c:Nat),p.said≠[]->(∀l∈r,jm l=3)->qU t p (num d c r)=.ok {p with said:=p.said++r}
 | [],p,d,c,_,_=>by show Except.ok p=_;rw[jo9]
 | l::r,p,d,c,n,i=>by
  have e:=i l joV;have f:vl p ⟨d,c,l,true⟩=true:=by
   unfold vl;rw[e];cases m:p.said with
   | nil=>exact absurd m n
   | cons a b=>rfl
  have j:zQ p ⟨d,c,l,true⟩=false:=by unfold zQ;rw[f,e];rfl
  have g:ve p ⟨d,c,l,true⟩=false:=by unfold ve;rw[j,f];rfl
  have o:zq t p ⟨d,c,l,true⟩=.ok {p with said:=p.said++[l]}:=by
   rw[yB (by rw[g];intro h;cases h) j];have k:qT p ⟨d,c,l,true⟩={p with said:=p.said++[l]}:=by unfold qT;rw[g,if_neg (by decide)];unfold zx;rw[f,if_pos rfl]
   rw[k];unfold JK;rw[e];rfl
  show qU t p (⟨d,c,l,true⟩::num (d+1) (c+l.length+1) r)=_;rw[Yk o,jdf t r _ _ _ (by simp) (fun y q=>i y (joU _ q))];simp
theorem jan{t:List UInt8}{p:PS}{no c:Nat}{l:List UInt8}(d:jm l≠3)(f:jm l≠5)(e:ji p=0):zq t p ⟨no,c,l,true⟩=.ok (JK t (jd p) ⟨no,c,l,true⟩):=by
 have b:vl p ⟨no,c,l,true⟩=false:=ZX d;have h:zQ p ⟨no,c,l,true⟩=false:=by unfold zQ;rw[b];simp[d,f]
 have g:ve p ⟨no,c,l,true⟩=true:=by unfold ve;rw[b];simp
 have a:zx p ⟨no,c,l,true⟩=p:=by unfold zx;rw[b];rfl
 rw[yB (by rw[a];exact fun _=>e) h];unfold qT;rw[g,if_pos rfl,a]
def jE(fs:List Fld):List (List UInt8):=fs.flatMap fun f=>jY f.1 f.2
theorem Zo{k v:List UInt8}(a:jF k=true):∃x r,jY k v=x::r/\jm x=4/\∀l∈r,jm l=3:=by
 have h:=jaW (v:=v) a;have e:jY k v=zP k ((jv v).headD [])::(jv v).tail.map jx:=rfl
 rw[e]at h ⊢;refine⟨_,_,rfl,?_⟩;unfold jaf at h;simp only[jpk,beq_iff_eq,jqn]at h;exact h
theorem KO(t:List UInt8):∀(b:List Fld) (p:PS) (a c:Nat),ji p=0->(∀f∈b,jF f.1=true/\f.2.length<=1000)->(jd p).fields.length+b.length<=40->(jd p).stanzas<=399 ->
  ∃q,qU t p (num a c (jE b))=.ok q/\ji q=0/\(jd q).fields=(jd p).fields++b/\(jd q).items=(jd p).items/\(jd q).stanzas=(jd p).stanzas/\(jd q).at_=(jd p).at_
 | [],p,a,c,g,_,_,_=>⟨p,rfl,g,by simp,rfl,rfl,rfl⟩
 | f::b,p,a,c,g,i,l,m=>by
  obtain⟨h,j⟩:=i f joV;obtain⟨x,r,e,u,s⟩:=Zo (v:=f.2) h;obtain⟨G,H,I⟩:=VC h j;have hl:jE (f::b)=(x::r)++jE b:=by unfold jE;rw[jo5,e]
  have n:zq t p ⟨a,c,x,true⟩=.ok {jd p with begin_:=a,said:=[x]}:=by rw[jan (by omega) (by omega) g];unfold JK;rw[if_pos u]
  have d:qU t p (num a c (x::r))=.ok {jd p with begin_:=a,said:=x::r}:=by show qU t p (⟨a,c,x,true⟩::num _ _ r)=_;rw[Yk n,jdf t r _ _ _ (by simp) s];rfl
  rw[hl,JL,vx,d];dsimp only;rw[joR]at l;have k:ji {jd p with begin_:=a,said:=x::r}=0:=by
   unfold ji;rw[if_neg (by simp)];show(if jy (x::r)≠0 then _ else _)=0
   rw[<- e,G,if_neg (by simp)];have:vU {jd p with begin_:=a,said:=jY f.1 f.2}=false:=by
    unfold vU;show(if (jd p).fields.length=0 then (jd p).stanzas==400 else (jd p).fields.length==40)=false
    split
    ·simp;omega
    simp;omega
   rw[this];rfl
  have hP:jd {jd p with begin_:=a,said:=x::r}={jd p with begin_:=a,said:=[],fields:=(jd p).fields++[f]}:=by
   unfold jd;rw[if_neg (by simp)];show {jd p with begin_:=a,said:=[],fields:=(jd p).fields++[(jW (x::r),jV (x::r))]}=_
   rw[<- e,H,I];rfl
  obtain⟨q,w,z,A,C,D,E⟩:=KO t b {jd p with begin_:=a,said:=x::r} (a+(x::r).length) (c+(jq (x::r)).length) k (fun y o=>i y (joU _ o)) (by rw[hP];simp;omega) (by rw[hP];exact m);refine⟨q,w,z,?_,?_,?_,?_⟩
  ·rw[A,hP];simp
  ·rw[C,hP]
  ·rw[D,hP]
  rw[E,hP]
end Go.Proofs.YtbapfpekklcicaaGreatDoor
