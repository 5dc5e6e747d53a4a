/- Texts put together:LM,KM,FM,PA,PO,PQ,PR,PU. -/
set_option linter.unusedVariables false
set_option maxRecDepth 100000
set_option maxHeartbeats 16000000
namespace Go.Proofs.YtimfhnfcmhmjcaaGreatDoor
abbrev jij:=@Nat.le_refl
abbrev jik:=@List.length_append
abbrev jin:=@List.length_cons
abbrev jir:=@List.mem_cons_of_mem
abbrev jis:=@List.mem_cons_self
abbrev jiw:=@List.length_drop
abbrev jiy:=@List.flatMap_cons
abbrev jiz:=@List.cons_append
abbrev jiI:=@Nat.le_trans
abbrev jiL:=@List.take_length
abbrev jiN:=@List.flatMap_append
abbrev jiO:=@List.append_nil
abbrev jiP:=@Nat.zero_add
abbrev jiQ:=@List.length_map
abbrev jiT:=@List.take_append_drop
abbrev jiX:=@List.map_cons
abbrev jiY:=@Bool.and_eq_true
abbrev jiZ:=@List.nil_append
abbrev ji2:=@List.take_of_length_le
abbrev jjc:=@List.takeWhile_cons
abbrev jjm:=@Bool.eq_iff_iff
abbrev jjo:=@List.drop_left'
abbrev jjA:=@List.map_map
abbrev jjC:=@List.drop_drop
abbrev jjE:=@Nat.add_assoc
abbrev jjP:=@List.sum_cons
abbrev jjR:=@List.all_takeWhile
abbrev jjX:=@List.takeWhile_append_of_pos
abbrev jj4:=@List.all_eq_true
abbrev jj5:=@List.flatMap_nil
abbrev jj6:=@List.take_append
abbrev jkb:=@List.all_cons
abbrev jkd:=@List.map_congr_left
abbrev jkr:=@Bool.not_eq_true'
end Go.Proofs.YtimfhnfcmhmjcaaGreatDoor
namespace Go.Proofs.YtimfhnfcmhmjcaaGreatDoor
structure Ln where
 no:Nat
 at_:Nat
 text:List UInt8
 ended:Bool
deriving DecidableEq
def head(l:List UInt8):List UInt8:=l.takeWhile (· != 10)
def nl(l:List UInt8):Bool:=l.contains 10
def zY(l:List UInt8):Nat:=(head l).length+if nl l then 1 else 0
def Jz:Nat->Nat->Nat->List UInt8->List Ln
 | 0,_,_,_=>[]
 | f+1,no,at_,l=>if l=[] then [] else ⟨no,at_,head l,nl l⟩::Jz f (no+1) (at_+zY l) (l.drop (zY l))
def jF(no at_:Nat)(l:List UInt8):List Ln:=Jz l.length no at_ l
def jg(l:List UInt8):List Ln:=jF 0 0 l
def Ln.bytes(x:Ln):List UInt8:=x.text++if x.ended then [10] else []
theorem jfR(l:List UInt8):(head l).length<=l.length:=by
 unfold head
 induction l with
 | nil=>simp
 | cons a t ih =>
 simp only[jjc]
 split
 ·simp;exact ih
 simp
theorem zi(l:List UInt8):l=head l++(if nl l then [10] else [])++l.drop (zY l):=by
 unfold zY
 induction l with
 | nil=>simp[head,nl]
 | cons a t ih =>
 by_cases h:a=10
 ·subst h;simp[head,nl]
 have e1:head (a::t)=a::head t:=by simp[head,h]
 have e2:nl (a::t)=nl t:=by simp[nl,Ne.symm h]
 rw[e1,e2]
 simp only[jin,jiz]
 rw[show(head t).length+1+(if nl t=true then 1 else 0)=((head t).length+if nl t=true then 1 else 0)+1 by omega,List.drop_succ_cons]
 exact congrArg (a :: ·) ih
theorem Vy(l:List UInt8):zY l<=l.length:=by
 have:=congrArg List.length (zi l)
 unfold zY at this ⊢
 simp only[jik,jiw]at this
 have h1:(if nl l=true then [(10:UInt8)] else []).length=if nl l=true then 1 else 0:=by split<;>rfl
 rw[h1]at this
 omega
theorem qd(l:List UInt8)(h:l≠[]):1<=zY l:=by
 unfold zY
 cases l with
 | nil=>exact absurd rfl h
 | cons a t =>
 by_cases h:a=10
 ·subst h;simp[nl]
 simp[head,h];omega
theorem ZB:∀(f g no at_:Nat) (l:List UInt8),l.length<=f->l.length<=g->Jz f no at_ l=Jz g no at_ l
 | 0,0,_,_,_,_,_=>rfl
 | 0,g+1,no,at_,l,h,_=>by
  have:l=[]:=List.length_eq_zero_iff.1 (by omega)
  simp[Jz,this]
 | f+1,0,no,at_,l,_,h=>by
  have:l=[]:=List.length_eq_zero_iff.1 (by omega)
  simp[Jz,this]
 | f+1,g+1,no,at_,l,h1,h2=>by
  unfold Jz
  split
  ·rfl
  rename_i hn
  have:=qd l hn
  rw[ZB f g _ _ _ (by simp only[jiw];omega) (by simp only[jiw];omega)]
theorem jn(no at_:Nat):jF no at_ []=[]:=rfl
theorem jq(no at_:Nat)(l:List UInt8)(h:l≠[]):jF no at_ l=⟨no,at_,head l,nl l⟩::jF (no+1) (at_+zY l) (l.drop (zY l)):=by
 unfold jF
 cases l with
 | nil=>exact absurd rfl h
 | cons a t =>
 have:=qd _ h
 rw[show(a::t).length=t.length+1 from rfl]
 conv=>lhs;unfold Jz
 rw[if_neg h,ZB t.length ((a::t).drop (zY (a::t))).length _ _ _ (by simp only[jiw,jin];omega) (jij _)]
theorem Jw:∀(n no at_:Nat) (l:List UInt8),l.length<=n->(jF no at_ l).flatMap Ln.bytes=l
 | 0,_,_,l,h=>by
  have:l=[]:=List.length_eq_zero_iff.1 (by omega)
  subst this;rfl
 | n+1,no,at_,l,h=>by
  by_cases hl:l=[]
  ·subst hl;rfl
  have hp:=qd l hl
  rw[jq _ _ _ hl,jiy,Jw n _ _ _ (by simp only[jiw];omega)]
  exact(zi l).symm
theorem jT(l:List UInt8):(jg l).flatMap Ln.bytes=l:=Jw _ _ _ _ (jij _)
theorem QY:∀(n no at_:Nat) (l:List UInt8),l.length<=n->∀pre x post,jF no at_ l=pre++x::post->x.no=no+pre.length/\x.at_=at_+(pre.flatMap Ln.bytes).length
 | 0,_,_,l,h,pre,x,post,e=>by
  have:l=[]:=List.length_eq_zero_iff.1 (by omega)
  subst this
  rw[jn]at e
  exact absurd (congrArg List.length e) (by simp)
 | n+1,no,at_,l,h,pre,x,post,e=>by
  by_cases hl:l=[]
  ·subst hl;rw[jn]at e;exact absurd (congrArg List.length e) (by simp)
  have hp:=qd l hl
  rw[jq _ _ _ hl]at e
  cases pre with
  | nil=>simp only[jiZ,List.cons.injEq]at e;obtain⟨rfl,_⟩:=e;simp
  | cons y pre =>
  simp only[jiz,List.cons.injEq]at e
  obtain⟨rfl,e⟩:=e
  obtain⟨a,b⟩:=QY n _ _ _ (by simp only[jiw];omega) pre x post e
  refine⟨by rw[a];simp;omega,?_⟩
  rw[b,jiy,jik]
  have:(Ln.bytes ⟨no,at_,head l,nl l⟩).length=zY l:=by
   unfold Ln.bytes zY;simp only[jik];split<;>rfl
  rw[this];omega
theorem qT(l:List UInt8)(pre:List Ln)(x:Ln)(post:List Ln)(e:jg l=pre++x::post):x.no=pre.length/\x.at_=(pre.flatMap Ln.bytes).length:=by
 have:=QY _ 0 0 l (jij _) pre x post e
 simpa using this
theorem vN:∀(n no at_:Nat) (l:List UInt8),l.length<=n->∀x∈jF no at_ l,(10:UInt8)∉x.text
 | 0,_,_,l,h,x,hx=>by
  have:l=[]:=List.length_eq_zero_iff.1 (by omega)
  subst this
  rw[jn]at hx;cases hx
 | n+1,no,at_,l,h,x,hx=>by
  by_cases hl:l=[]
  ·subst hl;rw[jn]at hx;cases hx
  have hp:=qd l hl
  rw[jq _ _ _ hl]at hx
  rcases List.mem_cons.1 hx with rfl|hx
  ·intro hm
   have:=jjR (p:=fun(c:UInt8)=>c != 10) (l:=l)
   have:=List.all_eq_true.1 this 10 hm
   simp at this
  exact vN n _ _ _ (by simp only[jiw];omega) x hx
theorem yK:∀(n no at_:Nat) (l:List UInt8),l.length<=n->(jF no at_ l).length<=l.length
 | 0,_,_,l,h=>by
  have:l=[]:=List.length_eq_zero_iff.1 (by omega)
  subst this;simp[jn]
 | n+1,no,at_,l,h=>by
  by_cases hl:l=[]
  ·subst hl;simp[jn]
  have hp:=qd l hl
  rw[jq _ _ _ hl]
  have:=yK n (no+1) (at_+zY l) (l.drop (zY l)) (by simp only[jiw];omega)
  simp only[jin,jiw]at this ⊢
  have:=Vy l
  omega
theorem qy(l:List UInt8):(jg l).length<=l.length:=yK _ _ _ _ (jij _)
def qI(c:UInt8):Bool:=c==32 || c==9
def vg:List UInt8->Bool
 | []=>false
 | c::_=>qI c
def Jc:List UInt8->Bool
 | []=>false
 | c::_=>c==35
def vu(l:List UInt8)(c:UInt8):Bool:=l.contains c
def zh(l:List UInt8):Bool:=l.all qI
def jR(k:List UInt8):Bool:=decide (1<=k.length)&&decide (k.length<=32) && !vg k && !Jc k && !vu k 58 && !vu k 10
def before(l:List UInt8):List UInt8:=l.takeWhile (· != 58)
def jz(l:List UInt8):Nat :=
 if vu l 10=true then 5 else if zh l=true then 1 else if Jc l=true then 2 else if vg l=true then 3 else if vu l 58=true/\jR (before l)=true then 4 else 5
theorem ZH(a b:List UInt8)(c:UInt8):vu (a++b) c=(vu a c || vu b c):=by
 unfold vu;rw[jjm];simp
theorem ZG(a:UInt8)(b:List UInt8)(c:UInt8):vu (a::b) c=((c==a) || vu b c):=by
 unfold vu;rw[List.contains_cons]
theorem WT{l:List UInt8}{c:UInt8}(h:c∉l):vu l c=false:=by unfold vu;simpa using h
theorem xJ(a b:List UInt8)(h:vu a 58=false):before (a++58::b)=a:=by
 unfold before
 have h':∀x∈a,(x != 58)=true:=by
  intro x hx;unfold vu at h
  have:(58:UInt8)∉a:=by simpa using h
  simp;rintro rfl;exact this hx
 rw[jjX h',jjc,if_neg (by simp),jiO]
theorem qU{k:List UInt8}(h:jR k=true):1<=k.length/\k.length<=32/\vg k=false/\Jc k=false/\vu k 58=false/\vu k 10=false:=by
 unfold jR at h
 simp only[jiY,decide_eq_true_eq,jkr]at h
 exact⟨h.1.1.1.1.1,h.1.1.1.1.2,h.1.1.1.2,h.1.1.2,h.1.2,h.2⟩
theorem jbN{k r:List UInt8}(h:jR k=true)(hr:vu r 10=false):jz (k++58::r)=4:=by
 obtain⟨a1,a0,a2,a3,a4,a5⟩:=qU h
 have b1:vu (k++58::r) 10=false:=by
  rw[ZH,a5,Bool.false_or,ZG,hr];rfl
 have b2:vu (k++58::r) 58=true:=by
  rw[ZH,ZG];simp
 have b3:=xJ k r a4
 cases k with
 | nil=>simp at a1
 | cons c t =>
 have b4:vg (c::t++58::r)=false:=a2
 have b5:Jc (c::t++58::r)=false:=a3
 have b6:zh (c::t++58::r)=false:=by
  have:qI c=false:=a2
  unfold zh
  rw[jiz,jkb,this];rfl
 unfold jz
 rw[b1,if_neg (by decide),b6,if_neg (by decide),b5,if_neg (by decide),b4,if_neg (by decide),b2,b3,h];rfl
theorem Xy(b:List UInt8):∀a:List UInt8,(a++58::b).drop (a.length+1)=b
 | []=>rfl
 | _::a=>Xy b a
def jy:List UInt8->List (List UInt8)
 | []=>[[]]
 | c::t=>if c=10 then []::jy t else (c::(jy t).headD [])::(jy t).tail
def qZ:List (List UInt8)->List UInt8
 | []=>[]
 | [p]=>p
 | p::q::r=>p++10::qZ (q::r)
theorem Kk(p:List UInt8)(r:List (List UInt8))(h:r≠[]):qZ (p::r)=p++10::qZ r:=by
 cases r with
 | nil=>exact absurd rfl h
 | cons q r=>rfl
theorem jZ(l:List UInt8):jy l=(jy l).headD []::(jy l).tail:=by
 cases l with
 | nil=>rfl
 | cons c t=>unfold jy;split<;>rfl
theorem jbn(l:List UInt8):jy l≠[]:=by rw[jZ];simp
theorem yl:∀(l:List UInt8),∀p∈jy l,(10:UInt8)∉p
 | [],p,h=>by unfold jy at h;simp at h;subst h;simp
 | c::t,p,h=>by
  have ih:=yl t
  rw[jZ t]at ih
  unfold jy at h
  split at h
  ·rw[jZ t]at h
   rcases List.mem_cons.1 h with rfl|h
   ·simp
   exact ih p h
  rename_i hc
  rcases List.mem_cons.1 h with rfl|h
  ·intro hm
   rcases List.mem_cons.1 hm with e|hm
   ·exact hc e.symm
   exact ih _ (by simp) hm
  exact ih p (jir _ h)
theorem vy:∀(l:List UInt8),(jy l).length=l.count 10+1
 | []=>rfl
 | c::t=>by
  have ih:=vy t
  unfold jy
  split
  ·rename_i hc;subst hc;rw[jin,ih,List.count_cons_self]
  rename_i hc
  rw[List.count_cons_of_ne hc,<- ih,jZ t];simp
theorem Zn:∀(l:List UInt8),qZ (jy l)=l
 | []=>rfl
 | c::t=>by
  have ih:=Zn t
  unfold jy
  split
  ·rename_i hc;subst hc
   rw[Kk _ _ (jbn t),ih];rfl
  rw[jZ t]at ih
  generalize (jy t).headD []=p at *
  generalize (jy t).tail=r at *
  cases r with
  | nil=>simp only[qZ]at ih ⊢;rw[ih]
  | cons q r=>simp only[qZ]at ih ⊢;rw[<- ih];rfl
theorem Kg(c:UInt8)(t:List UInt8):jy (c::t)=if c=10 then []::jy t else (c::(jy t).headD [])::(jy t).tail:=rfl
theorem QL:∀(p r:List UInt8),(10:UInt8)∉p->jy (p++10::r)=p::jy r
 | [],r,_=>by simp[jy]
 | c::p,r,h=>by
  have hc:c≠10:=fun e=>h (by rw[e];simp)
  have ih:=QL p r (fun e=>h (jir _ e))
  rw[jiz,Kg,if_neg hc,ih];rfl
theorem QM:∀(p:List UInt8),(10:UInt8)∉p->jy p=[p]
 | [],_=>rfl
 | c::p,h=>by
  have hc:c≠10:=fun e=>h (by rw[e];simp)
  have ih:=QM p (fun e=>h (jir _ e))
  unfold jy
  rw[if_neg hc,ih];rfl
def qk(k l:List UInt8):List UInt8:=if l=[] then k++[58] else k++58::32::l
def JI(l:List UInt8):Bool:=zh l || (l.head?==some 46)
def jG(l:List UInt8):List UInt8:=if JI l then 32::46::l else 32::l
def jX(k v:List UInt8):List (List UInt8):=qk k ((jy v).headD [])::(jy v).tail.map jG
def za(k v:List UInt8):Nat:=if jR k then (if v.length<=1000 then 0 else 6) else 5
def jk(ls:List (List UInt8)):List UInt8:=ls.flatMap fun l=>l++[10]
def vA(l:List UInt8):List UInt8:=if l.head?=some 32 then l.tail else l
def zu(l:List UInt8):List UInt8:=if l.head?=some 46 then l.tail else l
def vq(l:List UInt8):List UInt8:=l.drop ((before l).length+1)
def Gj:List (List UInt8)->Bool
 | []=>false
 | a::r=>(jz a==4)&&r.all (fun l=>jz l==3)
def VG(ls:List (List UInt8)):List (List UInt8):=vA (vq (ls.headD []))::ls.tail.map fun l=>zu l.tail
def vh(ls:List (List UInt8)):List UInt8:=qZ (VG ls)
def jU(ls:List (List UInt8)):Nat:=if Gj ls then (if (vh ls).length<=1000 then 0 else 6) else 2
def zA(ls:List (List UInt8)):List UInt8:=if jU ls=0 then before (ls.headD []) else []
def zy(ls:List (List UInt8)):List UInt8:=if jU ls=0 then vh ls else []
theorem GC(k v:List UInt8):(jX k v).length=v.count 10+1:=by
 rw[<- vy,jZ v];unfold jX;simp
theorem xz{l:List UInt8}(h:(10:UInt8)∉l):(10:UInt8)∉jG l:=by
 unfold jG;split<;>simp[h]
theorem Kx{k l:List UInt8}(hk:vu k 10=false)(h:(10:UInt8)∉l):(10:UInt8)∉qk k l:=by
 have hk':(10:UInt8)∉k:=by unfold vu at hk;simpa using hk
 unfold qk;split<;>simp[h,hk']
theorem yD(v:List UInt8):(10:UInt8)∉(jy v).headD []:=yl v _ (by rw[jZ v];simp)
theorem Qw(v:List UInt8):∀p∈(jy v).tail,(10:UInt8)∉p:=fun p hp=>yl v p (List.mem_of_mem_tail hp)
theorem Jy{k:List UInt8}(v:List UInt8)(hk:jR k=true):∀l∈jX k v,(10:UInt8)∉l:=by
 intro l hl
 unfold jX at hl
 rcases List.mem_cons.1 hl with rfl|hl
 ·exact Kx (qU hk).2.2.2.2.2 (yD v)
 obtain⟨p,hp,rfl⟩:=List.mem_map.1 hl
 exact xz (Qw v p hp)
theorem Xl{l:List UInt8}(h:(10:UInt8)∉l):jz (jG l)=3:=by
 have hc:=WT (xz h)
 unfold jG at hc ⊢
 unfold jz
 by_cases hd:JI l=true
 ·rw[if_pos hd]at hc ⊢
  rw[hc]
  simp[zh,qI,Jc,vg]
 rw[if_neg hd]at hc ⊢
 have hb:zh l=false:=by unfold JI at hd;cases h:zh l<;>simp[h]at hd ⊢
 have hb2:zh (32::l)=false:=by unfold zh at hb ⊢;rw[jkb,hb];simp
 rw[hc,hb2]
 simp[qI,Jc,vg]
theorem Xm(l:List UInt8):zu (jG l).tail=l:=by
 unfold jG
 by_cases hd:JI l=true
 ·rw[if_pos hd];simp[zu]
 rw[if_neg hd]
 have:¬l.head?=some 46:=fun e=>hd (by unfold JI;rw[e];simp)
 simp[zu,this]
theorem Vh(k l:List UInt8):∃r,qk k l=k++58::r/\vA r=l/\((10:UInt8)∉l->vu r 10=false):=by
 unfold qk
 by_cases h:l=[]
 ·subst h;exact⟨[],by simp,by simp[vA],fun _=>by simp[vu]⟩
 rw[if_neg h];exact⟨32::l,rfl,by simp[vA],fun hl=>by rw[ZG,WT hl];rfl⟩
theorem jah{k l:List UInt8}(hk:jR k=true)(h:(10:UInt8)∉l):jz (qk k l)=4:=by
 obtain⟨r,e,_,h2⟩:=Vh k l
 rw[e];exact jbN hk (h2 h)
theorem JF{k l:List UInt8}(hk:jR k=true):before (qk k l)=k/\vA (vq (qk k l))=l:=by
 obtain⟨r,e,h1,_⟩:=Vh k l
 have hb:=xJ k r (qU hk).2.2.2.2.1
 rw[e]
 refine⟨hb,?_⟩
 unfold vq
 rw[hb,Xy,h1]
theorem YZ{k v:List UInt8}(hk:jR k=true):Gj (jX k v)=true:=by
 unfold jX
 show(jz _==4&&_)=true
 rw[jah hk (yD v),jiY]
 refine⟨rfl,?_⟩
 rw[jj4]
 intro l hl
 obtain⟨p,hp,rfl⟩:=List.mem_map.1 hl
 rw[Xl (Qw v p hp)];rfl
theorem QW{k v:List UInt8}(hk:jR k=true):vh (jX k v)=v:=by
 have:VG (jX k v)=jy v:=by
  unfold VG jX
  simp only[List.headD_cons,List.tail_cons,jjA]
  rw[(JF hk).2]
  conv=>rhs;rw[jZ v]
  congr 1
  conv=>rhs;rw[<- List.map_id (jy v).tail]
  apply jkd
  intro l _
  exact Xm l
 unfold vh
 rw[this,Zn]
theorem YX{k v:List UInt8}(hk:jR k=true)(hv:v.length<=1000):jU (jX k v)=0/\zA (jX k v)=k/\zy (jX k v)=v:=by
 have h:jU (jX k v)=0:=by
  unfold jU;rw[YZ hk,QW hk,if_pos rfl,if_pos hv]
 refine⟨h,?_,?_⟩
 ·unfold zA;rw[if_pos h];unfold jX;exact(JF hk).1
 unfold zy;rw[if_pos h,QW hk]
theorem ZF:∀(p r:List UInt8),(10:UInt8)∉p->head (p++10::r)=p/\nl (p++10::r)=true
 | p,r,h=>by
  have h':∀x∈p,(x != 10)=true:=by intro x hx;simp;rintro rfl;exact h hx
  refine⟨?_,by unfold nl;simp⟩
  unfold head
  rw[jjX h',jjc,if_neg (by simp),jiO]
theorem vj(a b:List (List UInt8)):jk (a++b)=jk a++jk b:=by unfold jk;simp
theorem xp:∀(ls:List (List UInt8)),(jk ls).length=(ls.map List.length).sum+ls.length
 | []=>rfl
 | l::r=>by
  have e:jk (l::r)=l++10::jk r:=by unfold jk;simp
  rw[e,jik,jin,xp r];simp;omega
theorem Vb:∀(ls:List (List UInt8)),(qZ ls).length<=(ls.map List.length).sum+ls.length
 | []=>by simp[qZ]
 | [p]=>by simp[qZ]
 | p::q::r=>by
  have ih:=Vb (q::r)
  show(p++10::qZ (q::r)).length<=_
  rw[jik,jin]
  simp only[jiX,jjP,jin]at ih ⊢;omega
theorem VN:∀(l:List UInt8),((jy l).map List.length).sum+(jy l).length=l.length+1
 | []=>rfl
 | c::t=>by
  have ih:=VN t
  rw[jZ t]at ih
  unfold jy
  split
  ·rw[jZ t];simp at ih ⊢;omega
  simp at ih ⊢;omega
theorem Jt:∀(r:List (List UInt8)),((r.map jG).map List.length).sum<=(r.map List.length).sum+2*r.length
 | []=>by simp
 | p::r=>by
  have ih:=Jt r
  have h:(jG p).length<=p.length+2:=by unfold jG;split<;>simp
  simp only[jiX,jjP,jin]at ih ⊢;omega
theorem YY(k v:List UInt8):((jX k v).map List.length).sum+(jX k v).length<=k.length+3*v.length+8:=by
 have a:=VN v
 rw[jZ v]at a
 have b:=Jt (jy v).tail
 have c:(qk k ((jy v).headD [])).length<=k.length+((jy v).headD []).length+2:=by unfold qk;split<;>simp<;>omega
 unfold jX
 simp only[jiX,jjP,jin,jiQ]at a b ⊢
 omega
theorem jcq(l:List UInt8):(vA l).length<=l.length:=by unfold vA;split<;>simp
theorem jao(l:List UInt8):(zu l).length<=l.length:=by unfold zu;split<;>simp
theorem jcU(l:List UInt8):(vq l).length<=l.length:=by unfold vq;rw[jiw];omega
theorem Wi:∀r:List (List UInt8),((r.map fun l=>zu l.tail).map List.length).sum<=(r.map List.length).sum
 | []=>by simp
 | a::r=>by
  have ih:=Wi r
  have h:=jao a.tail
  have h2:a.tail.length<=a.length:=by simp
  simp only[jiX,jjP]at ih ⊢
  omega
theorem jdi(ls:List (List UInt8)):(vh ls).length<=(ls.map List.length).sum+ls.length+1:=by
 have h:=Vb (VG ls)
 have hl:(VG ls).length<=ls.length+1:=by unfold VG;cases ls<;>simp
 have hs:((VG ls).map List.length).sum<=(ls.map List.length).sum:=by
  cases ls with
  | nil=>decide
  | cons a r =>
  unfold VG
  have h1:=Wi r
  have h2:=jcq (vq a)
  have h3:=jcU a
  simp only[List.headD_cons,List.tail_cons,jiX,jjP]at h1 ⊢
  omega
 unfold vh
 omega
abbrev Fld:=List UInt8×List UInt8
structure It where
 kind:Int
 raw:List UInt8
 fields:List Fld
deriving DecidableEq
structure PS where
 begin_:Nat
 said:List (List UInt8)
 items:List It
 stanzas:Nat
 at_:Nat
 fields:List Fld
deriving DecidableEq
def PS.new:PS:=⟨0,[],[],0,0,[]⟩
abbrev Res(α:Type):=Except (Nat×Nat) α
def xB(p:PS):Bool:=if p.fields.length=0 then p.stanzas==400 else p.fields.length==40
def jh(p:PS):Nat:=if p.said=[] then 0 else if jU p.said≠0 then jU p.said else if xB p then 11 else 0
def jd(p:PS):PS:=if p.said=[] then p else {p with fields:=p.fields++[(zA p.said,zy p.said)],said:=[]}
def jY(text:List UInt8)(p:PS)(kind end_:Nat):PS:={p with items:=p.items++[⟨kind,(text.take end_).drop p.at_,p.fields⟩],at_:=end_,fields:=[]}
def jr(text:List UInt8)(p:PS)(end_:Nat):PS :=
 if p.at_=end_ then p else if p.fields.length=0 then jY text p 2 end_ else {jY text p 3 end_ with stanzas:=p.stanzas+1}
def qE(p:PS)(x:Ln):Bool:=jz x.text==3 && !(p.said.isEmpty)
def zv(p:PS)(x:Ln):PS:=if qE p x then {p with said:=p.said++[x.text]} else p
def jL(p:PS)(x:Ln):Bool:=jz x.text==5 || (jz x.text==3 && !qE p x) || !x.ended
def qv(p:PS)(x:Ln):Bool:=jL p x || !qE p x
def xv(text:List UInt8)(p:PS)(x:Ln):PS :=
 if jz x.text=4 then {p with begin_:=x.no,said:=[x.text]}
 else if jz x.text=1 then jY text (jr text p x.at_) 1 (x.at_+x.text.length+1)
 else p
def zC(p:PS)(x:Ln):PS:=if qv p x then jd (zv p x) else zv p x
def jW(text:List UInt8)(p:PS)(x:Ln):Res PS :=
 if qv p x=true/\jh (zv p x)≠0 then .error ((zv p x).begin_,jh (zv p x))
 else if jL p x then .error (x.no,2)
 else .ok (xv text (zC p x) x)
def qG(text:List UInt8):PS->List Ln->Res PS
 | p,[]=>.ok p
 | p,x::xs=>match jW text p x with
  | .error e=>.error e
  | .ok q=>qG text q xs
def Xc(text:List UInt8)(p:PS):Res (List It) :=
 if jh p≠0 then .error (p.begin_,jh p) else .ok (jr text (jd p) text.length).items
def jA(text:List UInt8):Res (List It) :=
 match qG text PS.new (jg text) with
 | .error e=>.error e
 | .ok p=>Xc text p
theorem qr(text:List UInt8):∀(p:PS) (a b:List Ln),qG text p (a++b)=match qG text p a with | .error e=>.error e | .ok q=>qG text q b
 | p,[],b=>rfl
 | p,x::a,b=>by
  show(match jW text p x with | .error e=>_ | .ok q=>qG text q (a++b))=match (match jW text p x with | .error e=>_ | .ok q=>qG text q a) with | .error e=>_ | .ok q=>_
  cases jW text p x with
  | error e=>rfl
  | ok q=>exact qr text q a b
theorem UW(ls:List (List UInt8)):jU ls<=6:=by
 unfold jU
 split
 ·split<;>decide
 decide
structure Inv(p:PS)(c:Nat):Prop where
 at_:p.at_<=c
 items:p.items.length<=p.at_
 stanzas:p.stanzas<=p.at_
 begin_:p.begin_<=c
 fields:p.fields.length<=c
 said:(p.said.map List.length).sum+p.said.length<=c
 both:p.fields.length+p.said.length<=c
theorem Inv.new:Inv PS.new 0:=⟨jij _,jij _,jij _,jij _,jij _,jij _,jij _⟩
theorem Inv.mono{p:PS}{c d:Nat}(h:Inv p c)(hd:c<=d):Inv p d :=
 ⟨jiI h.at_ hd,h.items,h.stanzas,jiI h.begin_ hd,jiI h.fields hd,jiI h.said hd,jiI h.both hd⟩
theorem Inv.endField{p:PS}{c:Nat}(h:Inv p c):Inv (jd p) c:=by
 unfold jd
 split
 ·exact h
 rename_i hs
 have hb:=h.both
 have:1<=p.said.length:=by cases hp:p.said with | nil=>exact absurd hp hs | cons a l=>simp
 exact⟨h.at_,h.items,h.stanzas,h.begin_,by simp;omega,by simp,by simp;omega⟩
theorem Inv.endItem{p:PS}{c:Nat}(text:List UInt8)(kind e:Nat)(h:Inv p c)(h1:p.at_<e)(h2:e<=c):Inv (jY text p kind e) c:=by
 have a:=h.items;have b:=h.stanzas
 refine⟨h2,?_,?_,h.begin_,by simp[jY],h.said,?_⟩
 ·simp[jY];omega
 ·simp[jY];omega
 have:=h.both;simp[jY];omega
theorem Inv.endBlock{p:PS}{c:Nat}(text:List UInt8)(e:Nat)(h:Inv p c)(h1:p.at_<=e)(h2:e<=c):Inv (jr text p e) c:=by
 unfold jr
 split
 ·exact h
 split
 ·exact h.endItem text 2 e (by omega) h2
 have g:=h.endItem text 3 e (by omega) h2
 exact⟨g.at_,g.items,by have:=h.stanzas;show p.stanzas+1<=e;omega,g.begin_,g.fields,g.said,g.both⟩
theorem ZP(p:PS):(jd p).at_=p.at_:=by unfold jd;split<;>rfl
theorem xG(p:PS):(jd p).said=[]:=by unfold jd;split<;>simp_all
theorem vT(text:List UInt8)(p:PS)(e:Nat)(h:p.at_<=e):(jr text p e).at_=e:=by
 unfold jr
 split
 ·assumption
 split<;>rfl
theorem KY(p:PS)(x:Ln):(zv p x).at_=p.at_:=by unfold zv;split<;>rfl
theorem Inv.went{p:PS}{x:Ln}{c:Nat}(h:Inv p c):Inv (zv p x) (c+x.text.length+1):=by
 unfold zv
 split
 ·have a:=h.said;have b:=h.both
  refine⟨by have:=h.at_;show p.at_<=_;omega,h.items,h.stanzas,by have:=h.begin_;show p.begin_<=_;omega,by have:=h.fields;show p.fields.length<=_;omega,?_,?_⟩
  ·simp;omega
  simp;omega
 exact h.mono (by omega)
theorem Inv.then_{p:PS}{x:Ln}{c:Nat}(h:Inv p c):Inv (zC p x) (c+x.text.length+1):=by
 unfold zC
 split
 ·exact h.went.endField
 exact h.went
theorem Wf(p:PS)(x:Ln):(zC p x).at_=p.at_:=by
 unfold zC
 split
 ·rw[ZP,KY]
 exact KY p x
theorem UX{p:PS}{x:Ln}(h:qE p x=false):(zC p x).said=[]:=by
 unfold zC qv
 rw[h]
 simp only[Bool.not_false,Bool.or_true,if_true]
 exact xG _
theorem ZI{p:PS}{x:Ln}(h:jz x.text≠3):qE p x=false:=by unfold qE;simp[h]
theorem Inv.take{text:List UInt8}{p q:PS}{x:Ln}(h:Inv p x.at_)(hno:x.no<=x.at_)(he:jW text p x=.ok q):Inv q (x.at_+x.bytes.length)/\x.ended=true:=by
 unfold jW at he
 split at he
 ·cases he
 split at he
 ·cases he
 rename_i hw
 have hen:x.ended=true:=by
  cases hx:x.ended with
  | true=>rfl
  | false=>exact absurd (by unfold jL;rw[hx];simp) hw
 have hb:x.at_+x.bytes.length=x.at_+x.text.length+1:=by unfold Ln.bytes;rw[hen];simp;omega
 refine⟨?_,hen⟩
 rw[hb]
 cases he
 have t:=h.then_ (x:=x)
 unfold xv
 split
 ·rename_i hk
  have e:=UX (ZI (p:=p) (x:=x) (by omega))
  refine⟨t.at_,t.items,t.stanzas,by show x.no<=_;omega,t.fields,by simp,?_⟩
  have hf:(zC p x).fields.length<=x.at_:=by
   have g:=ZI (p:=p) (x:=x) (by omega)
   unfold zC qv zv
   rw[g]
   simp only[Bool.not_false,Bool.or_true,if_true]
   exact(Inv.endField h).fields
  simp;omega
 split
 ·have ta:=Wf p x
  have ha:=h.at_
  refine Inv.endItem text 1 _ (t.endBlock text x.at_ (by omega) (by omega)) ?_ (by omega)
  rw[vT text _ _ (by omega)];omega
 exact t
structure Jo(t:List UInt8)(p:PS):Prop where
 st:p.stanzas<=400
 st':p.fields≠[]->p.stanzas<=399
 fl:p.fields.length<=40
 each:∀it∈p.items,it.fields.length<=40
 join:p.items.flatMap It.raw=t.take p.at_
theorem Jo.new(t:List UInt8):Jo t PS.new:=⟨by decide,fun h=>absurd rfl h,by decide,(fun it h=>by cases h),rfl⟩
theorem Jo.endField{t:List UInt8}{p:PS}(h:Jo t p)(h0:jh p=0):Jo t (jd p):=by
 unfold jd
 split
 ·exact h
 rename_i hs
 unfold jh at h0
 rw[if_neg hs]at h0
 split at h0
 ·rename_i hu;exact absurd h0 hu
 have hfull:xB p=false:=by
  cases hf:xB p with
  | false=>rfl
  | true=>rw[hf]at h0;simp at h0
 unfold xB at hfull
 have fl:=h.fl
 have st:=h.st
 refine⟨h.st,fun _ => ?_,?_,h.each,h.join⟩
 ·show p.stanzas<=399
  split at hfull
  ·have:p.stanzas≠400:=by simpa using hfull
   omega
  rename_i hz
  exact h.st' (fun e=>hz (by rw[e];rfl))
 show(p.fields++[_]).length<=40
 rw[jik]
 split at hfull
 ·simp;omega
 have:p.fields.length≠40:=by simpa using hfull
 simp;omega
theorem Qk(t:List UInt8)(a e:Nat)(h:a<=e):t.take a++(t.take e).drop a=t.take e:=by
 conv=>rhs;rw[<- jiT a (t.take e),List.take_take,Nat.min_eq_left h]
theorem Jo.endItem{t:List UInt8}{p:PS}(h:Jo t p)(kind e:Nat)(hle:p.at_<=e):Jo t (jY t p kind e):=by
 refine⟨h.st,fun hn=>absurd rfl hn,by simp[jY],?_,?_⟩
 ·intro it hi
  rcases List.mem_append.1 hi with hi|hi
  ·exact h.each it hi
  rw[List.mem_singleton.1 hi];exact h.fl
 show(p.items++[_]).flatMap It.raw=t.take e
 rw[jiN,h.join]
 simp only[jiy,jj5,jiO]
 exact Qk t p.at_ e hle
theorem Jo.endBlock{t:List UInt8}{p:PS}(h:Jo t p)(e:Nat)(hle:p.at_<=e):Jo t (jr t p e):=by
 unfold jr
 split
 ·exact h
 split
 ·exact h.endItem 2 e hle
 rename_i hz
 have g:=h.endItem 3 e hle
 have:=h.st' (fun e=>hz (by rw[e];rfl))
 exact⟨by show p.stanzas+1<=400;omega,fun hn=>absurd rfl hn,g.fl,g.each,g.join⟩
theorem Jo.went{t:List UInt8}{p:PS}(h:Jo t p)(x:Ln):Jo t (zv p x):=by
 unfold zv
 split
 ·exact⟨h.st,h.st',h.fl,h.each,h.join⟩
 exact h
theorem vv{t:List UInt8}{p q:PS}{x:Ln}(he:jW t p x=.ok q):(qv p x=true->jh (zv p x)=0)/\jL p x=false/\q=xv t (zC p x) x:=by
 unfold jW at he
 split at he
 ·cases he
 rename_i h1
 split at he
 ·cases he
 rename_i h2
 cases he
 refine⟨fun hn => ?_,by simpa using h2,rfl⟩
 rcases Nat.decEq (jh (zv p x)) 0 with e|e
 ·exact absurd ⟨hn,e⟩ h1
 exact e
theorem yP{t:List UInt8}{p:PS}{x:Ln}(h1:qv p x=true->jh (zv p x)=0)(h2:jL p x=false):jW t p x=.ok (xv t (zC p x) x):=by
 unfold jW
 rw[if_neg (fun h=>h.2 (h1 h.1)),h2];rfl
theorem Jo.then_{t:List UInt8}{p:PS}{x:Ln}(h:Jo t p)(h1:qv p x=true->jh (zv p x)=0):Jo t (zC p x):=by
 unfold zC
 split
 ·rename_i he;exact(h.went x).endField (h1 he)
 exact h.went x
theorem Jo.put{t:List UInt8}{p:PS}{x:Ln}(h:Jo t p)(ha:p.at_<=x.at_):Jo t (xv t p x):=by
 unfold xv
 split
 ·exact⟨h.st,h.st',h.fl,h.each,h.join⟩
 split
 ·refine(h.endBlock x.at_ ha).endItem 1 _ ?_
  rw[vT t p _ ha];omega
 exact h
theorem Jo.take{t:List UInt8}{p q:PS}{x:Ln}(h:Jo t p)(ha:p.at_<=x.at_)(he:jW t p x=.ok q):Jo t q:=by
 obtain⟨h1,_,rfl⟩:=vv he
 exact(h.then_ h1).put (by rw[Wf];exact ha)
def jhQ:Nat->Nat->List Ln->Prop
 | _,_,[]=>True
 | no,c,x::xs=>x.no=no/\x.at_=c/\1<=x.bytes.length/\jhQ (no+1) (c+x.bytes.length) xs
theorem Jv:∀(n no at_:Nat) (l:List UInt8),l.length<=n->jhQ no at_ (jF no at_ l)
 | 0,no,at_,l,h=>by
  have:l=[]:=List.length_eq_zero_iff.1 (by omega)
  subst this;rw[jn];trivial
 | n+1,no,at_,l,h=>by
  by_cases hl:l=[]
  ·subst hl;rw[jn];trivial
  have hp:=qd l hl
  rw[jq _ _ _ hl]
  have hb:(Ln.bytes ⟨no,at_,head l,nl l⟩).length=zY l:=by
   unfold Ln.bytes zY;simp only[jik];split<;>rfl
  refine⟨rfl,rfl,by rw[hb];exact hp,?_⟩
  rw[hb]
  exact Jv n _ _ _ (by simp only[jiw];omega)
theorem Wp(t:List UInt8):∀(xs:List Ln) (no c:Nat) (p q:PS),jhQ no c xs->no<=c->Inv p c->Jo t p->qG t p xs=.ok q->Inv q (c+(xs.flatMap Ln.bytes).length)/\Jo t q/\∀x∈xs,x.ended=true
 | [],no,c,p,q,_,_,hi,hg,he=>by
  cases he
  exact⟨by simpa using hi,hg,fun x h=>by cases h⟩
 | x::xs,no,c,p,q,hr,hn,hi,hg,he=>by
  obtain⟨r1,r2,r3,r4⟩:=hr
  unfold qG at he
  cases ht:jW t p x with
  | error e=>rw[ht]at he;cases he
  | ok p1 =>
  rw[ht]at he
  dsimp only at he
  rw[<- r2]at hi
  obtain⟨i1,e1⟩:=Inv.take hi (by omega) ht
  have g1:=hg.take hi.at_ ht
  rw[r2]at i1
  obtain⟨a,b,d⟩:=Wp t xs (no+1) (c+x.bytes.length) p1 q r4 (by omega) i1 g1 he
  refine⟨?_,b,fun y hy => ?_⟩
  ·rw[jiy,jik,<- jjE];exact a
  rcases List.mem_cons.1 hy with rfl|hy
  ·exact e1
  exact d y hy
theorem Jb{t:List UInt8}{its:List It}(h:jA t=.ok its):∃p,qG t PS.new (jg t)=.ok p/\jh p=0/\its=(jr t (jd p) t.length).items/\Jo t (jr t (jd p) t.length)/\Inv (jr t (jd p) t.length) t.length/\(jd p).at_<=t.length:=by
 unfold jA at h
 cases hr:qG t PS.new (jg t) with
 | error e=>rw[hr]at h;cases h
 | ok p =>
 rw[hr]at h
 dsimp only at h
 unfold Xc at h
 split at h
 ·cases h
 rename_i h0
 have h0:jh p=0:=by simpa using h0
 cases h
 obtain⟨a,b,_⟩:=Wp t _ 0 0 _ _ (Jv _ 0 0 t (jij _)) (jij _) Inv.new (Jo.new t) hr
 rw[show jF 0 0 t=jg t from rfl,jT,jiP]at a
 exact⟨p,rfl,h0,rfl,(b.endField h0).endBlock _ a.endField.at_,a.endField.endBlock t _ a.endField.at_ (jij _),a.endField.at_⟩
theorem yB{t:List UInt8}{its:List It}(h:jA t=.ok its):its.flatMap It.raw=t/\its.length<=t.length/\∀it∈its,it.fields.length<=40/\it.raw.length<=t.length:=by
 obtain⟨p,_,_,rfl,g,i,hle⟩:=Jb h
 have ha:=vT t (jd p) t.length hle
 have hj:=g.join
 rw[ha,jiL]at hj
 refine⟨hj,by have:=i.items;rw[ha]at this;exact this,fun it hi=>⟨g.each it hi,?_⟩⟩
 obtain⟨a,b,e⟩:=List.append_of_mem hi
 rw[e,jiN,jiy]at hj
 have:=congrArg List.length hj
 simp only[jik]at this
 omega
theorem ZA:∀(a b:List Ln) (no at_:Nat) (l:List UInt8),jF no at_ l=a++b->(∀x∈a,x.ended=true) ->
  jF no at_ (l.take (a.flatMap Ln.bytes).length)=a/\b=jF (no+a.length) (at_+(a.flatMap Ln.bytes).length) (l.drop (a.flatMap Ln.bytes).length)
 | [],b,no,at_,l,h,_=>by
  refine⟨by simp[jn],?_⟩
  simpa using h.symm
 | x::a,b,no,at_,l,h,he=>by
  have hl:l≠[]:=by rintro rfl;rw[jn]at h;cases h
  rw[jq _ _ _ hl,jiz]at h
  obtain⟨hx,ht⟩:=List.cons.inj h
  have hb:x.bytes.length=zY l:=by
   rw[<- hx];unfold Ln.bytes zY;simp only[jik];split<;>rfl
  have hen:nl l=true:=by have:=he x jis;rw[<- hx]at this;exact this
  obtain⟨i1,i2⟩:=ZA a b (no+1) (at_+zY l) (l.drop (zY l)) ht (fun y hy=>he y (jir _ hy))
  have hsp:=zi l
  rw[hen,if_pos rfl]at hsp
  have hu:zY l=(head l).length+1:=by unfold zY;rw[hen];rfl
  have hcl:=vN _ no at_ l (jij _) ⟨no,at_,head l,nl l⟩ (by rw[jq _ _ _ hl];exact jis)
  have hlen:((x::a).flatMap Ln.bytes).length=zY l+(a.flatMap Ln.bytes).length:=by rw[jiy,jik,hb]
  rw[hlen]
  rw[hen]at hx
  clear hlen hb hen
  generalize head l=hd at *
  generalize hr:l.drop (zY l)=r at *
  rw[hu]at *
  have hl2:l=hd++10::r:=by rw[hsp];simp
  clear hsp hu
  generalize (a.flatMap Ln.bytes).length=m at *
  have htk:l.take (hd.length+1+m)=hd++10::r.take m:=by
   rw[hl2,jj6,ji2 (by omega),show hd.length+1+m-hd.length=m+1 by omega]
   simp
  refine⟨?_,?_⟩
  ·rw[htk,jq _ _ _ (by simp)]
   obtain⟨h1,h2⟩:=ZF hd (r.take m) hcl
   have hu2:zY (hd++10::r.take m)=hd.length+1:=by unfold zY;rw[h1,h2];rfl
   have hd2:(hd++10::r.take m).drop (hd.length+1)=r.take m:=by
    rw[show hd++10::r.take m=(hd++[10])++r.take m by simp]
    exact jjo (by simp)
   rw[h1,h2,hu2,hd2,i1,<- hx]
  rw[i2,<- hr,jjC,jin,jjE no,Nat.add_comm 1,jjE at_]
def re(p:PS)(n:Nat):PS:={p with begin_:=n}
def num:Nat->Nat->List (List UInt8)->List Ln
 | _,_,[]=>[]
 | no,c,l::r=>⟨no,c,l,true⟩::num (no+1) (c+l.length+1) r
theorem yV:∀(ts:List (List UInt8)) (no c:Nat),(∀l∈ts,(10:UInt8)∉l)->jF no c (jk ts)=num no c ts
 | [],no,c,_=>rfl
 | l::r,no,c,h=>by
  have e:jk (l::r)=l++10::jk r:=by unfold jk;simp
  obtain⟨h1,h2⟩:=ZF l (jk r) (h l jis)
  have hu:zY (l++10::jk r)=l.length+1:=by unfold zY;rw[h1,h2];rfl
  rw[e,jq _ _ _ (by simp),h1,h2,hu]
  have hd:(l++10::jk r).drop (l.length+1)=jk r:=by
   rw[show l++10::jk r=(l++[10])++jk r by simp]
   exact jjo (by simp)
  rw[hd,yV r _ _ (fun y hy=>h y (jir _ hy))]
  rfl
theorem yC:∀(a b:List (List UInt8)) (no c:Nat),num no c (a++b)=num no c a++num (no+a.length) (c+(jk a).length) b
 | [],b,no,c=>rfl
 | l::a,b,no,c=>by
  have:=yC a b (no+1) (c+l.length+1)
  show _::num _ _ (a++b)=_::_++_
  rw[this]
  have e:(jk (l::a)).length=l.length+1+(jk a).length:=by unfold jk;simp;omega
  rw[e,jin,show c+(l.length+1+(jk a).length)=c+l.length+1+(jk a).length by omega,show no+(a.length+1)=no+1+a.length by omega]
  rfl
theorem JV{t:List UInt8}{p q:PS}{x:Ln}{xs:List Ln}(h:jW t p x=.ok q):qG t p (x::xs)=qG t q xs:=by
 show(match jW t p x with | .error e=>Except.error e | .ok q=>qG t q xs)=_
 rw[h]
theorem Wo(t:List UInt8):∀(r:List (List UInt8)) (p:PS) (no c:Nat),p.said≠[]->(∀l∈r,jz l=3)->qG t p (num no c r)=.ok {p with said:=p.said++r}
 | [],p,no,c,_,_=>by show Except.ok p=_;rw[jiO]
 | l::r,p,no,c,hs,hk=>by
  have h3:=hk l jis
  have hg:qE p ⟨no,c,l,true⟩=true:=by
   unfold qE;rw[h3]
   cases hq:p.said with
   | nil=>exact absurd hq hs
   | cons a b=>rfl
  have hw:jL p ⟨no,c,l,true⟩=false:=by unfold jL;rw[hg,h3];rfl
  have he:qv p ⟨no,c,l,true⟩=false:=by unfold qv;rw[hw,hg];rfl
  have ht:jW t p ⟨no,c,l,true⟩=.ok {p with said:=p.said++[l]}:=by
   rw[yP (by rw[he];intro h;cases h) hw]
   have e1:zC p ⟨no,c,l,true⟩={p with said:=p.said++[l]}:=by
    unfold zC;rw[he,if_neg (by decide)];unfold zv;rw[hg,if_pos rfl]
   rw[e1]
   unfold xv
   rw[h3];rfl
  show qG t p (⟨no,c,l,true⟩::num (no+1) (c+l.length+1) r)=_
  rw[JV ht,Wo t r _ _ _ (by simp) (fun y hy=>hk y (jir _ hy))]
  simp
theorem YE{t:List UInt8}{p:PS}{no c:Nat}{l:List UInt8}(hk:jz l≠3)(h5:jz l≠5)(h0:jh p=0):jW t p ⟨no,c,l,true⟩=.ok (xv t (jd p) ⟨no,c,l,true⟩):=by
 have hg:qE p ⟨no,c,l,true⟩=false:=ZI hk
 have hw:jL p ⟨no,c,l,true⟩=false:=by unfold jL;rw[hg];simp[hk,h5]
 have he:qv p ⟨no,c,l,true⟩=true:=by unfold qv;rw[hg];simp
 have hwent:zv p ⟨no,c,l,true⟩=p:=by unfold zv;rw[hg];rfl
 rw[yP (by rw[hwent];exact fun _=>h0) hw]
 unfold zC
 rw[he,if_pos rfl,hwent]
def jp(fs:List Fld):List (List UInt8):=fs.flatMap fun f=>jX f.1 f.2
theorem yU{k v:List UInt8}(hk:jR k=true):∃x r,jX k v=x::r/\jz x=4/\∀l∈r,jz l=3:=by
 have h:=YZ (v:=v) hk
 have e:jX k v=qk k ((jy v).headD [])::(jy v).tail.map jG:=rfl
 rw[e]at h ⊢
 refine⟨_,_,rfl,?_⟩
 unfold Gj at h
 simp only[jiY,beq_iff_eq,jj4]at h
 exact h
theorem Qy(t:List UInt8):∀(fs:List Fld) (p:PS) (no c:Nat),jh p=0->(∀f∈fs,jR f.1=true/\f.2.length<=1000)->(jd p).fields.length+fs.length<=40->(jd p).stanzas<=399 ->
  ∃q,qG t p (num no c (jp fs))=.ok q/\jh q=0/\(jd q).fields=(jd p).fields++fs/\(jd q).items=(jd p).items/\(jd q).stanzas=(jd p).stanzas/\(jd q).at_=(jd p).at_
 | [],p,no,c,h0,_,_,_=>⟨p,rfl,h0,by simp,rfl,rfl,rfl⟩
 | f::fs,p,no,c,h0,hg,hn,hs=>by
  obtain⟨g1,g2⟩:=hg f jis
  obtain⟨x,r,e,kx,kr⟩:=yU (v:=f.2) g1
  obtain⟨u1,u2,u3⟩:=YX g1 g2
  have hl:jp (f::fs)=(x::r)++jp fs:=by unfold jp;rw[jiy,e]
  have ht:jW t p ⟨no,c,x,true⟩=.ok {jd p with begin_:=no,said:=[x]}:=by
   rw[YE (by omega) (by omega) h0]
   unfold xv
   rw[if_pos kx]
  have hrun:qG t p (num no c (x::r))=.ok {jd p with begin_:=no,said:=x::r}:=by
   show qG t p (⟨no,c,x,true⟩::num _ _ r)=_
   rw[JV ht,Wo t r _ _ _ (by simp) kr];rfl
  rw[hl,yC,qr,hrun]
  dsimp only
  rw[jin]at hn
  have hN:jh {jd p with begin_:=no,said:=x::r}=0:=by
   unfold jh
   rw[if_neg (by simp)]
   show(if jU (x::r)≠0 then _ else _)=0
   rw[<- e,u1,if_neg (by simp)]
   have:xB {jd p with begin_:=no,said:=jX f.1 f.2}=false:=by
    unfold xB
    show(if (jd p).fields.length=0 then (jd p).stanzas==400 else (jd p).fields.length==40)=false
    split
    ·simp;omega
    simp;omega
   rw[this];rfl
  have hP:jd {jd p with begin_:=no,said:=x::r}={jd p with begin_:=no,said:=[],fields:=(jd p).fields++[f]}:=by
   unfold jd
   rw[if_neg (by simp)]
   show {jd p with begin_:=no,said:=[],fields:=(jd p).fields++[(zA (x::r),zy (x::r))]}=_
   rw[<- e,u2,u3];rfl
  obtain⟨q,q1,q2,q3,q4,q5,q6⟩:=Qy t fs {jd p with begin_:=no,said:=x::r} (no+(x::r).length) (c+(jk (x::r)).length) hN (fun y hy=>hg y (jir _ hy)) (by rw[hP];simp;omega) (by rw[hP];exact hs)
  refine⟨q,q1,q2,?_,?_,?_,?_⟩
  ·rw[q3,hP];simp
  ·rw[q4,hP]
  ·rw[q5,hP]
  rw[q6,hP]
end Go.Proofs.YtimfhnfcmhmjcaaGreatDoor
