/- Texts put together:DB,SA,DC,DE,CB. -/
import Derived.WideShapes
import Derived.Test.YtimfhnfcmhmjcaaGreatDoorBgr16
set_option linter.unusedVariables false
set_option maxRecDepth 100000
set_option maxHeartbeats 16000000
namespace Go.Proofs.YtimfhnfcmhmjcaaGreatDoor
abbrev jjD:=@Go.IntKind.wrap_u64
abbrev jjH:=@Go.Lib.decDigits_one
abbrev jjK:=@Go.Lib.decDigits_length
abbrev jjL:=@List.drop_left
abbrev jjV:=@List.take_append_of_le_length
abbrev jj0:=@Array.getElem?_modify
abbrev jka:=@Go.Lib.nDigits_le20
abbrev jki:=@Go.Lib.itoa_nonneg
abbrev jko:=@List.take_left
end Go.Proofs.YtimfhnfcmhmjcaaGreatDoor
namespace Go.Proofs.YtimfhnfcmhmjcaaGreatDoor.Fr
open Go.Lib
theorem zN:∀(a b:List UInt8) (s:Bool),sp s (a++b)=(sp s a&&sp (vQ s a) b)
 | [],b,s=>by simp[sp,vQ]
 | c::a,b,s=>by
  have e:vQ s (c::a)=vQ (c==10) a:=by
   unfold vQ
   rw[List.getLast?_cons]
   cases a.getLast?<;>simp
  simp only[jiz,sp,zN a b (c==10),e,Bool.and_assoc]
theorem JD(a b:List UInt8)(s:Bool)(h:b≠[]):vQ s (a++b)=vQ true b:=by
 unfold vQ
 rw[List.getLast?_append]
 cases hb:b.getLast? with
 | none=>exact absurd (List.getLast?_eq_none_iff.1 hb) h
 | some c=>simp
theorem xr:∀(k:Nat) (s:Bool),sp s (List.replicate k 32)=true
 | 0,s=>by cases s<;>rfl
 | k+1,s=>by rw[List.replicate_succ];unfold sp;rw[xr k];simp
theorem yu(k:Nat)(s:Bool):vQ s (List.replicate k 32)=(s&&decide (k=0)):=by
 cases k with
 | zero=>simp[vQ]
 | succ k=>unfold vQ;rw[List.getLast?_replicate];simp
theorem good_iff{l:List UInt8}:goodR l=true↔2<=l.length/\l.length<=50000/\vn l=true/\sp true l=true:=by unfold goodR;simp[and_assoc]
theorem Kt{n:Nat}(h2:2<=n)(h5:n<=50000):goodR (List.replicate (n-1) 32++[10])=true:=by
 rw[good_iff,zN,xr,yu]
 have:¬n-1=0:=by omega
 refine⟨by simp;omega,by simp;omega,by simp[vn],?_⟩
 simp[sp,this]
def vp(t:List UInt8)(n:Nat):Bool:=sp true t && !(vQ true t&&decide (n-t.length<2))
theorem XF{t:List UInt8}{n:Nat}(h2:2<=n)(h5:n<=50000)(hl:t.length<n):(∃z,goodR (t++z)=true/\(t++z).length=n)↔vp t n=true:=by
 unfold vp
 constructor
 ·rintro⟨z,hg,hz⟩
  obtain⟨_,_,h3,h4⟩:=good_iff.1 hg
  rw[zN]at h4
  simp only[jiY]at h4 ⊢
  refine⟨h4.1,?_⟩
  cases hf:vQ true t with
  | false=>rfl
  | true =>
  rw[hf]at h4
  rw[jik]at hz
  by_cases hk:n-t.length<2
  ·exfalso
   obtain⟨c,rfl⟩:∃c,z=[c]:=by
    match z,hz with
    | [],hz=>simp at hz;omega
    | [c],_=>exact⟨c,rfl⟩
    | a::b::z,hz=>simp at hz;omega
   have h5:=h4.2
   unfold vn at h3
   simp[sp]at h3 h5
   subst h3
   cases h5
  simp[hk]
 intro h
 simp only[jiY]at h
 refine⟨List.replicate (n-t.length-1) 32++[10],?_,by simp;omega⟩
 rw[good_iff]
 refine⟨by simp;omega,by simp;omega,by simp[vn],?_⟩
 rw[zN,h.1,jjQ,zN,xr,yu]
 cases hf:vQ true t with
 | false=>simp[sp]
 | true =>
 have h2:=h.2
 rw[hf]at h2
 have:¬n-t.length-1=0:=by simp at h2;omega
 simp[sp,this]
theorem jcF{t:List UInt8}{n:Nat}(h2:2<=n)(h5:n<=50000)(hl:t.length<n):goodR (t++(List.replicate (n-t.length-1) 32++[10]))=vp t n:=by
 rw[jjm]
 constructor
 ·intro h
  exact(XF h2 h5 hl).1 ⟨_,h,by simp;omega⟩
 intro h
 unfold vp at h
 simp only[jiY]at h
 rw[good_iff]
 refine⟨by simp;omega,by simp;omega,by simp[vn],?_⟩
 rw[zN,h.1,jjQ,zN,xr,yu]
 cases hf:vQ true t with
 | false=>simp[sp]
 | true =>
 have h2:=h.2
 rw[hf]at h2
 have:¬n-t.length-1=0:=by simp at h2;omega
 simp[sp,this]
def qQ(l:List UInt8):Prop:=∃n f z,2<=n/\n<=50000/\Xo f/\l++z=jM n f
theorem yP{a b z:List UInt8}(h:a++z=b)(k:Nat)(hk:a.length<=k):∃y,a++y=b.take k:=⟨z.take (k-a.length),by rw[<- h,jj6,ji2 hk]⟩
theorem qt(n:Nat)(f b:List UInt8):recR n f b=jM n f++10::(b++zF n):=rfl
theorem YU{t:List UInt8}(h:(10:UInt8)∉t):yd t↔qQ t:=by
 constructor
 ·rintro⟨n,f,b,z,hg,hn,hf,he,hz⟩
  obtain⟨h2,h5,_,_⟩:=good_iff.1 hg
  refine⟨n,f,?_⟩
  by_cases hl:t.length<=(jM n f).length
  ·obtain⟨y,hy⟩:=yP he (jM n f).length hl
   rw[qt,jko]at hy
   exact⟨y,by omega,by omega,hf,hy⟩
  exfalso
  have h1:(jM n f++[10]).length<=t.length:=by simp;omega
  have e:jM n f++[10]++(b++zF n)=t++z:=by rw[he,qt];simp
  obtain⟨y,hy⟩:=yP e t.length h1
  rw[jko]at hy
  exact h (by rw[<- hy];simp)
 rintro⟨n,f,z,h2,h5,hf,he⟩
 refine⟨n,f,List.replicate (n-1) 32++[10],z++10::((List.replicate (n-1) 32++[10])++zF n),Kt h2 h5,by simp;omega,hf,?_,by simp⟩
 rw[qt,<- he];simp
theorem VR{t b:List UInt8}(h:(10:UInt8)∉t):¬qJ t b:=by
 rintro⟨_,more,rfl⟩
 exact h (by unfold fullR;rw[qt];simp)
theorem jdC{l r:List UInt8}(hl:(10:UInt8)∉l)(h:¬∃n f,XQ l n f):¬yd (l++10::r)/\¬∃b,qJ (l++10::r) b:=by
 constructor
 ·rintro⟨n,f,b,z,hg,hn,hf,he,hz⟩
  obtain⟨h2,h5,_,_⟩:=good_iff.1 hg
  rw[qt,jix,jiz]at he
  exact h ⟨n,f,by omega,by omega,hf,(split_at hl (qA hf) he).1⟩
 rintro⟨b,hg,more,he⟩
 obtain⟨h2,h5,_,_⟩:=good_iff.1 hg
 unfold fullR at he
 rw[qt,jix,jiz]at he
 exact h ⟨b.length,zZ b,h2,h5,ql b,(split_at hl (qA (ql b)) he).1⟩
theorem Zo{n:Nat}{f r:List UInt8}(h2:2<=n)(h5:n<=50000)(hf:Xo f):yd (jM n f++10::r)↔∃b z,goodR b=true/\b.length=n/\r++z=b++zF n/\z≠[]:=by
 constructor
 ·rintro⟨n',f',b,z,hg,hn,hf',he,hz⟩
  obtain⟨h2',h5',_,_⟩:=good_iff.1 hg
  rw[qt,jix,jiz]at he
  obtain⟨e1,e2⟩:=split_at (qA hf) (qA hf') he
  obtain⟨rfl,rfl⟩:=VZ h5 (by omega) e1
  exact⟨b,z,hg,hn,e2,hz⟩
 rintro⟨b,z,hg,hn,he,hz⟩
 exact⟨n,f,b,z,hg,hn,hf,by rw[qt,<- he];simp,hz⟩
theorem Js{n:Nat}{f r b:List UInt8}(h2:2<=n)(h5:n<=50000)(hf:Xo f):qJ (jM n f++10::r) b↔goodR b=true/\b.length=n/\zZ b=f/\∃more,r=b++(zF n++more):=by
 constructor
 ·rintro⟨hg,more,he⟩
  obtain⟨h2',h5',_,_⟩:=good_iff.1 hg
  unfold fullR at he
  rw[qt,jix,jiz]at he
  obtain⟨e1,e2⟩:=split_at (qA hf) (qA (ql b)) he
  obtain⟨rfl,rfl⟩:=VZ h5 (by omega) e1
  exact⟨hg,rfl,rfl,more,by rw[e2];simp⟩
 rintro⟨hg,rfl,rfl,more,rfl⟩
 exact⟨hg,more,by unfold fullR;rw[qt];simp⟩
theorem Gi{n:Nat}{f r:List UInt8}(h2:2<=n)(h5:n<=50000)(hf:Xo f)(hl:r.length<n):(yd (jM n f++10::r)↔vp r n=true)/\¬∃b,qJ (jM n f++10::r) b:=by
 constructor
 ·rw[Zo h2 h5 hf,<- XF h2 h5 hl]
  constructor
  ·rintro⟨b,z,hg,hn,he,hz⟩
   obtain⟨y,hy⟩:=yP he b.length (by omega)
   rw[jko]at hy
   exact⟨y,by rw[hy];exact hg,by rw[hy];exact hn⟩
  rintro⟨z,hg,hz⟩
  exact⟨r++z,z++zF n,hg,hz,by simp,by intro q;have:=(List.append_eq_nil_iff.1 q).2;simp[zF,END]at this⟩
 rintro⟨b,h⟩
 obtain⟨_,hn,_,more,rfl⟩:=(Js h2 h5 hf).1 h
 simp at hl;omega
theorem Zx{n:Nat}{f b r:List UInt8}(h2:2<=n)(h5:n<=50000)(hf:Xo f)(hl:b.length=n):
  (yd (jM n f++10::(b++r))↔goodR b=true/\∃z,r++z=zF n/\z≠[])/\(∀b',qJ (jM n f++10::(b++r)) b'↔b'=b/\goodR b=true/\zZ b=f/\∃more,r=zF n++more):=by
 constructor
 ·rw[Zo h2 h5 hf]
  constructor
  ·rintro⟨b',z,hg,hn,he,hz⟩
   rw[jix]at he
   obtain⟨rfl,e2⟩:=List.append_inj he (by omega)
   exact⟨hg,z,e2,hz⟩
  rintro⟨hg,z,he,hz⟩
  exact⟨b,z,hg,hl,by rw[jix,he],hz⟩
 intro b'
 rw[Js h2 h5 hf]
 constructor
 ·rintro⟨hg,hn,hfg,more,he⟩
  obtain⟨rfl,e2⟩:=List.append_inj he (by omega)
  exact⟨rfl,hg,hfg,more,e2⟩
 rintro⟨rfl,hg,hfg,more,rfl⟩
 exact⟨hg,hl,hfg,more,rfl⟩
theorem yI{t b:List UInt8}(h:qJ t b):¬yd t:=by
 obtain⟨hg,more,rfl⟩:=h
 obtain⟨h2,h5,_,_⟩:=good_iff.1 hg
 intro hp
 have e:fullR b++more=jM b.length (zZ b)++10::(b++(zF b.length++more)):=by unfold fullR;rw[qt];simp
 rw[e]at hp
 obtain⟨_,z,hz,h0⟩:=(Zx h2 h5 (ql b) rfl).1.1 hp
 have:=congrArg List.length hz
 simp only[jik]at this
 exact h0 (jjU (by omega))
theorem Yz{t b b':List UInt8}(h:qJ t b)(h':qJ t b'):b=b':=by
 obtain⟨hg,more,rfl⟩:=h
 obtain⟨h2,h5,_,_⟩:=good_iff.1 hg
 have e:fullR b++more=jM b.length (zZ b)++10::(b++(zF b.length++more)):=by unfold fullR;rw[qt];simp
 rw[e]at h'
 exact(((Zx h2 h5 (ql b) rfl).2 b').1 h').1.symm
theorem full_begins{b:List UInt8}(hg:goodR b=true){k:Nat}(hk:k<(fullR b).length):yd ((fullR b).take k) :=
 ⟨b.length,zZ b,b,(fullR b).drop k,hg,rfl,ql b,jiT _ _,fun q=>by have:=congrArg List.length q;simp at this;omega⟩
end Go.Proofs.YtimfhnfcmhmjcaaGreatDoor.Fr
namespace Go.Proofs.YtimfhnfcmhmjcaaGreatDoor.Bk
open Go.Lib Go.Proofs.YtimfhnfcmhmjcaaGreatDoor.Fr Go.Proofs.YtimfhnfcmhmjcaaGreatDoor.Hd
def ZX(l:List UInt8):Bool:=hasPrefix l [37]&&decide (jz l=5)
def xg(xs:List Ln)(n:Nat):Nat:=match xs.find? (fun x=>ZX x.text) with | some x=>x.at_ | none=>n
def vi(t:List UInt8):List UInt8:=t.take (xg (jg t) t.length)
def XT(l:List UInt8):Prop:=l=[]\/∃r,l=r++[10]
theorem yD(l:List UInt8):(10:UInt8)∉head l:=fun h=>by
 have:=List.all_eq_true.1 (jjR (p:=fun c:UInt8=>c != 10) (l:=l)) 10 h
 simp at this
theorem yr:∀{l:List UInt8},(10:UInt8)∉l->head l=l
 | [],_=>rfl
 | c::l,h=>by
  have hc:(c != 10)=true:=by
   simp only[bne_iff_ne]
   rintro rfl
   exact h jis
  unfold head
  rw[jjc,if_pos hc]
  exact congrArg (c :: ·) (yr fun hm=>h (jir _ hm))
theorem jfl{l:List UInt8}(h:(10:UInt8)∈l):l=head l++10::l.drop (zY l):=by
 have hn:nl l=true:=by unfold nl;simpa using h
 have:=zi l
 rw[hn,if_pos rfl]at this
 rw[jix]at this
 exact this
theorem jej{l:List UInt8}(h:XT l)(h0:l≠[]):(10:UInt8)∈l:=by
 rcases h with h|⟨r,h⟩
 ·exact absurd h h0
 rw[h];simp
theorem jcl{a b:List UInt8}(h:XT (a++b)):XT b:=by
 rcases jj2 b with hb|⟨b',c,hb⟩
 ·exact .inl hb
 rw[jj3]at hb
 subst hb
 rcases h with h|⟨r,h⟩
 ·simp at h
 rw[<- jix]at h
 obtain⟨_,h2⟩:=List.append_inj' h rfl
 exact .inr ⟨b',by rw[h2]⟩
theorem Xa:∀(n:Nat) (b x:List UInt8) (no a:Nat),b.length<=n->XT b->∃k,jF no a (b++x)=jF no a b++jF (no+k) (a+b.length) x
 | 0,b,x,no,a,h,_=>by
  have:b=[]:=List.length_eq_zero_iff.1 (by omega)
  subst this
  exact⟨0,by simp[jn]⟩
 | n+1,b,x,no,a,h,he=>by
  by_cases hb:b=[]
  ·subst hb
   exact⟨0,by simp[jn]⟩
  have hm:=jej he hb
  have hs:=jfl hm
  generalize hr:b.drop (zY b)=r at hs
  generalize hh:head b=hd at hs
  have hc:(10:UInt8)∉hd:=by rw[<- hh];exact yD b
  subst hs
  have her:XT r:=jcl (a:=hd++[10]) (by rw[jix];exact he)
  obtain⟨k,hk⟩:=Xa n r x (no+1) (a+hd.length+1) (by simp at h;omega) her
  refine⟨k+1,?_⟩
  rw[jix,jiz,Zz _ _ _ _ hc,Zz _ _ _ _ hc,hk]
  simp only[jiz,jik,jin]
  have e1:no+1+k=no+(k+1):=by omega
  have e2:a+hd.length+1+r.length=a+(hd.length+(r.length+1)):=by omega
  rw[e1,e2]
theorem jam{l:List UInt8}(h:∀x∈jg l,x.ended=true):XT l:=by
 have hj:=jT l
 rcases jj2 (jg l) with h0|⟨xs,x,h0⟩
 ·rw[h0]at hj;exact .inl hj.symm
 rw[jj3]at h0
 rw[h0]at hj h
 have hx:=h x (by simp)
 refine .inr ⟨xs.flatMap Ln.bytes++x.text,?_⟩
 rw[<- hj,jiN]
 unfold Ln.bytes
 simp[hx]
theorem YL(t:List UInt8):∀(xs:List Ln) (p q:PS),qG t p xs=.ok q->∀x∈xs,jz x.text≠5/\x.ended=true
 | [],_,_,_,x,hx=>by cases hx
 | y::xs,p,q,h,x,hx=>by
  unfold qG at h
  cases ht:jW t p y with
  | error e=>rw[ht]at h;cases h
  | ok p' =>
  rw[ht]at h
  obtain⟨_,hw,_⟩:=vv ht
  unfold jL at hw
  rcases List.mem_cons.1 hx with e|hx
  ·subst e
   simp only[Bool.or_eq_false_iff,Bool.not_eq_false']at hw
   exact⟨by simpa using hw.1.1,hw.2⟩
  exact YL t xs p' q h x hx
theorem Zp{t:List UInt8}{its:List It}(h:jA t=.ok its):∀x∈jg t,jz x.text≠5/\x.ended=true:=by
 unfold jA at h
 cases hr:qG t PS.new (jg t) with
 | error e=>rw[hr]at h;cases h
 | ok p=>exact YL t _ _ _ hr
theorem QO{t:List UInt8}{its:List It}(h:jA t=.ok its):XT t:=jam fun x hx=>(Zp h x hx).2
theorem Gz{t:List UInt8}{its:List It}(h:jA t=.ok its):∀x∈jg t,ZX x.text=false:=fun x hx=>by
 unfold ZX
 rw[decide_eq_false (Zp h x hx).1,Bool.and_false]
theorem Um(t:List UInt8):xg (jg t) t.length<=t.length:=by
 unfold xg
 cases h:(jg t).find? (fun x=>ZX x.text) with
 | none=>exact jij _
 | some x =>
 obtain⟨_,pre,post,he,_⟩:=List.find?_eq_some_iff_append.1 h
 obtain⟨_,ha⟩:=qT t pre x post he
 have hj:=jT t
 rw[he,jiN]at hj
 show x.at_<=t.length
 rw[ha,<- hj,jik]
 omega
theorem ZZ(t:List UInt8):(vi t).length=xg (jg t) t.length:=by
 unfold vi;rw[jiq];have:=Um t;omega
theorem ZY(t:List UInt8):t=vi t++t.drop (vi t).length:=by
 have h:=ZZ t
 rw[h]
 exact(jiT _ t).symm
theorem KO(t:List UInt8):t.drop (vi t).length=[]\/ZX (head (t.drop (vi t).length))=true:=by
 rw[ZZ]
 unfold xg
 cases h:(jg t).find? (fun x=>ZX x.text) with
 | none=>left;simp
 | some x =>
 obtain⟨hb,pre,post,he,_⟩:=List.find?_eq_some_iff_append.1 h
 obtain⟨_,ha⟩:=qT t pre x post he
 have hpe:∀y∈pre,y.ended=true:=by
  intro y hy
  have hall:∀(xs:List Ln) (no a:Nat) (l:List UInt8) (z:Ln) (zs:List Ln),jF no a l=xs++z::zs->∀y∈xs,y.ended=true:=by
   intro xs
   induction xs with
   | nil=>intro no a l z zs _ y hy;cases hy
   | cons u us ih =>
   intro no a l z zs e y hy
   have hl:l≠[]:=by rintro rfl;rw[jn]at e;cases e
   rw[jq _ _ _ hl,jiz]at e
   obtain⟨e1,e2⟩:=List.cons.inj e
   rcases List.mem_cons.1 hy with hy|hy
   ·subst hy
    rw[<- e1]
    show nl l=true
    cases hn:nl l with
    | true=>rfl
    | false =>
    exfalso
    have hs:=zi l
    rw[hn]at hs
    have hu:zY l=(head l).length:=by unfold zY;rw[hn];rfl
    have h9:l.drop (zY l)=[]:=by
     have hm:(10:UInt8)∉l:=by unfold nl at hn;simpa using hn
     have:head l=l:=yr hm
     rw[hu,this]
     exact jjM
    rw[h9,jn]at e2
    cases us<;>cases e2
   exact ih _ _ _ _ _ e2 y hy
  exact hall pre 0 0 t x post he y hy
 obtain⟨_,c2⟩:=ZA pre (x::post) 0 0 t he hpe
 right
 show ZX (head (t.drop x.at_))=true
 rw[ha]
 have hne:t.drop (pre.flatMap Ln.bytes).length≠[]:=by
  intro e
  rw[e,jn]at c2
  cases c2
 rw[jq _ _ _ hne]at c2
 have:=(List.cons.inj c2).1
 rw[this]at hb
 exact hb
theorem jaA{b x:List UInt8}(he:XT b)(hb:∀y∈jg b,ZX y.text=false)(hx:x=[]\/ZX (head x)=true):vi (b++x)=b:=by
 obtain⟨k,hk⟩:=Xa _ b x 0 0 (jij _) he
 have hc:xg (jg (b++x)) (b++x).length=b.length:=by
  unfold xg jg
  rw[hk,jkt]
  have h1:(jF 0 0 b).find? (fun x=>ZX x.text)=none:=List.find?_eq_none.2 fun y hy=>by rw[hb y hy];simp
  rw[h1]
  rcases hx with rfl|hx
  ·simp[jn]
  have hne:x≠[]:=by
   rintro rfl
   exact absurd hx (by decide)
  rw[jq _ _ _ hne,Option.none_or,jkD]
  simp only[hx]
  simp
 unfold vi
 rw[hc,List.take_left']
 rfl
theorem VV{l r:List UInt8}(h:l=37::r)(h10:(10:UInt8)∉l)(h58:(58:UInt8)∉l):ZX l=true:=by
 subst h
 have e1:vu (37::r) 10=false:=by
  rw[Bool.eq_false_iff];intro hh;exact h10 (by simpa [vu]using hh)
 have e2:vu (37::r) 58=false:=by
  rw[Bool.eq_false_iff];intro hh;exact h58 (by simpa [vu]using hh)
 have e3:jz (37::r)=5:=by
  unfold jz
  rw[e1,e2]
  have e4:zh (37::r)=false:=by unfold zh;rw[jkb];rfl
  have e5:Jc (37::r)=false:=rfl
  have e6:vg (37::r)=false:=rfl
  rw[e4,e5,e6]
  simp
 unfold ZX
 rw[e3]
 simp[hasPrefix]
theorem jhK{c:UInt8}(h:jfQ c=true):c≠58:=by rintro rfl;exact absurd h (by decide)
theorem vo{n:Nat}{f:List UInt8}(hf:Xo f):(10:UInt8)∉jM n f/\(58:UInt8)∉jM n f:=by
 refine⟨qA hf,?_⟩
 unfold jM AMD
 intro h
 simp only[jiz,jiZ,List.mem_cons,List.mem_append]at h
 rcases h with h|h|h|h|h|h|h|h|h|h
 all_goals first
  | exact absurd h (by decide)
  | skip
 ·have:=zX n _ h;simp at this
 exact jhK (List.all_eq_true.1 (xD.1 hf).2 _ h) rfl
theorem WS{a r:List UInt8}(h:(10:UInt8)∉a):head (a++10::r)=a:=(ZF a r h).1
theorem xA(b:List UInt8):fullR b=jM b.length (zZ b)++10::(b++zF b.length):=rfl
theorem Ur(b m:List UInt8):ZX (head (fullR b++m))=true:=by
 have hf:=ql b
 rw[xA,jix,jiz,WS (vo hf).1]
 exact VV (r:=(jM b.length (zZ b)).tail) rfl (vo hf).1 (vo hf).2
theorem jeB(b:List UInt8)(k:Nat):(fullR b).take k=[]\/ZX (head ((fullR b).take k))=true:=by
 have hf:=ql b
 by_cases hk:k<=(jM b.length (zZ b)).length
 ·rcases jkj k with h0|h0
  ·left;rw[h0];rfl
  right
  rw[xA,jjV hk]
  have hm:∀c,c∈(jM b.length (zZ b)).take k->c∈jM b.length (zZ b):=fun c hc=>jjl hc
  have h10:(10:UInt8)∉(jM b.length (zZ b)).take k:=fun h=>(vo hf).1 (hm _ h)
  rw[yr h10]
  obtain⟨j,rfl⟩:∃j,k=j+1:=⟨k-1,by omega⟩
  exact VV (r:=((jM b.length (zZ b)).tail).take j) rfl h10 (fun h=>(vo hf).2 (hm _ h))
 right
 have e:(fullR b).take k=jM b.length (zZ b)++10::((b++zF b.length).take (k-(jM b.length (zZ b)).length-1)):=by
  rw[xA,jj6,ji2 (by omega)]
  obtain⟨j,hj⟩:∃j,k-(jM b.length (zZ b)).length=j+1:=⟨k-(jM b.length (zZ b)).length-1,by omega⟩
  rw[hj]
  rfl
 rw[e,WS (vo hf).1]
 exact VV (r:=(jM b.length (zZ b)).tail) rfl (vo hf).1 (vo hf).2
structure jcW(D:List UInt8->Bool)(s:List UInt8)(bds:List (List UInt8))(rest:List UInt8):Prop where
 eq:s=bds.flatMap fullR++rest
 good:∀b∈bds,goodR b=true/\D b=true
def jgw(D:List UInt8->Bool)(r:List UInt8):Prop:=(¬yd r/\¬∃b,qJ r b)\/∃b,qJ r b/\D b=false
def Fin(D:List UInt8->Bool)(r:List UInt8):Prop:=yd r\/jgw D r
theorem jcf{D:List UInt8->Bool}{r b:List UInt8}(h:Fin D r)(hw:qJ r b)(hd:D b=true):False:=by
 rcases h with h|⟨_,h⟩|⟨b',hb,h⟩
 ·exact yI hw h
 ·exact h ⟨b,hw⟩
 rw[Yz hw hb]at hd;rw[hd]at h;cases h
theorem jec{D:List UInt8->Bool}{r:List UInt8}(h:yd r)(h':jgw D r):False:=by
 rcases h' with ⟨h1,_⟩|⟨b,hb,_⟩
 ·exact h1 h
 exact yI hb h
theorem VK{D:List UInt8->Bool}:∀{s:List UInt8} {x y:List (List UInt8)} {r q:List UInt8},jcW D s x r->jcW D s y q->Fin D r->Fin D q->x=y/\r=q
 | s,[],[],r,q,h,h',_,_=>⟨rfl,by have e:=h.eq;rw[h'.eq]at e;simpa using e.symm⟩
 | s,[],b::y,r,q,h,h',hf,_=>by
  exfalso
  have e:=h.eq
  have e':=h'.eq
  rw[jj5,jiZ]at e
  rw[jiy,jix]at e'
  obtain⟨g,d⟩:=h'.good b jis
  exact jcf hf ⟨g,_,e.symm.trans e'⟩ d
 | s,b::x,[],r,q,h,h',_,hf=>by
  exfalso
  have e:=h.eq
  have e':=h'.eq
  rw[jj5,jiZ]at e'
  rw[jiy,jix]at e
  obtain⟨g,d⟩:=h.good b jis
  exact jcf hf ⟨g,_,e'.symm.trans e⟩ d
 | s,b::x,c::y,r,q,h,h',hr,hq=>by
  have e:=h.eq
  have e':=h'.eq
  rw[jiy,jix]at e e'
  obtain⟨g,d⟩:=h.good b jis
  obtain⟨g',d'⟩:=h'.good c jis
  have hbc:b=c:=Yz ⟨g,_,e⟩ ⟨g',_,e'⟩
  subst hbc
  have e2:=jkq (e.symm.trans e')
  obtain⟨h1,h2⟩:=VK (s:=x.flatMap fullR++r) ⟨rfl,fun b hb=>h.good b (jir _ hb)⟩ ⟨e2,fun b hb=>h'.good b (jir _ hb)⟩ hr hq
  exact⟨by rw[h1],h2⟩
theorem jcW.snoc{D:List UInt8->Bool}{s r b:List UInt8}{bds:List (List UInt8)}(h:jcW D s bds r)(hw:qJ r b)(hd:D b=true):jcW D s (bds++[b]) (r.drop (fullR b).length):=by
 obtain⟨g,m,hm⟩:=hw
 refine⟨?_,fun c hc => ?_⟩
 ·rw[h.eq,hm,jjL,jiN]
  simp
 rcases List.mem_append.1 hc with hc|hc
 ·exact h.good c hc
 rw[List.mem_singleton.1 hc];exact⟨g,hd⟩
def zS:Nat->List (List UInt8)->List Nat
 | _,[]=>[]
 | s,b::r=>(s+(fullR b).length)::zS (s+(fullR b).length) r
theorem vS:∀(s:Nat) (bds:List (List UInt8)) (b:List UInt8),zS s (bds++[b])=zS s bds++[s+(bds.flatMap fullR).length+(fullR b).length]
 | s,[],b=>by simp[zS]
 | s,c::r,b=>by
  have:=vS (s+(fullR c).length) r b
  simp only[jiz,zS]
  rw[this]
  simp only[jiy,jik,jjE]
theorem yw:∀(s:Nat) (bds:List (List UInt8)),(zS s bds).length=bds.length
 | _,[]=>rfl
 | s,b::r=>by simp[zS,yw]
theorem Yg(s:Nat)(bds:List (List UInt8))(h:bds≠[]):(zS s bds)[bds.length-1]?=some (s+(bds.flatMap fullR).length):=by
 rcases jj2 bds with hb|⟨r,b,hb⟩
 ·exact absurd hb h
 rw[jj3]at hb
 subst hb
 rw[vS,jiE (by rw[yw];simp),yw]
 simp[Nat.add_assoc]
theorem WX(b:List UInt8):7<=(fullR b).length:=by unfold fullR recR jM AMD;simp
theorem Yr:∀(bds:List (List UInt8)),bds.length<=(bds.flatMap fullR).length
 | []=>jij _
 | b::r=>by
  have h:=Yr r
  have:=WX b
  rw[jiy,jik,jin]
  omega
def hl(n:Nat):Nat:=if 1<=n/\n<=2147483648 then (ze n).length else 0
theorem jfP{t:List UInt8}{n:Nat}(h:Jp t n):hl n<=t.length:=by
 unfold hl
 split
 ·rename_i h1
  rcases h with ⟨_,_,r,e⟩|⟨rfl,_⟩
  ·rw[e];simp
  omega
 omega
theorem jdX{g i:Nat}(h:(ze g)[i]?=some 37):i=1:=by
 unfold ze Yy at h
 match i,h with
 | 0,h=>simp at h
 | 1,_=>rfl
 | 2,h=>simp at h
 | 3,h=>simp at h
 | 4,h=>simp at h
 | 5,h=>simp at h
 | i+6,h =>
 exfalso
 have h2:(decDigits g++[10,10])[i]?=some 37:=by simpa using h
 have:=jiA h2
 rcases List.mem_append.1 this with h|h
 ·have:=zX g _ h;simp at this
 exact absurd h (by decide)
theorem jd3{t p q x:List UInt8}{n:Nat}(h:Jp t n)(ht:t=p++q)(hp:hl n<=p.length)(he:XT p)(hx:x=[]\/∃y,x=37::y):Jp (p++x) n:=by
 rcases h with ⟨h1,h2,r,e⟩|⟨rfl,hno⟩
 ·left
  refine⟨h1,h2,?_⟩
  have hl':hl n=(ze n).length:=by unfold hl;rw[if_pos ⟨h1,h2⟩]
  rw[hl']at hp
  have e2:p=ze n++p.drop (ze n).length:=by
   have e3:(p++q).take (ze n).length=ze n:=by rw[<- ht,e];simp
   rw[jjV hp]at e3
   have:=jiT (ze n).length p
   rw[e3]at this
   exact this.symm
  exact⟨p.drop (ze n).length++x,by rw[<- jix,<- e2]⟩
 right
 refine⟨rfl,fun g hg => ?_⟩
 obtain⟨h1,h2,r,e⟩:=hg
 by_cases hlen:(ze g).length<=p.length
 ·have e3:(ze g++r).take (ze g).length=ze g:=by simp
  rw[<- e,jjV hlen]at e3
  have:=jiT (ze g).length p
  rw[e3]at this
  exact hno g ⟨h1,h2,p.drop (ze g).length++q,by rw[ht,<- jix,this]⟩
 rcases hx with rfl|⟨y,rfl⟩
 ·rw[jiO]at e
  have:=congrArg List.length e
  simp at this
  omega
 have e4:(ze g)[p.length]?=some 37:=by
  have:(ze g++r)[p.length]?=some 37:=by rw[<- e];simp
  rwa [jiH (by omega)]at this
 have hp1:=jdX e4
 have e5:(ze g++r)[0]?=some 35:=by unfold ze Yy;rfl
 rw[<- e]at e5
 rcases he with he|⟨z,he⟩
 ·rw[he]at hp1;simp at hp1
 rw[he]at hp1 e5
 have hz:z=[]:=by simpa using hp1
 rw[hz]at e5
 simp at e5
structure qn(D:List UInt8->Bool)(t:List UInt8)(n:Nat)(base:List UInt8)(bds:List (List UInt8))(tail:List UInt8):Prop where
 gen:Jp t n
 parse:∃its,jA base=.ok its
 isB:vi (t.drop (hl n))=base
 recd:jcW D (t.drop (hl n+base.length)) bds tail
 fin:yd tail
theorem Wt:yd []:=full_begins (b:=[32,10]) (by decide) (k:=0) (by decide)
def jD(n:Nat)(base:List UInt8)(bds:List (List UInt8)):Nat:=hl n+base.length+(bds.flatMap fullR).length
theorem ZQ(t:List UInt8)(a b:Nat):t.drop (a+b)=(t.drop a).drop b:=by rw[jjC]
structure jhR(t:List UInt8)(n:Nat)(base:List UInt8)(bds:List (List UInt8))(tail:List UInt8):Prop where
 eq:t=t.take (hl n)++(base++(bds.flatMap fullR++tail))
 take:t.take (jD n base bds)=t.take (hl n)++(base++bds.flatMap fullR)
 len:t.length=jD n base bds+tail.length
 tail:t.drop (jD n base bds)=tail
theorem qn.parts{D:List UInt8->Bool}{t base tail:List UInt8}{n:Nat}{bds:List (List UInt8)}(h:qn D t n base bds tail):jhR t n base bds tail:=by
 have hle:=jfP h.gen
 have e1:=ZY (t.drop (hl n))
 rw[h.isB]at e1
 have e2:=h.recd.eq
 rw[ZQ]at e2
 rw[e2]at e1
 have e3:t=t.take (hl n)++(base++(bds.flatMap fullR++tail)):=by
  rw[<- e1];exact(jiT _ t).symm
 have hk:(t.take (hl n)).length=hl n:=by rw[jiq];omega
 have e4:t=(t.take (hl n)++(base++bds.flatMap fullR))++tail:=by
  rw[jix,jix];exact e3
 have hw:(t.take (hl n)++(base++bds.flatMap fullR)).length=jD n base bds:=by
  unfold jD;simp only[jik,hk];omega
 refine⟨e3,?_,?_,?_⟩
 ·conv=>lhs;rw[e4]
  rw[<- hw,jko]
 ·conv=>lhs;rw[e4]
  rw[jik,hw]
 conv=>lhs;rw[e4]
 rw[<- hw,jjL]
theorem Yi{a b:List UInt8}(ha:XT a)(hb:XT b):XT (a++b):=by
 rcases hb with rfl|⟨r,rfl⟩
 ·rw[jiO];exact ha
 exact .inr ⟨a++r,by rw[jix]⟩
theorem jcm(b:List UInt8):XT (fullR b):=.inr ⟨jM b.length (zZ b)++10::(b++(END++decDigits b.length)),by
 rw[xA];unfold zF;simp⟩
theorem Xw:∀bds:List (List UInt8),XT (bds.flatMap fullR)
 | []=>.inl rfl
 | b::r=>by rw[jiy];exact Yi (jcm b) (Xw r)
theorem jek{t:List UInt8}{n:Nat}(h:Jp t n):XT (t.take (hl n)):=by
 rcases h with ⟨h1,h2,r,e⟩|⟨rfl,_⟩
 ·have e1:hl n=(ze n).length:=by unfold hl;rw[if_pos ⟨h1,h2⟩]
  rw[e1,e,jko]
  exact .inr ⟨Yy++(decDigits n++[10]),by unfold ze;simp⟩
 exact .inl (by unfold hl;simp)
theorem jcH{x:List UInt8}(h:ZX (head x)=true):∃y,x=37::y:=by
 unfold ZX at h
 simp only[jiY]at h
 obtain⟨h,_⟩:=h
 cases x with
 | nil=>exact absurd h (by decide)
 | cons c r =>
 unfold head at h
 rw[jjc]at h
 split at h
 ·unfold hasPrefix at h
  simp[List.isPrefixOf]at h
  exact⟨r,by rw[h]⟩
 exact absurd h (by decide)
theorem qn.again{D:List UInt8->Bool}{t base tail x:List UInt8}{n:Nat}{bds more:List (List UInt8)}{tail':List UInt8}(h:qn D t n base bds tail)(hx:x=[]\/ZX (head x)=true)(hm:jcW D x more tail')(hf:yd tail'):
  qn D (t.take (jD n base bds)++x) n base (bds++more) tail':=by
 have P:=h.parts
 have hle:=jfP h.gen
 have hk:(t.take (hl n)).length=hl n:=by rw[jiq];omega
 obtain⟨its,hp⟩:=h.parse
 have hw:hl n<=(t.take (jD n base bds)).length:=by rw[P.take,jik,hk];omega
 have hE:XT (t.take (jD n base bds)):=by rw[P.take];exact Yi (jek h.gen) (Yi (QO hp) (Xw bds))
 have hx':x=[]\/∃y,x=37::y:=hx.imp id jcH
 have hd:(t.take (jD n base bds)++x).drop (hl n)=base++(bds.flatMap fullR++x):=by
  rw[P.take,jix,jix]
  exact jjo hk
 have hb:bds.flatMap fullR++x=[]\/ZX (head (bds.flatMap fullR++x))=true:=by
  cases bds with
  | nil=>exact hx
  | cons b r=>right;rw[jiy,jix];exact Ur b _
 have hbase:vi (base++(bds.flatMap fullR++x))=base:=jaA (QO hp) (Gz hp) hb
 refine⟨jd3 h.gen (jiT _ t).symm hw hE hx',⟨its,hp⟩,by rw[hd];exact hbase,?_,hf⟩
 rw[ZQ,hd,jjL]
 refine⟨by rw[hm.eq,jiN,jix],fun b hb => ?_⟩
 rcases List.mem_append.1 hb with hb|hb
 ·exact h.recd.good b hb
 exact hm.good b hb
end Go.Proofs.YtimfhnfcmhmjcaaGreatDoor.Bk
namespace Go.Proofs.YtimfhnfcmhmjcaaGreatDoor.Fr
open Go.Lib
def yN:List UInt8:=[48,48,48,48,48,48,48,48]
def zw:List UInt8:=[37,97,109,101,110,100,32,53,48,48,48,48,32,48,48,48,48,48,48,48,48]
theorem xm:Xo yN:=xD.2 ⟨rfl,by decide⟩
theorem QV:zw=jM 50000 yN:=by
 unfold jM
 rw[vW (by omega),vW (by omega),vW (by omega),vW (by omega),decDigits_one (by omega)]
 rfl
theorem jcu:decDigits 10=[49,48]:=by rw[vW (by omega),decDigits_one (by omega)];rfl
theorem jh8:decDigits 1=[49]:=by rw[decDigits_one (by omega)];rfl
theorem KZ{a b x y:List UInt8}(h:a++x=b++y):(∃q,b=a++q/\x=q++y)\/(∃c q,a=b++c::q/\y=c::q++x):=by
 rcases List.append_eq_append_iff.1 h with ⟨q,h1,h2⟩|⟨q,h1,h2⟩
 ·exact .inl ⟨q,h1,h2⟩
 cases q with
 | nil=>exact .inl ⟨[],by simpa using h1.symm,by simpa using h2.symm⟩
 | cons c q=>exact .inr ⟨c,q,h1,h2⟩
theorem jef{r z f:List UInt8}(hf:Xo f)(h:r++z=f):Xo (r++yN.drop r.length):=by
 obtain⟨h8,hx⟩:=xD.1 hf
 have hl:r.length<=8:=by have:=congrArg List.length h;simp at this;omega
 refine xD.2 ⟨by simp[yN];omega,?_⟩
 rw[jkf,jiY]
 rw[<- h,jkf,jiY]at hx
 exact⟨hx.1,List.all_eq_true.2 fun c hc=>by have:=jja hc;simp[yN]at this;subst this;decide⟩
theorem jac{l:List UInt8}:qQ l↔∃at_,at_<=21/\∃n f,XQ (l++zw.drop at_) n f:=by
 constructor
 ·rintro⟨n,f,z,h2,h5,hf,he⟩
  unfold jM at he
  rcases KZ he with ⟨q,e1,e2⟩|⟨c,q,e1,e2⟩
  ·have hq:q=AMD.drop l.length:=by rw[e1];simp
   have hl:l.length<=7:=by have:=congrArg List.length e1;simp[AMD]at this;omega
   refine⟨l.length,by omega,50000,yN,by omega,by omega,xm,?_⟩
   rw[<- QV]
   have e3:zw=l++(q++zw.drop 7):=by rw[<- jix,<- e1];rfl
   have e4:zw.drop l.length=q++zw.drop 7:=by rw[e3,jjL,<- e3]
   rw[e4];exact e3.symm
  rcases KZ e2 with ⟨q2,e3,e4⟩|⟨d,q2,e3,e4⟩
  ·
   cases q2 with
   | nil =>
    rw[jiO]at e3
    refine⟨12,by omega,n,yN,h2,h5,xm,?_⟩
    rw[e1,e3];unfold jM;rw[jix];rfl
   | cons d q2 =>
   rw[jiz]at e4
   injection e4 with e5 e6
   subst e5
   have hl:q2.length<=8:=by have:=congrArg List.length e6;have:=ZO hf;simp at *;omega
   refine⟨13+q2.length,by omega,n,q2++yN.drop q2.length,h2,h5,jef hf e6.symm,?_⟩
   rw[e1,e3];unfold jM
   have:zw.drop (13+q2.length)=yN.drop q2.length:=by rw[<- jjC];rfl
   rw[this];simp
  -- within the number
  obtain⟨v,e5,hv,h1v⟩:=jaq n (c::q) (d::q2) (by simp) e3.symm
  have h1:=h1v (by omega)
  by_cases hv1:v=1
  ·subst hv1
   refine⟨11,by omega,10,yN,by omega,by omega,xm,?_⟩
   rw[e1,e5];unfold jM;rw[jcu,jh8];rfl
  refine⟨12,by omega,v,yN,by omega,by omega,xm,?_⟩
  rw[e1,e5];unfold jM;rw[jix];rfl
 rintro⟨at_,_,n,f,h⟩
 exact⟨n,f,_,h.lo,h.hi,h.fig,h.eq⟩
theorem jdw{l:List UInt8}(h:qQ l):l.length<=21:=by
 obtain⟨n,f,z,h2,h5,hf,he⟩:=h
 have:=congrArg List.length he
 have:=Zd (show n<=99999 by omega)
 have:=ZO hf
 unfold jM AMD at *
 simp at *
 omega
theorem jft{t:List UInt8}(h:qQ t):vE t 2 [] 0:=by
 have h10:(10:UInt8)∉t:=by
  obtain⟨n,f,z,h2,h5,hf,he⟩:=h
  intro hm
  exact qA (n:=n) hf (by rw[<- he];simp[hm])
 exact .inr (.inl ⟨(YU h10).2 h,rfl,rfl,rfl⟩)
def hx(l:List UInt8):Nat:=((l.take 8).takeWhile jfQ).length
end Go.Proofs.YtimfhnfcmhmjcaaGreatDoor.Fr
namespace Go.Proofs.YtimfhnfcmhmjcaaGreatDoor.Fr
open Go.RowKit Go.Shelf
attribute [local go_sem] jit
theorem qV{P:Program}{w w':World}{N:Nat}{name:String}{cs:Array Value}(h:w.var? P name=some cs)(hb:Below N w w')(hN:w.heap.size<=N):w'.var? P name=some cs:=by
 unfold World.var? at *
 cases hg:P.globalNamed name with
 | none=>simp[hg]at h
 | some g =>
 simp only[hg,Option.bind_some]at h ⊢
 have hlt:g<w.heap.size:=by
  rcases jiK g w.heap.size with h'|h'
  ·exact h'
  rw[ji1 h']at h;simp at h
 rw[hb.block g (by omega)]
 exact h
structure TabsN(w:World):Prop where
 pow:Lib.TabIs Tryz.prog w "internal/strconv.uint64pow10" .u64 Lib.pow10Tab
 syn:∃tp p,w.var? Tryz.prog "strconv.ErrSyntax" = some #[.iface tp p]
 ran:∃tp p,w.var? Tryz.prog "strconv.ErrRange" = some #[.iface tp p]
theorem TabsN.below{w w':World}{N:Nat}(h:TabsN w)(hb:Below N w w')(hN:w.heap.size<=N):TabsN w':=by
 obtain⟨a,⟨t1,p1,c⟩,⟨t2,p2,d⟩⟩:=h
 exact⟨qV a hb hN,⟨t1,p1,qV c hb hN⟩,⟨t2,p2,qV d hb hN⟩⟩
theorem yv{N:Nat}{w w':World}(h:Below N w w'){p:Addr}(hp:N<=p.block)(k:Nat):Below N w (w'.freeze p k):=by
 unfold World.freeze
 by_cases hk:k=0
 ·rw[if_pos hk];exact h
 rw[if_neg hk]
 refine⟨h.os,h.tape,h.output,?_,fun j hj => ?_⟩
 ·simp;exact h.size
 simp only[jj0]
 rw[if_neg (by omega)]
 exact h.block j hj
theorem xi(w:World)(e:TypeId)(s:ByteArray):Below w.heap.size w (Lib.bytesWorld w e s):=by
 unfold Lib.bytesWorld
 exact yv ((jil _ w).drew.alloc (jij _) _) (jij _) _
theorem atoi_any(l:List UInt8)(hl:l.length<=1000000)(w:World)(ht:TabsN w):
  Calls Tryz.prog 158 #[.string (B l)] w fun e w'=>(∃T q,e=.returned (.tuple #[.int .i64 (qm l),.nilIface])\/e=.returned (.tuple #[.int .i64 (qm l),.iface T q]))/\Below w.heap.size w w':=by
 cases h:Lib.atoiAll l with
 | ok v =>
  refine(Tryz.strconv_Atoi_ok (B l) (by rw[jm];omega) v (by rw[jo];exact h) w).mono ?_
  rintro e w' ⟨rfl,hw⟩
  refine⟨⟨0,undef,.inl (by unfold qm;rw[h])⟩,?_⟩
  rcases hw with rfl|⟨t,rfl⟩
  ·exact jil _ _
  exact xi _ _ _
 | range =>
  obtain⟨tp,p,hv⟩:=ht.ran
  refine(Tryz.strconv_Atoi_range_var (B l) (by rw[jm];omega) (by rw[jo];exact h) tp p w hv).mono ?_
  rintro e w' ⟨N,rfl,_,_,hb⟩
  exact⟨⟨_,_,.inr (by unfold qm;rw[h,jo])⟩,hb⟩
 | _ =>
 obtain⟨tp,p,hv⟩:=ht.syn
 refine(Tryz.strconv_Atoi_syntax_var (B l) (by rw[jm];omega) (by rw[jo];exact h) tp p w hv).mono ?_
 rintro e w' ⟨N,rfl,_,_,hb⟩
 exact⟨⟨_,_,.inr (by unfold qm;rw[h])⟩,hb⟩
theorem qz(u:Nat)(hu:u<18446744073709551616)(w:World):Calls Tryz.prog 218 #[.int .u64 u] w fun e w'=>e=.returned (.string (B (Lib.decDigits u)))/\w'=w:=by
 induction u using Nat.strongRecOn generalizing w with
 | _ u ih =>
 by_cases h:u<10
 ·rw[jjH h]
  clear ih hu
  obtain rfl|rfl|rfl|rfl|rfl|rfl|rfl|rfl|rfl|rfl:u=0\/u=1\/u=2\/u=3\/u=4\/u=5\/u=6\/u=7\/u=8\/u=9:=by omega
  all_goals
   go_enter Tryz.func218,Tryz.ntmps218
   go_wp2_with fail
   go_ret
   exact⟨by kernel_rfl,rfl⟩
 have q:¬(u:Int)<10:=by omega
 have I1:=jii (ih (u / 10) (by omega) (by omega))
 have I2:=jii (ih (u % 10) (by omega) (by omega))
 rw[Int.natCast_ediv]at I1
 rw[Int.natCast_emod]at I2
 have E:Hid (B (Lib.decDigits (u / 10))++B (Lib.decDigits (u % 10))=B (Lib.decDigits u)):=by
  show _=_
  rw[jE,jjH (i:=u % 10) (by omega)]
  congr 1
  conv=>rhs;rw[Lib.decDigits,dif_neg h]
 have S1:(B (Lib.decDigits (u / 10))).size<=30:=by
  rw[jm,jjK]
  have:=jka (u / 10) (by omega)
  omega
 have S2:(B (Lib.decDigits (u % 10))).size<=30:=by rw[jm,jjH (by omega)];exact(by decide:1<=30)
 clear ih
 generalize B (Lib.decDigits (u / 10))=x at *
 generalize B (Lib.decDigits (u % 10))=y at *
 go_enter Tryz.func218,Tryz.ntmps218
 go_wp2_with fail
 refine(I1.out _).mono ?_
 rintro e w1 ⟨rfl,rfl⟩
 go_wp2_with fail
 refine(I2.out _).mono ?_
 rintro e w1 ⟨rfl,rfl⟩
 go_wp2_with fail
 go_ret
 exact⟨by rw[<- E.out];rfl,rfl⟩
theorem figures_any(n:Int)(hn:I64 n)(w:World):Calls Tryz.prog 173 #[.int .i64 n] w fun e w'=>e=.returned (.string (B (Lib.itoa n)))/\w'=w:=by
 obtain⟨h0,h1⟩:=hn
 by_cases h:n<0
 ·obtain⟨u,rfl⟩:∃u:Nat,n = -((u:Int)+1):=⟨(-n-1).toNat,by omega⟩
  have q : -((u:Int)+1)<0:=by omega
  have w1:IntKind.i64.wrap (-((u:Int)+1)+1) = -(u:Int):=by rw[show -((u:Int)+1)+1 = -(u:Int) by omega];exact jiM _ (by omega)
  have w2:IntKind.i64.wrap (u:Int)=(u:Int):=jiM _ (by omega)
  have w3:IntKind.u64.wrap (u:Int)=(u:Int):=by rw[jjD];omega
  have w4:IntKind.u64.wrap ((u:Int)+1)=(u:Int)+1:=by rw[jjD];omega
  have I1:=jii (qz (u+1) (by omega) w)
  rw[jkB,show((1:Nat):Int)=1 from rfl]at I1
  have E:Hid ((⟨#[45]⟩:ByteArray)++B (Lib.decDigits (u+1))=B (Lib.itoa (-((u:Int)+1)))):=by
   show _=_
   rw[show -((u:Int)+1) = -((u+1:Nat):Int) by omega,Lib.itoa_neg _ (by omega),show(⟨#[45]⟩:ByteArray)=B [45] from rfl,jE];rfl
  have S1:(B (Lib.decDigits (u+1))).size<=30:=by
   rw[jm,jjK]
   have:=jka (u+1) (by omega)
   omega
  generalize B (Lib.decDigits (u+1))=x at *
  go_enter Tryz.func173,Tryz.ntmps173
  go_wp2_with fail
  refine I1.out.mono ?_
  rintro e w1 ⟨rfl,rfl⟩
  go_wp2_with fail
  go_ret
  exact⟨by rw[<- E.out];rfl,rfl⟩
 obtain⟨u,rfl⟩:∃u:Nat,n=(u:Int):=⟨n.toNat,by omega⟩
 have w3:IntKind.u64.wrap (u:Int)=(u:Int):=by rw[jjD];omega
 have I1:=jii (qz u (by omega) w)
 rw[jki]
 generalize B (Lib.decDigits u)=x at *
 go_enter Tryz.func173,Tryz.ntmps173
 go_wp2_with fail
 refine I1.out.mono ?_
 rintro e w1 ⟨rfl,rfl⟩
 go_wp2_with fail
 go_ret
 exact⟨rfl,rfl⟩
end Go.Proofs.YtimfhnfcmhmjcaaGreatDoor.Fr
namespace Go.Proofs.YtimfhnfcmhmjcaaGreatDoor.Sm
open Go.RowKit
theorem qW(s:ByteArray)(k:Nat)(h:k<s.size):s.data.toList.take (k+1)=s.data.toList.take k++[s[k]]:=by
 rw[List.take_succ_eq_append_getElem (by simpa using h)];rfl
theorem jh3(x c:Nat)(hx:x<4294967296)(hc:c<256):bits .xor .u32 (x:Int) ((c:Int)*16777216)=((x ^^^ c*16777216:Nat):Int):=by
 have h:=M.m24 c hc
 have e:((c:Int)*16777216)=((c*16777216:Nat):Int):=by omega
 rw[e]
 exact u32_xor_nat _ _ hx h
theorem jbd{k:IntKind}{a b:Int}(h:a=b):Ending.returned (.int k a)=.returned (.int k b):=by rw[h]
theorem jgG(z:Nat)(hz:z<4294967296)(h:((z:Int) / 2147483648==1)=true):bits .xor .u32 ((z:Int)*2 % 4294967296) 79764919=((M.st z:Nat):Int):=by
 have h1:(z:Int) / 2147483648=1:=by simpa using h
 have h2:z / 2147483648=1:=by omega
 unfold M.st
 rw[if_pos h2]
 have e:((z:Int)*2 % 4294967296)=((z*2 % 4294967296:Nat):Int):=by omega
 rw[e]
 exact u32_xor_nat _ 79764919 (jj9 _ (by decide)) (by decide)
theorem jhC(z:Nat)(h:((z:Int) / 2147483648==1)=false):((z:Int)*2 % 4294967296)=((M.st z:Nat):Int):=by
 have h1:¬(z:Int) / 2147483648=1:=by simpa using h
 have h2:¬z / 2147483648=1:=by omega
 unfold M.st
 rw[if_neg h2]
 omega
def T(k j:Nat):Nat:=if j<k then M.stn 4 (j*268435456) else 0
def tab(k:Nat):Array Value:=#[.int .u32 (T k 0:Nat),.int .u32 (T k 1:Nat),.int .u32 (T k 2:Nat),.int .u32 (T k 3:Nat),.int .u32 (T k 4:Nat),.int .u32 (T k 5:Nat),.int .u32 (T k 6:Nat),.int .u32 (T k 7:Nat),.int .u32 (T k 8:Nat),.int .u32 (T k 9:Nat),.int .u32 (T k 10:Nat),.int .u32 (T k 11:Nat),.int .u32 (T k 12:Nat),.int .u32 (T k 13:Nat),.int .u32 (T k 14:Nat),.int .u32 (T k 15:Nat)]
theorem JS(k:Nat):(tab k).size=16:=rfl
theorem VA(k j:Nat)(h:j<16):(tab k)[j]?=some (.int .u32 (T k j:Nat)):=by
 match j,h with
 | 0,_ | 1,_ | 2,_ | 3,_ | 4,_ | 5,_ | 6,_ | 7,_ | 8,_ | 9,_ | 10,_ | 11,_ | 12,_ | 13,_ | 14,_ | 15,_=>rfl
 | n+16,h=>omega
theorem je9(k:Nat)(h:k<16):(tab k).setIfInBounds k (.int .u32 (M.stn 4 (k*268435456):Nat))=tab (k+1):=by
 apply Array.ext_getElem?
 intro j
 rw[ji8]
 by_cases hj:j<16
 ·rw[VA _ _ hj,VA _ _ hj,JS]
  by_cases e:k=j
  ·subst e;simp[h,T]
  have:T (k+1) j=T k j:=by unfold T;by_cases a:j<k<;>simp[a]<;>omega
  rw[if_neg e,this]
 have:k≠j:=by omega
 rw[if_neg this,ji1 (by rw[JS];omega),ji1 (by rw[JS];omega)]
theorem jad(w:World):
  Calls Tryz.prog 155 #[] w fun e w'=>e=.returned (.agg (tab 16))/\Below w.heap.size w w':=by
 go_enter Tryz.func155,Tryz.ntmps155
 go_wp2
 go_loopw [3,5] (fun r i wr=>∃k:Nat,k<=16/\i=.int .i64 k/\wr=(w.alloc (.cells #[Value.int IntKind.u32 0,Value.int IntKind.u32 0,Value.int IntKind.u32 0,Value.int IntKind.u32 0,Value.int IntKind.u32 0,Value.int IntKind.u32 0,Value.int IntKind.u32 0,Value.int IntKind.u32 0,Value.int IntKind.u32 0,Value.int IntKind.u32 0,Value.int IntKind.u32 0,Value.int IntKind.u32 0,Value.int IntKind.u32 0,Value.int IntKind.u32 0,Value.int IntKind.u32 0,Value.int IntKind.u32 0] 229)).alloc (.cells (tab k) 229)) (fun _ i _=>16-(intOf i).toNat)
 case atStart=>exact⟨0,by omega,rfl,rfl⟩
 case round =>
 obtain⟨k,hk,rfl,rfl⟩:=hrel
 by_cases hlt:k<16
 ·have hx:k*268435456<4294967296:=by omega
  go_wp2
  go_loop [3,11] (fun x i=>∃j:Nat,j<=4/\i=.int .i64 j/\x=.int .u32 (M.stn j (k*268435456):Nat)) (fun _ i=>4-(intOf i).toNat)
  case atStart=>exact⟨0,by omega,rfl,by simp[M.stn]⟩
  case round =>
  obtain⟨j,hj,rfl,rfl⟩:=hrel
  have hz:=M.stn_lt j _ hx
  have hst:=M.stn_succ j (k*268435456)
  have ht:=VA k k hlt
  have hset:=je9 k hlt
  generalize hzz:M.stn j (k*268435456)=z at *
  have HZ:=jii hzz
  have HQ:=jii hst
  have HS:=jii hset
  clear hzz hst hset
  go_wp2
  ·have ht:((z:Int) / 2147483648==1)=true:=by assumption
   go_round
   case rel=>exact⟨j+1,by omega,by go_num,by rw[HQ.out,jgG z hz ht]⟩
   case measure=>simp[intOf];omega
  ·have ht:((z:Int) / 2147483648==1)=false:=by assumption
   go_round
   case rel=>exact⟨j+1,by omega,by go_num,by rw[HQ.out,jhC z ht]⟩
   case measure=>simp[intOf];omega
  have:j=4:=by omega
  go_roundw
  case rel=>exact⟨k+1,by omega,by go_num,by rw[<- HS.out,<- HZ.out,this]⟩
  case measure=>simp[intOf];omega
 have:k=16:=by omega
 subst this
 simp only[tab]
 go_wp2
 exact bodyPost_ret (v:=.agg (tab 16)) (by simp[results,Tryz.results155,go_sem,tab]) rfl ⟨rfl,by repeat (first | exact jil _ _ | (refine Below.alloc ?_ (by simp) _) | (refine Below.setCell ?_ (by simp) _))⟩
theorem jg8(y:Nat)(hy:y<4294967296):(tab 16)[y / 268435456]?=some (.int .u32 (M.stn 4 (y / 268435456*268435456):Nat)):=by
 have h:y / 268435456<16:=by omega
 rw[VA 16 _ h]
 unfold T
 rw[if_pos h]
theorem jh1(y:Nat)(hy:y<4294967296):bits .xor .u32 ((y:Int)*16 % 4294967296) (M.stn 4 (y / 268435456*268435456):Nat)=((M.stn 4 y:Nat):Int):=by
 have h1:y / 268435456*268435456<4294967296:=by omega
 have h2:=M.stn_lt 4 _ h1
 rw[M.four y hy]
 have e:((y:Int)*16 % 4294967296)=((y*16 % 4294967296:Nat):Int):=by omega
 rw[e]
 exact u32_xor_nat _ _ (jj9 _ (by decide)) h2
theorem jeh(x:Nat)(hx:x<4294967296)(s:ByteArray)(w:World)(hs:s.size<=maxLen):
  Calls Tryz.prog 156 #[.int .u32 x,.agg (tab 16),.string s] w fun e w'=>e=.returned (.int .u32 (M.feed x s.data.toList:Nat))/\Below w.heap.size w w':=by
 unfold maxLen at hs
 go_enter Tryz.func156,Tryz.ntmps156
 go_wp2
 go_loop [0,10] (fun r i=>∃k:Nat,k<=s.size/\i=.int .i64 k/\r=.int .u32 (M.feed x (s.data.toList.take k):Nat)) (fun _ i=>s.size-(intOf i).toNat)
 case atStart=>exact⟨0,by omega,rfl,rfl⟩
 case round =>
 obtain⟨k,hk,rfl,rfl⟩:=hrel
 by_cases hlt:k<s.size
 ·have hx0:=M.feed_lt (s.data.toList.take k) x hx
  have hc:=s[k].toNat_lt
  have HS:Hid (M.feed x (s.data.toList.take (k+1))=M.stn 4 (M.stn 4 (M.feed x (s.data.toList.take k) ^^^ s[k].toNat*16777216))):=by
   rw[qW s k hlt,M.feed_snoc];rfl
  generalize M.feed x (s.data.toList.take k)=x0 at *
  have X:=jh3 _ _ hx0 hc
  have hy:x0 ^^^ s[k].toNat*16777216<4294967296:=jjS (n:=32) hx0 (M.m24 _ hc)
  generalize x0 ^^^ s[k].toNat*16777216=y at *
  have hz:=M.stn_lt 4 y hy
  have c1:=jg8 y hy
  have x1:=jh1 y hy
  generalize M.stn 4 y=z at *
  have c2:=jg8 z hz
  have x2:=jh1 z hz
  go_wp2
  go_round
  case rel=>exact⟨k+1,by omega,by go_num,by rw[HS.out]⟩
  case measure=>simp[intOf];omega
 go_wp2
 have:k=s.size:=by omega
 subst this
 go_ret
 exact⟨by rw[ji2 (by simp)];rfl,(jil _ _).alloc (jij _) _⟩
def Strs(w:World)(v:Value)(ss:List ByteArray):Prop :=
 ∃A cap,v=.slice A ss.length cap/\(∀i s,ss[i]?=some s->∃b off,A=some ⟨b,off,none⟩/\b<w.heap.size/\w.cell? ⟨b,off+i,none⟩=some (.string s))
theorem Wj:(Tryz.prog.info? 229).map (·.size)=some (tab 16).size:=by kernel_rfl
theorem jfa:(tab 16).all (·.oneCell')=true:=by kernel_rfl
theorem jhO(x:Nat)(h:x<4294967296):bits .xor .u32 IntKind.u32.max (x:Int)=((4294967295-x:Nat):Int):=by
 have e:IntKind.u32.max=((4294967295:Nat):Int):=by decide
 rw[e,u32_xor_nat _ _ (by decide) h]
 congr 1
 apply jkF
 intro i
 have h1:(4294967295-x)=2 ^ 32-(x+1):=by omega
 have h2:(4294967295:Nat)=2 ^ 32-1:=by decide
 rw[h1,jkh,Nat.testBit_two_pow_sub_succ h,h2,Nat.testBit_two_pow_sub_one]
 by_cases hi:i<32
 ·simp[hi]
 have h3:2 ^ 32<=2 ^ i:=Nat.pow_le_pow_right (by decide) (by omega)
 have:x.testBit i=false:=Nat.testBit_lt_two_pow (jiF h h3)
 simp[hi,this]
def jhn(w:World)(B:Nat):Prop:=w.heap[B]?=some (.cells (tab 16) 229 (0,0))
theorem sum_any(v:Value)(ss:List ByteArray)(w:World)(hv:Strs w v ss)(hl:ss.length<=maxLen)(hs:∀(i:Nat) (s:ByteArray),ss[i]?=some s->s.size<=maxLen):
  Calls Tryz.prog 96 #[v] w fun e w'=>e=.returned (.int .u32 (4294967295-M.feed 4294967295 (cat ss):Nat))/\Below w.heap.size w w':=by
 obtain⟨A,cap,rfl,hc⟩:=hv
 unfold maxLen at hl
 go_enter Tryz.func96,Tryz.ntmps96
 go_wp2_with (go_at_call 155;refine(jad _).mono ?_;rintro e w1 ⟨rfl,hb1⟩;have hst:=run_storeCells_new (P:=Tryz.prog) w1 229 #[Value.int IntKind.u32 0,Value.int IntKind.u32 0,Value.int IntKind.u32 0,Value.int IntKind.u32 0,Value.int IntKind.u32 0,Value.int IntKind.u32 0,Value.int IntKind.u32 0,Value.int IntKind.u32 0,Value.int IntKind.u32 0,Value.int IntKind.u32 0,Value.int IntKind.u32 0,Value.int IntKind.u32 0,Value.int IntKind.u32 0,Value.int IntKind.u32 0,Value.int IntKind.u32 0,Value.int IntKind.u32 0] (tab 16) Wj (by rfl) jfa;have hsz:=JS 16)
 clear hst hsz
 have hrow:jhn (w1.alloc (.cells (tab 16) 229)) w1.heap.size:=heap_alloc_last _ _
 have hbw:Below w.heap.size w (w1.alloc (.cells (tab 16) 229)):=hb1.alloc hb1.size _
 have hlt:w.heap.size<=w1.heap.size:=hb1.size
 have hlt':w1.heap.size<(w1.alloc (.cells (tab 16) 229)).heap.size:=by simp
 generalize (w1.alloc (.cells (tab 16) 229))=w2 at *
 generalize w1.heap.size=L at *
 clear hb1
 go_loopw [4,10] (fun r i wr=>∃k:Nat,k<=ss.length/\i=.int .i64 k/\r=.int .u32 (M.feed 4294967295 (cat (ss.take k)):Nat)/\Below w.heap.size w wr/\jhn wr L/\L<wr.heap.size) (fun _ i _=>ss.length-(intOf i).toNat)
 case atStart=>exact⟨0,by omega,rfl,rfl,hbw,hrow,hlt'⟩
 case round =>
 obtain⟨k,hk,rfl,rfl,hb,hr,hL⟩:=hrel
 by_cases hlt:k<ss.length
 ·obtain⟨s,hsk⟩:∃s,ss[k]?=some s:=⟨_,jim hlt⟩
  obtain⟨b,off,rfl,hbb,hcell⟩:=hc k s hsk
  have hcw:wr.cell? ⟨b,off+k,none⟩=some (.string s):=(hb.cell (p:=⟨b,off+k,none⟩) hbb).trans hcell
  have hx:=M.feed_lt (cat (ss.take k)) 4294967295 (by decide)
  have HS:Hid (M.feed 4294967295 (cat (ss.take (k+1)))=M.feed (M.feed 4294967295 (cat (ss.take k))) s.data.toList):=by
   rw[jez ss k s hsk,M.feed_append];rfl
  have hsz:=hs k s hsk
  generalize M.feed 4294967295 (cat (ss.take k))=x0 at *
  clear hc hcell hbw hrow hlt' hs hsk
  go_wp2_with (first | (refine wpList_load_row rfl 229 _ rfl L rfl 229 (tab 16) (0,0) _ hr Tryz.underlying229 rfl Wj ?_) | (go_at_call 156;refine(jeh _ hx _ _ hsz).mono ?_;rintro e w3 ⟨rfl,hb3⟩))
  go_roundw
  case rel=>exact⟨k+1,by omega,by go_num,by rw[HS.out],hb.trans (hb3.mono hb.size),(hb3.block _ hL).trans hr,jiF hL hb3.size⟩
  case measure=>simp[intOf];omega
 have:k=ss.length:=by omega
 subst this
 have hfl:=M.feed_lt (cat ss) 4294967295 (by decide)
 rw[jiL]
 go_wp2
 go_ret
 exact⟨jbd (jhO _ hfl),hb⟩
end Go.Proofs.YtimfhnfcmhmjcaaGreatDoor.Sm
