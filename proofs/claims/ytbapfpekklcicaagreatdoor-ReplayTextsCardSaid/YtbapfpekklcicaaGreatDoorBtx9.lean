/- Texts put together:FQ,FR,TD,TE,TL,UA,UK,UB,UC. -/
import Derived.Test.YtbapfpekklcicaaGreatDoorBtx8
set_option linter.unusedVariables false
set_option maxRecDepth 100000
set_option maxHeartbeats 16000000
namespace Go.Proofs.YtbapfpekklcicaaGreatDoor
open Go.RowKit Go.Shelf Tryz
abbrev jpz:=@List.mem_of_mem_drop
abbrev jpM:=@List.mem_of_mem_take
abbrev jpX:=@Go.World.cell?_of_block
abbrev jp4:=@List.filter_cons
abbrev jq1:=@List.getElem?_modify
abbrev jq8:=@List.find?_cons
theorem jeO{l:List UInt8}(h:(10:UInt8)∉l):(jm l=1↔jS l=true):=by
 unfold jm;rw[Gn h,if_neg (by decide)];cases a:jS l with
 | true=>simp
 | false =>
 rw[if_neg (by decide)];constructor
 ·intro h;split at h
  ·cases h
  split at h
  ·cases h
  split at h<;>cases h
 intro h;cases h
theorem jaG(k v:List UInt8)(hk:k.length<=100000)(hv:v.length<=100000)(w:World):
  Calls prog 199 #[zC k v] w fun e w'=>∃sv Q,e=.returned sv/\yq w' Q sv ((jY k v).map B)/\Below w.heap.size w w':=by
 obtain⟨i0,hi,av,aw,ax⟩:=info_parts Xs;have PA:=fun w=>jaD v (by omega) w
 obtain⟨p,r,hp⟩:∃p r,jv v=p::r:=⟨_,_,zk v⟩
 rw[hp]at PA;obtain⟨z1,z2,z3⟩:=jdp hp;have R:∀q∈p::r,(10:UInt8)∉q:=by rw[<- hp];exact yw v
 have HL:=joI (jdx (k:=k) hp);clear hp;unfold zC;have aI:=jg k
 have h1:(B k ++ ⟨#[58]⟩)=B (k++[58]):=jn k [58];have h2:(B (k++[58]) ++ ⟨#[32]⟩)=B ((k++[58])++[32]):=jn _ [32]
 have h3:(B ((k++[58])++[32])++B p)=B (((k++[58])++[32])++p):=jn _ p;have y1:(B (k++[58])).size=k.length+1:=by rw[jg];simp
 have y2:(B ((k++[58])++[32])).size=k.length+2:=by rw[jg];simp
 have ag:=jg p;have E:p=[]->B (zP k p)=B (k++[58]):=fun h=>by unfold zP;rw[if_pos h]
 have G:p≠[]->B (zP k p)=B (((k++[58])++[32])++p):=fun h=>by unfold zP;rw[if_neg h];simp
 go_enter func199,ntmps199;go_wp2_with fail;refine(PA _).mono ?_;rintro e l ⟨v1,rfl,a,b1⟩;obtain⟨g,aC,rfl,am,a8⟩:=a.form (by simp);have c0:=b1.cell (p:=⟨w.heap.size,0,none⟩) (by simp)
 have H:Below w.heap.size w l:=((joL _ _).alloc (joJ _) _).trans (b1.mono (by simp));have PC:∀(j:Nat) x,(p::r)[j]?=some x->l.cell? ⟨g,j,none⟩=some (.string (B x)):=fun j x hx=>a.cell rfl j (B x) (by rw[jpx,hx];rfl)
 have e0:=PC 0 p rfl;simp only[jo8,joR];simp only[jqg _ _ _ _ rfl]at c0;have ai:=joI (fun(j:Nat) x (hx:r[j]?=some x)=>PC (j+1) x (by simpa using hx))
 have U:=joI (fun q hq=>R q (joU _ hq));have BW:=joI H
 replace c0:l.cell? ⟨w.heap.size,0,none⟩=some (.string (B k)):=c0;have ar:=H.size
 clear PC PA b1 a am R H;generalize Z:B (zP k p)=C at *
 have ah:Hid (((jY k v).map B)=C::(r.map jx).map B):=by show _=_;rw[HL.out,jpr,Z]
 clear Z HL;have aq:(p=[]/\C=B (k++[58]))\/(p≠[]/\C=B (((k++[58])++[32])++p)):=by
  by_cases f:p=[]
  ·exact .inl ⟨f,E f⟩
  exact .inr ⟨f,G f⟩
 clear E G;rcases aq with ⟨f,W⟩|⟨f,W⟩
 case' inl =>
  subst f;rw[show B []=⟨#[]⟩ from rfl]at *
  rw[<- W]at h1;clear W h2 h3 y1 y2 ag z1;generalize B k=K at *
  go_wp2_with fail
 case' inr =>
  obtain⟨n1,n2⟩:=jin f;rw[<- W]at h3;clear W f;generalize B k=K at *
  generalize B (k++[58])=K1 at *
  generalize B ((k++[58])++[32])=K2 at *
  generalize B p=P at *
  go_wp2_with fail;clear h1 h2 h3 y1 y2 ag n1 n2
 all_goals
  go_loopw [5,6] (fun v5 i wr=>∃n:Nat,n<=r.length/\i=.int .i64 ((n:Int)+1)/\yq wr l.heap.size v5 (C::((r.take n).map jx).map B)/\Below l.heap.size l wr) (fun _ i _=>r.length+1-(intOf i).toNat)
  case atStart=>exact⟨0,joT _,rfl,yq.one l _ (joJ _) _,(joL _ _).alloc (joJ _) _⟩
  case round =>
  obtain⟨n,hn,rfl,a,hb⟩:=hrel;by_cases aa:n<r.length
  ·obtain⟨x,hx⟩:∃x,r[n]?=some x:=⟨_,joM aa⟩
   have V:=(hb.cell (p:=⟨g,n+1,none⟩) a8).trans (ai.out n x hx);have A:=joW hx
   have au:=z2 x A;have D:=U.out x A
   have af:=jg x;have RK:=fun w=>vy (B x) (by omega) w
   rw[jj]at RK;have TK:Hid (C::((r.take (n+1)).map jx).map B=(C::((r.take n).map jx).map B)++[B (jx x)]):=by show _=_;rw[jpd,hx];simp
   have N:Hid ((C::((r.take n).map jx).map B).length=n+1):=by show _=_;simp;omega
   have ae:=hb.size;have kc:=jeO D
   cases b:jS x
   case' true =>
    have m:=kc.2 b;have a7:⟨#[32,46]⟩++B x=B (jx x):=by unfold jx Jz;rw[b];exact jn [32,46] x
    rw[m]at RK;clear hx m kc b D A;generalize (C::((r.take n).map jx).map B)=ls at *
    generalize B (jx x)=Y at *
    generalize B x=X at *
   case' false =>
    have m:jm x≠1:=fun e=>by rw[kc.1 e]at b;cases b
    obtain⟨c,t,rfl⟩:=Ze b;have aE:((jm (c::t):Int)==1)=false:=by rw[beq_eq_false_iff_ne];omega
    have q2:=qW (c:=c) (d:=46) 46 rfl;have aD:∀h:0<(B (c::t)).size,(B (c::t))[0]'h=c:=fun _=>rfl
    have aB:(B (c::t)).size=t.length+1:=af;have aG:t.length<=1000000:=by simp only[joR]at au;omega
    have aH:0<(B (c::t)).size:=by omega
    clear af;by_cases L:c=46
   case' pos =>
    have a7:⟨#[32,46]⟩++B (c::t)=B (jx (c::t)):=by unfold jx Jz;rw[L];simp;exact jn [32,46] (46::t)
    have I:(c==46)=true:=by simp[L]
    rw[I]at q2;clear hx m kc b D A L;generalize (C::((r.take n).map jx).map B)=ls at *
    generalize jm (c::t)=kx at *
    generalize B (jx (c::t))=Y at *
    generalize B (c::t)=X at *
   case' neg =>
    have a7:⟨#[32]⟩++B (c::t)=B (jx (c::t)):=by unfold jx Jz;rw[b];simp[L];exact jn [32] (c::t)
    have I:(c==46)=false:=by simp[L]
    rw[I]at q2;clear hx m kc b D A L;generalize (C::((r.take n).map jx).map B)=ls at *
    generalize jm (c::t)=kx at *
    generalize B (jx (c::t))=Y at *
    generalize B (c::t)=X at *
   all_goals
    go_wp2_with fail;refine(RK _).mono ?_;rintro e w4 ⟨rfl,O⟩;have aA:=(O.cell (p:=⟨g,n+1,none⟩) (jo4 a8 ae)).trans V
    have s:w4.ownsRow l.heap.size 9 1 u5 (n+1) (ls.map Value.string):=by rw[<- N.out];exact a.kept O (joJ _)
    have aF:=O.size;have HC:=joI (Ue w4 Y 9)
    have aj:Below l.heap.size l w4:=hb.trans (O.mono ae);clear a O V;go_wp2_with (at_builtin;refine wpList_append_own _ rfl _ _ 158 rfl l.heap.size 9 i0 _ 1 16 underlying158 hi av aw ax rfl (by decide) _ _ _ rfl (s.alloc _) ⟨w4.heap.size,0,none⟩ 1 1 _ rfl rfl HC.out ?c2 ?c3 ?c4 ?c5 ?_)
    case c2=>intro u hu;simp at hu;subst hu;rfl
    case c3=>unfold maxLen;omega
    case c4=>omega
    case c5=>simp;omega
    intro v' w5 o J _;obtain⟨g',ay,rfl⟩:=ownsRow_succ o;have ak:Below l.heap.size l w5:=(aj.alloc (by omega) _).grown J (by simp;omega) (fun j ej=>(s.lt j ej).1)
    have z:=yq.grow (ls:=ls) (y:=Y) o N.out;rw[<- TK.out]at z;go_wp2_with fail;go_roundw
    case rel=>exact⟨n+1,aa,by go_num,z,ak⟩
    case measure=>simp[intOf];omega
  obtain rfl:n=r.length:=by omega
  rw[jpa]at a;go_wp2_with fail;go_ret;exact⟨_,_,rfl,by rw[ah.out];exact a,BW.out.trans (hb.mono ar)⟩
theorem jbW(k v:List UInt8)(a:k.length<=100000)(b:v.length<=100000):(jq (jY k v)).length<=500000:=by
 rw[xY];have:=jaV k v
 omega
theorem YR(fs:List (List UInt8×List UInt8))(v:Value)(w:World)(hs:vP w v fs)(hn:fs.length<=1000)(hl:∀f∈fs,f.1.length<=100000/\f.2.length<=100000):
  Calls prog 160 #[v] w fun e w'=>e=.returned (.string (B (jO fs)))/\Below w.heap.size w w':=by
 obtain⟨A,U,rfl,W,K⟩:=hs;have P:=joI K
 clear K;go_enter func160,ntmps160;go_wp2_with fail;go_loopw [3,4] (fun s i wr=>∃k:Nat,k<=fs.length/\i=.int .i64 k/\s=.string (B (jO (fs.take k)))/\(jO (fs.take k)).length<=500000*k/\Below w.heap.size w wr) (fun _ i _=>fs.length-(intOf i).toNat)
 case atStart=>exact⟨0,joT _,rfl,rfl,joJ _,joL _ _⟩
 case round =>
 obtain⟨k,hk,rfl,rfl,L,l⟩:=hrel;by_cases r:k<fs.length
 ·obtain⟨f,u⟩:∃f,fs[k]?=some f:=⟨_,joM r⟩
  obtain⟨b,t,rfl,m,H,I⟩:=P.out k f u;replace H:=(l.cell (p:=⟨b,t+k*2,none⟩) m).trans H;replace I:=(l.cell (p:=⟨b,t+k*2+1,none⟩) m).trans I;obtain⟨o,q⟩:=hl f (joW u);have h:fs.take (k+1)=fs.take k++[f]:=by rw[jpd,u];rfl
  have D:Hid (jO (fs.take (k+1))=jO (fs.take k)++jq (jY f.1 f.2)):=by show _=_;rw[h,Wx]
  have y:=fun w=>jaG f.1 f.2 o q w;have C:=jbW f.1 f.2 o q
  have Y:1<=(jY f.1 f.2).length:=by rw[Wo];omega
  have Z:(jY f.1 f.2).length<=500000:=by rw[xY]at C;omega
  unfold zC at y;clear h u;generalize jO (fs.take k)=a at *
  go_wp2_with fail;refine(y _).mono ?_;rintro e w2 ⟨sv,G,rfl,d,E⟩;have z:=l.trans (E.mono l.size)
  obtain⟨g,J,rfl,_,_⟩:=d.form (by simp;omega);have O:=joI (fun(j:Nat) x (hx:(jY f.1 f.2)[j]?=some x)=>d.cell rfl j (B x) (by rw[jpx,hx];rfl))
  rw[jo8]at *
  clear d E y;generalize jY f.1 f.2=c at *
  go_wp2_with fail;go_loopw [3,19] (fun s i wq=>∃j:Nat,j<=c.length/\i=.int .i64 j/\s=.string (B (a++jq (c.take j)))/\w2=wq) (fun _ i _=>c.length-(intOf i).toNat)
  case atStart=>exact⟨0,joT _,rfl,by simp[jq],rfl⟩
  case round =>
  obtain⟨j,hj,rfl,rfl,rfl⟩:=hrel;by_cases n:j<c.length
  ·obtain⟨x,hx⟩:∃x,c[j]?=some x:=⟨_,joM n⟩
   have V:=O.out j x hx;have Q:Hid (B (a++jq (c.take (j+1)))=(B (a++jq (c.take j))++B x) ++ ⟨#[10]⟩):=by show _=_;rw[jpd,hx,show(some x).toList=[x] from rfl,Qw,show(⟨#[10]⟩:ByteArray)=B [10] from rfl,jn,jn];simp
   have N:=KG c (j+1);rw[jpd,hx,show(some x).toList=[x] from rfl,Qw,joK,joK]at N;simp only[jpA]at N;have y1:=jg (a++jq (c.take j))
   rw[joK]at y1;have y2:=jg x
   have y3:(B (a++jq (c.take j))++B x).size=a.length+(jq (c.take j)).length+x.length:=by rw[jn,jg,joK,joK]
   clear hx;generalize B (a++jq (c.take j))=R at *
   generalize B x=X at *
   go_wp2_with fail;go_roundw
   case rel=>exact⟨j+1,n,by go_num,by rw[Q.out],trivial⟩
   case measure=>simp[intOf];omega
  obtain rfl:j=c.length:=by omega
  rw[jpa];go_wp2_with fail;go_roundw
  case rel =>
   refine⟨k+1,r,by go_num,by rw[D.out],?_,z⟩;rw[D.out,joK];omega
  case measure=>simp[intOf];omega
 obtain rfl:k=fs.length:=by omega
 rw[jpa];go_wp2_with fail;go_ret;exact⟨rfl,l⟩
section
attribute [local go_sem] qN
theorem yN(fs:List Fld)(v:Value)(w:World)(hs:vP w v fs)(hn:fs.length<=1000000)(hl:∀f∈fs,f.1.length<=1000000/\f.2.length<=1000000):
  Calls prog 173 #[v] w fun e w'=>e=.returned (.tuple #[.int .i64 (vz fs),.int .i64 (qD fs:Nat)])/\Below w.heap.size w w':=by
 obtain⟨A,a7,rfl,aa,V⟩:=hs;have O:=joI V
 have N:=joI hl;clear V hl;by_cases x:fs.length=0
 ·have P:vz fs = -9:=by unfold vz;rw[if_pos (.inl x)]
  have r:qD fs=2:=by unfold qD;rw[if_pos x]
  rw[P,r,x];go_enter func173,ntmps173;go_wp2_with fail;go_ret2;exact⟨rfl,joL _ _⟩
 have c0:((fs.length:Int)==0)=false:=by simp;intro h;exact x (by rw[h];rfl)
 by_cases s:40<fs.length
 ·have P:vz fs = -9:=by unfold vz;rw[if_pos (.inr (.inl s))]
  have r:qD fs=11:=by unfold qD;rw[if_neg x,if_pos s]
  rw[P,r];go_enter func173,ntmps173;go_wp2_with fail;go_ret2;exact⟨rfl,joL _ _⟩
 have r:qD fs=foldN fs:=by unfold qD;rw[if_neg x,if_neg s]
 have g:Hid (foldN fs=0->vz fs = -9/\qD fs=0):=by intro Y;exact⟨by unfold vz;rw[if_pos (.inr (.inr Y))],by rw[r,Y]⟩
 have d:Hid (∀(k n:Nat),foldN fs=n->n≠0->xL fs=k->vz fs=(k:Nat)/\qD fs=n):=by intro k n m ae X;refine⟨?_,by rw[r,m]⟩;unfold vz;rw[if_neg (by unfold jkP;rintro(h | h | h)<;>omega),X]
 clear r;go_enter func173,ntmps173;go_wp2_with fail;go_loopw [4] (fun i wr=>∃k:Nat,k<=fs.length/\i=.int .i64 k/\foldN fs=foldN (fs.drop k)/\xL fs=xL (fs.drop k)+k/\Below w.heap.size w wr) (fun i _=>fs.length-(intOf i).toNat)
 case atStart=>exact⟨0,joT _,rfl,rfl,rfl,joL _ _⟩
 case round =>
 obtain⟨k,X,rfl,l,y,z⟩:=hrel;by_cases j:k<fs.length
 ·obtain⟨f,m⟩:∃f,fs[k]?=some f:=⟨_,joM j⟩
  obtain⟨b,L,rfl,H,G,U⟩:=O.out k f m;replace G:=(z.cell (p:=⟨b,L+k*2,none⟩) H).trans G;replace U:=(z.cell (p:=⟨b,L+k*2+1,none⟩) H).trans U;obtain⟨Q,R⟩:=N.out f (joW m);have c:fs.drop k=f::fs.drop (k+1):=by rw[jpp j];rw[joM j]at m;rw[joN m]
  have K:=z.size;have u:=fun W=>jaI f.1 f.2 Q R W
  unfold zC at u;rw[c]at l y;by_cases a:zh f.1 f.2=0
  ·have Z:Hid (foldN fs=foldN (fs.drop (k+1))):=by show _=_;rw[l];show(if zh f.1 f.2=0 then foldN (fs.drop (k+1)) else _)=_;rw[if_pos a]
   have G2:Hid (xL fs=xL (fs.drop (k+1))+(k+1)):=by show _=_;rw[y];show(if zh f.1 f.2=0 then xL (fs.drop (k+1))+1 else _)+k=_;rw[if_pos a];omega
   rw[a]at u;clear c l y m a d g O N;go_wp2_with fail;refine(u _).mono ?_;rintro e w2 ⟨rfl,E⟩;have t:=z.trans (E.mono K)
   clear E u;go_wp2_with fail;go_roundw
   case rel=>exact⟨k+1,j,by go_num,Z.out,G2.out,t⟩
   case measure=>simp[intOf];omega
  have J:foldN fs=zh f.1 f.2:=by rw[l];unfold foldN;rw[if_neg a]
  have I:xL fs=k:=by rw[y];unfold xL;rw[if_neg a];omega
  obtain⟨C,D⟩:=d.out k (zh f.1 f.2) J a I;have a8:((zh f.1 f.2:Int) != 0)=true:=by simp;omega
  have o:=joI C;have q:=joI D
  clear c l y m d g O N J I C D;generalize zh f.1 f.2=cn at *
  go_wp2_with fail;refine(u _).mono ?_;rintro e w2 ⟨rfl,E⟩;have t:=z.trans (E.mono K)
  clear E u;go_wp2_with fail;go_ret2;exact⟨by rw[o.out,q.out];rfl,t⟩
 obtain rfl:k=fs.length:=by omega
 rw[jp0]at l;obtain⟨C,D⟩:=g.out l;have o:=joI C
 have q:=joI D;clear l y d g O N C D;go_wp2_with fail;go_ret2;exact⟨by rw[o.out,q.out];rfl,z⟩
end
section
def jm7(rs:List (List Fld)):List UInt8:=zY (rs.map jO)
def jn9(rs:List (List Fld)):Option (List Fld):=rs.find? fun r=>qD r != 0
theorem jh6{a:List (List Fld)}(h:∀r∈a,qD r=0):jn9 a=none:=by unfold jn9;rw[List.find?_eq_none];intro r b;simp[h r b]
def jcQ(w:World)(rs:List (List Fld))(e:Ending)(w':World):Prop :=
 Below w.heap.size w w'/\match jn9 rs with
  | some r=>∃u,e=.returned (.tuple #[.string (B []),u])/\JF w.heap.size w' u r/\qD r≠0
  | none=>e=.returned (.tuple #[.string (B (jm7 rs)),.nilIface])/\∀r∈rs,qD r=0
theorem jcQ.yes{w w':World}{a:List (List Fld)}(h:∀r∈a,qD r=0)(b:Below w.heap.size w w'):jcQ w a (.returned (.tuple #[.string (B (jm7 a)),.nilIface])) w' :=
 ⟨b,by rw[jh6 h];exact⟨rfl,h⟩⟩
attribute [local go_sem] qN
end
section
def zI(fs:List Fld):It:=⟨3,jO fs,fs⟩
theorem jcw(fs:List Fld):jO fs=jq (jE fs):=by unfold jO jE jq;rw[List.flatMap_assoc]
abbrev En:=It×Int
structure LS where
 es:List En
 next:Int
def Qr{α:Type}(κ:α->Int):Nat->List α->List (Nat×α)
 | _,[]=>[]
 | k,e::r=>if κ e=3 then (k,e)::Qr κ (k+1) r else Qr κ (k+1) r
section
variable {α:Type} {κ:α->Int}
theorem Yj:∀(k:Nat) (a:List α),(Qr κ k a).length<=a.length
 | k,[]=>joJ _
 | k,e::r=>by
  have b:=Yj (k+1) r;show(if κ e=3 then (k,e)::Qr κ (k+1) r else Qr κ (k+1) r).length<=_
  split
  ·simp only[joR];omega
  simp only[joR];omega
theorem xj:∀(k:Nat) (d:List α) (x:Nat×α),x∈Qr κ k d->k<=x.1/\d[x.1-k]?=some x.2/\κ x.2=3
 | k,[],x,h=>by cases h
 | k,e::r,x,h=>by
  have i:=xj (k+1) r x;have f:x∈Qr κ (k+1) r->k<=x.1/\(e::r)[x.1-k]?=some x.2/\κ x.2=3:=fun q=>by obtain⟨a,b,c⟩:=i q;refine⟨by omega,?_,c⟩;rw[show x.1-k=(x.1-(k+1))+1 by omega,joO];exact b
  unfold Qr at h;split at h
  ·rename_i g;rcases List.mem_cons.1 h with rfl|h
   ·exact⟨joJ _,by simp,g⟩
   exact f h
  exact f h
theorem jap:∀(b:List α) (k j:Nat) (e:α),b[j]?=some e->Qr κ (k+j) (b.drop j)=if κ e=3 then (k+j,e)::Qr κ (k+(j+1)) (b.drop (j+1)) else Qr κ (k+(j+1)) (b.drop (j+1))
 | [],k,j,e,h=>by simp at h
 | a::r,k,0,e,h=>by simp at h;subst h;rfl
 | a::r,k,j+1,e,h=>by have c:=jap r (k+1) j e (by simpa using h);rw[show k+1+j=k+(j+1) by omega,show k+1+(j+1)=k+(j+1+1) by omega]at c;exact c
theorem Yi{d:Type}(f:d->α):∀(k:Nat) (a:List d),(Qr (fun b=>κ (f b)) k a).map (fun x=>(x.1,f x.2))=Qr κ k (a.map f)
 | k,[]=>rfl
 | k,e::r=>by
  have c:=Yi f (k+1) r;show((if κ (f e)=3 then (k,e)::Qr _ (k+1) r else Qr _ (k+1) r).map _)=if κ (f e)=3 then (k,f e)::Qr κ (k+1) (r.map f) else Qr κ (k+1) (r.map f)
  split
  ·rw[jpr,c]
  exact c
end
abbrev jbX:Nat->List En->List (Nat×En):=Qr fun e=>e.1.kind
abbrev jnH(es:List En):List (Nat×En):=jbX 0 es
def jjH(es:List En)(id:Int):Option Nat:=((jnH es).find? fun x=>x.2.2==id).map Prod.fst
def vM(es:List En)(id:Int):Option Nat:=if 0<id then es.findIdx? fun e=>e.2==id else none
def WF(es:List En):Prop:=∀e∈es,(e.1.kind=3/\0<e.2)\/(e.1.kind≠3/\e.2=0)
theorem jhn:∀(k:Nat) (c:List En) (a:Int),WF c->0<a->((jbX k c).find? fun x=>x.2.2==a).map Prod.fst=(c.findIdx? fun e=>e.2==a).map (· + k)
 | k,[],a,_,_=>rfl
 | k,e::r,a,h,d=>by
  have i:=jhn (k+1) r a (fun y l=>h y (joU _ l)) d;have b:=h e joV
  unfold Qr;rw[List.findIdx?_cons];by_cases f:e.1.kind=3
  ·rw[if_pos f,jq8];cases g:e.2==a with
   | true=>simp
   | false =>
   simp only;rw[i];cases List.findIdx? (fun e=>e.2==a) r with
   | none=>rfl
   | some q=>simp;omega
  rw[if_neg f];have j:e.2=0:=by
   rcases b with b|b
   ·exact absurd b.1 f
   exact b.2
  have g:(e.2==a)=false:=by rw[j];exact beq_eq_false_iff_ne.2 (by omega)
  rw[i,g];cases List.findIdx? (fun e=>e.2==a) r with
  | none=>rfl
  | some q=>simp;omega
theorem XI:∀(k:Nat) (d:List En) (a:Int),WF d->a<=0->((jbX k d).find? fun x=>x.2.2==a)=none
 | k,[],a,_,_=>rfl
 | k,e::r,a,h,c=>by
  have f:=XI (k+1) r a (fun y j=>h y (joU _ j)) c;have b:=h e joV
  unfold Qr;split
  ·rename_i g;have l:0<e.2:=by
    rcases b with b|b
    ·exact b.2
    exact absurd g b.1
   have i:(e.2==a)=false:=beq_eq_false_iff_ne.2 (by omega);rw[jq8];simp only[i];exact f
  exact f
theorem jhp{es:List En}(h:WF es)(id:Int):jjH es id=vM es id:=by
 unfold jjH vM;split
 ·rename_i a;have:=jhn 0 es id h a
  rw[this];cases List.findIdx? (fun e=>e.2==id) es with
  | none=>rfl
  | some q=>rfl
 rename_i a;show Option.map _ ((jbX 0 es).find? _)=none
 rw[XI 0 es id h (by omega)];rfl
def yS(es:List En):Nat:=(es.filter fun e=>decide (0<e.2)).length
theorem Qz:∀(k:Nat) (c:List En),WF c->(jbX k c).map Prod.snd=c.filter fun e=>decide (0<e.2)
 | k,[],_=>rfl
 | k,e::r,h=>by
  have d:=Qz (k+1) r (fun y f=>h y (joU _ f));unfold Qr;rw[jp4];rcases h e joV with ⟨a,b⟩|⟨a,b⟩
  ·rw[if_pos a,if_pos (by simpa using b),jpr,d]
  rw[if_neg a,if_neg (by simp;omega),d]
theorem jjc{es:List En}(h:WF es):(jnH es).length=yS es:=by have:=congrArg List.length (Qz 0 es h);rw[jo8]at this;exact this
def Uh(es:List En)(k:Nat)(it:It):List En:=es.modify k fun e=>(it,e.2)
def jcI(es:List En)(k:Nat):List En:=es.take k++es.drop (k+1)
def jbO(es:List En)(k:Nat)(e:En):List En:=es.take k++e::es.drop k
theorem WF.set{es:List En}(h:WF es)(k:Nat)(it:It)(f:it.kind=3)(e:En)(d:es[k]?=some e)(g:e.1.kind=3):WF (Uh es k it):=by
 intro x hx;obtain⟨j,b⟩:=List.mem_iff_getElem?.1 hx;unfold Uh at b;rw[jq1]at b;rcases a:es[j]? with _|y
 ·rw[a]at b;simp at b
 rw[a]at b;simp only[Option.map_eq_map,jq7,Option.some.injEq]at b;have i:=h y (joW a)
 by_cases c:k=j
 ·rw[if_pos c]at b;subst b;subst c;rw[d]at a;cases a;rcases h e (joW d) with q|q
  ·exact .inl ⟨f,q.2⟩
  exact absurd g q.1
 rw[if_neg c]at b;subst b;exact i
theorem WF.cut{es:List En}(h:WF es)(k:Nat):WF (jcI es k):=by
 intro x hx;rcases List.mem_append.1 hx with q|q
 ·exact h x (jpM q)
 exact h x (jpz q)
theorem WF.put{es:List En}(h:WF es)(k:Nat){e:En}(a:(e.1.kind=3/\0<e.2)):WF (jbO es k e):=by
 intro x hx;rcases List.mem_append.1 hx with q|q
 ·exact h x (jpM q)
 rcases List.mem_cons.1 q with rfl|q
 ·exact .inl a
 exact h x (jpz q)
theorem jiF(es:List En)(k:Nat)(it:It):(Uh es k it).length=es.length:=by unfold Uh;simp
structure Did where
 ls:LS
 at_:Int
 bad:Nat
 id:Int
def zy(l:LS)(id:Int)(fs:List Fld):Did :=
 match vM l.es id with
 | none=>⟨l,-9,7,0⟩
 | some k=>if qD fs=0 then ⟨⟨Uh l.es k (zI fs),l.next⟩,-9,0,0⟩ else ⟨l,vz fs,qD fs,0⟩
def qr(l:LS)(id:Int):Did :=
 match vM l.es id with
 | none=>⟨l,-9,7,0⟩
 | some k=>⟨⟨jcI l.es k,l.next⟩,-9,0,0⟩
def jha(es:List En)(behind:Int):Option Nat:=if behind=0 then some 0 else (vM es behind).map (· + 1)
def zo(l:LS)(behind:Int)(fs:List Fld):Did :=
 match jha l.es behind with
 | none=>⟨l,-9,7,0⟩
 | some k=>if qD fs=0 then (if 400<=yS l.es then ⟨l,-9,11,0⟩ else ⟨⟨jbO l.es k (zI fs,l.next),l.next+1⟩,-9,0,l.next⟩) else ⟨l,vz fs,qD fs,0⟩
def xe(l:LS)(kind id:Int)(fs:List Fld):Did :=
 if kind=1 then zy l id fs else if kind=2 then qr l id else zo l id fs
theorem Yu{es:List En}{id:Int}{k:Nat}(h:vM es id=some k):k<es.length/\∃e,es[k]?=some e/\e.2=id/\0<id:=by
 unfold vM at h;split at h
 ·rename_i c;obtain⟨a,b,_⟩:=List.findIdx?_eq_some_iff_getElem.1 h;exact⟨a,_,joM a,by simpa using b,c⟩
 cases h
def zT:Int->List It->List En
 | _,[]=>[]
 | n,it::r=>if it.kind=3 then (it,n)::zT (n+1) r else (it,0)::zT n r
def jI:Int->List It->Int
 | n,[]=>n
 | n,it::r=>if it.kind=3 then jI (n+1) r else jI n r
def zF(its:List It):LS:=⟨zT 1 its,jI 1 its⟩
theorem Qa:∀(n:Int) (l:List It) (b:It),zT n (l++[b])=zT n l++[(b,if b.kind=3 then jI n l else 0)]/\jI n (l++[b])=if b.kind=3 then jI n l+1 else jI n l
 | n,[],b=>by simp only[jpC,zT,jI];split<;>simp
 | n,a::l,b=>by
  obtain⟨e,f⟩:=Qa (n+1) l b;obtain⟨c,d⟩:=Qa n l b;simp only[jo6,zT,jI];split
  ·rw[e,f];exact⟨rfl,rfl⟩
  rw[c,d];exact⟨rfl,rfl⟩
theorem JP:∀(n:Int) (l:List It),(zT n l).length=l.length
 | n,[]=>rfl
 | n,a::l=>by
  unfold zT;split
  ·rw[joR,JP];rfl
  rw[joR,JP];rfl
theorem QX:∀(n:Int) (l:List It),(zT n l).map Prod.fst=l
 | n,[]=>rfl
 | n,a::l=>by
  unfold zT;split
  ·rw[jpr,QX]
  rw[jpr,QX]
theorem yW:∀(n:Int) (l:List It),n<=jI n l/\jI n l<=n+l.length
 | n,[]=>by simp[jI]
 | n,a::l=>by
  have b:=yW (n+1) l;have c:=yW n l
  unfold jI;rw[joR];split<;>omega
theorem jcu:∀(n:Int) (l:List It),0<n->WF (zT n l)
 | n,[],_=>fun e h=>by cases h
 | n,a::l,d=>by
  unfold zT;split
  ·rename_i c;intro e b;rcases List.mem_cons.1 b with rfl|b
   ·exact .inl ⟨c,d⟩
   exact jcu (n+1) l (by omega) e b
  rename_i c;intro e b;rcases List.mem_cons.1 b with rfl|b
  ·exact .inr ⟨c,rfl⟩
  exact jcu n l d e b
end
section
variable {P:Program}
theorem Zf{d:Type}{g:Operand}{u:Array Tmp}{assign body:Code}{Q:Exit->Act->World->Prop}{a:Act}{w:World}
  {gf:Nat} {lb:Array Value} (D:a.eval g=.func (.func gf) #[] lb) (y:∀args w,(callFunc gf args).run P w=.ok (.enter gf args) w)
  {e:d->Array Value} {k:Nat} {xs:List d} {K:World->Prop} (n:jik P gf lb e k xs K w) (s:∀x,(e x).size=u.size)
  (I:List d->World->Prop) (o:Code->List d->World->Prop) (A:zU w.heap.size (k+2) I) (r:∀c,zU w.heap.size 2 (o c)) (z:I [] w) (C:∀b W,I b W->K W)
  (M:Act->List d->d->Act->World->Prop) (hM:∀a b x q,zU w.heap.size 2 (fun(_:Unit) W=>M a b x q W))
  (f:∀(l:Nat) (b:List d) (x:d) (h:List d) (W:World),xs=b++x::h->w.heap.size+(k+2)<=W.heap.size->I b W ->
   assign.wpIn (Fence.wide.inRound l) 7 P (Yy w.heap.size (k+2) (M a b x) W) {tmps:=(u.zip (e x)).foldl (fun t (p,v)=>t.setIfInBounds p v) a.tmps,defers:=[]} W)
  (i:∀(l:Nat) (b:List d) (x:d) (h:List d) (q:Act) (W:World),xs=b++x::h->w.heap.size+(k+2)<=W.heap.size->M a b x q W ->
   body.wpIn (Fence.wide.inRound l) 7 P (left w.heap.size (k+2) I o (b++[x]) W) q W)
  (j:∀(W:World),I xs W->W.heap[w.heap.size]?=some (.deferred (some []))->Q .normal {a with defers:={target:=.collected w.heap.size,args:=#[]}::a.defers} W)
  (m:∀(c:Code) (b:List d) (W:World),b <+: xs->o c b W->W.heap[w.heap.size]?=some (.deferred (some []))->c.wpIn Fence.wide 9 P Q {a with defers:={target:=.collected w.heap.size,args:=#[]}::a.defers} W) :
  (Code.rangeFunc g u assign body).wpIn Fence.wide 9 P Q a w :=
 Kz D y n s I o A r z C (M a) (hM a) f i j m
abbrev Pr:=En×Value
def zd(p:Pr):List Value:=[.int .i64 p.1.1.kind,.string (B p.1.1.raw),p.2,.int .i64 p.1.2]
def jl(ps:List Pr):List Value:=ps.flatMap zd
theorem vX(a:List Pr)(p:Pr):jl (a++[p])=jl a++zd p:=by unfold jl;simp
theorem yn(a b:List Pr):jl (a++b)=jl a++jl b:=by unfold jl;simp
theorem vW:∀(a:List Pr) (k:Nat),jl (a.take k)=(jl a).take (k*4)
 | [],k=>by simp[jl]
 | p::r,0=>by simp[jl]
 | p::r,k+1=>by
  have b:=vW r k;have e:jl (p::r)=zd p++jl r:=rfl
  rw[jqP,e,show jl (p::r.take k)=zd p++jl (r.take k) from rfl,b,List.take_append];have hl:(zd p).length=4:=rfl
  rw[hl,jpi (l:=zd p) (by rw[hl];omega),show(k+1)*4-4=k*4 by omega]
theorem vY:∀(a:List Pr) (k:Nat),jl (a.drop k)=(jl a).drop (k*4)
 | [],k=>by simp[jl]
 | p::r,0=>by simp
 | p::r,k+1=>by
  have b:=vY r k;have e:jl (p::r)=zd p++jl r:=rfl
  have hl:(zd p).length=4:=rfl;rw[jq3,e,b,List.drop_append,hl,jpE (l:=zd p) (by rw[hl];omega),show(k+1)*4-4=k*4 by omega,jpC]
theorem xD:∀(b:List Pr) (i:Nat) (p:Pr),b[i]?=some p->∀j u,(zd p)[j]?=some u->(jl b)[i*4+j]?=some u
 | [],i,p,h=>by simp at h
 | q::r,0,p,h=>by
  simp at h;subst h;intro j u a;have e:jl (q::r)=zd q++jl r:=rfl
  rw[e,Nat.zero_mul,jpl,jpf (by have:=(List.getElem?_eq_some_iff.1 a).1;exact this)];exact a
 | q::r,i+1,p,h=>by
  intro j u a;have c:=xD r i p (by simpa using h) j u a
  have e:jl (q::r)=zd q++jl r:=rfl;have hl:(zd q).length=4:=rfl
  rw[e,jo7 (by rw[hl];omega),hl,show(i+1)*4+j-4=i*4+j by omega];exact c
theorem jbm{b:List Pr}(h:∀p∈b,p.2.oneCell'=true):∀u∈jl b,u.oneCell'=true:=by
 intro u a;obtain⟨p,c,a⟩:=List.mem_flatMap.1 a;unfold zd at a;simp at a;rcases a with rfl|rfl|rfl|rfl
 ·rfl
 ·rfl
 ·exact h p c
 rfl
def ZC(w:World)(v:Value)(fs:List Fld):Prop:=vP w v fs/\∀n c,v=.slice none n c->c=0
theorem ZC.below{w w':World}{v:Value}{fs:List Fld}{n:Nat}(h:ZC w v fs)(a:Below n w w')(b:w.heap.size<=n):ZC w' v fs:=⟨h.1.below a b,h.2⟩
theorem ZC.form{w:World}{v:Value}{fs:List Fld}(h:ZC w v fs):∃A c,v=.slice A fs.length c:=by obtain⟨A,c,e,_⟩:=h.1;exact⟨A,c,e⟩
theorem ZC.own{w:World}{base:Nat}{v:Value}{fs:List Fld}(h:w.ownsRow base 148 2 v fs.length (ju fs)):ZC w v fs :=
 ⟨ym h,fun n c e=>by
  rcases h.2 with ⟨q,_⟩|⟨g,a,b,q,_⟩
  ·rw[q]at e;cases e;rfl
  rw[q]at e;cases e⟩
structure Vn(w:World)(v:Value)(ps:List Pr):Prop where
 row:w.ownsRow 0 109 4 v ps.length (jl ps)
 each:∀p∈ps,ZC w p.2 p.1.1.fields
theorem Vn.below{w w':World}{v:Value}{c:List Pr}{n:Nat}(h:Vn w v c)(a:Below n w w')(b:w.heap.size<=n):Vn w' v c :=
 ⟨jX h.row a b,fun p d=>(h.each p d).below a b⟩
theorem Vn.here{w:World}{v:Value}{f:List Pr}(h:Vn w v f){i:Nat}{p:Pr}(j:f[i]?=some p):∃g b A c,v=.slice (some ⟨g,0,none⟩) f.length b/\f.length<=b/\g<w.heap.size/\p.2=.slice A p.1.1.fields.length c /\
  w.cell? ⟨g,i*4,none⟩=some (.int .i64 p.1.1.kind)/\w.cell? ⟨g,i*4+1,none⟩=some (.string (B p.1.1.raw))/\w.cell? ⟨g,i*4+1+1,none⟩=some p.2/\w.cell? ⟨g,i*4+1+1+1,none⟩=some (.int .i64 p.1.2):=by
 have n:i<f.length:=(List.getElem?_eq_some_iff.1 j).1;obtain⟨A,c,m⟩:=(h.each p (joW j)).form;have d:=h.row
 rcases h.row.2 with ⟨_,q⟩|⟨g,b,l,e,_,o,k,_⟩
 ·omega
 rw[e]at d;have a:=xD f i p j
 refine⟨g,b,A,c,e,k,(jpJ d g rfl).2,m,?_,?_,?_,?_⟩
 ·rw[jo1 d (i*4) (by omega)];exact a 0 _ rfl
 ·rw[jo1 d (i*4+1) (by omega)];exact a 1 _ rfl
 ·rw[jo1 d (i*4+1+1) (by omega)];exact a 2 _ rfl
 rw[jo1 d (i*4+1+1+1) (by omega)];exact a 3 _ rfl
theorem Vn.empty{w:World}{v:Value}{c:List Pr}(h:Vn w v c):∃A a,v=.slice A c.length a/\c.length<=a:=by
 rcases h.row.2 with ⟨e,f⟩|⟨g,a,d,e,_,i,b,_⟩
 ·exact⟨none,0,by rw[e,f],by omega⟩
 exact⟨_,a,e,b⟩
def jbk(p:Pr):Value:=.agg #[.int .i64 p.1.1.kind,.string (B p.1.1.raw),p.2,.int .i64 p.1.2]
abbrev JW:Nat->List Pr->List (Nat×Pr):=Qr fun p=>p.1.1.kind
theorem jhe(v:Value)(w:World)(A:Option Addr)(n c:Nat)(a:v=.slice A n c):
  Calls prog 77 #[v] w fun e b=>e=.returned (.func (.func 135) #[] #[.pointer (some ⟨w.heap.size+1,0,none⟩),.pointer (some ⟨w.heap.size,0,none⟩)]) /\
   b=(w.alloc (.cells #[v] 96)).alloc (.cells #[.int .i64 0] 3):=by
 subst a;go_enter func77,ntmps77;go_wp2;go_ret;exact⟨rfl,rfl⟩
def joc(ps:List Pr)(n:Nat)(Bn:Nat)(w:World)(e:Ending)(w':World):Prop :=
 ∃n',Boxed w' Bn 3 (.int .i64 (n':Nat))/\jH (· = Bn) w w'/\n'<=ps.length /\
  ((e=.returned (.tuple #[.int .i64 0,.bool false])/\JW n (ps.drop n)=[]) \/
   ∃k p,n<=k/\n'=k+1/\e=.returned (.tuple #[.int .i64 (k:Nat),.bool true])/\ps[k]?=some p/\JW n (ps.drop n)=(k,p)::JW n' (ps.drop n'))
theorem jgA(b:List Pr)(v:Value)(n c d:Nat)(w:World)(X:n<=b.length)(Y:b.length<=1000000)(l:Boxed w c 3 (.int .i64 (n:Nat)))(j:Boxed w d 96 v)(E:d≠c)(y:Vn w v b)(L:∀g,v.ownBlock=some g->g≠c):
  Calls prog 135 #[.pointer (some ⟨c,0,none⟩),.pointer (some ⟨d,0,none⟩)] w fun e Z=>joc b n c w e Z:=by
 obtain⟨A,u,rfl,W⟩:=y.empty;have O:=joI y
 have P:=joI L;have i:=joI j
 have H:=joI E;have s:=joI l
 clear y L j l;go_enter func135,ntmps135;go_wp2_with fail;go_loopw [4] (fun _ wr=>∃k:Nat,n<=k/\k<=b.length/\Boxed wr c 3 (.int .i64 (k:Nat))/\jH (· = c) w wr/\JW n (b.drop n)=JW k (b.drop k)) (fun _ wr=>b.length-jnz c wr)
 case atStart=>exact⟨n,joJ _,X,s.out,jH.refl _ _,rfl⟩
 case round =>
 obtain⟨k,D,U,o,G,N⟩:=hrel;have c0:=o.cell
 have f0:=o.frozen;have c1:wr.cell? ⟨d,0,none⟩=some (.slice A b.length u):=Boxed.cell (show Boxed wr d _ _ from(G.same d i.out.lt H.out).trans i.out)
 have h:=joI o;have m:=joI G
 have t:=joI N;have V:k<=1000000:=by omega
 clear o G N;by_cases f:k<b.length
 ·obtain⟨p,r⟩:∃p,b[k]?=some p:=⟨_,joM f⟩
  obtain⟨g,J,pa,pc,e,_,z,_,x,_⟩:=O.out.here r;cases e;have C:g≠c:=P.out g rfl
  replace x:wr.cell? ⟨g,k*4,none⟩=some (.int .i64 p.1.1.kind):=(jpX (w:=w) (a:=⟨g,k*4,none⟩) (m.out.same g z C)).trans x;have K:d≠c:=H.out
  have I:=joI (jap (κ:=fun p:Pr=>p.1.1.kind) b 0 k p r);have Q:=joI r
  clear r;by_cases q:p.1.1.kind=3
  ·rw[q]at x;go_wp2_with fail;go_ret2;refine⟨k+1,?_,m.out.cellS 0 _,f,.inr ⟨k,p,D,rfl,rfl,Q.out,?_⟩⟩
   ·exact jpV _ h.out
   rw[t.out];have:=I.out
   rw[if_pos q,jpl,jpl]at this;exact this
  have R:((p.1.1.kind:Int)==3)=false:=beq_eq_false_iff_ne.2 q;go_wp2_with fail;go_roundw
  case rel =>
   refine⟨k+1,by omega,f,jpV _ h.out,m.out.cellS 0 _,?_⟩;rw[t.out];have:=I.out
   rw[if_neg q,jpl,jpl]at this;exact this
  case measure =>
  rw[Vk h.out,Vk (B:=c) (n:=k+1) (w:=wr.setCell ⟨c,0,none⟩ (.int .i64 ((k:Int)+1))) (jpV (.int .i64 ((k:Int)+1)) h.out)];omega
 obtain rfl:k=b.length:=by omega
 go_wp2_with fail;go_ret2;refine⟨b.length,h.out,m.out,joJ _,.inl ⟨rfl,?_⟩⟩;rw[t.out,jpE (joJ _)];rfl
end
section
attribute [local go_sem] joY
theorem Ud(v:Value)(w:World)(A:Option Addr)(n c:Nat)(a:v=.slice A n c):
  Calls prog 43 #[v] w fun e b=>e=.returned (.func (.func 76) #[] #[.pointer (some ⟨w.heap.size,0,none⟩)])/\b=w.alloc (.cells #[v] 96):=by
 subst a;go_enter func43,ntmps43;go_wp2;go_ret;exact⟨rfl,rfl⟩
theorem YH(f:List Pr)(v:Value)(t:Nat)(w:World)(y:Boxed w t 96 v)(af:f.length<=1000000)(hE:Vn w v f):
  jik prog 76 #[.pointer (some ⟨t,0,none⟩)] (fun x=>#[.int .i64 (x.1:Nat),jbk x.2]) 2 (JW 0 f) (fun W=>Vn W v f/\Boxed W t 96 v) w:=by
 intro l J Jx W hW U hK hY h0;have hb:Boxed W t 96 v:=(hW.block t y.lt).trans y
 have L:=hE.below hW (joJ _);have P:∀g,v.ownBlock=some g->g<W.heap.size:=fun g e=>(L.row.lt g e).2
 obtain⟨A,a8,hv,am⟩:=hE.empty;have c0:=hb.cell
 have ak:=hb.lt;have FR:=callsIn_wide (n:=7).2 (jhe v W A f.length a8 hv)
 clear hE L hv;refine callsIn_of_wp func76 rfl trivial ?_ rfl;simp only[ntmps76,jpN,joR,jpm,Nat.reduceAdd,Nat.reduceSub,jpK,jpL,jpU,jpQ,jpC,jo6];gi_wp2_with (refine⟨trivial,?_⟩;gi_at_call 77;refine FR.mono ?_;rintro e c ⟨rfl,rfl⟩);gi_loopw [4,5] (fun _ _ wr=>∃(i:List (Nat×Pr)) (n:Nat),n<=f.length/\JW 0 f=i++JW n (f.drop n)/\Boxed wr W.heap.size 96 v/\Boxed wr (W.heap.size+1) 3 (.int .i64 (n:Nat))/\J i wr)
  (fun _ _ wr=>f.length-jnz (W.heap.size+1) wr)
 case atStart =>
  refine⟨[],0,joT _,rfl,?_,?_,U.alloc _ (U.alloc _ h0)⟩
  ·exact(jqe W _ _).alloc _
  have:=jqe (W.alloc (.cells #[v] 96)) 3 (.int .i64 0);rw[joZ]at this;exact this
 case round =>
 obtain⟨i,n,hn,hx,b1,b2,hj⟩:=hrel;obtain⟨z,O⟩:=hK _ _ hj;have u:=jgA f v n (W.heap.size+1) W.heap.size wr hn af b2 b1 (by omega) z (fun g e=>by have:=P g e;omega)
 have HX:=joI hx;have Z:=joI z
 have H:=joI O;have B1:=joI b1
 have B2:=joI b2;clear z O hx b1 b2;have s:∀(c:World),jH (· = W.heap.size+1) wr c->zn W.heap.size 2 wr c:=fun c d=>⟨d.os,d.tape,d.output,d.size,fun r a b=>d.same r a (by omega)⟩
 cases m:JW n (f.drop n) with
 | nil =>
  have I:=callsIn_wide (n:=7).2 (u.mono (R':=fun e c=>e=.returned (.tuple #[.int .i64 0,.bool false])/\jH (· = W.heap.size+1) wr c) (by
   rintro e c ⟨n',o,d,R,(⟨rfl,G⟩|⟨k,p,hk,Q,rfl,X,G⟩)⟩
   ·exact⟨rfl,d⟩
   rw[G]at m;cases m))
  have HQ:=joI m;clear u m;gi_wp2_with (refine⟨trivial,?_⟩;gi_at_call 135;refine I.mono ?_;clear I;rintro e c ⟨rfl,d⟩);refine⟨fun _ h=>(by cases h),?_⟩;gi_wp2;refine bodyPost_ret (results_none rfl _ _ _) rfl ⟨⟨_,rfl⟩,.inl ?_⟩;have e0:JW 0 f=i:=by rw[HX.out,HQ.out,jo9]
  rw[e0];exact U _ _ _ hj (s _ d)
 | cons x j =>
 obtain⟨k,p⟩:=x;have I:=callsIn_wide (n:=7).2 (u.mono (R':=fun e c=>e=.returned (.tuple #[.int .i64 (k:Nat),.bool true])/\jH (· = W.heap.size+1) wr c/\n<=k/\k<f.length/\Boxed c (W.heap.size+1) 3 (.int .i64 (k+1:Nat))/\f[k]?=some p/\j=JW (k+1) (f.drop (k+1))) (by
  rintro e c ⟨n',o,d,R,(⟨rfl,G⟩|⟨k',p',hk,Q,rfl,X,G⟩)⟩
  ·rw[G]at m;cases m
  rw[G]at m;cases m;subst Q;exact⟨rfl,d,hk,R,o,X,rfl⟩))
 have HQ:=joI m;have D:f[k]?=some p:=by
  have:=(xj n (f.drop n) (k,p) (by rw[show Qr (fun p:Pr=>p.1.1.kind) n (f.drop n)=_ from m];exact joV)).2.1;have h2:=(xj n (f.drop n) (k,p) (by rw[show Qr (fun p:Pr=>p.1.1.kind) n (f.drop n)=_ from m];exact joV)).1
  rw[jpq,show n+((k,p).1-n)=k by simp only at h2 ⊢;omega]at this;exact this
 have ai:=(List.getElem?_eq_some_iff.1 D).1;obtain⟨g,K,pa,pc,e1,_,V,e2,d0,d1,d2,d3⟩:=Z.out.here D;have q0:wr.cell? ⟨t,0,none⟩=some v:=H.out.cell
 have ah:=P g (by rw[e1];rfl);rw[e2]at d2;rw[e1]at q0;have Ya:∀(c:World),jH (· = W.heap.size+1) wr c->c.cell? ⟨t,0,none⟩=some (.slice (some ⟨g,0,none⟩) f.length K)/\c.cell? ⟨g,k*4,none⟩=some (.int .i64 p.1.1.kind)/\c.cell? ⟨g,k*4+1,none⟩=some (.string (B p.1.1.raw))/\c.cell? ⟨g,k*4+1+1,none⟩=some (.slice pa p.1.1.fields.length pc)/\c.cell? ⟨g,k*4+1+1+1,none⟩=some (.int .i64 p.1.2):=fun c d =>
  ⟨(jpX (w:=wr) (a:=⟨t,0,none⟩) (d.same t H.out.lt (by omega))).trans q0,(jpX (w:=wr) (a:=⟨g,k*4,none⟩) (d.same g V (by omega))).trans d0,(jpX (w:=wr) (a:=⟨g,k*4+1,none⟩) (d.same g V (by omega))).trans d1,(jpX (w:=wr) (a:=⟨g,k*4+1+1,none⟩) (d.same g V (by omega))).trans d2,(jpX (w:=wr) (a:=⟨g,k*4+1+1+1,none⟩) (d.same g V (by omega))).trans d3⟩
 have MV:=joI Ya;have T:=joI s
 have E2:=joI e2;clear u m Ya d0 d1 d2 d3 e1 e2 q0 D s;gi_wp2_with (refine⟨trivial,?_⟩;gi_at_call 135;refine I.mono ?_;clear I;rintro e c ⟨rfl,d,hk,ae,o,X,q⟩;obtain⟨m0,m1,m2,m3,m4⟩:=MV.out _ d;clear X;have a7:=joI q;clear q);have jw:J i c:=U _ _ _ hj (T.out _ d)
 have hz:=d.size;have ag:=B1.out.lt
 have aq:=B2.out.lt;have E:JW 0 f=i++(k,p)::j:=by rw[HX.out,HQ.out]
 obtain⟨fn,aj,assign,body,Y,hR⟩:=hY i (k,p) j c E (by omega) jw;dsimp only[jbk]at Y;rw[E2.out]at Y;rw[Y,Oper.uponIn_round];refine⟨fun h=>(by cases h),hR.mono ?_⟩;clear hR Y;rintro e W3 (⟨rfl,aa,C⟩|⟨rfl,N⟩)
 ·gi_wp2;go_roundw
  case rel =>
   refine⟨i++[(k,p)],k+1,ae,?_,?_,?_,aa⟩
   ·rw[E,a7.out,jo0,jqW]
   ·exact(C.same _ (by omega) (by omega)).trans ((d.same _ ag (by omega)).trans B1.out)
   exact(C.same _ (by omega) (by omega)).trans o
  case measure =>
  rw[Vk B2.out,Vk (B:=W.heap.size+1) (w:=W3) (n:=k+1) ((C.same _ (by omega) (by omega)).trans o)];omega
 gi_wp2;refine bodyPost_ret (results_none rfl _ _ _) rfl ⟨⟨_,rfl⟩,.inr ⟨_,⟨j,?_⟩,N⟩⟩;rw[E,jo0,jqW]
end
end Go.Proofs.YtbapfpekklcicaaGreatDoor
