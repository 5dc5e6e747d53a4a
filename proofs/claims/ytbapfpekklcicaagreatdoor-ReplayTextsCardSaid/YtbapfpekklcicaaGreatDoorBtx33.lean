/- Texts put together:BF,WQ,BI. -/
import Derived.Test.YtbapfpekklcicaaGreatDoorBtx32
set_option linter.unusedVariables false
set_option maxRecDepth 100000
set_option maxHeartbeats 16000000
namespace Go.Proofs.YtbapfpekklcicaaGreatDoor
open Go.RowKit Go.Shelf Tryz
abbrev jrn:=@List.mem_append_right
def wL(ls:List (List UInt8)):Nat:=(ls.map fun x=>x.length+3).sum
def Kh(xs:List (List UInt8)):Nat:=(xs.map fun x=>x.length+1).sum
theorem jfO(ls:List (List UInt8))(x:List UInt8):wL (ls++[x])=wL ls+(x.length+3):=by simp[wL]
structure OkD(t:Nat)(s:StD):Prop where
 cnt:∀ed∈s.1,5*ed.fields.length+wL s.2<=t
 fin:∀ed∈s.1,∀f∈ed.fields,f.1.length<=32/\f.2.length<=1000
 ids:∀ed∈s.1,I64 ed.id
 len:s.1.length<=40
 wt:wL s.2<=t
theorem OkD.mono{t t':Nat}{s:StD}(h:OkD t s)(a:t<=t'):OkD t' s :=
 ⟨fun b c=>jpg (h.cnt b c) a,h.fin,h.ids,h.len,jpg h.wt a⟩
theorem jfQ{ls:List (List UInt8)}(h:jy ls=0):5<=wL ls:=by
 unfold jy at h;split at h
 ·rename_i m;obtain⟨a,r,rfl,d,_⟩:=QA m;have:2<=a.length:=by
   unfold jm at d;split at d
   ·omega
   split at d
   ·omega
   split at d
   ·omega
   split at d
   ·omega
   split at d
   ·rename_i q;obtain⟨i,j⟩:=q;unfold jF at j;simp only[jpk,decide_eq_true_eq]at j;have p:(before a).length<a.length:=by
     rcases jpc (before a).length a.length with z|z
     ·exact z
     exfalso;have e:before a=a:=List.Sublist.eq_of_length_le (jp1 _) z
     have g:(58:UInt8)∈a:=by unfold qM at i;simpa using i
     rw[<- e]at g;have k:∀(l:List UInt8),∀c∈l.takeWhile (· != 58),c≠58:=fun l=>by
      induction l with
      | nil=>intro c b;cases b
      | cons y r o =>
      intro c b;rw[jpy]at b;split at b
      ·rename_i n;rcases List.mem_cons.1 b with f|f
       ·rw[f];simpa using n
       exact o c f
      cases b
     exact k a 58 g rfl
    omega
   omega
  unfold wL;rw[jpr,jpR];omega
 cases h
theorem jdN{t:Nat}{s s':StD}(h:OkD t s)(c:zL s=some s'):OkD t s'/\s'.2=[]:=by
 unfold zL at c;split at c
 ·rename_i q;injection c with c;subst c;exact⟨h,q⟩
 split at c
 ·rename_i q;injection c with c;subst c;refine⟨?_,rfl⟩;have r:=jfQ q
  obtain⟨_,n,o⟩:=YD q;rcases jqb s.1 with i|⟨p,e,i⟩
  ·rw[i];exact⟨fun d a=>by simp[jki]at a,fun d a=>by simp[jki]at a,fun d a=>by simp[jki]at a,by simp[jki],joT _⟩
  rw[jqc]at i;have j:=h.cnt
  have g:=h.fin;have l:=h.ids
  have hl:=h.len;rw[i]at j g l hl ⊢;rw[Qo];refine⟨fun d a => ?_,fun d a => ?_,fun d a => ?_,by simpa using hl,joT _⟩
  ·rcases List.mem_append.1 a with b|b
   ·have:=j d (jqq _ b);show 5*d.fields.length+0<=t
    omega
   rw[List.mem_singleton.1 b];have:=j e (jrn _ joV)
   show 5*(e.fields++[_]).length+0<=t;rw[joK,jpA];omega
  ·rcases List.mem_append.1 a with b|b
   ·exact g d (jqq _ b)
   rw[List.mem_singleton.1 b];intro f k;rcases List.mem_append.1 k with m|m
   ·exact g e (jrn _ joV) f m
   rw[List.mem_singleton.1 m];exact⟨n,o⟩
  rcases List.mem_append.1 a with b|b
  ·exact l d (jqq _ b)
  rw[List.mem_singleton.1 b];exact l e (jrn _ joV)
 cases c
theorem jbU{s:List UInt8}{k:Int}{x:Ed}(h:I64 x.id/\x.fields=[]):I64 (jbV s k x).id/\(jbV s k x).fields=[]:=by
 unfold jbV;split
 ·split
  ·rename_i n a;exact⟨(numL_some.1 a).1,rfl⟩
  exact h
 exact h
theorem jjt(s:List UInt8):I64 (headD s).id/\(headD s).fields=[]:=jbU (jbU (jbU ⟨⟨by decide,by decide⟩,rfl⟩))
theorem jgJ{t:Nat}{s s':StD}{x:List UInt8}(h:OkD t s)(k:Lib.hasPrefix x [32,32]=false->s.2=[])(a:xy s x=some s'):OkD (t+(x.length+1)) s':=by
 unfold xy at a;split at a
 ·rename_i q;split at a
  ·cases a
  injection a with a;subst a;have hx:2<=x.length:=by unfold Lib.hasPrefix at q;exact(List.isPrefixOf_iff_prefix.1 q).length_le
  have l:(x.drop 2).length+3=x.length+1:=by rw[joX];omega
  refine⟨fun c d => ?_,h.fin,h.ids,h.len,?_⟩
  ·have:=h.cnt c d;show 5*c.fields.length+wL (s.2++[x.drop 2])<=_
   rw[jfO];omega
  have:=h.wt;show wL (s.2++[x.drop 2])<=_
  rw[jfO];omega
 rename_i q;split at a
 ·cases a
 rename_i m;injection a with a;subst a;have i:=k (by simpa using q)
 obtain⟨j,e⟩:=jjt x;refine⟨fun c d => ?_,fun c d => ?_,fun c d => ?_,?_,?_⟩
 ·rcases List.mem_append.1 d with b|b
  ·have:=h.cnt c b;show 5*c.fields.length+wL s.2<=_
   omega
  rw[List.mem_singleton.1 b,e];show 0+wL s.2<=_
  rw[i];simp[wL]
 ·rcases List.mem_append.1 d with b|b
  ·exact h.fin c b
  rw[List.mem_singleton.1 b,e];intro f g;cases g
 ·rcases List.mem_append.1 d with b|b
  ·exact h.ids c b
  rw[List.mem_singleton.1 b];exact j
 ·show(s.1++[headD x]).length<=40;rw[joK,jpA];omega
 have:=h.wt;show wL s.2<=_
 omega
theorem jk4{t:Nat}{s s':StD}{x:List UInt8}(h:OkD t s)(a:vq s x=some s'):OkD (t+(x.length+1)) s':=by
 unfold vq at a;split at a
 ·rename_i q;refine jgJ h (fun c => ?_) a;unfold Lib.hasPrefix at q c;have d:=List.isPrefixOf_iff_prefix.1 q
  have e:([32,32]:List UInt8) <+: x:=List.IsPrefix.trans ⟨[32],rfl⟩ d;rw[List.isPrefixOf_iff_prefix.2 e]at c;cases c
 cases b:zL s with
 | none=>rw[b]at a;cases a
 | some i =>
 rw[b]at a;obtain⟨f,g⟩:=jdN h b;exact jgJ f (fun _=>g) a
theorem jkt:∀(d:List (List UInt8)) {t:Nat} {s b:StD},OkD t s->Jd d s=some b->OkD (t+Kh d) b
 | [],t,s,b,h,a=>by injection a with a;subst a;exact h
 | x::r,t,s,b,h,a=>by
  rw[Jd]at a;cases c:vq s x with
  | none=>rw[c]at a;cases a
  | some f =>
  rw[c]at a;have:=jkt r (jk4 h c) a
  have e:Kh (x::r)=x.length+1+Kh r:=by unfold Kh;rw[jpr,jpR]
  rw[e,<- jqu];exact this
theorem jgv:OkD 0 ([],[]):=⟨(fun b a=>by cases a),(fun b a=>by cases a),(fun b a=>by cases a),joT _,joJ _⟩
theorem jm0(a b:List UInt8)(j:ByteArray):(⟨a.toArray⟩:ByteArray)++j ++ ⟨b.toArray⟩=⟨(a++j.data.toList++b).toArray⟩:=by rw[<- Gd,<- Gd,jqU j]
theorem jkG(a:List Ln)(x:Ln):Value.int .i64 ((a.length:Int)+1)=Value.int .i64 ((a++[x]).length:Nat):=by rw[joK];rfl
theorem jka(l:List UInt8):∀x∈jf l,x.bytes.length<=l.length:=by
 intro x hx;have e:=jL l
 obtain⟨a,b,c⟩:=jqR hx;rw[c,jpo,jo5]at e;have:=congrArg List.length e
 simp only[joK]at this;omega
theorem jiH{W:World}{base g cap:Nat}{xs a d:List Ln}{x:Ln}(h:W.ownsRow base 126 4 (.slice (some ⟨g,0,none⟩) xs.length cap) xs.length (cellsOf xs))(hx:xs=a++x::d):
  W.cell? ⟨g,a.length*4,none⟩=some (.int .i64 x.no)/\W.cell? ⟨g,a.length*4+1,none⟩=some (.int .i64 x.at_)/\W.cell? ⟨g,a.length*4+1+1,none⟩=some (.string ⟨x.text.toArray⟩)/\W.cell? ⟨g,a.length*4+1+1+1,none⟩=some (.bool x.ended):=by
 have b:∀j u,j<4->(qi x).toList[j]?=some u->W.cell? ⟨g,a.length*4+j,none⟩=some u:=fun j u e f=>by
  have:=h.cells (g:=g) rfl (a.length*4+j) u (by rw[hx,vA _ _ _ _ e];exact f);have c:(⟨g,0,none⟩:Addr).add (a.length*4+j)=⟨g,a.length*4+j,none⟩:=by unfold Addr.add;split<;>simp_all
  rwa [c]at this
 exact⟨b 0 _ (by omega) rfl,b 1 _ (by omega) rfl,b 2 _ (by omega) rfl,b 3 _ (by omega) rfl⟩
theorem Uu(s j:ByteArray)(J:s.size<=1000000)(N:j.size<=1000000)(w:World):
  Calls prog 159 #[.string s,.string j] w fun e U=>e=.returned (.string ⟨(Jq j.data.toList (jf s.data.toList)).toArray⟩)/\Below w.heap.size w U:=by
 obtain⟨k,l⟩:∃k,jf s.data.toList=k:=⟨_,rfl⟩
 have r:=zO s.data.toList;rw[<- jo2]at r;have c:=jka s.data.toList
 rw[<- jo2]at c;rw[l]at r c ⊢;have n:=joI c
 have E:=joI l;clear l c;go_enter func159,ntmps159;go_wp2_with fail;refine(yv s J w).mono ?_;rintro e Z ⟨v,rfl,f,a2⟩;rw[E.out]at f;obtain⟨I,p,rfl⟩:=jlh f;go_wp2_with fail;go_loopw [5,11] (fun o i wr=>∃(a b:List Ln),k=a++b/\o=.string ⟨(Jq j.data.toList a).toArray⟩/\i=.int .i64 (a.length:Nat)/\wr.ownsRow w.heap.size 126 4 (.slice I k.length p) k.length (cellsOf k)/\Below w.heap.size w wr)
  (fun _ i _=>k.length-(intOf i).toNat)
 case atStart=>exact⟨[],k,rfl,rfl,rfl,f,a2⟩
 case round =>
 obtain⟨a,b,hx,rfl,rfl,C,q⟩:=hrel;cases b with
 | nil =>
  have e:a.length=k.length:=by rw[hx];simp
  have z:=joI hx;clear hx;go_wp2;go_ret;refine⟨?_,q⟩;rw[z.out,jo9];rfl
 | cons x b =>
 have P:a.length<k.length:=by rw[hx];simp
 obtain⟨g,rfl⟩:∃g,I=some ⟨g,0,none⟩:=by
  rcases C.2 with ⟨_,V⟩|⟨g,p,L,Q,_⟩
  ·omega
  exact⟨g,by cases Q;rfl⟩
 obtain⟨W,X,Y,K⟩:=jiH C hx;have d:(Jq j.data.toList (a++[x])).length<=1000000*(2*1000000):=by
  refine Gi _ 1000000 1000000 _ (fun y R=>jpg (n.out y ?_) J) ?_ (by rw[<- jo2];exact N)
  ·rw[hx];rcases List.mem_append.1 R with h|h
   ·exact jqq _ h
   rw[List.mem_singleton.1 h];simp
  simp;omega
 rw[ZV]at d;simp only[joK,<- jo2]at d;have G:(XJ x.ended).size<=1:=by unfold XJ;cases x.ended<;>decide
 have O:(Jq j.data.toList a).length+j.size+x.text.length+1<=2000000000001:=by omega
 clear d G;have z:=joI hx
 clear hx;have H:=joI (ZV j.data.toList a x)
 have t:=jm0 (Jq j.data.toList a) x.text j;have m:=joI t
 clear t;cases A:x.ended
 ·rw[A]at K;have u:Jq j.data.toList (a++[x])=Jq j.data.toList a++j.data.toList++x.text:=by rw[H.out,A];simp[XJ]
  have D:=joI u;clear u;go_wp2;go_roundw
  case rel =>
   refine⟨a++[x],b,z.out.trans (by simp),?_,jkG a x,C.alloc _,q.alloc q.size _⟩;rw[m.out,D.out]
  case measure=>simp[intOf]<;>omega
 rw[A]at K;have u:Jq j.data.toList (a++[x])=(Jq j.data.toList a++j.data.toList++x.text)++[10]:=by rw[H.out,A];simp[XJ]
 have D:=joI u;clear u;go_wp2;go_roundw
 case rel =>
  refine⟨a++[x],b,z.out.trans (by simp),?_,jkG a x,C.alloc _,q.alloc q.size _⟩;rw[m.out,D.out];exact congrArg Value.string (Gd _ [10])
 case measure=>simp[intOf]<;>omega
def zS(l:List UInt8):List (List UInt8):=(jf l).map Ln.text
theorem jkq:∀(a:List Ln),wf a->Kh (a.map Ln.text)<=(a.flatMap Ln.bytes).length+1
 | [],_=>by simp[Kh]
 | x::a,h=>by
  obtain⟨_,b,c⟩:=h;have d:=jkq a c
  have e:Kh ((x::a).map Ln.text)=x.text.length+1+Kh (a.map Ln.text):=by unfold Kh;rw[jpr,jpr,jpR]
  rw[e,jo5,joK];rcases b with q|⟨rfl,_⟩
  ·have:x.bytes.length=x.text.length+1:=by unfold Ln.bytes;rw[q];simp
   omega
  have:x.text.length<=x.bytes.length:=by unfold Ln.bytes;simp
  have:Kh (([]:List Ln).map Ln.text)=0:=rfl;omega
theorem Wl(l:List UInt8):Kh (zS l)<=l.length+1:=by have:=jkq _ (KC l);rw[jL]at this;exact this
theorem jds:∀(b:List (List UInt8)) (a c:Nat),(num a c b).map Ln.text=b
 | [],_,_=>rfl
 | l::r,a,c=>by show l::(num (a+1) (c+l.length+1) r).map Ln.text=l::r;rw[jds r]
theorem jce{ls:List (List UInt8)}(h:∀l∈ls,(10:UInt8)∉l):zS (jq ls)=ls:=by
 unfold zS;show(jR 0 0 (jq ls)).map _=_
 rw[xx ls 0 0 h,jds]
theorem jiv(xs:List (List UInt8))(k:Nat):Kh (xs.take k)<=Kh xs:=by
 have e:Kh xs=Kh (xs.take k)+Kh (xs.drop k):=by
  conv=>lhs;rw[<- jpb k xs]
  unfold Kh;rw[jpt,List.sum_append]
 omega
theorem jaz{xs:List (List UInt8)}{k:Nat}{x:List UInt8}{s:StD}(hx:xs[k]?=some x)(h:Jd (xs.take k) ([],[])=some s):Jd (xs.take (k+1)) ([],[])=vq s x:=by
 rw[jpd,hx];show Jd (xs.take k++[x]) _=_
 rw[xl,h];show(vq s x).bind (Jd [])=_
 cases vq s x<;>rfl
theorem Uk{xs:List (List UInt8)}{k:Nat}{x:List UInt8}{s:StD}(hx:xs[k]?=some x)(h:Jd (xs.take k) ([],[])=some s)(a:vq s x=none):jfF xs=none:=by
 have e:Jd xs ([],[])=none:=by
  conv=>lhs;rw[<- jpb (k+1) xs]
  rw[xl,jaz hx h,a];rfl
 unfold jfF;rw[e];rfl
theorem jmn{l:List UInt8}{k:Nat}{s:StD}(h:Jd ((zS l).take k) ([],[])=some s):OkD (l.length+1) s:=by
 have a:=jkt _ jgv h;have b:=jiv (zS l) k
 have c:=Wl l;exact a.mono (by omega)
theorem jhz{l:List UInt8}{eds:List Ed}(h:jfF (zS l)=some eds):OkD (l.length+1) (eds,[]):=by
 unfold jfF at h;cases c:Jd (zS l) ([],[]) with
 | none=>rw[c]at h;cases h
 | some s =>
 rw[c]at h;have e:OkD (l.length+1) s:=jmn (k:=(zS l).length) (by rw[jpa];exact c)
 cases b:zL s with
 | none =>
  have a:(zL s).map Prod.fst=some eds:=h;rw[b]at a;cases a
 | some t =>
 have a:(zL s).map Prod.fst=some eds:=h;rw[b]at a;obtain⟨f,d⟩:=jdN e b;obtain⟨g,i⟩:=t;cases a;simp only at d;subst d;exact f
theorem jhA{l:List UInt8}{eds:List Ed}(h:Qf l=some eds):jfF (zS l)=some eds:=by
 obtain⟨_,f,g,rfl⟩:=xH.1 h;obtain⟨⟨_,a⟩,c⟩:=vm f;have e:zS (jo eds)=zm eds:=jce (xK c)
 rw[e];exact jfh (fun b d=>⟨c b d,g b d⟩) a
theorem XN{l:List UInt8}(h:jfF (zS l)=none):Qf l=none:=by
 cases b:Qf l with
 | none=>rfl
 | some a=>rw[jhA b]at h;cases h
theorem jjV{l:List UInt8}{eds:List Ed}(hl:l.length<=50000)(h:jfF (zS l)=some eds):Qf l=if (qw eds).2=0/\jo eds=l then some eds else none:=by
 by_cases a:(qw eds).2=0/\jo eds=l
 ·rw[if_pos a];exact xH.2 ⟨hl,a.1,(jhz h).ids,a.2⟩
 rw[if_neg a];cases b:Qf l with
 | none=>rfl
 | some x =>
 have e:=jhA b;rw[h]at e;cases e;obtain⟨_,c,_,d⟩:=xH.1 b;exact absurd ⟨c,d⟩ a
theorem jeI{l:List UInt8}(hl:l.length<=1000000){s:StD}(h:OkD (l.length+1) s):VY s.1:=fun a b =>
 ⟨by have:=h.cnt a b;omega,fun f c=>by have:=h.fin a b f c;omega⟩
end Go.Proofs.YtbapfpekklcicaaGreatDoor
