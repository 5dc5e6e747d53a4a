/- Texts put together:FS,RO,PA,PO,PQ,PR,PU,TA,FL. -/
import Derived.Test.YtpibhbjmcmfnmaaGreatDoorChecked
import Derived.ProofKit
import Derived.OpenShut
import Derived.Lib.Strings
import Derived.Laws.AppendOwn
import Derived.Laws.OwnMore
import Derived.Lib.SmallJoins
import Derived.Test.YtpibhbjmcmfnmaaGreatDoorBag7
set_option linter.unusedVariables false
set_option maxRecDepth 100000
set_option maxHeartbeats 16000000
namespace Go.Proofs.YtpibhbjmcmfnmaaGreatDoor
open Go.RowKit Go.Shelf Tryz
abbrev jnn:=@Go.Oper.semAt_some
abbrev jno:=@List.mem_cons_self
abbrev jnL:=@Go.World.ownsRow.cellAt
abbrev jnO:=@List.flatMap_append
abbrev jnQ:=@List.take_append_drop
abbrev jnX:=@Nat.zero_add
abbrev jor:=@Go.Joins.ownsRow_forms
abbrev jos:=@List.drop_left'
abbrev joJ:=@List.drop_drop
abbrev joK:=@Go.World.ownsRow.lt
abbrev joT:=@Nat.add_assoc
section
open Go.WideShapes Go.ChangeAt Go.ChangeShapes
theorem qn{B:Nat}{a w:World}(h:Below B a w)(n:Nat):Below B a (w.drewN n):=⟨h.os,h.tape,h.output,h.size,h.block⟩
def Strs(w:World)(v:Value)(ss:List ByteArray):Prop :=
 ∃A cap,v=.slice A ss.length cap/\ss.length<=cap/\∀(i:Nat) (s:ByteArray),ss[i]?=some s->∃b off,A=some ⟨b,off,none⟩/\b<w.heap.size/\w.cell? ⟨b,off+i,none⟩=some (.string s)
theorem Strs.below{w w':World}{v:Value}{ss:List ByteArray}{n:Nat}(h:Strs w v ss)(hb:Below n w w')(hn:w.heap.size<=n):Strs w' v ss:=by
 obtain⟨A,cap,hv,hle,hc⟩:=h
 refine⟨A,cap,hv,hle,fun i s hs => ?_⟩
 obtain⟨b,off,hA,hlt,hcell⟩:=hc i s hs
 exact⟨b,off,hA,jnw hlt hb.size,(hb.cell (p:=⟨b,off+i,none⟩) (jnw hlt hn)).trans hcell⟩
theorem Strs.alloc{w:World}{v:Value}{ss:List ByteArray}(h:Strs w v ss)(o:Obj):Strs (w.alloc o) v ss :=
 h.below ((jne w.heap.size w).alloc (jnd _) o) (jnd _)
theorem Strs.none(w:World)(c:Nat):Strs w (.slice none 0 c) []:=⟨_,c,rfl,jnt _,fun i s h=>by simp at h⟩
def B(l:List UInt8):ByteArray:=⟨l.toArray⟩
theorem ju(l:List UInt8):(B l).data.toList=l:=by simp[B]
theorem jjr(s:ByteArray):B s.data.toList=s:=by cases s;simp[B]
theorem jm(l:List UInt8):(B l).size=l.length:=by simp[B,ByteArray.size]
theorem jZ(a b:List UInt8):B a++B b=B (a++b):=by
 apply joA;simp[B]
def qm(n:Nat):Value:=if n=0 then .nilIface else .iface 46 (.int .i64 (n:Int))
theorem jT:qm 0=.nilIface:=rfl
theorem GT:qm 2=.iface 46 (.int .i64 2):=rfl
theorem jlS:qm 5=.iface 46 (.int .i64 5):=rfl
theorem jjf:qm 6=.iface 46 (.int .i64 6):=rfl
theorem ze(n:Nat)(h:0<n):qm n=.iface 46 (.int .i64 (n:Int)):=by unfold qm;rw[if_neg (by omega)]
attribute [local go_sem] jT
theorem jgC(n:Int)(w:World):(Instr.typeAssert (.iface 46 (.int .i64 n)) 35 46 true).run prog w=.ok (.tuple #[.int .i64 n,.bool true]) w:=by kernel_rfl
attribute [local go_sem] jgC
theorem jfa(n:Nat)(hn:n<=1000)(w:World):Calls prog 52 #[qm n] w fun e w'=>e=.returned (.int .i64 n)/\w=w':=by
 by_cases h0:n=0
 ·subst h0
  go_enter func52,ntmps52
  go_wp2
  refine wp_loop_rounds 1 ?_
  rw[rounds_succ]
  go_wp2
  go_ret
  exact⟨rfl,rfl⟩
 rw[ze n (by omega)]
 have hne:((n:Int) != 0)=true:=by simp;omega
 have hne2:((n:Int)==0)=false:=by simp;omega
 clear h0
 go_enter func52,ntmps52
 go_wp2
 refine wp_loop_rounds 1 ?_
 rw[rounds_succ]
 go_wp2
 go_ret
 exact⟨rfl,rfl⟩
theorem texts_any(v v':Value)(ss zs:List ByteArray)(w:World)(h:Strs w v ss)(h':Strs w v' zs)(hl:ss.length<=1000000)(hl':zs.length<=1000000):
  Calls prog 24 #[v,v'] w fun e w'=>e=.returned (.bool (decide (ss=zs)))/\Below w.heap.size w w':=by
 obtain⟨A,cap,rfl,hle,hc⟩:=h
 obtain⟨A',cap',rfl,hle',hc'⟩:=h'
 by_cases hne:ss.length=zs.length
 ·go_enter func24,ntmps24
  go_wp2
  go_loopw [13] (fun i wr=>∃k:Nat,k<=ss.length/\i=.int .i64 k/\(ss.take k=zs.take k)/\Below w.heap.size w wr) (fun i _=>ss.length-(intOf i).toNat)
  case atStart=>exact⟨0,jnt _,rfl,rfl,jne _ _⟩
  case round =>
  obtain⟨k,hk,rfl,he,hbl⟩:=hrel
  by_cases hlt:k<ss.length
  ·obtain⟨x,e1⟩:∃x,ss[k]?=some x:=⟨_,jnh hlt⟩
   obtain⟨y,e2⟩:∃y,zs[k]?=some y:=⟨_,jnh (by omega)⟩
   obtain⟨b,off,rfl,hb,c1⟩:=hc k _ e1
   obtain⟨b',off',rfl,hb',c2⟩:=hc' k _ e2
   replace c1:=(hbl.cell (p:=⟨b,off+k,none⟩) hb).trans c1
   replace c2:=(hbl.cell (p:=⟨b',off'+k,none⟩) hb').trans c2
   have E:=jnc he
   have T1:Hid (ss.take (k+1)=ss.take k++[x]):=by show _=_;rw[jnW,e1];rfl
   have T2:Hid (zs.take (k+1)=zs.take k++[y]):=by show _=_;rw[jnW,e2];rfl
   have F:=jnc (show x≠y->ss≠zs from fun hn hs=>by subst hs;rw[e1]at e2;exact hn (jng e2))
   have hz:k<zs.length:=by omega
   clear hc hc' e1 e2 he
   by_cases hxy:x=y
   ·subst hxy
    go_wp2_with (go_quiet (fail))
    go_roundw
    case rel=>exact⟨k+1,hlt,by go_num,by rw[T1.out,T2.out,E.out],qn hbl _⟩
    case measure=>simp[intOf];omega
   have hx2:¬x.toList=y.toList:=fun e=>hxy (by apply joA;apply Array.ext';have:=e;rw[jn0,jn0]at this;exact this)
   have F2:=jnc (F.out hxy)
   clear F
   have hx3:(x.toList==y.toList)=false:=by simpa using hx2
   have hx4:(x.toList != y.toList)=true:=by simpa using hx2
   go_wp2_with (go_quiet (fail))
   go_ret
   exact⟨by simp[F2.out],qn hbl _⟩
  obtain rfl:k=ss.length:=by omega
  rw[jnD (jnd _),jnD (by omega)]at he
  clear hc hc'
  go_wp2
  go_ret
  exact⟨by simp[he],hbl⟩
 have hn:¬((ss.length:Int)=zs.length):=by omega
 have F:=jnc (show ss≠zs from fun hs=>by subst hs;exact hne rfl)
 clear hc hc' hne
 go_enter func24,ntmps24
 go_wp2
 go_ret
 exact⟨by simp[F.out],jne _ _⟩
end
section
attribute [local go_sem] jnn
theorem evT{a:Act}{i:Nat}{v:Value}(h:a.tmps[i]?=some v):a.eval (.tmp i)=v:=by
 show a.tmps.getD i undef=v
 rw[jon,h];rfl
theorem Zb{ops:Array Oper}{o:Oper}{a:Act}(h:o.guard=none):Region.wanted o (yielded ops a.tmps)=true:=by
 unfold Region.wanted;rw[h]
theorem jg2{ops:Array Oper}{o:Oper}{a:Act}{i d:Nat}{b:Bool}(hg:o.guard=some (i,b))(hd:((ops[i]?).bind (·.dst))=some d)(h:a.tmps[d]?=some (.bool b)):Region.wanted o (yielded ops a.tmps)=true:=by
 have y:yielded ops a.tmps i=some b:=by
  unfold yielded
  rw[hd]
  show(match a.tmps[d]? with | some (.bool b)=>some b | _=>none)=_
  rw[h]
 unfold Region.wanted
 rw[hg]
 show(yielded ops a.tmps i==some b)=true
 rw[y];simp
theorem jgM:∀(L:List (Nat×Value)) (s t:Array Value),s.size=t.size->(∀p∈L,s[p.1]?=some p.2)->(∀j,j∉L.map Prod.fst->s[j]?=t[j]?)->s=L.foldl (fun u p=>u.setIfInBounds p.1 p.2) t
 | [],s,t,_,_,h=>Array.ext_getElem? (fun j=>h j (by simp))
 | p::L,s,t,hs,h1,h2=>by
  rw[List.foldl_cons]
  refine jgM L s _ (by simpa using hs) (fun q hq=>h1 q (jnm _ hq)) (fun j hj => ?_)
  rw[jn9]
  have hp:=h1 p jno
  by_cases q:p.1=j
  ·have:p.1<t.size:=by rw[<- hs];exact(Array.getElem?_eq_some_iff.1 hp).1
   rw[if_pos q,if_pos this,<- q];exact hp
  rw[if_neg q]
  exact h2 j (by rw[jnH];intro hm;rcases List.mem_cons.1 hm with e | e;exact q e.symm;exact hj e)
theorem ZI{a a0:Act}(L:List (Nat×Value))(hd:a.defers=a0.defers)(hs:a.tmps.size=a0.tmps.size)(h1:∀p∈L,a.tmps[p.1]?=some p.2)(h2:∀j,j∉L.map Prod.fst->a.tmps[j]?=a0.tmps[j]?):a={a0 with tmps:=L.foldl (fun u p=>u.setIfInBounds p.1 p.2) a0.tmps}:=by
 have:=jgM L a.tmps a0.tmps hs h1 h2
 obtain⟨t,d⟩:=a
 obtain⟨t0,d0⟩:=a0
 simp only at this hd ⊢
 subst this hd
 rfl
section
variable {o:Oper} {a:Act} {w:World} {K:Act->World->Prop} {Q:Exit->Act->World->Prop}
theorem QL{v:Value}(e:(execOp a.eval o).run prog w=.ok (.value v) w)(hK:K (a.put o.dst v) w):Oper.wp prog o a w K Q:=by
 unfold Oper.wp
 rw[e];exact hK
theorem jj8{x y:Operand}{m n:Int}(ho:o.op=Op.binOp BinOp.eql 3 x y 3)(hx:a.eval x=.int .i64 m)(hy:a.eval y=.int .i64 n)(hK:K (a.put o.dst (.bool (m==n))) w):Oper.wp prog o a w K Q :=
 QL (by simp only[execOp,ho,hx,hy];simp[go_sem]) hK
theorem jj7{x y:Operand}{m n:ByteArray}(ho:o.op=Op.binOp BinOp.eql 9 x y 9)(hx:a.eval x=.string m)(hy:a.eval y=.string n)(hK:K (a.put o.dst (.bool (m.toList==n.toList))) w):Oper.wp prog o a w K Q :=
 QL (by simp only[execOp,ho,hx,hy];simp[go_sem]) hK
theorem jb1{x:Operand}{T:TypeId}{k b i j:Nat}(hf:(Instr.fieldAt T (.pointer (some ⟨b,i,none⟩)) k).run prog w=.ok (.pointer (some ⟨b,j,none⟩)) w)(ho:o.op=Op.fieldAddr T x k)(hx:a.eval x=.pointer (some ⟨b,i,none⟩))(hK:K (a.put o.dst (.pointer (some ⟨b,j,none⟩))) w):Oper.wp prog o a w K Q :=
 QL (by simp only[execOp,ho,hx];simp[hf]) hK
theorem xF{x:Operand}{T:TypeId}{b i:Nat}{u:Value}(hl:(Instr.loadAt T (.pointer (some ⟨b,i,none⟩))).run prog w=.ok u w)(ho:o.op=Op.load T x)(hx:a.eval x=.pointer (some ⟨b,i,none⟩))(hK:K (a.put o.dst u) w):Oper.wp prog o a w K Q :=
 QL (by simp only[execOp,ho,hx];simp[hl]) hK
end
section
variable {o:Oper} {a:Act} {w:World} {K:Act->World->Prop} {Q:Exit->Act->World->Prop} {T:Value->World->Prop}
theorem Vk{x:Operand}{u:Value}(F:Nat){T1:TypeId}(ho:o.op=Op.call {callee:=Callee.value (Operand.func F),args:=#[x],argTypes:=#[T1]})(hx:a.eval x=u)
  (en:∀args w,(callFunc F args).run prog w=.ok (.enter F args) w) (hC:Calls prog F #[u] w fun e w'=>∃v,e=.returned v/\T v w') (hK:∀v w',T v w'->K (a.put o.dst v) w'):Oper.wp prog o a w K Q:=by
 unfold Oper.wp
 have e:(execOp a.eval o).run prog w=.ok (.enter F #[u]) w:=by
  have hf:a.eval (.func F)=.func (.func F) #[] #[]:=rfl
  generalize a.eval=ρ at hx hf ⊢
  simp only[execOp,ho]
  simp[go_sem,resolve,invoke,hx,hf,en]
 rw[e]
 refine hC.mono ?_
 rintro e w' ⟨v,rfl,h⟩
 exact hK v w' h
theorem jhO{x y:Operand}{u z:Value}(F:Nat){T1 T2:TypeId}(ho:o.op=Op.call {callee:=Callee.value (Operand.func F),args:=#[x,y],argTypes:=#[T1,T2]})(hx:a.eval x=u)(hy:a.eval y=z)
  (en:∀args w,(callFunc F args).run prog w=.ok (.enter F args) w) (hC:Calls prog F #[u,z] w fun e w'=>∃v,e=.returned v/\T v w') (hK:∀v w',T v w'->K (a.put o.dst v) w'):Oper.wp prog o a w K Q:=by
 unfold Oper.wp
 have e:(execOp a.eval o).run prog w=.ok (.enter F #[u,z]) w:=by
  have hf:a.eval (.func F)=.func (.func F) #[] #[]:=rfl
  generalize a.eval=ρ at hx hy hf ⊢
  simp only[execOp,ho]
  simp[go_sem,resolve,invoke,hx,hy,hf,en]
 rw[e]
 refine hC.mono ?_
 rintro e w' ⟨v,rfl,h⟩
 exact hK v w' h
theorem jhN{x y z:Operand}{u v2 v3:Value}(F:Nat){T1 T2 T3:TypeId}(ho:o.op=Op.call {callee:=Callee.value (Operand.func F),args:=#[x,y,z],argTypes:=#[T1,T2,T3]})(hx:a.eval x=u)(hy:a.eval y=v2)(hz:a.eval z=v3)
  (en:∀args w,(callFunc F args).run prog w=.ok (.enter F args) w) (hC:Calls prog F #[u,v2,v3] w fun e w'=>∃v,e=.returned v/\T v w') (hK:∀v w',T v w'->K (a.put o.dst v) w'):Oper.wp prog o a w K Q:=by
 unfold Oper.wp
 have e:(execOp a.eval o).run prog w=.ok (.enter F #[u,v2,v3]) w:=by
  have hf:a.eval (.func F)=.func (.func F) #[] #[]:=rfl
  generalize a.eval=ρ at hx hy hz hf ⊢
  simp only[execOp,ho]
  simp[go_sem,resolve,invoke,hx,hy,hz,hf,en]
 rw[e]
 refine hC.mono ?_
 rintro e w' ⟨v,rfl,h⟩
 exact hK v w' h
end
end
abbrev Fld:=List UInt8×List UInt8
structure It where
 kind:Int
 raw:List UInt8
 fields:List Fld
deriving DecidableEq
structure PS where
 begin_:Nat
 said:List (List UInt8)
 items:List It
 stanzas:Nat
 at_:Nat
 fields:List Fld
deriving DecidableEq
def PS.new:PS:=⟨0,[],[],0,0,[]⟩
abbrev Res(α:Type):=Except (Nat×Nat) α
def Zt(p:PS):Bool:=if p.fields.length=0 then p.stanzas==400 else p.fields.length==40
def jk(p:PS):Nat:=if p.said=[] then 0 else if zi p.said≠0 then zi p.said else if Zt p then 11 else 0
def jb(p:PS):PS:=if p.said=[] then p else {p with fields:=p.fields++[(ql p.said,qk p.said)],said:=[]}
def zt(text:List UInt8)(p:PS)(kind end_:Nat):PS:={p with items:=p.items++[⟨kind,(text.take end_).drop p.at_,p.fields⟩],at_:=end_,fields:=[]}
def jy(text:List UInt8)(p:PS)(end_:Nat):PS :=
 if p.at_=end_ then p else if p.fields.length=0 then zt text p 2 end_ else {zt text p 3 end_ with stanzas:=p.stanzas+1}
def Jm(p:PS)(x:Ln):Bool:=jL x.text==3 && !(p.said.isEmpty)
def qH(p:PS)(x:Ln):PS:=if Jm p x then {p with said:=p.said++[x.text]} else p
def vI(p:PS)(x:Ln):Bool:=jL x.text==5 || (jL x.text==3 && !Jm p x) || !x.ended
def xt(p:PS)(x:Ln):Bool:=vI p x || !Jm p x
def Va(text:List UInt8)(p:PS)(x:Ln):PS :=
 if jL x.text=4 then {p with begin_:=x.no,said:=[x.text]}
 else if jL x.text=1 then zt text (jy text p x.at_) 1 (x.at_+x.text.length+1)
 else p
def vC(p:PS)(x:Ln):PS:=if xt p x then jb (qH p x) else qH p x
def zO(text:List UInt8)(p:PS)(x:Ln):Res PS :=
 if xt p x=true/\jk (qH p x)≠0 then .error ((qH p x).begin_,jk (qH p x))
 else if vI p x then .error (x.no,2)
 else .ok (Va text (vC p x) x)
def vK(text:List UInt8):PS->List Ln->Res PS
 | p,[]=>.ok p
 | p,x::xs=>match zO text p x with
  | .error e=>.error e
  | .ok q=>vK text q xs
def Gp(text:List UInt8)(p:PS):Res (List It) :=
 if jk p≠0 then .error (p.begin_,jk p) else .ok (jy text (jb p) text.length).items
def jE(text:List UInt8):Res (List It) :=
 match vK text PS.new (jf text) with
 | .error e=>.error e
 | .ok p=>Gp text p
theorem vh(text:List UInt8):∀(p:PS) (a b:List Ln),vK text p (a++b)=match vK text p a with | .error e=>.error e | .ok q=>vK text q b
 | p,[],b=>rfl
 | p,x::a,b=>by
  show(match zO text p x with | .error e=>_ | .ok q=>vK text q (a++b))=match (match zO text p x with | .error e=>_ | .ok q=>vK text q a) with | .error e=>_ | .ok q=>_
  cases zO text p x with
  | error e=>rfl
  | ok q=>exact vh text q a b
theorem jcR(ls:List (List UInt8)):zi ls<=6:=by
 unfold zi
 split
 ·split<;>decide
 decide
structure Inv(p:PS)(c:Nat):Prop where
 at_:p.at_<=c
 items:p.items.length<=p.at_
 stanzas:p.stanzas<=p.at_
 begin_:p.begin_<=c
 fields:p.fields.length<=c
 said:(p.said.map List.length).sum+p.said.length<=c
 both:p.fields.length+p.said.length<=c
theorem Inv.new:Inv PS.new 0:=⟨jnd _,jnd _,jnd _,jnd _,jnd _,jnd _,jnd _⟩
theorem Inv.mono{p:PS}{c d:Nat}(h:Inv p c)(hd:c<=d):Inv p d :=
 ⟨jns h.at_ hd,h.items,h.stanzas,jns h.begin_ hd,jns h.fields hd,jns h.said hd,jns h.both hd⟩
theorem Inv.endField{p:PS}{c:Nat}(h:Inv p c):Inv (jb p) c:=by
 unfold jb
 split
 ·exact h
 rename_i hs
 have hb:=h.both
 have:1<=p.said.length:=by cases hp:p.said with | nil=>exact absurd hp hs | cons a l=>simp
 exact⟨h.at_,h.items,h.stanzas,h.begin_,by simp;omega,by simp,by simp;omega⟩
theorem Inv.endItem{p:PS}{c:Nat}(text:List UInt8)(kind e:Nat)(h:Inv p c)(h1:p.at_<e)(h2:e<=c):Inv (zt text p kind e) c:=by
 have a:=h.items;have b:=h.stanzas
 refine⟨h2,?_,?_,h.begin_,by simp[zt],h.said,?_⟩
 ·simp[zt];omega
 ·simp[zt];omega
 have:=h.both;simp[zt];omega
theorem Inv.endBlock{p:PS}{c:Nat}(text:List UInt8)(e:Nat)(h:Inv p c)(h1:p.at_<=e)(h2:e<=c):Inv (jy text p e) c:=by
 unfold jy
 split
 ·exact h
 split
 ·exact h.endItem text 2 e (by omega) h2
 have g:=h.endItem text 3 e (by omega) h2
 exact⟨g.at_,g.items,by have:=h.stanzas;show p.stanzas+1<=e;omega,g.begin_,g.fields,g.said,g.both⟩
theorem YR(p:PS):(jb p).at_=p.at_:=by unfold jb;split<;>rfl
theorem Wy(p:PS):(jb p).said=[]:=by unfold jb;split<;>simp_all
theorem xi(text:List UInt8)(p:PS)(e:Nat)(h:p.at_<=e):(jy text p e).at_=e:=by
 unfold jy
 split
 ·assumption
 split<;>rfl
theorem jbz(p:PS)(x:Ln):(qH p x).at_=p.at_:=by unfold qH;split<;>rfl
theorem Inv.went{p:PS}{x:Ln}{c:Nat}(h:Inv p c):Inv (qH p x) (c+x.text.length+1):=by
 unfold qH
 split
 ·have a:=h.said;have b:=h.both
  refine⟨by have:=h.at_;show p.at_<=_;omega,h.items,h.stanzas,by have:=h.begin_;show p.begin_<=_;omega,by have:=h.fields;show p.fields.length<=_;omega,?_,?_⟩
  ·simp;omega
  simp;omega
 exact h.mono (by omega)
theorem Inv.then_{p:PS}{x:Ln}{c:Nat}(h:Inv p c):Inv (vC p x) (c+x.text.length+1):=by
 unfold vC
 split
 ·exact h.went.endField
 exact h.went
theorem jbH(p:PS)(x:Ln):(vC p x).at_=p.at_:=by
 unfold vC
 split
 ·rw[YR,jbz]
 exact jbz p x
theorem Gv{p:PS}{x:Ln}(h:jL x.text≠3):Jm p x=false:=by unfold Jm;simp[h]
theorem Inv.take{text:List UInt8}{p q:PS}{x:Ln}(h:Inv p x.at_)(hno:x.no<=x.at_)(he:zO text p x=.ok q):Inv q (x.at_+x.bytes.length)/\x.ended=true:=by
 unfold zO at he
 split at he
 ·cases he
 split at he
 ·cases he
 rename_i hw
 have hen:x.ended=true:=by
  cases hx:x.ended with
  | true=>rfl
  | false=>exact absurd (by unfold vI;rw[hx];simp) hw
 have hb:x.at_+x.bytes.length=x.at_+x.text.length+1:=by unfold Ln.bytes;rw[hen];simp;omega
 refine⟨?_,hen⟩
 rw[hb]
 cases he
 have t:=h.then_ (x:=x)
 unfold Va
 split
 ·rename_i hk
  refine⟨t.at_,t.items,t.stanzas,by show x.no<=_;omega,t.fields,by simp,?_⟩
  have hf:(vC p x).fields.length<=x.at_:=by
   have g:=Gv (p:=p) (x:=x) (by omega)
   unfold vC xt qH
   rw[g]
   simp only[Bool.not_false,Bool.or_true,if_true]
   exact(Inv.endField h).fields
  simp;omega
 split
 ·have ta:=jbH p x
  have ha:=h.at_
  refine Inv.endItem text 1 _ (t.endBlock text x.at_ (by omega) (by omega)) ?_ (by omega)
  rw[xi text _ _ (by omega)];omega
 exact t
structure Qr(t:List UInt8)(p:PS):Prop where
 st:p.stanzas<=400
 st':p.fields≠[]->p.stanzas<=399
 fl:p.fields.length<=40
 each:∀it∈p.items,it.fields.length<=40
 join:p.items.flatMap It.raw=t.take p.at_
theorem Qr.new(t:List UInt8):Qr t PS.new:=⟨by decide,fun h=>absurd rfl h,by decide,(fun it h=>by cases h),rfl⟩
theorem Qr.endField{t:List UInt8}{p:PS}(h:Qr t p)(h0:jk p=0):Qr t (jb p):=by
 unfold jb
 split
 ·exact h
 rename_i hs
 unfold jk at h0
 rw[if_neg hs]at h0
 split at h0
 ·rename_i hu;exact absurd h0 hu
 have hfull:Zt p=false:=by
  cases hf:Zt p with
  | false=>rfl
  | true=>rw[hf]at h0;simp at h0
 unfold Zt at hfull
 have fl:=h.fl
 have st:=h.st
 refine⟨h.st,fun _ => ?_,?_,h.each,h.join⟩
 ·show p.stanzas<=399
  split at hfull
  ·have:p.stanzas≠400:=by simpa using hfull
   omega
  rename_i hz
  exact h.st' (fun e=>hz (by rw[e];rfl))
 show(p.fields++[_]).length<=40
 rw[jnf]
 split at hfull
 ·simp;omega
 have:p.fields.length≠40:=by simpa using hfull
 simp;omega
theorem Xq(t:List UInt8)(a e:Nat)(h:a<=e):t.take a++(t.take e).drop a=t.take e:=by
 conv=>rhs;rw[<- jnQ a (t.take e),List.take_take,Nat.min_eq_left h]
theorem Qr.endItem{t:List UInt8}{p:PS}(h:Qr t p)(kind e:Nat)(hle:p.at_<=e):Qr t (zt t p kind e):=by
 refine⟨h.st,fun hn=>absurd rfl hn,by simp[zt],?_,?_⟩
 ·intro it hi
  rcases List.mem_append.1 hi with hi|hi
  ·exact h.each it hi
  rw[List.mem_singleton.1 hi];exact h.fl
 show(p.items++[_]).flatMap It.raw=t.take e
 rw[jnO,h.join]
 simp only[jnA,List.flatMap_nil,jnR]
 exact Xq t p.at_ e hle
theorem Qr.endBlock{t:List UInt8}{p:PS}(h:Qr t p)(e:Nat)(hle:p.at_<=e):Qr t (jy t p e):=by
 unfold jy
 split
 ·exact h
 split
 ·exact h.endItem 2 e hle
 rename_i hz
 have g:=h.endItem 3 e hle
 have:=h.st' (fun e=>hz (by rw[e];rfl))
 exact⟨by show p.stanzas+1<=400;omega,fun hn=>absurd rfl hn,g.fl,g.each,g.join⟩
theorem Qr.went{t:List UInt8}{p:PS}(h:Qr t p)(x:Ln):Qr t (qH p x):=by
 unfold qH
 split
 ·exact⟨h.st,h.st',h.fl,h.each,h.join⟩
 exact h
theorem yF{t:List UInt8}{p q:PS}{x:Ln}(he:zO t p x=.ok q):(xt p x=true->jk (qH p x)=0)/\vI p x=false/\q=Va t (vC p x) x:=by
 unfold zO at he
 split at he
 ·cases he
 rename_i h1
 split at he
 ·cases he
 rename_i h2
 cases he
 refine⟨fun hn => ?_,by simpa using h2,rfl⟩
 rcases Nat.decEq (jk (qH p x)) 0 with e|e
 ·exact absurd ⟨hn,e⟩ h1
 exact e
theorem JA{t:List UInt8}{p:PS}{x:Ln}(h1:xt p x=true->jk (qH p x)=0)(h2:vI p x=false):zO t p x=.ok (Va t (vC p x) x):=by
 unfold zO
 rw[if_neg (fun h=>h.2 (h1 h.1)),h2];rfl
theorem Qr.then_{t:List UInt8}{p:PS}{x:Ln}(h:Qr t p)(h1:xt p x=true->jk (qH p x)=0):Qr t (vC p x):=by
 unfold vC
 split
 ·rename_i he;exact(h.went x).endField (h1 he)
 exact h.went x
theorem Qr.put{t:List UInt8}{p:PS}{x:Ln}(h:Qr t p)(ha:p.at_<=x.at_):Qr t (Va t p x):=by
 unfold Va
 split
 ·exact⟨h.st,h.st',h.fl,h.each,h.join⟩
 split
 ·refine(h.endBlock x.at_ ha).endItem 1 _ ?_
  rw[xi t p _ ha];omega
 exact h
theorem Qr.take{t:List UInt8}{p q:PS}{x:Ln}(h:Qr t p)(ha:p.at_<=x.at_)(he:zO t p x=.ok q):Qr t q:=by
 obtain⟨h1,_,rfl⟩:=yF he
 exact(h.then_ h1).put (by rw[jbH];exact ha)
def jmI:Nat->Nat->List Ln->Prop
 | _,_,[]=>True
 | no,c,x::xs=>x.no=no/\x.at_=c/\1<=x.bytes.length/\jmI (no+1) (c+x.bytes.length) xs
theorem QA:∀(n no at_:Nat) (l:List UInt8),l.length<=n->jmI no at_ (jQ no at_ l)
 | 0,no,at_,l,h=>by
  have:l=[]:=List.length_eq_zero_iff.1 (by omega)
  subst this;rw[jp];trivial
 | n+1,no,at_,l,h=>by
  by_cases hl:l=[]
  ·subst hl;rw[jp];trivial
  have hp:=qO l hl
  rw[jx _ _ _ hl]
  have hb:(Ln.bytes ⟨no,at_,head l,nl l⟩).length=qI l:=by
   unfold Ln.bytes qI;simp only[jnf];split<;>rfl
  refine⟨rfl,rfl,by rw[hb];exact hp,?_⟩
  rw[hb]
  exact QA n _ _ _ (by simp only[jnr];omega)
theorem jbS(t:List UInt8):∀(xs:List Ln) (no c:Nat) (p q:PS),jmI no c xs->no<=c->Inv p c->Qr t p->vK t p xs=.ok q->Inv q (c+(xs.flatMap Ln.bytes).length)/\Qr t q/\∀x∈xs,x.ended=true
 | [],no,c,p,q,_,_,hi,hg,he=>by
  cases he
  exact⟨by simpa using hi,hg,fun x h=>by cases h⟩
 | x::xs,no,c,p,q,hr,hn,hi,hg,he=>by
  obtain⟨r1,r2,r3,r4⟩:=hr
  unfold vK at he
  cases ht:zO t p x with
  | error e=>rw[ht]at he;cases he
  | ok p1 =>
  rw[ht]at he
  dsimp only at he
  rw[<- r2]at hi
  obtain⟨i1,e1⟩:=Inv.take hi (by omega) ht
  have g1:=hg.take hi.at_ ht
  rw[r2]at i1
  obtain⟨a,b,d⟩:=jbS t xs (no+1) (c+x.bytes.length) p1 q r4 (by omega) i1 g1 he
  refine⟨?_,b,fun y hy => ?_⟩
  ·rw[jnA,jnf,<- joT];exact a
  rcases List.mem_cons.1 hy with rfl|hy
  ·exact e1
  exact d y hy
theorem ZV{t:List UInt8}{its:List It}(h:jE t=.ok its):∃p,vK t PS.new (jf t)=.ok p/\jk p=0/\its=(jy t (jb p) t.length).items/\Qr t (jy t (jb p) t.length)/\Inv (jy t (jb p) t.length) t.length/\(jb p).at_<=t.length:=by
 unfold jE at h
 cases hr:vK t PS.new (jf t) with
 | error e=>rw[hr]at h;cases h
 | ok p =>
 rw[hr]at h
 dsimp only at h
 unfold Gp at h
 split at h
 ·cases h
 rename_i h0
 have h0:jk p=0:=by simpa using h0
 cases h
 obtain⟨a,b,_⟩:=jbS t _ 0 0 _ _ (QA _ 0 0 t (jnd _)) (jnd _) Inv.new (Qr.new t) hr
 rw[show jQ 0 0 t=jf t from rfl,zg,jnX]at a
 exact⟨p,rfl,h0,rfl,(b.endField h0).endBlock _ a.endField.at_,a.endField.endBlock t _ a.endField.at_ (jnd _),a.endField.at_⟩
theorem Je{t:List UInt8}{its:List It}(h:jE t=.ok its):its.flatMap It.raw=t/\its.length<=t.length/\∀it∈its,it.fields.length<=40/\it.raw.length<=t.length:=by
 obtain⟨p,_,_,rfl,g,i,hle⟩:=ZV h
 have ha:=xi t (jb p) t.length hle
 have hj:=g.join
 rw[ha,jnP]at hj
 refine⟨hj,by have:=i.items;rw[ha]at this;exact this,fun it hi=>⟨g.each it hi,?_⟩⟩
 obtain⟨a,b,e⟩:=List.append_of_mem hi
 rw[e,jnO,jnA]at hj
 have:=congrArg List.length hj
 simp only[jnf]at this
 omega
def sh(d e:Nat)(x:Ln):Ln:=⟨d+x.no,e+x.at_,x.text,x.ended⟩
theorem Yy:∀(a b:List Ln) (no at_:Nat) (l:List UInt8),jQ no at_ l=a++b->(∀x∈a,x.ended=true) ->
  jQ no at_ (l.take (a.flatMap Ln.bytes).length)=a/\b=jQ (no+a.length) (at_+(a.flatMap Ln.bytes).length) (l.drop (a.flatMap Ln.bytes).length)
 | [],b,no,at_,l,h,_=>by
  refine⟨by simp[jp],?_⟩
  simpa using h.symm
 | x::a,b,no,at_,l,h,he=>by
  have hl:l≠[]:=by rintro rfl;rw[jp]at h;cases h
  rw[jx _ _ _ hl,jny]at h
  obtain⟨hx,ht⟩:=List.cons.inj h
  have hb:x.bytes.length=qI l:=by
   rw[<- hx];unfold Ln.bytes qI;simp only[jnf];split<;>rfl
  have hen:nl l=true:=by have:=he x jno;rw[<- hx]at this;exact this
  obtain⟨i1,i2⟩:=Yy a b (no+1) (at_+qI l) (l.drop (qI l)) ht (fun y hy=>he y (jnm _ hy))
  have hsp:=zI l
  rw[hen,if_pos rfl]at hsp
  have hu:qI l=(head l).length+1:=by unfold qI;rw[hen];rfl
  have hcl:=yZ _ no at_ l (jnd _) ⟨no,at_,head l,nl l⟩ (by rw[jx _ _ _ hl];exact jno)
  have hlen:((x::a).flatMap Ln.bytes).length=qI l+(a.flatMap Ln.bytes).length:=by rw[jnA,jnf,hb]
  rw[hlen]
  rw[hen]at hx
  clear hlen hb hen
  generalize head l=hd at *
  generalize hr:l.drop (qI l)=r at *
  rw[hu]at *
  have hl2:l=hd++10::r:=by rw[hsp];simp
  clear hsp hu
  generalize (a.flatMap Ln.bytes).length=m at *
  have htk:l.take (hd.length+1+m)=hd++10::r.take m:=by
   rw[hl2,List.take_append,jnD (by omega),show hd.length+1+m-hd.length=m+1 by omega]
   simp
  refine⟨?_,?_⟩
  ·rw[htk,jx _ _ _ (by simp)]
   obtain⟨h1,h2⟩:=YH hd (r.take m) hcl
   have hu2:qI (hd++10::r.take m)=hd.length+1:=by unfold qI;rw[h1,h2];rfl
   have hd2:(hd++10::r.take m).drop (hd.length+1)=r.take m:=by
    rw[show hd++10::r.take m=(hd++[10])++r.take m by simp]
    exact jos (by simp)
   rw[h1,h2,hu2,hd2,i1,<- hx]
  rw[i2,<- hr,joJ,jni,joT no,Nat.add_comm 1,joT at_]
def up(q:PS)(d e:Nat)(s:PS):PS:=⟨d+s.begin_,s.said,q.items++s.items,q.stanzas+s.stanzas,e+s.at_,s.fields⟩
def re(p:PS)(n:Nat):PS:={p with begin_:=n}
def num:Nat->Nat->List (List UInt8)->List Ln
 | _,_,[]=>[]
 | no,c,l::r=>⟨no,c,l,true⟩::num (no+1) (c+l.length+1) r
theorem JH:∀(ts:List (List UInt8)) (no c:Nat),(∀l∈ts,(10:UInt8)∉l)->jQ no c (jn ts)=num no c ts
 | [],no,c,_=>rfl
 | l::r,no,c,h=>by
  have e:jn (l::r)=l++10::jn r:=by unfold jn;simp
  obtain⟨h1,h2⟩:=YH l (jn r) (h l jno)
  have hu:qI (l++10::jn r)=l.length+1:=by unfold qI;rw[h1,h2];rfl
  rw[e,jx _ _ _ (by simp),h1,h2,hu]
  have hd:(l++10::jn r).drop (l.length+1)=jn r:=by
   rw[show l++10::jn r=(l++[10])++jn r by simp]
   exact jos (by simp)
  rw[hd,JH r _ _ (fun y hy=>h y (jnm _ hy))]
  rfl
theorem Jf:∀(a b:List (List UInt8)) (no c:Nat),num no c (a++b)=num no c a++num (no+a.length) (c+(jn a).length) b
 | [],b,no,c=>rfl
 | l::a,b,no,c=>by
  have:=Jf a b (no+1) (c+l.length+1)
  show _::num _ _ (a++b)=_::_++_
  rw[this]
  have e:(jn (l::a)).length=l.length+1+(jn a).length:=by unfold jn;simp;omega
  rw[e,jni,show c+(l.length+1+(jn a).length)=c+l.length+1+(jn a).length by omega,show no+(a.length+1)=no+1+a.length by omega]
  rfl
theorem Vg{t:List UInt8}{p q:PS}{x:Ln}{xs:List Ln}(h:zO t p x=.ok q):vK t p (x::xs)=vK t q xs:=by
 show(match zO t p x with | .error e=>Except.error e | .ok q=>vK t q xs)=_
 rw[h]
theorem jbR(t:List UInt8):∀(r:List (List UInt8)) (p:PS) (no c:Nat),p.said≠[]->(∀l∈r,jL l=3)->vK t p (num no c r)=.ok {p with said:=p.said++r}
 | [],p,no,c,_,_=>by show Except.ok p=_;rw[jnR]
 | l::r,p,no,c,hs,hk=>by
  have h3:=hk l jno
  have hg:Jm p ⟨no,c,l,true⟩=true:=by
   unfold Jm;rw[h3]
   cases hq:p.said with
   | nil=>exact absurd hq hs
   | cons a b=>rfl
  have hw:vI p ⟨no,c,l,true⟩=false:=by unfold vI;rw[hg,h3];rfl
  have he:xt p ⟨no,c,l,true⟩=false:=by unfold xt;rw[hw,hg];rfl
  have ht:zO t p ⟨no,c,l,true⟩=.ok {p with said:=p.said++[l]}:=by
   rw[JA (by rw[he];intro h;cases h) hw]
   have e1:vC p ⟨no,c,l,true⟩={p with said:=p.said++[l]}:=by
    unfold vC;rw[he,if_neg (by decide)];unfold qH;rw[hg,if_pos rfl]
   rw[e1]
   unfold Va
   rw[h3];rfl
  show vK t p (⟨no,c,l,true⟩::num (no+1) (c+l.length+1) r)=_
  rw[Vg ht,jbR t r _ _ _ (by simp) (fun y hy=>hk y (jnm _ hy))]
  simp
theorem Ur{t:List UInt8}{p:PS}{no c:Nat}{l:List UInt8}(hk:jL l≠3)(h5:jL l≠5)(h0:jk p=0):zO t p ⟨no,c,l,true⟩=.ok (Va t (jb p) ⟨no,c,l,true⟩):=by
 have hg:Jm p ⟨no,c,l,true⟩=false:=Gv hk
 have hw:vI p ⟨no,c,l,true⟩=false:=by unfold vI;rw[hg];simp[hk,h5]
 have he:xt p ⟨no,c,l,true⟩=true:=by unfold xt;rw[hg];simp
 have hwent:qH p ⟨no,c,l,true⟩=p:=by unfold qH;rw[hg];rfl
 rw[JA (by rw[hwent];exact fun _=>h0) hw]
 unfold vC
 rw[he,if_pos rfl,hwent]
def jC(fs:List Fld):List (List UInt8):=fs.flatMap fun f=>zA f.1 f.2
theorem JG{k v:List UInt8}(hk:za k=true):∃x r,zA k v=x::r/\jL x=4/\∀l∈r,jL l=3:=by
 have h:=Gm (v:=v) hk
 have e:zA k v=qV k ((jI v).headD [])::(jI v).tail.map jR:=rfl
 rw[e]at h ⊢
 refine⟨_,_,rfl,?_⟩
 unfold jc3 at h
 simp only[jnv,beq_iff_eq,jnZ]at h
 exact h
theorem XN(t:List UInt8):∀(fs:List Fld) (p:PS) (no c:Nat),jk p=0->(∀f∈fs,za f.1=true/\f.2.length<=1000)->(jb p).fields.length+fs.length<=40->(jb p).stanzas<=399 ->
  ∃q,vK t p (num no c (jC fs))=.ok q/\jk q=0/\(jb q).fields=(jb p).fields++fs/\(jb q).items=(jb p).items/\(jb q).stanzas=(jb p).stanzas/\(jb q).at_=(jb p).at_
 | [],p,no,c,h0,_,_,_=>⟨p,rfl,h0,by simp,rfl,rfl,rfl⟩
 | f::fs,p,no,c,h0,hg,hn,hs=>by
  obtain⟨g1,g2⟩:=hg f jno
  obtain⟨x,r,e,kx,kr⟩:=JG (v:=f.2) g1
  obtain⟨u1,u2,u3⟩:=Gl g1 g2
  have hl:jC (f::fs)=(x::r)++jC fs:=by unfold jC;rw[jnA,e]
  have ht:zO t p ⟨no,c,x,true⟩=.ok {jb p with begin_:=no,said:=[x]}:=by
   rw[Ur (by omega) (by omega) h0]
   unfold Va
   rw[if_pos kx]
  have hrun:vK t p (num no c (x::r))=.ok {jb p with begin_:=no,said:=x::r}:=by
   show vK t p (⟨no,c,x,true⟩::num _ _ r)=_
   rw[Vg ht,jbR t r _ _ _ (by simp) kr];rfl
  rw[hl,Jf,vh,hrun]
  dsimp only
  rw[jni]at hn
  have hN:jk {jb p with begin_:=no,said:=x::r}=0:=by
   unfold jk
   rw[if_neg (by simp)]
   show(if zi (x::r)≠0 then _ else _)=0
   rw[<- e,u1,if_neg (by simp)]
   have:Zt {jb p with begin_:=no,said:=zA f.1 f.2}=false:=by
    unfold Zt
    show(if (jb p).fields.length=0 then (jb p).stanzas==400 else (jb p).fields.length==40)=false
    split
    ·simp;omega
    simp;omega
   rw[this];rfl
  have hP:jb {jb p with begin_:=no,said:=x::r}={jb p with begin_:=no,said:=[],fields:=(jb p).fields++[f]}:=by
   unfold jb
   rw[if_neg (by simp)]
   show {jb p with begin_:=no,said:=[],fields:=(jb p).fields++[(ql (x::r),qk (x::r))]}=_
   rw[<- e,u2,u3];rfl
  obtain⟨q,q1,q2,q3,q4,q5,q6⟩:=XN t fs {jb p with begin_:=no,said:=x::r} (no+(x::r).length) (c+(jn (x::r)).length) hN (fun y hy=>hg y (jnm _ hy)) (by rw[hP];simp;omega) (by rw[hP];exact hs)
  refine⟨q,q1,q2,?_,?_,?_,?_⟩
  ·rw[q3,hP];simp
  ·rw[q4,hP]
  ·rw[q5,hP]
  rw[q6,hP]
def mv(b st a:Nat)(its:List It)(p:PS):PS:=⟨b,p.said,its,st,a,p.fields⟩
def ml(no c:Nat)(x:Ln):Ln:=⟨no,c,x.text,x.ended⟩
theorem jfe(b st a:Nat)(its:List It)(p:PS)(no c:Nat)(x:Ln):qH (mv b st a its p) (ml no c x)=mv b st a its (qH p x):=by
 unfold qH
 rw[show Jm (mv b st a its p) (ml no c x)=Jm p x from rfl]
 split<;>rfl
theorem JF(b st a:Nat)(its:List It)(p:PS):jb (mv b st a its p)=mv b st a its (jb p):=by
 unfold jb
 rw[show(mv b st a its p).said=p.said from rfl]
 split<;>rfl
theorem xE(b st a:Nat)(its:List It)(p:PS)(hst:st<=399)(h:jk p=0):jk (mv b st a its p)=0:=by
 unfold jk at h ⊢
 rw[show(mv b st a its p).said=p.said from rfl]
 split
 ·rfl
 rename_i hs
 rw[if_neg hs]at h
 split
 ·rename_i hu;rw[if_pos hu]at h;exact absurd h hu
 rename_i hu
 rw[if_neg hu]at h
 have hf:Zt p=false:=by
  cases hf:Zt p with
  | false=>rfl
  | true=>rw[hf]at h;simp at h
 have:Zt (mv b st a its p)=false:=by
  unfold Zt at hf ⊢
  rw[show(mv b st a its p).fields=p.fields from rfl,show(mv b st a its p).stanzas=st from rfl]
  split
  ·have:st≠400:=by omega
   simpa using this
  rename_i hz
  rw[if_neg hz]at hf
  exact hf
 rw[this];rfl
theorem jj5(b st a:Nat)(its:List It)(p:PS)(no c:Nat)(x:Ln):vC (mv b st a its p) (ml no c x)=mv b st a its (vC p x):=by
 unfold vC
 rw[show xt (mv b st a its p) (ml no c x)=xt p x from rfl,jfe,JF]
 split<;>rfl
theorem jlG(t t':List UInt8)(b st a:Nat)(its:List It)(p:PS)(no c:Nat)(x:Ln)(hk:jL x.text≠1):∃b',Va t' (mv b st a its p) (ml no c x)=mv b' st a its (Va t p x):=by
 unfold Va
 rw[show(ml no c x).text=x.text from rfl,if_neg hk,if_neg hk]
 split
 ·exact⟨no,rfl⟩
 exact⟨b,rfl⟩
theorem jj6{t t':List UInt8}{b st a:Nat}{its:List It}{p q:PS}{no c:Nat}{x:Ln}(hst:st<=399)(hk:jL x.text≠1)(h:zO t p x=.ok q):∃b',zO t' (mv b st a its p) (ml no c x)=.ok (mv b' st a its q):=by
 obtain⟨h1,h2,rfl⟩:=yF h
 obtain⟨b',hb⟩:=jlG t t' b st a its (vC p x) no c x hk
 refine⟨b',?_⟩
 have hT:=JA (t:=t') (p:=mv b st a its p) (x:=ml no c x) (by rw[show xt (mv b st a its p) (ml no c x)=xt p x from rfl,jfe];exact fun he=>xE _ _ _ _ _ hst (h1 he)) h2
 rw[hT,jj5,hb]
def jnb(ts said:List (List UInt8))(fields:List Fld):Prop :=
 ∀(t:List UInt8) (b st a no c:Nat) (its:List It),st<=399->∃b',vK t ⟨b,[],its,st,a,[]⟩ (num no c ts)=.ok ⟨b',said,its,st,a,fields⟩
structure Blk(it:It):Prop where
 kind:it.kind=if it.fields=[] then 2 else 3
 pos:it.raw≠[]
 does:∃ts said fields,it.raw=jn ts/\(∀l∈ts,(10:UInt8)∉l)/\jnb ts said fields/\jk ⟨0,said,[],0,0,fields⟩=0/\(jb ⟨0,said,[],0,0,fields⟩).fields=it.fields
theorem Blk.kind1{it:It}(h:Blk it):it.kind≠1:=by
 rw[h.kind];split<;>decide
def Qo:Bool->List It->List It
 | _,[]=>[]
 | b,x::r=>(if b=true/\x.kind≠1 then [⟨1,[10],[]⟩] else [])++x::Qo (x.kind != 1) r
def yP(its:List It):List It:=Qo false its
theorem yq:∀(ts:List (List UInt8)) (no c:Nat) (l:List UInt8),(∀x∈ts,(10:UInt8)∉x)->jQ no c (jn ts++l)=num no c ts++jQ (no+ts.length) (c+(jn ts).length) l
 | [],no,c,l,_=>rfl
 | x::r,no,c,l,h=>by
  have e:jn (x::r)++l=x++10::(jn r++l):=by unfold jn;simp
  have e3:(jn (x::r)).length=x.length+1+(jn r).length:=by unfold jn;simp;omega
  obtain⟨h1,h2⟩:=YH x (jn r++l) (h x jno)
  have hu:qI (x++10::(jn r++l))=x.length+1:=by unfold qI;rw[h1,h2];rfl
  rw[e,jx _ _ _ (by simp),h1,h2,hu]
  have hd:(x++10::(jn r++l)).drop (x.length+1)=jn r++l:=by
   rw[show x++10::(jn r++l)=(x++[10])++(jn r++l) by simp]
   exact jos (by simp)
  rw[hd,yq r _ _ l (fun y hy=>h y (jnm _ hy)),e3,jni]
  rw[show no+1+r.length=no+(r.length+1) by omega,show c+(x.length+1)+(jn r).length=c+(x.length+1+(jn r).length) by omega]
  rfl
def jlR(t:List UInt8)(r:Res PS):Res (List It):=match r with | .error e=>.error e | .ok q=>Gp t q
theorem je5(t:List UInt8):jE t=jlR t (vK t PS.new (jf t)):=rfl
theorem Qe(t:List UInt8)(p q:PS)(a b:List Ln)(h:vK t p a=.ok q):jlR t (vK t p (a++b))=jlR t (vK t q b):=by
 rw[vh,h]
theorem Blk.ends{it:It}{said:List (List UInt8)}{fields:List Fld}(hk:it.kind=if it.fields=[] then 2 else 3)(h0:jk ⟨0,said,[],0,0,fields⟩=0)(hf:(jb ⟨0,said,[],0,0,fields⟩).fields=it.fields)
  (t:List UInt8) (b st a e:Nat) (its:List It) (hst:st<=399) (hr:(t.take e).drop a=it.raw) (hae:a<e) :
  jk ⟨b,said,its,st,a,fields⟩=0/\(jy t (jb ⟨b,said,its,st,a,fields⟩) e).items=its++[it]/\(jy t (jb ⟨b,said,its,st,a,fields⟩) e).stanzas<=st+1/\(jy t (jb ⟨b,said,its,st,a,fields⟩) e).said=[]/\(jy t (jb ⟨b,said,its,st,a,fields⟩) e).fields=[]/\(jy t (jb ⟨b,said,its,st,a,fields⟩) e).at_=e:=by
 have e0:=xE b st a its ⟨0,said,[],0,0,fields⟩ hst h0
 have e1:=JF b st a its ⟨0,said,[],0,0,fields⟩
 refine⟨e0,?_⟩
 rw[show(⟨b,said,its,st,a,fields⟩:PS)=mv b st a its ⟨0,said,[],0,0,fields⟩ from rfl,e1]
 have es:=Wy ⟨0,said,[],0,0,fields⟩
 generalize jb ⟨0,said,[],0,0,fields⟩=p at *
 unfold jy
 rw[show(mv b st a its p).at_=a from rfl,show(mv b st a its p).fields=p.fields from rfl,hf,if_neg (by omega)]
 split
 ·rename_i hz
  rw[if_pos (List.length_eq_zero_iff.1 hz)]at hk
  refine⟨?_,by show st<=st+1;omega,es,rfl,rfl⟩
  show its++[⟨(2:Nat),(t.take e).drop a,p.fields⟩]=_
  rw[hr,hf]
  obtain⟨k,r,f⟩:=it
  simp only at hk ⊢
  rw[hk];rfl
 rename_i hz
 rw[if_neg (fun h=>hz (by rw[h];rfl))]at hk
 refine⟨?_,by show st+1<=st+1;omega,es,rfl,rfl⟩
 show its++[⟨(3:Nat),(t.take e).drop a,p.fields⟩]=_
 rw[hr,hf]
 obtain⟨k,r,f⟩:=it
 simp only at hk ⊢
 rw[hk];rfl
theorem jcj(t:List UInt8):∀(bs:List It) (x:It) (b st no c:Nat) (its:List It),st+(x::bs).length<=400->(∀it∈x::bs,Blk it)->t.drop c=(yP (x::bs)).flatMap It.raw->c<=t.length ->
  jlR t (vK t ⟨b,[],its,st,c,[]⟩ (jQ no c (t.drop c)))=.ok (its++yP (x::bs))
 | [],x,b,st,no,c,its,hst,hb,ht,hct=>by
  have bx:=hb x jno
  have hp:=bx.pos
  have hk:=bx.kind
  obtain⟨ts,said,fields,d1,d2,d3,d4,d5⟩:=bx.does
  have ht':t.drop c=x.raw:=by rw[ht];simp[yP,Qo]
  have hlen:c+x.raw.length=t.length:=by have:=congrArg List.length ht';simp at this;omega
  have hpos:0<x.raw.length:=List.length_pos_iff.2 hp
  obtain⟨b',hr⟩:=d3 t b st c no c its (by simp at hst;omega)
  rw[ht',d1,<- jnR (jn ts),yq ts no c [] d2,Qe _ _ _ _ _ hr,jp]
  obtain⟨k1,k2,_⟩:=Blk.ends hk d4 d5 t b' st c t.length its (by simp at hst;omega) (by rw[jnP,ht']) (by omega)
  show Gp t _=_
  unfold Gp
  rw[k1,if_neg (by simp),k2]
  simp[yP,Qo]
 | y::bs,x,b,st,no,c,its,hst,hb,ht,hct=>by
  have bx:=hb x jno
  have by_:=hb y (jnm _ jno)
  have hp:=bx.pos
  have hk:=bx.kind
  obtain⟨ts,said,fields,d1,d2,d3,d4,d5⟩:=bx.does
  have hpos:0<x.raw.length:=List.length_pos_iff.2 hp
  have hap:yP (x::y::bs)=x::⟨1,[10],[]⟩::yP (y::bs):=by
   have hx1:(x.kind != 1)=true:=by have:=bx.kind1;simpa using this
   show([]:List It)++x::((if (x.kind != 1)=true/\y.kind≠1 then [(⟨1,[10],[]⟩:It)] else [])++y::Qo (y.kind != 1) bs)=_
   rw[if_pos ⟨hx1,by_.kind1⟩]
   simp[yP,Qo]
  rw[hap]at ht ⊢
  have ht':t.drop c=x.raw++(10::(yP (y::bs)).flatMap It.raw):=by rw[ht];simp
  generalize hR:(yP (y::bs)).flatMap It.raw=R at *
  have hlen:c+x.raw.length+1+R.length=t.length:=by have:=congrArg List.length ht';simp at this;omega
  simp only[jni]at hst
  obtain⟨b',hr⟩:=d3 t b st c no c its (by omega)
  have hde:t.drop (c+x.raw.length+1)=R:=by
   rw[joT,<- joJ,ht',show x.raw++10::R=(x.raw++[10])++R by simp]
   exact jos (by simp)
  have htk:(t.take (c+x.raw.length)).drop c=x.raw:=by
   rw[List.take_add,ht',List.drop_append_of_le_length (by rw[jnk];omega),jn6 (by rw[jnk];omega)];simp
  have htb:(t.take (c+x.raw.length+1)).drop (c+x.raw.length)=[10]:=by
   rw[List.take_add,List.drop_append_of_le_length (by rw[jnk];omega),jn6 (by rw[jnk];omega),<- joJ,ht']
   simp
  have e10:(10::R)=jn [[]]++R:=rfl
  rw[ht',e10]
  conv=>lhs;rw[d1]
  rw[yq ts no c _ d2,Qe _ _ _ _ _ hr,yq [[]] _ _ _ (by intro z hz;rw[List.mem_singleton.1 hz];simp),<- d1]
  have k1:jL []=1:=by decide
  obtain⟨z1,z2,z3,z4,z5,z6⟩:=Blk.ends hk d4 d5 t b' st c (c+x.raw.length) its (by omega) htk (by omega)
  have tk:=Ur (t:=t) (p:=⟨b',said,its,st,c,fields⟩) (no:=no+ts.length) (c:=c+x.raw.length) (l:=[]) (by rw[k1];decide) (by rw[k1];decide) z1
  have hput:Va t (jb ⟨b',said,its,st,c,fields⟩) ⟨no+ts.length,c+x.raw.length,[],true⟩=zt t (jy t (jb ⟨b',said,its,st,c,fields⟩) (c+x.raw.length)) 1 (c+x.raw.length+1):=by
   unfold Va
   rw[if_neg (by show ¬jL []=4;rw[k1];decide),if_pos k1];rfl
  rw[hput]at tk
  generalize jy t (jb ⟨b',said,its,st,c,fields⟩) (c+x.raw.length)=p at *
  have hp2:zt t p 1 (c+x.raw.length+1)=⟨p.begin_,[],its++[x]++[⟨1,[10],[]⟩],p.stanzas,c+x.raw.length+1,[]⟩:=by
   unfold zt
   rw[z2,z4,z5,z6,htb];rfl
  rw[hp2]at tk
  have hrun:vK t ⟨b',said,its,st,c,fields⟩ (num (no+ts.length) (c+x.raw.length) [[]])=.ok ⟨p.begin_,[],its++[x]++[⟨1,[10],[]⟩],p.stanzas,c+x.raw.length+1,[]⟩:=by
   show vK t _ (⟨no+ts.length,c+x.raw.length,[],true⟩::[])=_
   rw[Vg tk];rfl
  rw[Qe _ _ _ _ _ hrun]
  have ih:=jcj t bs y p.begin_ p.stanzas (no+ts.length+1) (c+x.raw.length+1) (its++[x]++[⟨1,[10],[]⟩]) (by simp only[jni];omega) (fun it hi=>hb it (jnm _ hi)) (by rw[hde,hR]) (by omega)
  rw[hde]at ih
  show jlR t (vK t _ (jQ (no+ts.length+1) (c+x.raw.length+1) R))=_
  rw[ih];simp
theorem Wj(bs:List It)(hn:bs.length<=400)(hb:∀it∈bs,Blk it):jE ((yP bs).flatMap It.raw)=.ok (yP bs):=by
 cases bs with
 | nil=>rfl
 | cons x bs =>
 rw[je5]
 have:=jcj ((yP (x::bs)).flatMap It.raw) bs x 0 0 0 0 [] (by rw[jnX];exact hn) hb rfl (jnt _)
 exact this
theorem jd6(fs:List Fld)(hg:∀f∈fs,za f.1=true/\f.2.length<=1000)(h0:fs≠[])(hl:fs.length<=40):Blk ⟨3,jn (jC fs),fs⟩:=by
 have hclean:∀l∈jC fs,(10:UInt8)∉l:=by
  intro l hl
  unfold jC at hl
  obtain⟨f,hf1,hf2⟩:=List.mem_flatMap.1 hl
  exact QN _ (hg f hf1).1 l hf2
 have hne:jn (jC fs)≠[]:=by
  cases fs with
  | nil=>exact absurd rfl h0
  | cons f r =>
  obtain⟨x,r',e,_⟩:=JG (v:=f.2) (hg f jno).1
  unfold jC
  rw[jnA,e]
  unfold jn;simp
 obtain⟨q,q1,q2,q3,q4,q5,q6⟩:=XN [] fs PS.new 0 0 rfl hg (by show 0+fs.length<=40;omega) (by decide)
 have hany:∀(t:List UInt8) (b st a no c:Nat) (its:List It),st<=399->∃b',vK t ⟨b,[],its,st,a,[]⟩ (num no c (jC fs))=.ok ⟨b',q.said,its,st,a,q.fields⟩:=by
  have key:∀(ts:List (List UInt8)) (p q:PS) (n0 c0:Nat),(∀l∈ts,jL l≠1)->vK [] p (num n0 c0 ts)=.ok q->∀(t:List UInt8) (b st a no c:Nat) (its:List It),st<=399->∃b',vK t (mv b st a its p) (num no c ts)=.ok (mv b' st a its q):=by
   intro ts
   induction ts with
   | nil=>intro p q n0 c0 _ h t b st a no c its _;cases h;exact⟨b,rfl⟩
   | cons l r ih =>
   intro p q n0 c0 hk h t b st a no c its hst
   have h':(match zO [] p ⟨n0,c0,l,true⟩ with | .error e=>Except.error e | .ok q'=>vK [] q' (num (n0+1) (c0+l.length+1) r))=.ok q:=h
   cases ht:zO [] p ⟨n0,c0,l,true⟩ with
   | error e=>rw[ht]at h';cases h'
   | ok p1 =>
   rw[ht]at h'
   obtain⟨b1,hb1⟩:=jj6 (t':=t) (b:=b) (st:=st) (a:=a) (its:=its) (no:=no) (c:=c) hst (by exact hk l jno) ht
   obtain⟨b2,hb2⟩:=ih p1 q _ _ (fun y hy=>hk y (jnm _ hy)) h' t b1 st a (no+1) (c+l.length+1) its hst
   refine⟨b2,?_⟩
   show vK t _ (⟨no,c,l,true⟩::num (no+1) (c+l.length+1) r)=_
   rw[Vg (by exact hb1)]
   exact hb2
  have hkinds:∀l∈jC fs,jL l≠1:=by
   intro l hl
   unfold jC at hl
   obtain⟨f,hf1,hf2⟩:=List.mem_flatMap.1 hl
   obtain⟨x,r,e,kx,kr⟩:=JG (v:=f.2) (hg f hf1).1
   rw[e]at hf2
   rcases List.mem_cons.1 hf2 with rfl|h
   ·rw[kx];decide
   rw[kr l h];decide
  intro t b st a no c its hst
  exact key (jC fs) PS.new q 0 0 hkinds q1 t b st a no c its hst
 refine⟨by rw[if_neg h0],hne,jC fs,q.said,q.fields,rfl,hclean,hany,xE 0 0 0 [] q (by decide) q2,?_⟩
 have:=JF 0 0 0 [] q
 rw[show(⟨0,q.said,[],0,0,q.fields⟩:PS)=mv 0 0 0 [] q from rfl,this]
 show(jb q).fields=fs
 rw[q3];rfl
def Xj(w:World)(v:Value)(fs:List (List UInt8×List UInt8)):Prop :=
 ∃A cap,v=.slice A fs.length cap/\fs.length<=cap/\∀(i:Nat) (f:List UInt8×List UInt8),fs[i]?=some f->∃b off,A=some ⟨b,off,none⟩/\b<w.heap.size/\w.cell? ⟨b,off+i*2,none⟩=some (.string (B f.1))/\w.cell? ⟨b,off+i*2+1,none⟩=some (.string (B f.2))
theorem Xj.below{w w':World}{v:Value}{fs:List (List UInt8×List UInt8)}{n:Nat}(h:Xj w v fs)(hb:Below n w w')(hn:w.heap.size<=n):Xj w' v fs:=by
 obtain⟨A,cap,hv,hle,hc⟩:=h
 refine⟨A,cap,hv,hle,fun i s hs => ?_⟩
 obtain⟨b,off,hA,hlt,c0,c1⟩:=hc i s hs
 exact⟨b,off,hA,jnw hlt hb.size,(hb.cell (p:=⟨b,off+i*2,none⟩) (jnw hlt hn)).trans c0,(hb.cell (p:=⟨b,off+i*2+1,none⟩) (jnw hlt hn)).trans c1⟩
def jM(fs:List (List UInt8×List UInt8)):List Value:=fs.flatMap fun f=>[.string (B f.1),.string (B f.2)]
theorem Jj:∀fs,(jM fs).length=fs.length*2
 | []=>rfl
 | f::r=>by
  have:=Jj r
  show(Value.string (B f.1)::Value.string (B f.2)::jM r).length=_
  simp only[jni,this];omega
theorem YZ:∀(fs:List (List UInt8×List UInt8)) (i:Nat) (f:List UInt8×List UInt8),fs[i]?=some f->(jM fs)[i*2]?=some (.string (B f.1))/\(jM fs)[i*2+1]?=some (.string (B f.2))
 | [],i,f,h=>by simp at h
 | a::r,0,f,h=>by simp at h;subst h;exact⟨rfl,rfl⟩
 | a::r,i+1,f,h=>by
  have ih:=YZ r i f (by simpa using h)
  have e:jM (a::r)=Value.string (B a.1)::Value.string (B a.2)::jM r:=rfl
  rw[e,show(i+1)*2=i*2+1+1 by omega]
  simpa using ih
theorem ja5:(prog.info? 155).map (fun i=>(i.zero,i.size,i.bytes))=some (some (.agg #[.string ⟨#[]⟩,.string ⟨#[]⟩]),2,32):=by kernel_rfl
theorem YM{w:World}{base:Nat}{v:Value}{fs:List (List UInt8×List UInt8)}(h:w.ownsRow base 155 2 v fs.length (jM fs)):Xj w v fs:=by
 rcases jor h with ⟨rfl,hn⟩|⟨g,cap,rfl⟩
 ·have:fs=[]:=by cases fs with | nil=>rfl | cons _ _=>simp at hn
  subst this
  exact⟨none,0,rfl,jnd _,fun i f h=>by simp at h⟩
 refine⟨_,cap,rfl,(by rcases h.2 with ⟨q,_⟩ | ⟨g',cap',cur,q,_,_,q2,_⟩;cases q;cases q;exact q2),fun i f hf=>⟨g,0,rfl,(joK h g rfl).2,?_⟩⟩
 have hi:i<fs.length:=by
  rcases jnK i fs.length with q|q
  ·exact q
  rw[jnY q]at hf;cases hf
 obtain⟨a,b⟩:=YZ fs i f hf
 rw[jnX,jnL h (i*2) (by omega),jnL h (i*2+1) (by omega)]
 exact⟨a,b⟩
end Go.Proofs.YtpibhbjmcmfnmaaGreatDoor
