/- Texts put together:FLD,FLE,RI,RT,RM,LM,KM,FM,FS,RO. -/
import Derived.Orders
import Derived.Test.YtpibhbjmcmfnmaaGreatDoorChecked
import Derived.ProofKit
import Derived.OpenShut
import Derived.Lib.Strings
import Derived.Test.YtpibhbjmcmfnmaaGreatDoorBfn6
set_option linter.unusedVariables false
set_option maxRecDepth 100000
set_option maxHeartbeats 16000000
namespace Go.Proofs.YtpibhbjmcmfnmaaGreatDoor
open Go.RowKit Go.Shelf Tryz
abbrev jmk:=@Go.Oper.semAt_some
abbrev jml:=@List.mem_cons_self
abbrev jmn:=@List.length_drop
abbrev jmt:=@List.flatMap_cons
abbrev jmv:=@Bool.and_eq_true
abbrev jmR:=@List.all_eq_true
abbrev jmT:=@List.append_nil
abbrev jmV:=@Array.getElem?_eq_none
abbrev jm4:=@Array.getElem?_setIfInBounds
abbrev jnc:=@List.takeWhile_cons
abbrev jnj:=@Array.getD_eq_getD_getElem?
abbrev jnJ:=@Option.map_some
abbrev jnR:=@List.drop_succ_cons
abbrev jnT:=@List.all_takeWhile
abbrev jnY:=@List.takeWhile_append_of_pos
abbrev jn7:=@List.map_congr_left
abbrev jof:=@Ne.symm
abbrev joj:=@Bool.not_eq_true'
namespace Vf
open Go.Maps
def jgF(s:ByteArray)(ss:List ByteArray):Bool:=ss.any fun x=>x.data.toList==s.data.toList
theorem jev(s x:ByteArray)(l:List ByteArray):jgF s (l++[x])=(jgF s l || x.data.toList==s.data.toList):=by unfold jgF;rw[List.any_append];simp
theorem jfU(v:Value)(ss:List ByteArray)(s:ByteArray)(w:World)(h:Sd.Strs w v ss)(hl:ss.length<=1000000):
  Calls prog 135 #[v,.string s] w fun e w'=>(∃r:Int,e=.returned (.int .i64 r)/\jgF s ss=decide (0<=r) /\ -1<=r/\r<=1000000)/\Below w.heap.size w w':=by
 obtain⟨A,cap,rfl,hle,hc⟩:=h
 go_enter func135,ntmps135
 go_wp2
 go_loopw [8] (fun i wr=>∃k:Nat,k<=ss.length/\i=.int .i64 k/\jgF s (ss.take k)=false/\Below w.heap.size w wr) (fun i _=>ss.length-(intOf i).toNat)
 case atStart=>exact⟨0,jmo _,rfl,rfl,jmc _ _⟩
 case round =>
 obtain⟨k,hk,rfl,he,hbl⟩:=hrel
 by_cases hlt:k<ss.length
 ·obtain⟨x,e1⟩:∃x,ss[k]?=some x:=⟨_,jmd hlt⟩
  obtain⟨b,off,rfl,hb,c1⟩:=hc k _ e1
  replace c1:=(hbl.cell (p:=⟨b,off+k,none⟩) hb).trans c1
  have T1:Hid (ss.take (k+1)=ss.take k++[x]):=by show _=_;rw[jmO,e1];rfl
  have M1:Hid (s=x->jgF s ss=true):=fun e=>by
   subst e
   exact List.any_eq_true.2 ⟨s,jmx e1,by simp⟩
  have E:=jl9 he
  clear hc e1 he
  by_cases hxy:s=x
  ·subst hxy
   go_wp2_with (go_quiet (fail))
   go_ret
   exact⟨⟨k,rfl,by rw[M1.out trivial,decide_eq_true (by omega)],by omega,by omega⟩,hbl⟩
  have HX:Hid ((x.data.toList==s.data.toList)=false):=by
   show _=_
   rw[beq_eq_false_iff_ne]
   exact fun e=>hxy (by apply jns;apply Array.ext';exact e.symm)
  have hx2:¬s.toList=x.toList:=fun e=>hxy (by apply jns;apply Array.ext';have:=e;rw[jmY,jmY]at this;exact this)
  have hx3:(s.toList==x.toList)=false:=by simpa using hx2
  have hx4:(s.toList != x.toList)=true:=by simpa using hx2
  go_wp2_with (go_quiet (fail))
  go_roundw
  case rel=>exact⟨k+1,hlt,by go_num,by rw[T1.out,jev,E.out,HX.out];rfl,hbl⟩
  case measure=>simp[intOf];omega
 obtain rfl:k=ss.length:=by omega
 rw[jmH (jma _)]at he
 clear hc
 go_wp2
 go_ret
 exact⟨⟨-1,rfl,by rw[he,decide_eq_false (by omega)],by omega,by omega⟩,hbl⟩
theorem jfV(v:Value)(ss:List ByteArray)(s:ByteArray)(w:World)(h:Sd.Strs w v ss)(hl:ss.length<=1000000):
  Calls prog 96 #[v,.string s] w fun e w'=>e=.returned (.bool (jgF s ss))/\Below w.heap.size w w':=by
 have IX:=jl9 (jfU v ss s w h hl)
 obtain⟨A,cap,rfl,hle,hc⟩:=h
 clear hc
 go_enter func96,ntmps96
 go_wp2_with fail
 refine IX.out.mono ?_
 rintro e w1 ⟨⟨r,rfl,hr,h1,h2⟩,hb⟩
 have HR:=jl9 hr
 clear hr
 go_wp2_with fail
 go_ret
 rw[HR.out]
 exact⟨rfl,hb⟩
theorem jig{D:jk}(s:ByteArray):jgF s (D.seen.map fun x=>bs x.1)=Uz D s:=by
 unfold Uz yq jgF
 rw[Option.isSome_map,List.any_map,jm8,List.find?_isSome,List.any_eq_true]
 constructor
 ·rintro⟨x,hx,e⟩
  exact⟨x,hx,by rw[Function.comp_apply,beq_iff_eq,jfa]at e;simpa using e⟩
 rintro⟨x,hx,e⟩
 exact⟨x,hx,by rw[Function.comp_apply,beq_iff_eq,jfa];simpa using e⟩
def JL(p:Nat)(z:ByteArray):Value:=.agg #[.pointer (some ⟨p,0,none⟩),.string z]
theorem jfZ{L n p:Nat}{w:World}{D:jk}(h:zk L w p D)(hf:zX n D)(hn:n<=300000)(hr:Zj D.seen)(z s:ByteArray):
  Calls prog 66 #[JL p z,.string s] w fun e w'=>e=.returned (.bool (Uz D s))/\Below w.heap.size w w':=by
 obtain⟨w1,hw1⟩:∃q,w.alloc (.cells #[.pointer (some ⟨p,0,none⟩),.string z] 67)=q:=⟨_,rfl⟩
 have b1:Below w.heap.size w w1:=by rw[<- hw1];exact(jmc _ w).alloc (jma _) _
 have C1:ja w1 w.heap.size 67 #[.pointer (some ⟨p,0,none⟩),.string z]:=by rw[<- hw1];exact ja.new _ _ _
 obtain⟨T,hA,_⟩:=h.below b1
 have N1:=jl9 (Sd.names_any hA hf hn hr)
 have c0:=C1.cell 0
 have B1:=jl9 b1
 have HW1:=jl9 hw1
 have SL:Hid (D.seen.length<=1000000):=by show _;exact jmy (qu D.waits D.sure) (by have:=hf.dirs;omega)
 have SM:=jl9 (jig (D:=D) s)
 clear h hA b1 hw1 hf hr
 unfold JL
 go_enter func66,ntmps66
 go_wp2_with fail
 rw[HW1.out]
 go_wp2_with fail
 refine N1.out.mono ?_
 rintro e w2 ⟨v,rfl,hS,b2⟩
 have B2:=jl9 (B1.out.trans (b2.mono B1.out.size))
 have K:=jfV v _ s w2 hS (by rw[jmE];exact SL.out)
 obtain⟨A,cap,rfl,_,_⟩:=hS
 rw[jmE]at K
 replace K:=jl9 K
 clear b2 N1
 go_wp2_with fail
 refine K.out.mono ?_
 rintro e w3 ⟨rfl,b3⟩
 rw[SM.out]
 have B3:=jl9 (B2.out.trans (b3.mono B2.out.size))
 clear b3 K
 go_wp2_with fail
 go_ret
 exact⟨rfl,B3.out⟩
theorem jO{w w':World}{b N:Nat}{t:TypeId}{cur:Array Value}(h:ja w b t cur)(hb:Below N w w')(hN:b<N):ja w' b t cur:=(hb.block b hN).trans h
section
variable {L n p:Nat} {w:World} {D:jk}
theorem Kw(h:zk L w p D)(hL:L<=w.heap.size)(hf:zX n D)(hn:n<=400000)(z:ByteArray)(hz:z.size<=1000000):
  Calls prog 28 #[.pointer (some ⟨p,0,none⟩),.string z] w fun e w'=>e=.returned (qi (jL D z).2)/\zk L w' p (jL D z).1/\zC L w w':=Vk h hL fun T hA _ _=>jcM hA hf hn z hz
theorem jfP(h:zk L w p D)(hL:L<=w.heap.size)(hf:zX n D)(hn:n<=400000):
  Calls prog 31 #[.pointer (some ⟨p,0,none⟩)] w fun e w'=>e=.returned (qi (zK D).2)/\zk L w' p (zK D).1/\zC L w w':=Vk h hL fun T hA _ _=>Gd hA hf hn
theorem jh2(h:zk L w p D)(hL:L<=w.heap.size)(hf:zX n D)(hn:n<=400000)(z:ByteArray)(hz:z.size<=1000000):
  Calls prog 30 #[.pointer (some ⟨p,0,none⟩),.string z] w fun e w'=>e=.returned (qi (yb D z).2)/\zk L w' p (yb D z).1/\zC L w w':=Vk h hL fun T hA _ _=>jfQ hA hf hn z hz
theorem jlX(h:zk L w p D)(hL:L<=w.heap.size)(hf:zX n D)(hn:n<=400000)(z:ByteArray)(hz:z.size<=1000000)(k:Nat)(hk:k<=1000000):
  Calls prog 72 #[.pointer (some ⟨p,0,none⟩),.string z,.int .i64 k] w fun e w'=>e=.returned (qi (jbl D z k).2)/\zk L w' p (jbl D z k).1/\zC L w w':=Vk h hL fun T hA _ _=>ji9 hA hf hn z hz k (by omega) (by omega)
theorem jht(h:zk L w p D)(hL:L<=w.heap.size)(hf:zX n D)(hn:n<=300000)(z t:ByteArray)(hz:z.size<=1000000)(ht:t.size<=1000):
  Calls prog 29 #[.pointer (some ⟨p,0,none⟩),.string z,.string t] w fun e w'=>e=.returned (qi (qx D z t).2)/\zk L w' p (qx D z t).1/\zC L w w':=Vk h hL fun T hA _ _=>jdf hA hf hn z t hz ht
theorem jjT(h:zk L w p D)(hf:zX n D)(hn:n<=300000)(z:ByteArray)(hz:z.size<=1000000):
  Calls prog 26 #[.pointer (some ⟨p,0,none⟩),.string z] w fun e w'=>e=.returned (.tuple #[.string (JK D z).1,qi (JK D z).2])/\Below w.heap.size w w':=by
 obtain⟨T,hA,_⟩:=h
 exact read_any hA hf hn z hz
end
attribute [local go_sem] jW
theorem jlo{L n p b:Nat}{w:World}{D:jk}{z:ByteArray}(h:zk L w p D)(hL:L<=w.heap.size)(hf:zX n D)(hn:n<=400000)(hz:z.size<=1000000)(hC:ja w b 67 #[.pointer (some ⟨p,0,none⟩),.string z])(h0:(jL D z).2=0):
  Calls prog 69 #[.pointer (some ⟨b,0,none⟩)] w fun e w'=>e=.returned .nilIface/\zk L w' p (jL D z).1/\zC L w w':=by
 have K:=Kw h hL hf hn z hz
 rw[h0,jW]at K
 replace K:=jl9 K
 have c0:=hC.cell 0
 have c1:=hC.cell 1
 clear h hf hC h0
 go_enter func69,ntmps69
 go_wp2_with fail
 refine K.out.mono ?_
 rintro e w1 ⟨rfl,h1,h2⟩
 go_wp2_with fail
 go_ret
 exact⟨rfl,h1,h2⟩
theorem jfk(p:Nat)(z:ByteArray)(w:World)(hz:z.size<=1000000):
  Calls prog 38 #[JL p z] w fun e w'=>e=.returned (.string (jak z))/\Below w.heap.size w w':=by
 obtain⟨w1,hw1⟩:∃q,w.alloc (.cells #[.pointer (some ⟨p,0,none⟩),.string z] 67)=q:=⟨_,rfl⟩
 have b1:Below w.heap.size w w1:=by rw[<- hw1];exact(jmc _ w).alloc (jma _) _
 have C1:ja w1 w.heap.size 67 #[.pointer (some ⟨p,0,none⟩),.string z]:=by rw[<- hw1];exact ja.new _ _ _
 have c1:=C1.cell 1
 have HW1:=jl9 hw1
 have B1:=jl9 b1
 have Z4:(⟨#[46,110,101,119]⟩:ByteArray).size=4:=rfl
 clear b1 C1 hw1
 unfold JL jak
 go_enter func38,ntmps38
 go_wp2_with fail
 rw[HW1.out]
 go_wp2_with fail
 go_ret
 exact⟨rfl,B1.out⟩
theorem jkw{L n p:Nat}{w:World}{D:jk}{z:ByteArray}(h:zk L w p D)(hf:zX n D)(hn:n<=200000)(hr:Zj D.seen)(hz:z.size<=1000000)(hs:Uz D (jak z)=false):
  Calls prog 33 #[JL p z] w fun e w'=>e=.returned .nilIface/\Below w.heap.size w w':=by
 obtain⟨w1,hw1⟩:∃q,w.alloc (.cells #[.pointer (some ⟨p,0,none⟩),.string z] 67)=q:=⟨_,rfl⟩
 have b1:Below w.heap.size w w1:=by rw[<- hw1];exact(jmc _ w).alloc (jma _) _
 have C1:ja w1 w.heap.size 67 #[.pointer (some ⟨p,0,none⟩),.string z]:=by rw[<- hw1];exact ja.new _ _ _
 have c0:=C1.cell 0
 have c1:=C1.cell 1
 have AS:=jl9 (jfk p z w1 hz)
 have HW1:=jl9 hw1
 have HC1:=jl9 C1
 have HD1:=jl9 (h.below b1)
 have B1:=jl9 b1
 have SS:Hid (∀W,zk L W p D->Calls prog 66 #[JL p z,.string (jak z)] W fun e w'=>e=.returned (.bool (Uz D (jak z)))/\Below W.heap.size W w'):=fun W hd=>jfZ hd hf (by omega) hr z (jak z)
 rw[hs]at SS
 unfold JL at *
 generalize jak z=s at *
 clear b1 C1 hw1 h hf hr hs
 go_enter func33,ntmps33
 go_wp2_with fail
 rw[HW1.out]
 go_wp2_with fail
 refine AS.out.mono ?_
 rintro e w2 ⟨rfl,b2⟩
 obtain⟨w3,hw3⟩:∃q,w2.alloc (.cells #[.string s] 9)=q:=⟨_,rfl⟩
 have b3:Below w2.heap.size w2 w3:=by rw[<- hw3];exact(jmc _ w2).alloc (jma _) _
 have S3:ja w3 w2.heap.size 9 #[.string s]:=by rw[<- hw3];exact ja.new _ _ _
 have hb3:=b2.trans (b3.mono b2.size)
 have C3:=jO HC1.out hb3 HC1.out.lt
 have d0:=C3.cell 0
 have d1:=C3.cell 1
 have s0:=S3.cell 0
 have SE:=jl9 (SS.out w3 (HD1.out.below hb3))
 have B3:=jl9 (B1.out.trans (hb3.mono B1.out.size))
 have HW3:=jl9 hw3
 rw[<- hw3]at d0 d1 s0
 clear b2 b3 hb3 hw3 C3 S3 c0 c1 AS SS
 go_wp2_with fail
 rw[HW3.out]
 refine SE.out.mono ?_
 rintro e w4 ⟨rfl,b4⟩
 have B4:=jl9 (B3.out.trans (b4.mono B3.out.size))
 clear b4 SE
 go_wp2_with fail
 go_ret
 exact⟨rfl,B4.out⟩
end Vf
def jfx(l:Array Bool):Nat:=(l.toList.filter (fun b => !b)).length
theorem Zp{ops:Array Oper}{l:Array Bool}{i:Nat}(h:i∈Region.ready .any ops l):
  ∃o,ops[i]?=some o/\l.getD i true=false/\∀e∈o.after,Region.binds .any e=true->l.getD e.on false=true:=by
 unfold Region.ready at h
 rw[List.mem_filter]at h
 obtain⟨hi,h⟩:=h
 rw[List.mem_range]at hi
 have ho:ops[i]?=some ops[i]:=jmM hi
 rw[ho]at h
 simp only[jnJ,Option.getD_some,jmv,joj]at h
 refine⟨_,ho,h.1,fun e he hb => ?_⟩
 have:=(Array.all_eq_true_iff_forall_mem.1 h.2) e he
 simpa [hb]using this
theorem jdi{P:Program}{ops:Array Oper}{Q:Exit->Act->World->Prop}(I:Array Bool->Act->World->Prop)
  (step:∀l i o a w,I l a w->l.size=ops.size->ops[i]?=some o->l.getD i true=false->(∀e∈o.after,Region.binds .any e=true->l.getD e.on false=true) ->
   wpOp P ops Q i (fun a' w'=>I (l.setIfInBounds i true) a' w') a w)
  (done:∀l a w,I l a w->l.size=ops.size->Region.ready .any ops l=[]->Q .normal a w) :
  ∀(n:Nat) (l:Array Bool) (a:Act) (w:World),I l a w->l.size=ops.size->jfx l<=n->wpAny P .any ops Q n l a w:=by
 intro n
 induction n with
 | zero =>
  intro l a w hI hs hn
  have hr:Region.ready .any ops l=[]:=by
   cases hq:Region.ready .any ops l with
   | nil=>rfl
   | cons i rs =>
   obtain⟨o,ho,hl,_⟩:=Zp (show i∈Region.ready .any ops l by rw[hq];simp)
   exfalso
   have hi:i<l.size:=by
    rcases jmF i l.size with h|h
    ·exact h
    simp[Array.getD,Nat.not_lt.2 h]at hl
   have hm:l[i]∈l.toList.filter (fun b => !b):=by
    rw[List.mem_filter]
    refine⟨by simp,?_⟩
    simp[Array.getD,hi]at hl
    simp[hl]
   have:0<jfx l:=List.length_pos_of_mem hm
   omega
  exact⟨hr,done l a w hI hs hr⟩
 | succ n ih =>
 intro l a w hI hs hn
 refine⟨fun hr=>done l a w hI hs hr,fun i hi => ?_⟩
 obtain⟨o,ho,hl,he⟩:=Zp hi
 refine wpOp_mono (fun a' w' hI'=>ih _ _ _ hI' (by simpa using hs) ?_) (step l i o a w hI hs ho hl he)
 have hi':i<l.size:=by
  rcases jmF i l.size with h|h
  ·exact h
  simp[Array.getD,Nat.not_lt.2 h]at hl
 have hlf:l[i]=false:=by simpa [Array.getD,hi']using hl
 have key:∀(xs:List Bool) (j:Nat) (hj:j<xs.length),xs[j]=false->((xs.set j true).filter (fun b => !b)).length+1=(xs.filter (fun b => !b)).length:=by
  intro xs
  induction xs with
  | nil=>intro j hj;simp at hj
  | cons x xs ih2 =>
  intro j hj hx
  cases j with
  | zero=>simp at hx;subst hx;simp
  | succ j =>
  have:=ih2 j (by simpa using hj) (by simpa using hx)
  cases x<;>simp at this ⊢ <;> omega
 have h2:=key l.toList i (by simpa using hi') (by simpa using hlf)
 unfold jfx at hn ⊢
 have e:(l.setIfInBounds i true).toList=l.toList.set i true:=by simp
 rw[e]
 omega
structure Tab(a0:Act)(n:Nat)(dst:Nat->Option Nat)(val:Nat->Value)(s:Nat)(W:Bool->World)(l:Array Bool)(a:Act)(w:World):Prop where
 dfr:a.defers=a0.defers
 sz:a.tmps.size=a0.tmps.size
 frm:∀j,(∀k,k<n->dst k≠some j)->a.tmps[j]?=a0.tmps[j]?
 val:∀i d,l.getD i false=true->dst i=some d->a.tmps[d]?=some (val i)
 wd:w=W (l.getD s false)
theorem Qw(l:Array Bool)(i:Nat)(hi:i<l.size)(j:Nat):(l.setIfInBounds i true).getD j false=if j=i then true else l.getD j false:=by
 rw[jnj,jnj,jm4]
 by_cases h:i=j
 ·subst h;simp[hi]
 rw[if_neg h,if_neg (jof h)]
theorem jca{l:Array Bool}{i:Nat}(h:l.getD i true=false):i<l.size:=by
 rcases jmF i l.size with q|q
 ·exact q
 simp[Array.getD,Nat.not_lt.2 q]at h
theorem jbw{ops:Array Oper}{l:Array Bool}(hs:l.size=ops.size)(hlow:∀i o e,ops[i]?=some o->e∈o.after->Region.binds .any e=true->e.on<i)(hr:Region.ready .any ops l=[]):∀i,i<ops.size->l.getD i false=true:=by
 intro i
 induction i using Nat.strongRecOn with
 | _ i ih =>
 intro hi
 cases hl:l.getD i false with
 | true=>rfl
 | false =>
 exfalso
 have ho:ops[i]?=some ops[i]:=jmM hi
 have:i∈Region.ready .any ops l:=by
  unfold Region.ready
  rw[List.mem_filter]
  refine⟨List.mem_range.2 hi,?_⟩
  have hl2:l.getD i true=false:=by
   have hil:i<l.size:=by omega
   simp[Array.getD,hil]at hl ⊢;exact hl
  simp only[ho,jnJ,Option.getD_some,jmv,joj]
  refine⟨hl2,Array.all_eq_true_iff_forall_mem.2 fun e he => ?_⟩
  cases hb:Region.binds .any e with
  | false=>simp
  | true =>
  have h1:=hlow i _ e ho he hb
  simp[ih e.on h1 (by omega)]
 rw[hr]at this
 cases this
structure jlu(a0:Act)(w0:World)(n:Nat)(dst:Nat->Option Nat)(Pv:Nat->Value->World->Prop)(R:World->World->Prop)(l:Array Bool)(a:Act)(w:World):Prop where
 dfr:a.defers=a0.defers
 sz:a.tmps.size=a0.tmps.size
 frm:∀j,(∀k,k<n->dst k≠some j)->a.tmps[j]?=a0.tmps[j]?
 val:∀i d,l.getD i false=true->dst i=some d->∃v,a.tmps[d]?=some v/\Pv i v w
 wd:R w0 w
theorem jbC{P:Program}{ops:Array Oper}{Q:Exit->Act->World->Prop}(a0:Act)(w0:World)(dst:Nat->Option Nat)(Pv:Nat->Value->World->Prop)(R:World->World->Prop)
  (R0:R w0 w0) (RT:∀x y,R w0 x->R x y->R w0 y) (PM:∀i v x y,R w0 x->R x y->Pv i v x->Pv i v y)
  (hd:∀i o,ops[i]?=some o->o.dst=dst i) (inj:∀i k d,i<ops.size->k<ops.size->dst i=some d->dst k=some d->i=k) (dlt:∀i d,i<ops.size->dst i=some d->d<a0.tmps.size)
  (hlow:∀i o e,ops[i]?=some o->e∈o.after->Region.binds .any e=true->e.on<i)
  (step:∀i o a w,ops[i]?=some o->a.tmps.size=a0.tmps.size->(∀j,(∀k,k<ops.size->dst k≠some j)->a.tmps[j]?=a0.tmps[j]?)->(∀e∈o.after,Region.binds .any e=true->∀d,dst e.on=some d->∃v,a.tmps[d]?=some v/\Pv e.on v w)->R w0 w ->
   (Region.wanted o (yielded ops a.tmps)=true/\∀K:Act->World->Prop,(∀v w',R w w'->Pv i v w'->K (a.put (dst i) v) w')->Oper.wp P o a w K Q)\/(Region.wanted o (yielded ops a.tmps)=false/\Pv i undef w))
  (RR:∀w,R w0 w->R w w)
  (hQ:∀a w,a.defers=a0.defers->a.tmps.size=a0.tmps.size->(∀j,(∀k,k<ops.size->dst k≠some j)->a.tmps[j]?=a0.tmps[j]?)->(∀i d,i<ops.size->dst i=some d->∃v,a.tmps[d]?=some v/\Pv i v w)->R w0 w->Q .normal a w) :
  wpAny P .any ops Q ops.size (Array.replicate ops.size false) a0 w0:=by
 refine jdi (jlu a0 w0 ops.size dst Pv R) ?step ?done ops.size _ a0 _ ?start (by simp) (by unfold jfx;simp)
 case start =>
  have e:∀i,(Array.replicate ops.size false).getD i false=false:=fun i=>by
   rw[jnj,Array.getElem?_replicate];split<;>rfl
  exact⟨rfl,rfl,fun _ _=>rfl,(fun i d h=>absurd ((e i).symm.trans h) (by decide)),R0⟩
 case done =>
  intro l a w I hl hr
  have A:=jbw hl hlow hr
  exact hQ a w I.dfr I.sz I.frm (fun i d hi h=>I.val i d (A i hi) h) I.wd
 case step =>
 intro l i o a w I hl ho hli he
 have hil:=jca hli
 have hi:i<ops.size:=by omega
 have dep:∀e∈o.after,Region.binds .any e=true->∀d,dst e.on=some d->∃v,a.tmps[d]?=some v/\Pv e.on v w:=fun e h1 h2 d h3=>I.val e.on d (he e h1 h2) h3
 have key:∀v w',R w w'->Pv i v w'->jlu a0 w0 ops.size dst Pv R (l.setIfInBounds i true) (a.put (dst i) v) w':=by
  intro v w' hR hP
  have hwd:=RT w w' I.wd hR
  cases hdi:dst i with
  | none =>
   refine⟨I.dfr,I.sz,I.frm,fun k d hk hkd => ?_,hwd⟩
   rw[Qw l i hil]at hk
   by_cases q:k=i
   ·rw[q,hdi]at hkd;cases hkd
   rw[if_neg q]at hk
   obtain⟨u,h1,h2⟩:=I.val k d hk hkd
   exact⟨u,h1,PM k u w w' I.wd hR h2⟩
  | some d0 =>
  have hd0:=dlt i d0 hi hdi
  have T:∀j,(a.put (some d0) v).tmps[j]?=if j=d0 then some v else a.tmps[j]?:=fun j=>by
   show(a.tmps.setIfInBounds d0 v)[j]?=_
   rw[jm4]
   by_cases h:d0=j
   ·subst h;simp[I.sz,hd0]
   rw[if_neg h,if_neg (jof h)]
  refine⟨I.dfr,?_,fun j hj => ?_,fun k d hk hkd => ?_,hwd⟩
  ·show(a.tmps.setIfInBounds d0 v).size=_
   simp[I.sz]
  ·rw[T,if_neg (fun e=>hj i hi (by rw[hdi,e]))];exact I.frm j hj
  rw[T]
  rw[Qw l i hil]at hk
  by_cases q:k=i
  ·subst q
   rw[hdi]at hkd
   rw[if_pos (jmf hkd).symm]
   exact⟨v,rfl,hP⟩
  rw[if_neg q]at hk
  have hkl:k<ops.size:=by
   rcases jmF k ops.size with z|z
   ·exact z
   rw[jnj,jmV (by omega)]at hk;cases hk
  rw[if_neg (fun e=>q (inj k i d hkl hi hkd (by rw[hdi,e])))]
  obtain⟨u,h1,h2⟩:=I.val k d hk hkd
  exact⟨u,h1,PM k u w w' I.wd hR h2⟩
 unfold wpOp
 rw[ho]
 dsimp only
 rcases step i o a w ho I.sz I.frm dep I.wd with ⟨h1,h2⟩|⟨h1,h2⟩
 ·rw[if_pos h1]
  exact .inl (h2 _ key)
 rw[if_neg (by rw[h1];decide),hd i o ho]
 exact key undef w (RR w I.wd) h2
def pvL(L:List (Value->World->Prop))(i:Nat)(v:Value)(w:World):Prop:=match L[i]? with | some P=>P v w | none=>True
def jjn:List (Value->World->Prop)->Prop
 | []=>True
 | P::r=>(∀v x y,Below x.heap.size x y->P v x->P v y)/\jjn r
theorem XV:∀{L:List (Value->World->Prop)} (_:jjn L) {i:Nat} {v:Value} {x y:World},Below x.heap.size x y->pvL L i v x->pvL L i v y
 | [],_,i,v,x,y,_,_=>trivial
 | P::r,h,0,v,x,y,hb,hp=>h.1 v x y hb hp
 | P::r,h,i+1,v,x,y,hb,hp=>XV (L:=r) h.2 (i:=i) hb hp
structure Ln where
 no:Nat
 at_:Nat
 text:List UInt8
 ended:Bool
deriving DecidableEq
def head(l:List UInt8):List UInt8:=l.takeWhile (· != 10)
def nl(l:List UInt8):Bool:=l.contains 10
def qI(l:List UInt8):Nat:=(head l).length+if nl l then 1 else 0
def ZX:Nat->Nat->Nat->List UInt8->List Ln
 | 0,_,_,_=>[]
 | f+1,no,at_,l=>if l=[] then [] else ⟨no,at_,head l,nl l⟩::ZX f (no+1) (at_+qI l) (l.drop (qI l))
def za(no at_:Nat)(l:List UInt8):List Ln:=ZX l.length no at_ l
def je(l:List UInt8):List Ln:=za 0 0 l
def Ln.bytes(x:Ln):List UInt8:=x.text++if x.ended then [10] else []
theorem jiI(l:List UInt8):(head l).length<=l.length:=by
 unfold head
 induction l with
 | nil=>simp
 | cons a t ih =>
 simp only[jnc]
 split
 ·simp;exact ih
 simp
theorem zA(l:List UInt8):l=head l++(if nl l then [10] else [])++l.drop (qI l):=by
 unfold qI
 induction l with
 | nil=>simp[head,nl]
 | cons a t ih =>
 by_cases h:a=10
 ·subst h;simp[head,nl]
 have e1:head (a::t)=a::head t:=by simp[head,h]
 have e2:nl (a::t)=nl t:=by simp[nl,Ne.symm h]
 rw[e1,e2]
 simp only[jme,jmu]
 rw[show(head t).length+1+(if nl t=true then 1 else 0)=((head t).length+if nl t=true then 1 else 0)+1 by omega,jnR]
 exact congrArg (a :: ·) ih
theorem XF(l:List UInt8):qI l<=l.length:=by
 have:=congrArg List.length (zA l)
 unfold qI at this ⊢
 simp only[jmb,jmn]at this
 have h1:(if nl l=true then [(10:UInt8)] else []).length=if nl l=true then 1 else 0:=by split<;>rfl
 rw[h1]at this
 omega
theorem qz(l:List UInt8)(h:l≠[]):1<=qI l:=by
 unfold qI
 cases l with
 | nil=>exact absurd rfl h
 | cons a t =>
 by_cases h:a=10
 ·subst h;simp[nl]
 simp[head,h];omega
theorem Vi:∀(f g no at_:Nat) (l:List UInt8),l.length<=f->l.length<=g->ZX f no at_ l=ZX g no at_ l
 | 0,0,_,_,_,_,_=>rfl
 | 0,g+1,no,at_,l,h,_=>by
  have:l=[]:=List.length_eq_zero_iff.1 (by omega)
  simp[ZX,this]
 | f+1,0,no,at_,l,_,h=>by
  have:l=[]:=List.length_eq_zero_iff.1 (by omega)
  simp[ZX,this]
 | f+1,g+1,no,at_,l,h1,h2=>by
  unfold ZX
  split
  ·rfl
  rename_i hn
  have:=qz l hn
  rw[Vi f g _ _ _ (by simp only[jmn];omega) (by simp only[jmn];omega)]
theorem jr(no at_:Nat):za no at_ []=[]:=rfl
theorem jA(no at_:Nat)(l:List UInt8)(h:l≠[]):za no at_ l=⟨no,at_,head l,nl l⟩::za (no+1) (at_+qI l) (l.drop (qI l)):=by
 unfold za
 cases l with
 | nil=>exact absurd rfl h
 | cons a t =>
 have:=qz _ h
 rw[show(a::t).length=t.length+1 from rfl]
 conv=>lhs;unfold ZX
 rw[if_neg h,Vi t.length ((a::t).drop (qI (a::t))).length _ _ _ (by simp only[jmn,jme];omega) (jma _)]
theorem ZV:∀(n no at_:Nat) (l:List UInt8),l.length<=n->(za no at_ l).flatMap Ln.bytes=l
 | 0,_,_,l,h=>by
  have:l=[]:=List.length_eq_zero_iff.1 (by omega)
  subst this;rfl
 | n+1,no,at_,l,h=>by
  by_cases hl:l=[]
  ·subst hl;rfl
  have hp:=qz l hl
  rw[jA _ _ _ hl,jmt,ZV n _ _ _ (by simp only[jmn];omega)]
  exact(zA l).symm
theorem zg(l:List UInt8):(je l).flatMap Ln.bytes=l:=ZV _ _ _ _ (jma _)
theorem Xh:∀(n no at_:Nat) (l:List UInt8),l.length<=n->∀pre x post,za no at_ l=pre++x::post->x.no=no+pre.length/\x.at_=at_+(pre.flatMap Ln.bytes).length
 | 0,_,_,l,h,pre,x,post,e=>by
  have:l=[]:=List.length_eq_zero_iff.1 (by omega)
  subst this
  rw[jr]at e
  exact absurd (congrArg List.length e) (by simp)
 | n+1,no,at_,l,h,pre,x,post,e=>by
  by_cases hl:l=[]
  ·subst hl;rw[jr]at e;exact absurd (congrArg List.length e) (by simp)
  have hp:=qz l hl
  rw[jA _ _ _ hl]at e
  cases pre with
  | nil=>simp only[jmS,List.cons.injEq]at e;obtain⟨rfl,_⟩:=e;simp
  | cons y pre =>
  simp only[jmu,List.cons.injEq]at e
  obtain⟨rfl,e⟩:=e
  obtain⟨a,b⟩:=Xh n _ _ _ (by simp only[jmn];omega) pre x post e
  refine⟨by rw[a];simp;omega,?_⟩
  rw[b,jmt,jmb]
  have:(Ln.bytes ⟨no,at_,head l,nl l⟩).length=qI l:=by
   unfold Ln.bytes qI;simp only[jmb];split<;>rfl
  rw[this];omega
theorem vD(l:List UInt8)(pre:List Ln)(x:Ln)(post:List Ln)(e:je l=pre++x::post):x.no=pre.length/\x.at_=(pre.flatMap Ln.bytes).length:=by
 have:=Xh _ 0 0 l (jma _) pre x post e
 simpa using this
theorem yE:∀(n no at_:Nat) (l:List UInt8),l.length<=n->∀x∈za no at_ l,(10:UInt8)∉x.text
 | 0,_,_,l,h,x,hx=>by
  have:l=[]:=List.length_eq_zero_iff.1 (by omega)
  subst this
  rw[jr]at hx;cases hx
 | n+1,no,at_,l,h,x,hx=>by
  by_cases hl:l=[]
  ·subst hl;rw[jr]at hx;cases hx
  have hp:=qz l hl
  rw[jA _ _ _ hl]at hx
  rcases List.mem_cons.1 hx with rfl|hx
  ·intro hm
   have:=jnT (p:=fun(c:UInt8)=>c != 10) (l:=l)
   have:=List.all_eq_true.1 this 10 hm
   simp at this
  exact yE n _ _ _ (by simp only[jmn];omega) x hx
theorem xU:∀(n no at_:Nat) (l:List UInt8),l.length<=n->(za no at_ l).length<=l.length
 | 0,_,_,l,h=>by
  have:l=[]:=List.length_eq_zero_iff.1 (by omega)
  subst this;simp[jr]
 | n+1,no,at_,l,h=>by
  by_cases hl:l=[]
  ·subst hl;simp[jr]
  have hp:=qz l hl
  rw[jA _ _ _ hl]
  have:=xU n (no+1) (at_+qI l) (l.drop (qI l)) (by simp only[jmn];omega)
  simp only[jme,jmn]at this ⊢
  have:=XF l
  omega
theorem qU(l:List UInt8):(je l).length<=l.length:=xU _ _ _ _ (jma _)
def vq(c:UInt8):Bool:=c==32 || c==9
def yf:List UInt8->Bool
 | []=>false
 | c::_=>vq c
def Qm:List UInt8->Bool
 | []=>false
 | c::_=>c==35
def yR(l:List UInt8)(c:UInt8):Bool:=l.contains c
def zx(l:List UInt8):Bool:=l.all vq
def jT(k:List UInt8):Bool:=decide (1<=k.length)&&decide (k.length<=32) && !yf k && !Qm k && !yR k 58 && !yR k 10
def before(l:List UInt8):List UInt8:=l.takeWhile (· != 58)
def jJ(l:List UInt8):Nat :=
 if yR l 10=true then 5 else if zx l=true then 1 else if Qm l=true then 2 else if yf l=true then 3 else if yR l 58=true/\jT (before l)=true then 4 else 5
theorem Vp(a b:List UInt8)(c:UInt8):yR (a++b) c=(yR a c || yR b c):=by
 unfold yR;rw[jm8];simp
theorem Vo(a:UInt8)(b:List UInt8)(c:UInt8):yR (a::b) c=((c==a) || yR b c):=by
 unfold yR;rw[List.contains_cons]
theorem ja0{l:List UInt8}{c:UInt8}(h:c∉l):yR l c=false:=by unfold yR;simpa using h
theorem Ze(a b:List UInt8)(h:yR a 58=false):before (a++58::b)=a:=by
 unfold before
 have h':∀x∈a,(x != 58)=true:=by
  intro x hx;unfold yR at h
  have:(58:UInt8)∉a:=by simpa using h
  simp;rintro rfl;exact this hx
 rw[jnY h',jnc,if_neg (by simp),jmT]
theorem vE{k:List UInt8}(h:jT k=true):1<=k.length/\k.length<=32/\yf k=false/\Qm k=false/\yR k 58=false/\yR k 10=false:=by
 unfold jT at h
 simp only[jmv,decide_eq_true_eq,joj]at h
 exact⟨h.1.1.1.1.1,h.1.1.1.1.2,h.1.1.1.2,h.1.1.2,h.1.2,h.2⟩
theorem jeh{k r:List UInt8}(h:jT k=true)(hr:yR r 10=false):jJ (k++58::r)=4:=by
 obtain⟨a1,a0,a2,a3,a4,a5⟩:=vE h
 have b1:yR (k++58::r) 10=false:=by
  rw[Vp,a5,Bool.false_or,Vo,hr];rfl
 have b2:yR (k++58::r) 58=true:=by
  rw[Vp,Vo];simp
 have b3:=Ze k r a4
 cases k with
 | nil=>simp at a1
 | cons c t =>
 have b4:yf (c::t++58::r)=false:=a2
 have b5:Qm (c::t++58::r)=false:=a3
 have b6:zx (c::t++58::r)=false:=by
  have:vq c=false:=a2
  unfold zx
  rw[jmu,jn5,this];rfl
 unfold jJ
 rw[b1,if_neg (by decide),b6,if_neg (by decide),b5,if_neg (by decide),b4,if_neg (by decide),b2,b3,h];rfl
theorem Ua(b:List UInt8):∀a:List UInt8,(a++58::b).drop (a.length+1)=b
 | []=>rfl
 | _::a=>Ua b a
def jE:List UInt8->List (List UInt8)
 | []=>[[]]
 | c::t=>if c=10 then []::jE t else (c::(jE t).headD [])::(jE t).tail
def vM:List (List UInt8)->List UInt8
 | []=>[]
 | [p]=>p
 | p::q::r=>p++10::vM (q::r)
theorem Gr(p:List UInt8)(r:List (List UInt8))(h:r≠[]):vM (p::r)=p++10::vM r:=by
 cases r with
 | nil=>exact absurd rfl h
 | cons q r=>rfl
theorem zj(l:List UInt8):jE l=(jE l).headD []::(jE l).tail:=by
 cases l with
 | nil=>rfl
 | cons c t=>unfold jE;split<;>rfl
theorem jdP(l:List UInt8):jE l≠[]:=by rw[zj];simp
theorem xe:∀(l:List UInt8),∀p∈jE l,(10:UInt8)∉p
 | [],p,h=>by unfold jE at h;simp at h;subst h;simp
 | c::t,p,h=>by
  have ih:=xe t
  rw[zj t]at ih
  unfold jE at h
  split at h
  ·rw[zj t]at h
   rcases List.mem_cons.1 h with rfl|h
   ·simp
   exact ih p h
  rename_i hc
  rcases List.mem_cons.1 h with rfl|h
  ·intro hm
   rcases List.mem_cons.1 hm with e|hm
   ·exact hc e.symm
   exact ih _ (by simp) hm
  exact ih p (jmj _ h)
theorem yl:∀(l:List UInt8),(jE l).length=l.count 10+1
 | []=>rfl
 | c::t=>by
  have ih:=yl t
  unfold jE
  split
  ·rename_i hc;subst hc;rw[jme,ih,List.count_cons_self]
  rename_i hc
  rw[List.count_cons_of_ne hc,<- ih,zj t];simp
theorem QW:∀(l:List UInt8),vM (jE l)=l
 | []=>rfl
 | c::t=>by
  have ih:=QW t
  unfold jE
  split
  ·rename_i hc;subst hc
   rw[Gr _ _ (jdP t),ih];rfl
  rw[zj t]at ih
  generalize (jE t).headD []=p at *
  generalize (jE t).tail=r at *
  cases r with
  | nil=>simp only[vM]at ih ⊢;rw[ih]
  | cons q r=>simp only[vM]at ih ⊢;rw[<- ih];rfl
theorem Gk(c:UInt8)(t:List UInt8):jE (c::t)=if c=10 then []::jE t else (c::(jE t).headD [])::(jE t).tail:=rfl
theorem YX:∀(p r:List UInt8),(10:UInt8)∉p->jE (p++10::r)=p::jE r
 | [],r,_=>by simp[jE]
 | c::p,r,h=>by
  have hc:c≠10:=fun e=>h (by rw[e];simp)
  have ih:=YX p r (fun e=>h (jmj _ e))
  rw[jmu,Gk,if_neg hc,ih];rfl
theorem YY:∀(p:List UInt8),(10:UInt8)∉p->jE p=[p]
 | [],_=>rfl
 | c::p,h=>by
  have hc:c≠10:=fun e=>h (by rw[e];simp)
  have ih:=YY p (fun e=>h (jmj _ e))
  unfold jE
  rw[if_neg hc,ih];rfl
def qF(k l:List UInt8):List UInt8:=if l=[] then k++[58] else k++58::32::l
def Qe(l:List UInt8):Bool:=zx l || (l.head?==some 46)
def jM(l:List UInt8):List UInt8:=if Qe l then 32::46::l else 32::l
def zm(k v:List UInt8):List (List UInt8):=qF k ((jE v).headD [])::(jE v).tail.map jM
def zl(k v:List UInt8):Nat:=if jT k then (if v.length<=1000 then 0 else 6) else 5
def jl(ls:List (List UInt8)):List UInt8:=ls.flatMap fun l=>l++[10]
def yo(l:List UInt8):List UInt8:=if l.head?=some 32 then l.tail else l
def zN(l:List UInt8):List UInt8:=if l.head?=some 46 then l.tail else l
def ya(l:List UInt8):List UInt8:=l.drop ((before l).length+1)
def jbU:List (List UInt8)->Bool
 | []=>false
 | a::r=>(jJ a==4)&&r.all (fun l=>jJ l==3)
def XO(ls:List (List UInt8)):List (List UInt8):=yo (ya (ls.headD []))::ls.tail.map fun l=>zN l.tail
def vP(ls:List (List UInt8)):List UInt8:=vM (XO ls)
def jZ(ls:List (List UInt8)):Nat:=if jbU ls then (if (vP ls).length<=1000 then 0 else 6) else 2
def zZ(ls:List (List UInt8)):List UInt8:=if jZ ls=0 then before (ls.headD []) else []
def zY(ls:List (List UInt8)):List UInt8:=if jZ ls=0 then vP ls else []
theorem jcb(k v:List UInt8):(zm k v).length=v.count 10+1:=by
 rw[<- yl,zj v];unfold zm;simp
theorem JU{l:List UInt8}(h:(10:UInt8)∉l):(10:UInt8)∉jM l:=by
 unfold jM;split<;>simp[h]
theorem GR{k l:List UInt8}(hk:yR k 10=false)(h:(10:UInt8)∉l):(10:UInt8)∉qF k l:=by
 have hk':(10:UInt8)∉k:=by unfold yR at hk;simpa using hk
 unfold qF;split<;>simp[h,hk']
theorem Zt(v:List UInt8):(10:UInt8)∉(jE v).headD []:=xe v _ (by rw[zj v];simp)
theorem YL(v:List UInt8):∀p∈(jE v).tail,(10:UInt8)∉p:=fun p hp=>xe v p (List.mem_of_mem_tail hp)
theorem ZW{k:List UInt8}(v:List UInt8)(hk:jT k=true):∀l∈zm k v,(10:UInt8)∉l:=by
 intro l hl
 unfold zm at hl
 rcases List.mem_cons.1 hl with rfl|hl
 ·exact GR (vE hk).2.2.2.2.2 (Zt v)
 obtain⟨p,hp,rfl⟩:=List.mem_map.1 hl
 exact JU (YL v p hp)
theorem WK{l:List UInt8}(h:(10:UInt8)∉l):jJ (jM l)=3:=by
 have hc:=ja0 (JU h)
 unfold jM at hc ⊢
 unfold jJ
 by_cases hd:Qe l=true
 ·rw[if_pos hd]at hc ⊢
  rw[hc]
  simp[zx,vq,Qm,yf]
 rw[if_neg hd]at hc ⊢
 have hb:zx l=false:=by unfold Qe at hd;cases h:zx l<;>simp[h]at hd ⊢
 have hb2:zx (32::l)=false:=by unfold zx at hb ⊢;rw[jn5,hb];simp
 rw[hc,hb2]
 simp[vq,Qm,yf]
theorem WL(l:List UInt8):zN (jM l).tail=l:=by
 unfold jM
 by_cases hd:Qe l=true
 ·rw[if_pos hd];simp[zN]
 rw[if_neg hd]
 have:¬l.head?=some 46:=fun e=>hd (by unfold Qe;rw[e];simp)
 simp[zN,this]
theorem Xq(k l:List UInt8):∃r,qF k l=k++58::r/\yo r=l/\((10:UInt8)∉l->yR r 10=false):=by
 unfold qF
 by_cases h:l=[]
 ·subst h;exact⟨[],by simp,by simp[yo],fun _=>by simp[yR]⟩
 rw[if_neg h];exact⟨32::l,rfl,by simp[yo],fun hl=>by rw[Vo,ja0 hl];rfl⟩
theorem jcv{k l:List UInt8}(hk:jT k=true)(h:(10:UInt8)∉l):jJ (qF k l)=4:=by
 obtain⟨r,e,_,h2⟩:=Xq k l
 rw[e];exact jeh hk (h2 h)
theorem Qb{k l:List UInt8}(hk:jT k=true):before (qF k l)=k/\yo (ya (qF k l))=l:=by
 obtain⟨r,e,h1,_⟩:=Xq k l
 have hb:=Ze k r (vE hk).2.2.2.2.1
 rw[e]
 refine⟨hb,?_⟩
 unfold ya
 rw[hb,Ua,h1]
theorem Wu{k v:List UInt8}(hk:jT k=true):jbU (zm k v)=true:=by
 unfold zm
 show(jJ _==4&&_)=true
 rw[jcv hk (Zt v),jmv]
 refine⟨rfl,?_⟩
 rw[jmR]
 intro l hl
 obtain⟨p,hp,rfl⟩:=List.mem_map.1 hl
 rw[WK (YL v p hp)];rfl
theorem Xf{k v:List UInt8}(hk:jT k=true):vP (zm k v)=v:=by
 have:XO (zm k v)=jE v:=by
  unfold XO zm
  simp only[List.headD_cons,List.tail_cons,jnH]
  rw[(Qb hk).2]
  conv=>rhs;rw[zj v]
  congr 1
  conv=>rhs;rw[<- List.map_id (jE v).tail]
  apply jn7
  intro l _
  exact WL l
 unfold vP
 rw[this,QW]
theorem Wt{k v:List UInt8}(hk:jT k=true)(hv:v.length<=1000):jZ (zm k v)=0/\zZ (zm k v)=k/\zY (zm k v)=v:=by
 have h:jZ (zm k v)=0:=by
  unfold jZ;rw[Wu hk,Xf hk,if_pos rfl,if_pos hv]
 refine⟨h,?_,?_⟩
 ·unfold zZ;rw[if_pos h];unfold zm;exact(Qb hk).1
 unfold zY;rw[if_pos h,Xf hk]
theorem Gy:∀(p r:List UInt8),(10:UInt8)∉p->head (p++10::r)=p/\nl (p++10::r)=true
 | p,r,h=>by
  have h':∀x∈p,(x != 10)=true:=by intro x hx;simp;rintro rfl;exact h hx
  refine⟨?_,by unfold nl;simp⟩
  unfold head
  rw[jnY h',jnc,if_neg (by simp),jmT]
theorem yY(a b:List (List UInt8)):jl (a++b)=jl a++jl b:=by unfold jl;simp
theorem QR:∀(ls:List (List UInt8)),(jl ls).length=(ls.map List.length).sum+ls.length
 | []=>rfl
 | l::r=>by
  have e:jl (l::r)=l++10::jl r:=by unfold jl;simp
  rw[e,jmb,jme,QR r];simp;omega
theorem Xl:∀(ls:List (List UInt8)),(vM ls).length<=(ls.map List.length).sum+ls.length
 | []=>by simp[vM]
 | [p]=>by simp[vM]
 | p::q::r=>by
  have ih:=Xl (q::r)
  show(p++10::vM (q::r)).length<=_
  rw[jmb,jme]
  simp only[jmD,jni,jme]at ih ⊢;omega
theorem XX:∀(l:List UInt8),((jE l).map List.length).sum+(jE l).length=l.length+1
 | []=>rfl
 | c::t=>by
  have ih:=XX t
  rw[zj t]at ih
  unfold jE
  split
  ·rw[zj t];simp at ih ⊢;omega
  simp at ih ⊢;omega
theorem ZS:∀(r:List (List UInt8)),((r.map jM).map List.length).sum<=(r.map List.length).sum+2*r.length
 | []=>by simp
 | p::r=>by
  have ih:=ZS r
  have h:(jM p).length<=p.length+2:=by unfold jM;split<;>simp
  simp only[jmD,jni,jme]at ih ⊢;omega
theorem jd7(k v:List UInt8):((zm k v).map List.length).sum+(zm k v).length<=k.length+3*v.length+8:=by
 have a:=XX v
 rw[zj v]at a
 have b:=ZS (jE v).tail
 have c:(qF k ((jE v).headD [])).length<=k.length+((jE v).headD []).length+2:=by unfold qF;split<;>simp<;>omega
 unfold zm
 simp only[jmD,jni,jme,jmE]at a b ⊢
 omega
theorem jeT(l:List UInt8):(yo l).length<=l.length:=by unfold yo;split<;>simp
theorem jcD(l:List UInt8):(zN l).length<=l.length:=by unfold zN;split<;>simp
theorem jfp(l:List UInt8):(ya l).length<=l.length:=by unfold ya;rw[jmn];omega
theorem jaC:∀r:List (List UInt8),((r.map fun l=>zN l.tail).map List.length).sum<=(r.map List.length).sum
 | []=>by simp
 | a::r=>by
  have ih:=jaC r
  have h:=jcD a.tail
  have h2:a.tail.length<=a.length:=by simp
  simp only[jmD,jni]at ih ⊢
  omega
theorem jf1(ls:List (List UInt8)):(vP ls).length<=(ls.map List.length).sum+ls.length+1:=by
 have h:=Xl (XO ls)
 have hl:(XO ls).length<=ls.length+1:=by unfold XO;cases ls<;>simp
 have hs:((XO ls).map List.length).sum<=(ls.map List.length).sum:=by
  cases ls with
  | nil=>decide
  | cons a r =>
  unfold XO
  have h1:=jaC r
  have h2:=jeT (ya a)
  have h3:=jfp a
  simp only[List.headD_cons,List.tail_cons,jmD,jni]at h1 ⊢
  omega
 unfold vP
 omega
section
open Go.WideShapes Go.ChangeAt Go.ChangeShapes
theorem qd{B:Nat}{a w:World}(h:Below B a w)(n:Nat):Below B a (w.drewN n):=⟨h.os,h.tape,h.output,h.size,h.block⟩
def Strs(w:World)(v:Value)(ss:List ByteArray):Prop :=
 ∃A cap,v=.slice A ss.length cap/\ss.length<=cap/\∀(i:Nat) (s:ByteArray),ss[i]?=some s->∃b off,A=some ⟨b,off,none⟩/\b<w.heap.size/\w.cell? ⟨b,off+i,none⟩=some (.string s)
theorem Strs.below{w w':World}{v:Value}{ss:List ByteArray}{n:Nat}(h:Strs w v ss)(hb:Below n w w')(hn:w.heap.size<=n):Strs w' v ss:=by
 obtain⟨A,cap,hv,hle,hc⟩:=h
 refine⟨A,cap,hv,hle,fun i s hs => ?_⟩
 obtain⟨b,off,hA,hlt,hcell⟩:=hc i s hs
 exact⟨b,off,hA,jmp hlt hb.size,(hb.cell (p:=⟨b,off+i,none⟩) (jmp hlt hn)).trans hcell⟩
theorem Strs.alloc{w:World}{v:Value}{ss:List ByteArray}(h:Strs w v ss)(o:Obj):Strs (w.alloc o) v ss :=
 h.below ((jmc w.heap.size w).alloc (jma _) o) (jma _)
theorem Strs.none(w:World)(c:Nat):Strs w (.slice none 0 c) []:=⟨_,c,rfl,jmo _,fun i s h=>by simp at h⟩
def B(l:List UInt8):ByteArray:=⟨l.toArray⟩
theorem ju(l:List UInt8):(B l).data.toList=l:=by simp[B]
theorem jjl(s:ByteArray):B s.data.toList=s:=by cases s;simp[B]
theorem jq(l:List UInt8):(B l).size=l.length:=by simp[B,ByteArray.size]
theorem jS(a b:List UInt8):B a++B b=B (a++b):=by
 apply jns;simp[B]
def qi(n:Nat):Value:=if n=0 then .nilIface else .iface 46 (.int .i64 (n:Int))
theorem jW:qi 0=.nilIface:=rfl
theorem WV:qi 2=.iface 46 (.int .i64 2):=rfl
theorem jkl:qi 5=.iface 46 (.int .i64 5):=rfl
theorem jhH:qi 6=.iface 46 (.int .i64 6):=rfl
theorem jX(n:Nat)(h:0<n):qi n=.iface 46 (.int .i64 (n:Int)):=by unfold qi;rw[if_neg (by omega)]
attribute [local go_sem] jW
theorem jfj(n:Int)(w:World):(Instr.typeAssert (.iface 46 (.int .i64 n)) 35 46 true).run prog w=.ok (.tuple #[.int .i64 n,.bool true]) w:=by kernel_rfl
attribute [local go_sem] jfj
theorem jdV(n:Nat)(hn:n<=1000)(w:World):Calls prog 52 #[qi n] w fun e w'=>e=.returned (.int .i64 n)/\w=w':=by
 by_cases h0:n=0
 ·subst h0
  go_enter func52,ntmps52
  go_wp2
  refine wp_loop_rounds 1 ?_
  rw[rounds_succ]
  go_wp2
  go_ret
  exact⟨rfl,rfl⟩
 rw[jX n (by omega)]
 have hne:((n:Int) != 0)=true:=by simp;omega
 have hne2:((n:Int)==0)=false:=by simp;omega
 clear h0
 go_enter func52,ntmps52
 go_wp2
 refine wp_loop_rounds 1 ?_
 rw[rounds_succ]
 go_wp2
 go_ret
 exact⟨rfl,rfl⟩
theorem jdm(v v':Value)(ss zs:List ByteArray)(w:World)(h:Strs w v ss)(h':Strs w v' zs)(hl:ss.length<=1000000)(hl':zs.length<=1000000):
  Calls prog 24 #[v,v'] w fun e w'=>e=.returned (.bool (decide (ss=zs)))/\Below w.heap.size w w':=by
 obtain⟨A,cap,rfl,hle,hc⟩:=h
 obtain⟨A',cap',rfl,hle',hc'⟩:=h'
 by_cases hne:ss.length=zs.length
 ·go_enter func24,ntmps24
  go_wp2
  go_loopw [13] (fun i wr=>∃k:Nat,k<=ss.length/\i=.int .i64 k/\(ss.take k=zs.take k)/\Below w.heap.size w wr) (fun i _=>ss.length-(intOf i).toNat)
  case atStart=>exact⟨0,jmo _,rfl,rfl,jmc _ _⟩
  case round =>
  obtain⟨k,hk,rfl,he,hbl⟩:=hrel
  by_cases hlt:k<ss.length
  ·obtain⟨x,e1⟩:∃x,ss[k]?=some x:=⟨_,jmd hlt⟩
   obtain⟨y,e2⟩:∃y,zs[k]?=some y:=⟨_,jmd (by omega)⟩
   obtain⟨b,off,rfl,hb,c1⟩:=hc k _ e1
   obtain⟨b',off',rfl,hb',c2⟩:=hc' k _ e2
   replace c1:=(hbl.cell (p:=⟨b,off+k,none⟩) hb).trans c1
   replace c2:=(hbl.cell (p:=⟨b',off'+k,none⟩) hb').trans c2
   have E:=jl9 he
   have T1:Hid (ss.take (k+1)=ss.take k++[x]):=by show _=_;rw[jmO,e1];rfl
   have T2:Hid (zs.take (k+1)=zs.take k++[y]):=by show _=_;rw[jmO,e2];rfl
   have F:=jl9 (show x≠y->ss≠zs from fun hn hs=>by subst hs;rw[e1]at e2;exact hn (jmf e2))
   have hz:k<zs.length:=by omega
   clear hc hc' e1 e2 he
   by_cases hxy:x=y
   ·subst hxy
    go_wp2_with (go_quiet (fail))
    go_roundw
    case rel=>exact⟨k+1,hlt,by go_num,by rw[T1.out,T2.out,E.out],qd hbl _⟩
    case measure=>simp[intOf];omega
   have hx2:¬x.toList=y.toList:=fun e=>hxy (by apply jns;apply Array.ext';have:=e;rw[jmY,jmY]at this;exact this)
   have F2:=jl9 (F.out hxy)
   clear F
   have hx3:(x.toList==y.toList)=false:=by simpa using hx2
   have hx4:(x.toList != y.toList)=true:=by simpa using hx2
   go_wp2_with (go_quiet (fail))
   go_ret
   exact⟨by simp[F2.out],qd hbl _⟩
  obtain rfl:k=ss.length:=by omega
  rw[jmH (jma _),jmH (by omega)]at he
  clear hc hc'
  go_wp2
  go_ret
  exact⟨by simp[he],hbl⟩
 have hn:¬((ss.length:Int)=zs.length):=by omega
 have F:=jl9 (show ss≠zs from fun hs=>by subst hs;exact hne rfl)
 clear hc hc' hne
 go_enter func24,ntmps24
 go_wp2
 go_ret
 exact⟨by simp[F.out],jmc _ _⟩
end
section
attribute [local go_sem] jmk
theorem evT{a:Act}{i:Nat}{v:Value}(h:a.tmps[i]?=some v):a.eval (.tmp i)=v:=by
 show a.tmps.getD i undef=v
 rw[jnj,h];rfl
theorem JC{ops:Array Oper}{o:Oper}{a:Act}(h:o.guard=none):Region.wanted o (yielded ops a.tmps)=true:=by
 unfold Region.wanted;rw[h]
theorem jfq:∀(L:List (Nat×Value)) (s t:Array Value),s.size=t.size->(∀p∈L,s[p.1]?=some p.2)->(∀j,j∉L.map Prod.fst->s[j]?=t[j]?)->s=L.foldl (fun u p=>u.setIfInBounds p.1 p.2) t
 | [],s,t,_,_,h=>Array.ext_getElem? (fun j=>h j (by simp))
 | p::L,s,t,hs,h1,h2=>by
  rw[List.foldl_cons]
  refine jfq L s _ (by simpa using hs) (fun q hq=>h1 q (jmj _ hq)) (fun j hj => ?_)
  rw[jm4]
  have hp:=h1 p jml
  by_cases q:p.1=j
  ·have:p.1<t.size:=by rw[<- hs];exact(Array.getElem?_eq_some_iff.1 hp).1
   rw[if_pos q,if_pos this,<- q];exact hp
  rw[if_neg q]
  exact h2 j (by rw[jmD];intro hm;rcases List.mem_cons.1 hm with e | e;exact q e.symm;exact hj e)
theorem Zi{a a0:Act}(L:List (Nat×Value))(hd:a.defers=a0.defers)(hs:a.tmps.size=a0.tmps.size)(h1:∀p∈L,a.tmps[p.1]?=some p.2)(h2:∀j,j∉L.map Prod.fst->a.tmps[j]?=a0.tmps[j]?):a={a0 with tmps:=L.foldl (fun u p=>u.setIfInBounds p.1 p.2) a0.tmps}:=by
 have:=jfq L a.tmps a0.tmps hs h1 h2
 obtain⟨t,d⟩:=a
 obtain⟨t0,d0⟩:=a0
 simp only at this hd ⊢
 subst this hd
 rfl
section
variable {o:Oper} {a:Act} {w:World} {K:Act->World->Prop} {Q:Exit->Act->World->Prop}
theorem jd3{v:Value}(e:(execOp a.eval o).run prog w=.ok (.value v) w)(hK:K (a.put o.dst v) w):Oper.wp prog o a w K Q:=by
 unfold Oper.wp
 rw[e];exact hK
theorem jaR{x:Operand}{T:TypeId}{k b i j:Nat}(hf:(Instr.fieldAt T (.pointer (some ⟨b,i,none⟩)) k).run prog w=.ok (.pointer (some ⟨b,j,none⟩)) w)(ho:o.op=Op.fieldAddr T x k)(hx:a.eval x=.pointer (some ⟨b,i,none⟩))(hK:K (a.put o.dst (.pointer (some ⟨b,j,none⟩))) w):Oper.wp prog o a w K Q :=
 jd3 (by simp only[execOp,ho,hx];simp[hf]) hK
theorem xh{x:Operand}{T:TypeId}{b i:Nat}{u:Value}(hl:(Instr.loadAt T (.pointer (some ⟨b,i,none⟩))).run prog w=.ok u w)(ho:o.op=Op.load T x)(hx:a.eval x=.pointer (some ⟨b,i,none⟩))(hK:K (a.put o.dst u) w):Oper.wp prog o a w K Q :=
 jd3 (by simp only[execOp,ho,hx];simp[hl]) hK
end
section
variable {o:Oper} {a:Act} {w:World} {K:Act->World->Prop} {Q:Exit->Act->World->Prop} {T:Value->World->Prop}
theorem jaS{x:Operand}{u:Value}(F:Nat){T1:TypeId}(ho:o.op=Op.call {callee:=Callee.value (Operand.func F),args:=#[x],argTypes:=#[T1]})(hx:a.eval x=u)
  (en:∀args w,(callFunc F args).run prog w=.ok (.enter F args) w) (hC:Calls prog F #[u] w fun e w'=>∃v,e=.returned v/\T v w') (hK:∀v w',T v w'->K (a.put o.dst v) w'):Oper.wp prog o a w K Q:=by
 unfold Oper.wp
 have e:(execOp a.eval o).run prog w=.ok (.enter F #[u]) w:=by
  have hf:a.eval (.func F)=.func (.func F) #[] #[]:=rfl
  generalize a.eval=ρ at hx hf ⊢
  simp only[execOp,ho]
  simp[go_sem,resolve,invoke,hx,hf,en]
 rw[e]
 refine hC.mono ?_
 rintro e w' ⟨v,rfl,h⟩
 exact hK v w' h
theorem jgq{x y:Operand}{u z:Value}(F:Nat){T1 T2:TypeId}(ho:o.op=Op.call {callee:=Callee.value (Operand.func F),args:=#[x,y],argTypes:=#[T1,T2]})(hx:a.eval x=u)(hy:a.eval y=z)
  (en:∀args w,(callFunc F args).run prog w=.ok (.enter F args) w) (hC:Calls prog F #[u,z] w fun e w'=>∃v,e=.returned v/\T v w') (hK:∀v w',T v w'->K (a.put o.dst v) w'):Oper.wp prog o a w K Q:=by
 unfold Oper.wp
 have e:(execOp a.eval o).run prog w=.ok (.enter F #[u,z]) w:=by
  have hf:a.eval (.func F)=.func (.func F) #[] #[]:=rfl
  generalize a.eval=ρ at hx hy hf ⊢
  simp only[execOp,ho]
  simp[go_sem,resolve,invoke,hx,hy,hf,en]
 rw[e]
 refine hC.mono ?_
 rintro e w' ⟨v,rfl,h⟩
 exact hK v w' h
theorem jkR{x y z:Operand}{u v2 v3:Value}(F:Nat){T1 T2 T3:TypeId}(ho:o.op=Op.call {callee:=Callee.value (Operand.func F),args:=#[x,y,z],argTypes:=#[T1,T2,T3]})(hx:a.eval x=u)(hy:a.eval y=v2)(hz:a.eval z=v3)
  (en:∀args w,(callFunc F args).run prog w=.ok (.enter F args) w) (hC:Calls prog F #[u,v2,v3] w fun e w'=>∃v,e=.returned v/\T v w') (hK:∀v w',T v w'->K (a.put o.dst v) w'):Oper.wp prog o a w K Q:=by
 unfold Oper.wp
 have e:(execOp a.eval o).run prog w=.ok (.enter F #[u,v2,v3]) w:=by
  have hf:a.eval (.func F)=.func (.func F) #[] #[]:=rfl
  generalize a.eval=ρ at hx hy hz hf ⊢
  simp only[execOp,ho]
  simp[go_sem,resolve,invoke,hx,hy,hz,hf,en]
 rw[e]
 refine hC.mono ?_
 rintro e w' ⟨v,rfl,h⟩
 exact hK v w' h
end
end
end Go.Proofs.YtpibhbjmcmfnmaaGreatDoor
