/- Texts put together:EA,ED,EE,EF,EG,NH,NF,NI,NJ. -/
import Derived.LaidEql
import Derived.Stop.Asserts
import Derived.RowKitTokens
import Derived.Test.YtpibhbjmcmfnmaaGreatDoorBfn17
set_option linter.unusedVariables false
set_option maxRecDepth 100000
set_option maxHeartbeats 16000000
namespace Go.Proofs.YtpibhbjmcmfnmaaGreatDoor
open Go.RowKit Go.Shelf Tryz
abbrev jov:=@Go.World.cell?_alloc_lt
def qh(ed:Ed):Nat:=if ed.kind=1\/ed.kind=3 then vn ed.fields else if ed.kind=2/\ed.fields.length=0 then 0 else 2
theorem jgJ(ed:Ed):qh ed<=11:=by
 unfold qh
 split
 ·exact Kx _
 split<;>decide
def Js:Nat->List Ed->Int×Nat
 | _,[]=>(-9,0)
 | k,ed::r=>if qh ed=0 then Js (k+1) r else ((k:Nat),qh ed)
def vG(eds:List Ed):Int×Nat:=if eds.length<1\/40<eds.length then (-9,1) else Js 0 eds
theorem jbq:∀(eds:List Ed) (q k:Nat) (ed:Ed),(∀x∈eds.take k,qh x=0)->eds[k]?=some ed->qh ed≠0->Js q eds=(((q+k:Nat):Int),qh ed)
 | [],q,k,ed,_,h,_=>by simp at h
 | a::r,q,0,ed,_,h,h0=>by
  simp at h;subst h
  unfold Js
  rw[if_neg h0];rfl
 | a::r,q,k+1,ed,hg,h,h0=>by
  have ih:=jbq r (q+1) k ed (fun x hx=>hg x (by rw[jn8];exact jmj _ hx)) (by simpa using h) h0
  unfold Js
  rw[if_pos (hg a (by rw[jn8];exact jml)),ih,show q+1+k=q+(k+1) by omega]
theorem Yb:∀(eds:List Ed) (q:Nat),(∀x∈eds,qh x=0)->Js q eds=(-9,0)
 | [],_,_=>rfl
 | a::r,q,h=>by
  unfold Js
  rw[if_pos (h a jml)]
  exact Yb r (q+1) (fun x hx=>h x (jmj _ hx))
theorem Xy:∀(eds:List Ed) (q:Nat),(Js q eds).2=0->∀x∈eds,qh x=0
 | [],_,_,x,hx=>by cases hx
 | a::r,q,h,x,hx=>by
  unfold Js at h
  split at h
  ·rename_i h0
   rcases List.mem_cons.1 hx with rfl|hx
   ·exact h0
   exact Xy r (q+1) h x hx
  rename_i h0;exact absurd h h0
theorem yr{eds:List Ed}(h:(vG eds).2=0):(1<=eds.length/\eds.length<=40)/\∀x∈eds,qh x=0:=by
 unfold vG at h
 split at h
 ·cases h
 exact⟨by omega,Xy eds 0 h⟩
theorem jjb{eds:List Ed}(h1:1<=eds.length)(h2:eds.length<=40)(h:∀x∈eds,qh x=0):vG eds=(-9,0):=by
 unfold vG
 rw[if_neg (by omega)]
 exact Yb eds 0 h
theorem je7{eds:List Ed}(h:(vG eds).2=0):vG eds=(-9,0):=by
 obtain⟨⟨a,b⟩,c⟩:=yr h
 exact jjb a b c
theorem Zu{ed:Ed}(h:qh ed=0):ed.kind=1\/ed.kind=2\/ed.kind=3:=by
 unfold qh at h
 split at h
 ·rename_i q;omega
 split at h
 ·rename_i q;exact .inr (.inl q.1)
 cases h
def zo(l:LS)(ed:Ed):Did:=xw l ed.kind ed.id ed.fields
def vQ:LS->List Ed->LS
 | l,[]=>l
 | l,ed::r=>vQ (zo l ed).ls r
def Wp:LS->List Ed->Prop
 | _,[]=>True
 | l,ed::r=>(zo l ed).bad=0/\Wp (zo l ed).ls r
def zp:LS->List Ed->List Int
 | _,[]=>[]
 | l,ed::r=>(if ed.kind=3 then [(zo l ed).id] else [])++zp (zo l ed).ls r
def jfB:Nat->LS->List Ed->Int×Nat
 | _,_,[]=>(-9,0)
 | k,l,ed::r=>if (zo l ed).bad=0 then jfB (k+1) (zo l ed).ls r else ((k:Nat),(zo l ed).bad)
def doB(l:LS)(eds:List Ed):Int×Nat:=if (vG eds).2=0 then jfB 0 l eds else vG eds
theorem Ve:∀(l:LS) (a b:List Ed),vQ l (a++b)=vQ (vQ l a) b
 | _,[],_=>rfl
 | l,ed::r,b=>Ve (zo l ed).ls r b
theorem Va:∀(l:LS) (a b:List Ed),Wp l (a++b)↔Wp l a/\Wp (vQ l a) b
 | _,[],_=>by simp[Wp,vQ]
 | l,ed::r,b=>by
  show((zo l ed).bad=0/\Wp (zo l ed).ls (r++b))↔((zo l ed).bad=0/\Wp (zo l ed).ls r)/\Wp (vQ (zo l ed).ls r) b
  rw[Va,and_assoc]
theorem ZY:∀(l:LS) (a b:List Ed),zp l (a++b)=zp l a++zp (vQ l a) b
 | _,[],_=>rfl
 | l,ed::r,b=>by
  show _++zp (zo l ed).ls (r++b)=(_++zp (zo l ed).ls r)++zp (vQ (zo l ed).ls r) b
  rw[ZY,jmA]
theorem Jq:∀(q:Nat) (l:LS) (a b:List Ed),Wp l a->jfB q l (a++b)=jfB (q+a.length) (vQ l a) b
 | q,l,[],b,_=>rfl
 | q,l,ed::r,b,h=>by
  have ih:=Jq (q+1) (zo l ed).ls r b h.2
  show(if (zo l ed).bad=0 then jfB (q+1) (zo l ed).ls (r++b) else _)=jfB (q+(r.length+1)) (vQ (zo l ed).ls r) b
  rw[if_pos h.1,ih,show q+1+r.length=q+(r.length+1) by omega]
theorem ji1:∀(q:Nat) (l:LS) (a:List Ed),Wp l a->jfB q l a=(-9,0):=fun q l a h=>by
 have:=Jq q l a [] h
 rw[jmT]at this
 rw[this];rfl
theorem vJ{eds:List Ed}{k:Nat}{ed:Ed}(h:eds[k]?=some ed):eds.take (k+1)=eds.take k++[ed]:=by rw[jmO,h];rfl
theorem jfM{eds:List Ed}{k:Nat}{ed:Ed}(h:eds[k]?=some ed):eds=eds.take k++ed::eds.drop (k+1):=by
 obtain⟨hk,e⟩:=List.getElem?_eq_some_iff.1 h
 conv=>lhs;rw[<- jmQ k eds]
 rw[<- e]
 congr 1
 exact jnn hk
theorem jfN{eds:List Ed}{k:Nat}{ed:Ed}(h:eds[k]?=some ed):(eds.take k).length=k:=by
 have:=(List.getElem?_eq_some_iff.1 h).1
 rw[jmi];omega
theorem jd6{l:LS}{eds:List Ed}{k:Nat}{ed:Ed}(h:eds[k]?=some ed):vQ l (eds.take (k+1))=(zo (vQ l (eds.take k)) ed).ls:=by rw[vJ h,Ve];rfl
theorem jdU{l:LS}{eds:List Ed}{k:Nat}{ed:Ed}(h:eds[k]?=some ed)(ho:Wp l (eds.take k))(h0:(zo (vQ l (eds.take k)) ed).bad=0):Wp l (eds.take (k+1)):=by
 rw[vJ h,Va];exact⟨ho,h0,trivial⟩
theorem jcm{l:LS}{eds:List Ed}{k:Nat}{ed:Ed}(h:eds[k]?=some ed):zp l (eds.take (k+1))=zp l (eds.take k)++(if ed.kind=3 then [(zo (vQ l (eds.take k)) ed).id] else []):=by
 rw[vJ h,ZY]
 show _++((if ed.kind=3 then _ else _)++[])=_
 rw[jmT]
theorem ji2{l:LS}{eds:List Ed}{k:Nat}{ed:Ed}(h:eds[k]?=some ed)(ho:Wp l (eds.take k))(h0:(zo (vQ l (eds.take k)) ed).bad≠0):jfB 0 l eds=(((k:Nat):Int),(zo (vQ l (eds.take k)) ed).bad):=by
 have e:=jfM h
 have:jfB 0 l (eds.take k++ed::eds.drop (k+1))=(((k:Nat):Int),(zo (vQ l (eds.take k)) ed).bad):=by
  rw[Jq 0 l _ _ ho,jfN h]
  show(if _ then _ else _)=_
  rw[if_neg h0,jmP]
 rw[<- e]at this
 exact this
theorem jet(l:LS):∀(eds:List Ed),(zp l eds).length<=eds.length:=by
 intro eds
 induction eds generalizing l with
 | nil=>exact jma _
 | cons ed r ih =>
 have:=ih (zo l ed).ls
 show((if ed.kind=3 then [(zo l ed).id] else [])++zp (zo l ed).ls r).length<=r.length+1
 rw[jmb]
 split
 ·simp only[jme,jmB];omega
 simp only[jmB];omega
theorem jh7(l:LS)(ed:Ed):(zo l ed).bad<=11:=by
 unfold zo xw
 split
 ·unfold qe
  split
  ·show(7:Nat)<=11;decide
  split
  ·exact jmo _
  exact Kx _
 split
 ·unfold qQ
  split
  ·show(7:Nat)<=11;decide
  exact jmo _
 unfold qD
 split
 ·show(7:Nat)<=11;decide
 split
 ·split
  ·show(11:Nat)<=11;decide
  exact jmo _
 exact Kx _
section
open Go.Extern.Stop Go.Stop Go.Extern
theorem KL(t:Addr)(w:World):(ReflectliteValue.unpack (.iface 243 (.pointer (some t)))).run prog w
  = .ok (.agg #[.pointer (some ⟨9,243,none⟩),.pointer (some ⟨w.heap.size,0,none⟩),.int .u64 150]) (w.alloc (.cells #[.pointer (some t)] 243)):=by kernel_rfl
theorem jhu(a:Addr)(w:World):(ReflectliteValue.methodAny (ReflectliteValue.valueError "reflectlite.Value.Type" 0) (fun t _ _ _=>ReflectliteType.toType t) #[.agg #[.pointer (some ⟨9,243,none⟩),.pointer (some a),.int .u64 150]]).run prog w
  = .ok (.iface 193 (.agg #[.pointer (some ⟨9,243,none⟩)])) w:=by kernel_rfl
theorem Xc(h:Value)(w:World):(Go.method 503 193 (.agg #[h]) "Kind").run prog w=.ok (314,h) w:=by kernel_rfl
theorem jhE(w:World):((ReflectliteType.abiMethod fun t=>(fun a:Nat=>Value.int IntKind.u8 (a:Int)) <$> Rtype.kind t) #[.pointer (some ⟨9,243,none⟩)]).run prog w=.ok (.int .u8 22) w:=by kernel_rfl
theorem jj6(w:World):((ReflectliteType.abiMethod fun t=>(fun a:Nat=>Value.int IntKind.u8 (a:Int)) <$> Rtype.kind t) #[.pointer (some ⟨9,133,none⟩)]).run prog w=.ok (.int .u8 22) w:=by kernel_rfl
theorem jlB(z:Sem Value)(f:TypeId->Addr->Nat->Nat->Sem Value)(v:Value):
  ReflectliteValue.method z f #[v]=(do match <- ReflectliteValue.parts v with | none=>z | some (t,a,fl)=>f t a fl (fl % 32)):=rfl
theorem jdO(a:Addr)(w:World):(ReflectliteValue.parts (.agg #[.pointer (some ⟨9,243,none⟩),.pointer (some a),.int .u64 150])).run prog w=.ok (some (243,a,150)) w:=by kernel_rfl
theorem jem(a p:Addr)(W:World)(ha:W.cell? a=some (.pointer (some p))):
  (ReflectliteValue.method (ReflectliteValue.valueError "reflectlite.Value.IsNil" 0) ReflectliteValue.isNil #[.agg #[.pointer (some ⟨9,243,none⟩),.pointer (some a),.int .u64 150]]).run prog W=.ok (.bool false) W:=by
 rw[jlB]
 simp only[jnF,jdO,Result.andThen]
 simp[ReflectliteValue.isNil,loadVar,isAgg,underlying,underlying243,ha,Result.andThen]
theorem Xd(h:Value)(w:World):(Go.method 503 193 (.agg #[h]) "Elem").run prog w=.ok (325,.agg #[h]) w:=by kernel_rfl
theorem yQ(h:Value)(w:World):(Go.method 503 193 (.agg #[h]) "Implements").run prog w=.ok (326,.agg #[h]) w:=by kernel_rfl
theorem vU(h:Value)(w:World):(Go.method 503 193 (.agg #[h]) "AssignableTo").run prog w=.ok (323,.agg #[h]) w:=by kernel_rfl
theorem jhJ(w:World):(ReflectliteType.method ReflectliteType.elem #[.agg #[.pointer (some ⟨9,243,none⟩)]]).run prog w=.ok (.iface 193 (.agg #[.pointer (some ⟨9,133,none⟩)])) w:=by kernel_rfl
theorem Vn(w:World):(ReflectliteType.relation "Implements" ReflectliteType.implements_ #[.agg #[.pointer (some ⟨9,133,none⟩)],.iface 193 (.agg #[.pointer (some ⟨9,35,none⟩)])]).run prog w=.ok (.bool true) w:=by kernel_rfl
theorem jhV(v:Value)(w:World):(ReflectliteType.typeOf #[.iface 133 v]).run prog w=.ok (.iface 193 (.agg #[.pointer (some ⟨9,133,none⟩)])) w:=by kernel_rfl
theorem jhW(v:Value)(w:World):(ReflectliteType.typeOf #[.iface 46 v]).run prog w=.ok (.iface 193 (.agg #[.pointer (some ⟨9,46,none⟩)])) w:=by kernel_rfl
theorem jai(w:World):(ReflectliteType.relation "AssignableTo" ReflectliteType.assignableTo #[.agg #[.pointer (some ⟨9,133,none⟩)],.iface 193 (.agg #[.pointer (some ⟨9,133,none⟩)])]).run prog w=.ok (.bool true) w:=by kernel_rfl
theorem jaj(w:World):(ReflectliteType.relation "AssignableTo" ReflectliteType.assignableTo #[.agg #[.pointer (some ⟨9,46,none⟩)],.iface 193 (.agg #[.pointer (some ⟨9,133,none⟩)])]).run prog w=.ok (.bool false) w:=by kernel_rfl
theorem jfI(e:Addr)(w:World):(ReflectliteValue.unpack (.iface 133 (.pointer (some e)))).run prog w
  = .ok (.agg #[.pointer (some ⟨9,133,none⟩),.pointer (some ⟨w.heap.size,0,none⟩),.int .u64 150]) (w.alloc (.cells #[.pointer (some e)] 133)):=by kernel_rfl
theorem jg2(w:World):(Rtype.elem? 243).run prog w=.ok (some 133) w:=by kernel_rfl
theorem mkP(p:Addr)(w:World):(ReflectliteValue.mk 133 p ReflectliteValue.flagAddr).run prog w=.ok (.agg #[.pointer (some ⟨9,133,none⟩),.pointer (some p),.int .u64 406]) w:=by kernel_rfl
theorem jiY(a p:Addr)(W:World)(ha:W.cell? a=some (.pointer (some p))):
  (ReflectliteValue.method (ReflectliteValue.valueError "reflectlite.Value.Elem" 0) ReflectliteValue.elem #[.agg #[.pointer (some ⟨9,243,none⟩),.pointer (some a),.int .u64 150]]).run prog W
   = .ok (.agg #[.pointer (some ⟨9,133,none⟩),.pointer (some p),.int .u64 406]) W:=by
 rw[jlB]
 simp only[jnF,jdO,Result.andThen]
 simp[ReflectliteValue.elem,loadVar,isAgg,underlying,underlying243,ha,Result.andThen,jg2,mkP]
theorem jlP(v x:Value):ReflectliteValue.set #[v,x]=(do
  let (some (dst,a,fl),some (src,b,_)):=(<- ReflectliteValue.parts v,<- ReflectliteValue.parts x)
   | unsupported (.noEntry "extern/(internal/reflectlite.Value).Set.zeroValue")
  if fl / ReflectliteValue.flagAddr % 2==0 then unsupported (.noEntry "extern/(internal/reflectlite.Value).Set.unaddressable")
  let val <- loadVar src b
  if <- Rtype.directlyAssignable dst src then storeVar dst a val
  else if <- Rtype.implements dst src then
   if (<- Rtype.kind src)==20 then
    match val with
    | .nilIface=>unsupported (.noEntry "extern/reflectlite: a nil value of one interface type handed on as a value of another")
    | _=>storeVar dst a val
   else storeVar dst a (.iface src val)
  else panicString ("reflectlite.Set: value of type " ++ (<- Rtype.spelt src) ++ " is not assignable to type " ++ (<- Rtype.spelt dst))
  pure (.tuple #[])):=rfl
theorem jil(a:Addr)(w:World):(ReflectliteValue.parts (.agg #[.pointer (some ⟨9,133,none⟩),.pointer (some a),.int .u64 406])).run prog w=.ok (some (133,a,406)) w:=by kernel_rfl
theorem jjV(a:Addr)(w:World):(ReflectliteValue.parts (.agg #[.pointer (some ⟨9,133,none⟩),.pointer (some a),.int .u64 150])).run prog w=.ok (some (133,a,150)) w:=by kernel_rfl
theorem ji4(w:World):(Rtype.directlyAssignable 133 133).run prog w=.ok true w:=by kernel_rfl
theorem jlN(ta b e:Addr)(old:Value)(W:World)(hb:W.cell? b=some (.pointer (some e)))(ht:W.cell? ta=some old)(hf:W.frozen? ta=false):
  (ReflectliteValue.set #[.agg #[.pointer (some ⟨9,133,none⟩),.pointer (some ta),.int .u64 406],.agg #[.pointer (some ⟨9,133,none⟩),.pointer (some b),.int .u64 150]]).run prog W
   = .ok (.tuple #[]) (W.setCell ta (.pointer (some e))):=by
 rw[jlP]
 simp only[jnF,jil,jjV,Result.andThen]
 simp[ReflectliteValue.flagAddr,loadVar,isAgg,underlying,underlying133,hb,Result.andThen,ji4,storeVar,Value.cells,storeCells,Addr.add]
 rw[run_store prog W ta _ _ (by rfl)]
 simp[ht,hf]
def ErrT(w:World):Prop:=w.cell? ⟨0,0,none⟩=some (.iface 193 (.agg #[.pointer (some ⟨9,35,none⟩)]))
abbrev hP:Value:=.pointer (some ⟨9,133,none⟩)
theorem jhq(e t a:Addr)(old:Value)(w:World)(ha:w.cell? a=some (.pointer (some t)))(ht0:w.cell? t=some old)(hf0:w.frozen? t=false):
  Calls prog 215 #[.iface 133 (.pointer (some e)),.iface 243 (.pointer (some t)),.agg #[.pointer (some ⟨9,243,none⟩),.pointer (some a),.int .u64 150],.iface 193 (.agg #[.pointer (some ⟨9,133,none⟩)])] w
   fun ev w'=>ev=.returned (.bool true)/\w'=((w.alloc (.cells #[.pointer (some ⟨9,243,none⟩),.pointer (some a),.int .u64 150] 287)).alloc (.cells #[.pointer (some e)] 133)).setCell t (.pointer (some e)):=by
 have h10:=@run_callFunc_extern prog 90 _ ReflectliteType.typeOf func90 (by kernel_rfl) (by kernel_rfl) (by kernel_rfl) (by kernel_rfl)
 have h35:=@run_callFunc_extern prog 323 _ (ReflectliteType.relation "AssignableTo" ReflectliteType.assignableTo) func323 (by kernel_rfl) (by kernel_rfl) (by kernel_rfl) (by kernel_rfl)
 have h6:=@run_callFunc_extern prog 212 _ (fun args=>ReflectliteValue.unpack (args.getD 0 (.tuple #[]))) func212 (by kernel_rfl) (by kernel_rfl) (by kernel_rfl) (by kernel_rfl)
 have h11:=@run_callFunc_extern prog 257 _ (ReflectliteValue.method (ReflectliteValue.valueError "reflectlite.Value.Elem" 0) ReflectliteValue.elem) func257 (by kernel_rfl) (by kernel_rfl) (by kernel_rfl) (by kernel_rfl)
 have h12:=@run_callFunc_extern prog 258 _ ReflectliteValue.set func258 (by kernel_rfl) (by kernel_rfl) (by kernel_rfl) (by kernel_rfl)
 have tO:=jhV
 have mA:=vU
 have a25:=jai
 have v25:=jfI
 have htl:t.block<w.heap.size:=by
  rcases jmF t.block w.heap.size with h|h
  ·exact h
  simp[World.cell?,Array.getElem?_eq_none h]at ht0
 have hal:a.block<w.heap.size:=by
  rcases jmF a.block w.heap.size with h|h
  ·exact h
  simp[World.cell?,Array.getElem?_eq_none h]at ha
 have el:=jiY a t (w.alloc (.cells #[.pointer (some ⟨9,243,none⟩),.pointer (some a),.int .u64 150] 287)) (by rw[jov _ _ a hal];exact ha)
 have st:=jlN t ⟨w.heap.size+1,0,none⟩ e old ((w.alloc (.cells #[.pointer (some ⟨9,243,none⟩),.pointer (some a),.int .u64 150] 287)).alloc (.cells #[.pointer (some e)] 133))
  (by rw[jny _ _ _ _ (by simp)];rfl)
  (by rw[jov _ _ t (by simp;omega),jov _ _ t htl];exact ht0)
  (by rw[World.frozen?_alloc_old _ _ t (by simp;omega),World.frozen?_alloc_old _ _ t (jou htl)];exact hf0)
 go_enter func215,ntmps215
 go_wp2
 refine wp_loop_rounds 1 ?_
 rw[rounds_succ]
 go_wp2
 go_ret
 exact⟨rfl,rfl⟩
theorem jlc(v:Value)(xT:TypeId)(w:World):(Instr.typeAssert (.iface 46 v) xT 335 true).run prog w=.ok (.tuple #[.nilIface,.bool false]) w:=run_typeAssert_lacksB underlying335 (by kernel_rfl) (by kernel_rfl) v xT w
theorem jlb(v:Value)(xT:TypeId)(w:World):(Instr.typeAssert (.iface 46 v) xT 198 true).run prog w=.ok (.tuple #[.nilIface,.bool false]) w:=run_typeAssert_lacksB underlying198 (by kernel_rfl) (by kernel_rfl) v xT w
theorem jjY(v:Value)(xT:TypeId)(w:World):(Instr.typeAssert (.iface 46 v) xT 199 true).run prog w=.ok (.tuple #[.nilIface,.bool false]) w:=run_typeAssert_lacksB underlying199 (by kernel_rfl) (by kernel_rfl) v xT w
theorem jfl(n:Int)(t a:Addr)(w:World):
  Calls prog 215 #[.iface 46 (.int .i64 n),.iface 243 (.pointer (some t)),.agg #[.pointer (some ⟨9,243,none⟩),.pointer (some a),.int .u64 150],.iface 193 (.agg #[.pointer (some ⟨9,133,none⟩)])] w
   fun ev w'=>ev=.returned (.bool false)/\Below w.heap.size w w':=by
 have h10:=@run_callFunc_extern prog 90 _ ReflectliteType.typeOf func90 (by kernel_rfl) (by kernel_rfl) (by kernel_rfl) (by kernel_rfl)
 have h35:=@run_callFunc_extern prog 323 _ (ReflectliteType.relation "AssignableTo" ReflectliteType.assignableTo) func323 (by kernel_rfl) (by kernel_rfl) (by kernel_rfl) (by kernel_rfl)
 have tO:=jhW
 have mA:=vU
 have a25:=jaj
 have n1:=jlc
 have n2:=jlb
 have n3:=jjY
 go_enter func215,ntmps215
 go_wp2
 refine wp_loop_rounds 1 ?_
 rw[rounds_succ]
 go_wp2
 go_ret
 exact⟨rfl,(jmc _ _).alloc (jma _) _⟩
theorem ErrT.below{w w':World}{N:Nat}(h:ErrT w)(hb:Below N w w')(hN:w.heap.size<=N):ErrT w':=by
 have hlt:0<w.heap.size:=World.block_lt_of_cell? w _ h
 exact(hb.cell (p:=⟨0,0,none⟩) (jmp hlt hN)).trans h
theorem jkB(e t:Addr)(old:Value)(w:World)(hg:ErrT w)(ht0:w.cell? t=some old)(hf0:w.frozen? t=false):
  Calls prog 160 #[.iface 133 (.pointer (some e)),.iface 243 (.pointer (some t))] w
   fun ev w'=>ev=.returned (.bool true)/\∃w1,Below w.heap.size w w1/\w'=w1.setCell t (.pointer (some e)):=by
 have h6:=@run_callFunc_extern prog 212 _ (fun args=>ReflectliteValue.unpack (args.getD 0 (.tuple #[]))) func212 (by kernel_rfl) (by kernel_rfl) (by kernel_rfl) (by kernel_rfl)
 have h7:=@run_callFunc_extern prog 213 _ (ReflectliteValue.methodAny (ReflectliteValue.valueError "reflectlite.Value.Type" 0) (fun t _ _ _=>ReflectliteType.toType t)) func213 (by kernel_rfl) (by kernel_rfl) (by kernel_rfl) (by kernel_rfl)
 have h8:=@run_callFunc_extern prog 214 _ (ReflectliteValue.method (ReflectliteValue.valueError "reflectlite.Value.IsNil" 0) ReflectliteValue.isNil) func214 (by kernel_rfl) (by kernel_rfl) (by kernel_rfl) (by kernel_rfl)
 have h27:=@run_callFunc_extern prog 314 _ (ReflectliteType.abiMethod fun t=>do pure (.int .u8 (<- Rtype.kind t))) func314 (by kernel_rfl) (by kernel_rfl) (by kernel_rfl) (by kernel_rfl)
 have h37:=@run_callFunc_extern prog 325 _ (ReflectliteType.method ReflectliteType.elem) func325 (by kernel_rfl) (by kernel_rfl) (by kernel_rfl) (by kernel_rfl)
 have h38:=@run_callFunc_extern prog 326 _ (ReflectliteType.relation "Implements" ReflectliteType.implements_) func326 (by kernel_rfl) (by kernel_rfl) (by kernel_rfl) (by kernel_rfl)
 have f6:=KL
 have f7:=jhu
 have mK:=Xc
 have mE:=Xd
 have mI:=yQ
 have k27:=jhE
 have k25:=jj6
 have e27:=jhJ
 have i25:=Vn
 have htl:t.block<w.heap.size:=by
  rcases jmF t.block w.heap.size with h|h
  ·exact h
  simp[World.cell?,Array.getElem?_eq_none h]at ht0
 obtain⟨wa,hwa⟩:∃wa,wa=(w.alloc (.cells #[.pointer (some t)] 243)).alloc (.cells #[.pointer (some ⟨9,243,none⟩),.pointer (some ⟨w.heap.size,0,none⟩),.int .u64 150] 287):=⟨_,rfl⟩
 have hba:Below w.heap.size w wa:=by rw[hwa];exact((jmc _ w).alloc (jma _) _).alloc (by simp) _
 have n8:=jem ⟨w.heap.size,0,none⟩ t wa (by rw[hwa];simp)
 have hg2:wa.cell? ⟨0,0,none⟩=some (.iface 193 (.agg #[.pointer (some ⟨9,35,none⟩)])):=hg.below hba (jma _)
 have HI:=jl9 (jhq e t ⟨w.heap.size,0,none⟩ old wa (by rw[hwa];simp) ((hba.cell htl).trans ht0) ((hba.frozen htl).trans hf0))
 have HB:=jl9 hba
 subst hwa
 clear hba
 go_enter func160,ntmps160
 go_wp2_with fail
 refine HI.out.mono ?_
 rintro ev w2 ⟨rfl,rfl⟩
 go_wp2_with fail
 go_ret
 exact⟨rfl,_,(HB.out.alloc HB.out.size _).alloc (HB.out.alloc HB.out.size _).size _,rfl⟩
theorem jjf(n:Int)(t:Addr)(w:World)(hg:ErrT w):
  Calls prog 160 #[.iface 46 (.int .i64 n),.iface 243 (.pointer (some t))] w
   fun ev w'=>ev=.returned (.bool false)/\Below w.heap.size w w':=by
 have h6:=@run_callFunc_extern prog 212 _ (fun args=>ReflectliteValue.unpack (args.getD 0 (.tuple #[]))) func212 (by kernel_rfl) (by kernel_rfl) (by kernel_rfl) (by kernel_rfl)
 have h7:=@run_callFunc_extern prog 213 _ (ReflectliteValue.methodAny (ReflectliteValue.valueError "reflectlite.Value.Type" 0) (fun t _ _ _=>ReflectliteType.toType t)) func213 (by kernel_rfl) (by kernel_rfl) (by kernel_rfl) (by kernel_rfl)
 have h8:=@run_callFunc_extern prog 214 _ (ReflectliteValue.method (ReflectliteValue.valueError "reflectlite.Value.IsNil" 0) ReflectliteValue.isNil) func214 (by kernel_rfl) (by kernel_rfl) (by kernel_rfl) (by kernel_rfl)
 have h27:=@run_callFunc_extern prog 314 _ (ReflectliteType.abiMethod fun t=>do pure (.int .u8 (<- Rtype.kind t))) func314 (by kernel_rfl) (by kernel_rfl) (by kernel_rfl) (by kernel_rfl)
 have h37:=@run_callFunc_extern prog 325 _ (ReflectliteType.method ReflectliteType.elem) func325 (by kernel_rfl) (by kernel_rfl) (by kernel_rfl) (by kernel_rfl)
 have h38:=@run_callFunc_extern prog 326 _ (ReflectliteType.relation "Implements" ReflectliteType.implements_) func326 (by kernel_rfl) (by kernel_rfl) (by kernel_rfl) (by kernel_rfl)
 have f6:=KL
 have f7:=jhu
 have mK:=Xc
 have mE:=Xd
 have mI:=yQ
 have k27:=jhE
 have k25:=jj6
 have e27:=jhJ
 have i25:=Vn
 obtain⟨wa,hwa⟩:∃wa,wa=(w.alloc (.cells #[.pointer (some t)] 243)).alloc (.cells #[.pointer (some ⟨9,243,none⟩),.pointer (some ⟨w.heap.size,0,none⟩),.int .u64 150] 287):=⟨_,rfl⟩
 have hba:Below w.heap.size w wa:=by rw[hwa];exact((jmc _ w).alloc (jma _) _).alloc (by simp) _
 have n8:=jem ⟨w.heap.size,0,none⟩ t wa (by rw[hwa];simp)
 have hg2:wa.cell? ⟨0,0,none⟩=some (.iface 193 (.agg #[.pointer (some ⟨9,35,none⟩)])):=hg.below hba (jma _)
 have HI:=jl9 (jfl n t ⟨w.heap.size,0,none⟩ wa)
 have HB:=jl9 hba
 subst hwa
 clear hba
 go_enter func160,ntmps160
 go_wp2_with fail
 refine HI.out.mono ?_
 rintro ev w2 ⟨rfl,b2⟩
 go_wp2_with fail
 go_ret
 exact⟨rfl,HB.out.trans (b2.mono HB.out.size)⟩
end
section
attribute [local go_sem] jmk
def EdV(w:World)(v:Value)(eds:List Ed):Prop :=
 ∃A cap,v=.slice A eds.length cap/\eds.length<=cap/\∀(i:Nat) (ed:Ed),eds[i]?=some ed->∃b off fv,A=some ⟨b,off,none⟩/\b<w.heap.size/\w.cell? ⟨b,off+i*3,none⟩=some (.int .i64 ed.kind)/\w.cell? ⟨b,off+i*3+1,none⟩=some (.int .i64 ed.id)/\w.cell? ⟨b,off+i*3+1+1,none⟩=some fv/\Zl w fv ed.fields
theorem EdV.below{w w':World}{v:Value}{eds:List Ed}{N:Nat}(h:EdV w v eds)(hb:Below N w w')(hN:w.heap.size<=N):EdV w' v eds:=by
 obtain⟨A,cap,e,hle,hc⟩:=h
 refine⟨A,cap,e,hle,fun i ed hi => ?_⟩
 obtain⟨b,off,fv,e1,hbb,c0,c1,c2,hf⟩:=hc i ed hi
 have hbN:b<N:=by omega
 exact⟨b,off,fv,e1,jmp hbb hb.size,(hb.cell (p:=⟨b,off+i*3,none⟩) hbN).trans c0,(hb.cell (p:=⟨b,off+i*3+1,none⟩) hbN).trans c1,(hb.cell (p:=⟨b,off+i*3+1+1,none⟩) hbN).trans c2,hf.below hb hN⟩
def Yx(eds:List Ed):Prop:=∀ed∈eds,jft ed.fields
structure jjk(fs:List Fld):Prop where
 len:fs.length<=1000000
 each:∀f∈fs,f.1.length<=100000/\f.2.length<=100000
def Uy(eds:List Ed):Prop:=∀ed∈eds,jjk ed.fields
theorem Yx.eight{eds:List Ed}(h:Yx eds):Uy eds:=fun ed hm=>⟨by have:=(h ed hm).len;omega,(h ed hm).each⟩
theorem vB.mono{lo lo':Nat}{w:World}{u:Value}{a:Int}{n:Nat}(h:vB lo w u a n)(hl:lo'<=lo):vB lo' w u a n:=by
 obtain⟨h1,h2⟩:=h
 refine⟨h1,?_⟩
 rcases h2 with h2|⟨k,h3,h4⟩
 ·exact .inl h2
 exact .inr ⟨k,h3.mono hl,h4⟩
theorem vB.fault{lo:Nat}{w:World}{u:Value}{k n:Nat}(h:jn lo w u k n)(hn:n≠0)(h11:n<=11):vB lo w u (k:Nat) n:=⟨h11,.inr ⟨k,h,rfl,hn⟩⟩
theorem WU{lo:Nat}(k n:Nat)(a:Int)(u:Value)(w:World)(h:vB lo w u a n)(hn:n≠0)(hg:ErrT w):
  Calls prog 117 #[.int .i64 (k:Nat),u] w fun e w'=>∃u',e=.returned u'/\Below w.heap.size w w'/\jn w.heap.size w' u' k n:=by
 obtain⟨_,h⟩:=h
 obtain⟨wa,hwa⟩:∃wa,wa=w.alloc (.cells #[.pointer none] 133):=⟨_,rfl⟩
 have hba:Below w.heap.size w wa:=by rw[hwa];exact(jmc _ w).alloc (jma _) _
 have hga:ErrT wa:=hg.below hba (jma _)
 have ht:wa.cell? ⟨w.heap.size,0,none⟩=some (.pointer none):=by rw[hwa];simp
 have hf:wa.frozen? ⟨w.heap.size,0,none⟩=false:=by rw[hwa];simp
 have hz:wa.heap.size=w.heap.size+1:=by rw[hwa];simp
 rcases h with ⟨rfl,_⟩|⟨k',⟨q,_,rfl,hq⟩,_,_⟩
 ·rw[jX n (by omega)]
  have HM:=jl9 (jjf (n:Int) ⟨w.heap.size,0,none⟩ wa hga)
  have HBA:=jl9 hba
  have FIN:Hid (∀W,Below wa.heap.size wa W->jn w.heap.size (W.alloc (.cells #[.int .i64 (k:Nat),.iface 46 (.int .i64 (n:Nat))] 135)) (.iface 133 (.pointer (some ⟨W.heap.size,0,none⟩))) k n):=by
   intro W hW
   rw[<- jX n (by omega)]
   exact jn.new W k n _ _ rfl (by have:=hW.size;omega)
  clear hba hga ht hf
  subst hwa
  go_enter func117,ntmps117
  go_wp2_with fail
  refine HM.out.mono ?_
  rintro e w2 ⟨rfl,b2⟩
  have F2:=FIN.out w2 b2
  have B2:Below w.heap.size w w2:=HBA.out.trans (b2.mono HBA.out.size)
  go_wp2_with fail
  go_ret
  exact⟨_,rfl,B2.alloc B2.size _,F2⟩
 have hql:=hq.lt
 have HM:=jl9 (jkB ⟨q,0,none⟩ ⟨w.heap.size,0,none⟩ (.pointer none) wa hga ht hf)
 have HBA:=jl9 hba
 have HQ:Hid (∀w1,Below wa.heap.size wa w1->(w1.setCell ⟨w.heap.size,0,none⟩ (.pointer (some ⟨q,0,none⟩))).cell? ⟨w.heap.size,0,none⟩=some (.pointer (some ⟨q,0,none⟩))/\(w1.setCell ⟨w.heap.size,0,none⟩ (.pointer (some ⟨q,0,none⟩))).cell? ⟨q,1,none⟩=some (.iface 46 (.int .i64 (n:Nat)))/\Below w.heap.size w (w1.setCell ⟨w.heap.size,0,none⟩ (.pointer (some ⟨q,0,none⟩)))):=by
  intro w1 b1
  have hb:Below w.heap.size w w1:=hba.trans (b1.mono hba.size)
  have c1:ja w1 w.heap.size 133 #[.pointer none]:=jd (by rw[hwa];exact ja.new _ _ _) b1 (by omega)
  have c1':=c1.set 0 (.pointer (some ⟨q,0,none⟩))
  have cq:ja w1 q 135 #[.int .i64 k',qi n]:=jd hq hb hql
  have cq':ja (w1.setCell ⟨w.heap.size,0,none⟩ (.pointer (some ⟨q,0,none⟩))) q 135 #[.int .i64 k',qi n]:=cq.other (p:=⟨w.heap.size,0,none⟩) (by show q≠w.heap.size;omega) _
  refine⟨?_,?_,hb.setCell (p:=⟨w.heap.size,0,none⟩) (jma _) _⟩
  ·rw[c1'.cell 0];rfl
  rw[<- jX n (by omega),cq'.cell 1];rfl
 have FIN:Hid (∀W:World,w.heap.size<=W.heap.size->jn w.heap.size (W.alloc (.cells #[.int .i64 (k:Nat),.iface 46 (.int .i64 (n:Nat))] 135)) (.iface 133 (.pointer (some ⟨W.heap.size,0,none⟩))) k n):=by
  intro W hW
  rw[<- jX n (by omega)]
  exact jn.new W k n _ _ rfl hW
 clear hba hga ht hf hq
 subst hwa
 go_enter func117,ntmps117
 go_wp2_with fail
 refine HM.out.mono ?_
 rintro e w2 ⟨rfl,w1,b1,hw2⟩
 obtain⟨c1,c2,hb⟩:=HQ.out w1 b1
 rw[<- hw2]at c1 c2 hb
 have F2:=FIN.out w2 hb.size
 clear hw2 HQ b1 HM
 go_wp2_with fail
 go_ret
 exact⟨_,rfl,hb.alloc hb.size _,F2⟩
theorem je6(ed:Ed)(fv:Value)(w:World)(h:Yo w fv ed.fields)(hf:jjk ed.fields):
  Calls prog 155 #[.agg #[.int .i64 ed.kind,.int .i64 ed.id,fv]] w fun e w'=>∃u a,e=.returned u/\Below w.heap.size w w'/\vB w.heap.size w' u a (qh ed):=by
 obtain⟨fa,fc,rfl,_,_⟩:=_root_.id h
 obtain⟨wa,hwa⟩:∃wa,wa=w.alloc (.cells #[.int .i64 ed.kind,.int .i64 ed.id,.slice fa ed.fields.length fc] 63):=⟨_,rfl⟩
 have hba:Below w.heap.size w wa:=by rw[hwa];exact(jmc _ w).alloc (jma _) _
 have HC:=jl9 (je5 ed.fields (.slice fa ed.fields.length fc) wa (h.below hba (jma _)) (by have:=hf.len;omega) (fun f hm=>by have:=hf.each f hm;omega))
 have HB:=jl9 hba
 have GE:=jl9 (show qh ed=if ed.kind=1\/ed.kind=3 then vn ed.fields else if ed.kind=2/\ed.fields.length=0 then 0 else 2 from rfl)
 have FIN:Hid (∀W u,vB wa.heap.size W u (Yc ed.fields) (vn ed.fields)->qh ed=vn ed.fields->∃a,vB w.heap.size W u a (qh ed)):=by
  intro W u hz hg
  rw[hg]
  exact⟨_,hz.mono hba.size⟩
 have HZ:Hid (∀W u,xG wa.heap.size W u ed.fields->vB wa.heap.size W u (Yc ed.fields) (vn ed.fields)):=fun W u h=>vB.of h
 have E0:Hid (∀W,qh ed=0->vB w.heap.size W .nilIface (-9) (qh ed)):=fun W h=>by rw[h];exact vB.none _ _
 have E2:Hid (∀W,qh ed=2->vB w.heap.size W (.iface 46 (.int .i64 2)) (-9) (qh ed)):=fun W h=>by rw[h];exact vB.err _ _ 2 (by decide)
 have hlz:((ed.fields.length:Int)==0)=decide (ed.fields.length=0):=by
  rw[jm8];simp
 clear hba h
 subst hwa
 generalize hgg:qh ed=ge at *
 generalize vn ed.fields=cn at *
 generalize Yc ed.fields=ca at *
 generalize ed.fields.length=fl at *
 generalize ed.kind=kk at *
 generalize ed.id=ii at *
 clear hgg
 by_cases h1:kk=1
 ·subst h1
  have hg:ge=cn:=by rw[GE.out,if_pos (.inl rfl)]
  go_enter func155,ntmps155
  go_wp2_with fail
  refine HC.out.mono ?_
  rintro e w2 ⟨u,rfl,b2,hu⟩
  obtain⟨a,F2⟩:=FIN.out w2 u (HZ.out w2 u hu) hg
  go_wp2_with fail
  go_ret
  first | exact⟨_,rfl,HB.out.trans (b2.mono HB.out.size),a,F2⟩ | exact⟨_,a,rfl,HB.out.trans (b2.mono HB.out.size),F2⟩
 by_cases h3:kk=3
 ·subst h3
  have hg:ge=cn:=by rw[GE.out,if_pos (.inr rfl)]
  go_enter func155,ntmps155
  go_wp2_with fail
  refine HC.out.mono ?_
  rintro e w2 ⟨u,rfl,b2,hu⟩
  obtain⟨a,F2⟩:=FIN.out w2 u (HZ.out w2 u hu) hg
  go_wp2_with fail
  go_ret
  first | exact⟨_,rfl,HB.out.trans (b2.mono HB.out.size),a,F2⟩ | exact⟨_,a,rfl,HB.out.trans (b2.mono HB.out.size),F2⟩
 have q1:(kk==1)=false:=by simpa using h1
 have q3:(kk==3)=false:=by simpa using h3
 by_cases h2:kk=2
 ·subst h2
  by_cases h0:fl=0
  ·have hg:ge=0:=by rw[GE.out,if_neg (by omega),if_pos ⟨rfl,h0⟩]
   have F:=E0.out (w.alloc (.cells #[.int .i64 2,.int .i64 ii,.slice fa fl fc] 63)) hg
   clear hg GE E0 E2 FIN HZ
   subst h0
   go_enter func155,ntmps155
   go_wp2_with fail
   go_ret
   first | exact⟨_,rfl,HB.out,_,F⟩ | exact⟨_,_,rfl,HB.out,F⟩
  have hg:ge=2:=by rw[GE.out,if_neg (by omega),if_neg (by intro h;exact h0 h.2)]
  have F:=E2.out (w.alloc (.cells #[.int .i64 2,.int .i64 ii,.slice fa fl fc] 63)) hg
  clear hg GE E0 E2 FIN HZ
  rw[decide_eq_false h0]at hlz
  go_enter func155,ntmps155
  go_wp2_with fail
  go_ret
  first | exact⟨_,rfl,HB.out,_,F⟩ | exact⟨_,_,rfl,HB.out,F⟩
 have q2:(kk==2)=false:=by simpa using h2
 have hg:ge=2:=by rw[GE.out,if_neg (by omega),if_neg (by intro h;exact h2 h.1)]
 have F:=E2.out (w.alloc (.cells #[.int .i64 kk,.int .i64 ii,.slice fa fl fc] 63)) hg
 clear hg GE E0 E2 FIN HZ
 go_enter func155,ntmps155
 go_wp2_with fail
 go_ret
 first | exact⟨_,rfl,HB.out,_,F⟩ | exact⟨_,_,rfl,HB.out,F⟩
theorem Ye(eds:List Ed)(v:Value)(w:World)(h:EdV w v eds)(hl:eds.length<=1000000)(hf:Uy eds)(hg:ErrT w):
  Calls prog 114 #[v] w fun e w'=>∃u,e=.returned u/\Below w.heap.size w w'/\vB w.heap.size w' u (vG eds).1 (vG eds).2:=by
 obtain⟨A,cap,rfl,hle,hc⟩:=h
 have PC:=jl9 hc
 have HF:=jl9 hf
 have HG:=jl9 hg
 clear hc hf hg
 by_cases h0:eds.length=0
 ·have e0:vG eds=(-9,1):=by unfold vG;rw[if_pos (by omega)]
  rw[e0,h0]
  have F:=vB.err w.heap.size w 1 (by decide)
  rw[show qi 1=.iface 46 (.int .i64 1) from rfl]at F
  go_enter func114,ntmps114
  go_wp2_with fail
  go_ret
  exact⟨_,rfl,jmc _ _,F⟩
 have q0:((eds.length:Int)==0)=false:=by simp;intro h;exact h0 (by rw[h];rfl)
 by_cases h40:40<eds.length
 ·have e0:vG eds=(-9,1):=by unfold vG;rw[if_pos (by omega)]
  rw[e0]
  have F:=vB.err w.heap.size w 1 (by decide)
  rw[show qi 1=.iface 46 (.int .i64 1) from rfl]at F
  go_enter func114,ntmps114
  go_wp2_with fail
  go_ret
  exact⟨_,rfl,jmc _ _,F⟩
 have e1:vG eds=Js 0 eds:=by unfold vG;rw[if_neg (by omega)]
 rw[e1]
 go_enter func114,ntmps114
 go_wp2_with fail
 go_loopw [17] (fun i wr=>∃k:Nat,k<=eds.length/\i=.int .i64 k/\(∀x∈eds.take k,qh x=0)/\Below w.heap.size w wr) (fun i _=>eds.length-(intOf i).toNat)
 case atStart=>exact⟨0,jmo _,rfl,(fun x hx=>by simp at hx),jmc _ _⟩
 case round =>
 obtain⟨k,hk,rfl,hsm,hb⟩:=hrel
 by_cases hlt:k<eds.length
 ·obtain⟨ed,hed⟩:∃ed,eds[k]?=some ed:=⟨_,jmd hlt⟩
  obtain⟨b,off,fv,rfl,hbb,c0,c1,c2,hfl⟩:=PC.out k ed hed
  obtain⟨fa,fc,rfl,_,_⟩:=_root_.id hfl.1
  replace c0:=(hb.cell (p:=⟨b,off+k*3,none⟩) hbb).trans c0
  replace c1:=(hb.cell (p:=⟨b,off+k*3+1,none⟩) hbb).trans c1
  replace c2:=(hb.cell (p:=⟨b,off+k*3+1+1,none⟩) hbb).trans c2
  obtain⟨wa,hwa⟩:∃wa,wa=wr.alloc (.cells #[.int .i64 ed.kind,.int .i64 ed.id,.slice fa ed.fields.length fc] 63):=⟨_,rfl⟩
  have hba:Below w.heap.size w wa:=by rw[hwa];exact hb.alloc hb.size _
  have CK:=jl9 (je6 ed (.slice fa ed.fields.length fc) wa (hfl.1.below hba (jma _)) (HF.out ed (jmx hed)))
  have SM:Hid (qh ed=0->∀x∈eds.take (k+1),qh x=0):=fun hz x hx=>by
   rw[vJ hed]at hx
   rcases List.mem_append.1 hx with hx|hx
   ·exact hsm x hx
   rw[List.mem_singleton.1 hx];exact hz
  have AT:Hid (qh ed≠0->Js 0 eds=(((k:Nat):Int),qh ed)):=fun hz=>by rw[jbq eds 0 k ed hsm hed hz,jmP]
  have HBA:=jl9 hba
  have hle11:=jgJ ed
  clear hed hsm hfl hba
  generalize qh ed=ge at *
  subst hwa
  go_wp2_with fail
  refine CK.out.mono ?_
  rintro e w2 ⟨u,a,rfl,b2,hz⟩
  have B2:=jl9 (HBA.out.trans (b2.mono HBA.out.size))
  by_cases hg0:ge=0
  ·subst hg0
   obtain⟨_,⟨rfl,_⟩|⟨_,_,_,hx⟩⟩:=hz
   ·have SM1:=jl9 (SM.out rfl)
    clear SM AT CK
    rw[show qi 0=.nilIface from rfl]
    go_wp2_with fail
    go_roundw
    case rel=>exact⟨k+1,hlt,by go_num,SM1.out,B2.out⟩
    case measure=>simp[intOf];omega
   exact absurd rfl hx
  have FA:=jl9 (WU k ge a u w2 hz hg0 (HG.out.below B2.out (jma _)))
  have AT1:=AT.out hg0
  have hform:(∃z,u=.iface 46 (.int .i64 z))\/∃q,u=.iface 133 (.pointer (some ⟨q,0,none⟩)):=by
   obtain⟨_,⟨rfl,_⟩|⟨_,⟨q,_,rfl,_⟩,_,_⟩⟩:=hz
   ·rw[jX ge (by omega)];exact .inl ⟨_,rfl⟩
   exact .inr ⟨q,rfl⟩
  clear hz SM AT CK
  rcases hform with ⟨z,rfl⟩|⟨q,rfl⟩
  all_goals
   go_wp2_with fail
   refine FA.out.mono ?_
   rintro e w3 ⟨u',rfl,b3,hfa⟩
   have Z3:Hid (vB w.heap.size w3 u' (Js 0 eds).1 (Js 0 eds).2):=by
    show vB _ _ _ _ _
    rw[AT1];exact vB.fault (hfa.mono B2.out.size) hg0 hle11
   have B3:=jl9 (B2.out.trans (b3.mono B2.out.size))
   clear hfa b3
   go_wp2_with fail
   go_ret
   exact⟨_,rfl,B3.out,Z3.out⟩
 obtain rfl:k=eds.length:=by omega
 rw[jmJ]at hsm
 have HZ:vB w.heap.size wr .nilIface (Js 0 eds).1 (Js 0 eds).2:=by rw[Yb eds 0 hsm];exact vB.none w.heap.size wr
 clear PC hsm
 go_wp2_with fail
 go_ret
 exact⟨_,rfl,hb,HZ⟩
theorem jcQ(eds:List Ed)(v:Value)(w:World)(h:EdV w v eds)(hl:eds.length<=1000000)(hf:Yx eds)(hg:ErrT w):
  Calls prog 114 #[v] w fun e w'=>∃u,e=.returned u/\Below w.heap.size w w'/\vB w.heap.size w' u (vG eds).1 (vG eds).2:=Ye eds v w h hl hf.eight hg
end
def jcN(its:List It):Nat:=(its.filter fun it=>decide (it.kind=3)).length
theorem Uj(its:List It)(it:It):jcN (its++[it])=jcN its+if it.kind=3 then 1 else 0:=by
 unfold jcN
 rw[joe,jmb]
 congr 1
 by_cases h:it.kind=3
 ·rw[if_pos h,jnt,if_pos (by simpa using h)];rfl
 rw[if_neg h,jnt,if_neg (by simpa using h)];rfl
def ZL(p:PS):Prop:=jcN p.items=p.stanzas
theorem ZL.endField{p:PS}(h:ZL p):ZL (jb p):=by
 unfold jb
 split
 ·exact h
 exact h
theorem ZL.endItem{t:List UInt8}{p:PS}(h:ZL p)(kind e:Nat)(hk:kind≠3):ZL (zi t p kind e):=by
 show jcN (p.items++[_])=p.stanzas
 rw[Uj,if_neg (by show((kind:Nat):Int)≠3;omega),h];rfl
theorem ZL.endBlock{t:List UInt8}{p:PS}(h:ZL p)(e:Nat):ZL (js t p e):=by
 unfold js
 split
 ·exact h
 split
 ·exact h.endItem 2 e (by decide)
 show jcN (p.items++[_])=p.stanzas+1
 rw[Uj,if_pos (by rfl),h]
theorem ZL.went{p:PS}(h:ZL p)(x:Ln):ZL (qv p x):=by
 unfold qv
 split<;>exact h
theorem ZL.then_{p:PS}(h:ZL p)(x:Ln):ZL (vj p x):=by
 unfold vj
 split
 ·exact(h.went x).endField
 exact h.went x
theorem ZL.put{t:List UInt8}{p:PS}(h:ZL p)(x:Ln):ZL (Qk t p x):=by
 unfold Qk
 split
 ·exact h
 split
 ·exact(h.endBlock x.at_).endItem 1 _ (by decide)
 exact h
theorem ZL.take{t:List UInt8}{p q:PS}{x:Ln}(h:ZL p)(he:zJ t p x=.ok q):ZL q:=by
 obtain⟨_,_,rfl⟩:=xH he
 exact(h.then_ x).put x
theorem ZL.run(t:List UInt8):∀(xs:List Ln) (p q:PS),ZL p->vK t p xs=.ok q->ZL q
 | [],p,q,h,he=>by cases he;exact h
 | x::xs,p,q,h,he=>by
  unfold vK at he
  cases ht:zJ t p x with
  | error e=>rw[ht]at he;cases he
  | ok p1 =>
  rw[ht]at he
  exact ZL.run t xs p1 q (h.take ht) he
theorem QY{t:List UInt8}{its:List It}(h:jI t=.ok its):jcN its<=400:=by
 obtain⟨p,hr,h0,rfl,g,_⟩:=Zs h
 have hc:ZL (js t (jb p) t.length):=((ZL.run t _ _ _ (by rfl) hr).endField).endBlock _
 rw[show jcN _=_ from hc]
 exact g.st
theorem Vb:∀(n:Int) (its:List It),0<n->(∀m∈nums (zV n its),n<=m/\m<jR n its)/\(nums (zV n its)).Nodup/\(nums (zV n its)).length=jcN its/\n<=jR n its
 | n,[],h=>⟨(fun m hm=>by cases hm),List.nodup_nil,rfl,jnl _⟩
 | n,it::r,h=>by
  by_cases hk:it.kind=3
  ·obtain⟨a,b,c,d⟩:=Vb (n+1) r (by omega)
   have e1:nums (zV n (it::r))=n::nums (zV (n+1) r):=by
    unfold nums
    rw[zV,if_pos hk,jmD,jnt,if_pos (by simpa using h)]
   have e2:jR n (it::r)=jR (n+1) r:=by rw[jR,if_pos hk]
   rw[e1,e2]
   refine⟨fun m hm => ?_,List.nodup_cons.2 ⟨fun q => ?_,b⟩,?_,by omega⟩
   ·rcases List.mem_cons.1 hm with rfl|hm
    ·exact⟨jnl _,by omega⟩
    have:=a m hm;exact⟨by omega,this.2⟩
   ·have:=(a n q).1;omega
   unfold jcN at c ⊢
   rw[jme,c,jnt,if_pos (by simpa using hk)];rfl
  obtain⟨a,b,c,d⟩:=Vb n r h
  have e1:nums (zV n (it::r))=nums (zV n r):=by
   unfold nums
   rw[zV,if_neg hk,jmD,jnt,if_neg (by simp)]
  have e2:jR n (it::r)=jR n r:=by rw[jR,if_neg hk]
  rw[e1,e2]
  refine⟨a,b,?_,d⟩
  unfold jcN at c ⊢
  rw[c,jnt,if_neg (by simpa using hk)]
theorem jiQ{t:List UInt8}{its:List It}(h:jI t=.ok its):OkL (vd its):=by
 obtain⟨a,b,c,d⟩:=Vb 1 its (by decide)
 refine⟨GC 1 its (by decide),by show 0<jR 1 its;omega,fun n hn=>(a n hn).2,b,?_⟩
 rw[<- yC]
 show(nums (zV 1 its)).length<=400
 rw[c];exact QY h
section
attribute [local go_sem] jmk
theorem jgx(lb:Nat)(ev:Value)(ps:List Pr)(nx id:Int)(fs:List Fld)(v:Value)(w:World)(h:LA w lb ev ps nx)(hwf:WF (ps.map Prod.fst))(h4:UV (ps.map Prod.fst)<=400)(hps:ps.length<=10000)(hnx : -1000000<=nx/\nx<=1000000)(hs:Zl w v fs)(hfs:jft fs):
  Calls prog 159 #[ptr lb,.int .i64 id,v] w fun e w'=>∃u ev' ps',e=.returned (.tuple #[.int .i64 (qD ⟨ps.map Prod.fst,nx⟩ id fs).id,u])/\WrR w lb ev ps (qD ⟨ps.map Prod.fst,nx⟩ id fs) u w' ev' ps':=by
 have:=Gs lb ev ps nx id fs v w h hps hnx hs hfs
 rw[jke hwf,jkf hwf h4,show ye (jjs (ps.map Prod.fst) id) (decide (400<=UV (ps.map Prod.fst))) ⟨ps.map Prod.fst,nx⟩ fs=qD ⟨ps.map Prod.fst,nx⟩ id fs by rw[jen]]at this
 exact this
end
def SzL(es:List En):Prop:=∀e∈es,e.1.raw.length<=100000/\e.1.fields.length<=1000000
theorem jg3(l:LS)(kind id:Int)(fs:List Fld):∀e∈(xw l kind id fs).ls.es,e∈l.es\/(e.1=zH fs/\vn fs=0):=by
 intro e he
 unfold xw at he
 split at he
 ·unfold qe at he
  split at he
  ·exact .inl he
  rename_i k hk
  split at he
  ·rename_i hc
   have he':e∈XM l.es k (zH fs):=he
   unfold XM at he'
   obtain⟨j,hj⟩:=List.getElem?_of_mem he'
   rw[jn4]at hj
   cases hx:l.es[j]? with
   | none=>rw[hx]at hj;cases hj
   | some y =>
   rw[hx]at hj
   have hj':(if k=j then (zH fs,y.2) else y)=e:=jmf hj
   by_cases q:k=j
   ·rw[if_pos q]at hj'
    rw[<- hj'];exact .inr ⟨rfl,hc⟩
   rw[if_neg q]at hj'
   rw[<- hj'];exact .inl (jmx hx)
  exact .inl he
 split at he
 ·unfold qQ at he
  split at he
  ·exact .inl he
  have he':e∈jcL l.es _:=he
  unfold jcL at he'
  rcases List.mem_append.1 he' with q|q
  ·exact .inl (jng q)
  exact .inl (jm6 q)
 unfold qD at he
 split at he
 ·exact .inl he
 split at he
 ·rename_i hc
  split at he
  ·exact .inl he
  have he':e∈Gi l.es _ (zH fs,l.next):=he
  unfold Gi at he'
  rcases List.mem_append.1 he' with q|q
  ·exact .inl (jng q)
  rcases List.mem_cons.1 q with q|q
  ·rw[q];exact .inr ⟨rfl,hc⟩
  exact .inl (jm6 q)
 exact .inl he
structure zP(S0:Nat)(w:World)(lb:Nat)(ev:Value)(ps:List Pr)(l:LS)(m:Nat):Prop where
 la:LA w lb ev ps l.next
 es:ps.map Prod.fst=l.es
 ok:OkL l
 sz:SzL l.es
 lb0:S0<=lb
 ev0:∀b,ev.ownBlock=some b->S0<=b
 len:l.es.length<=m
 nx:l.next<=m+1
theorem zP.wf{S0:Nat}{w:World}{lb:Nat}{ev:Value}{ps:List Pr}{l:LS}{m:Nat}(h:zP S0 w lb ev ps l m):WF (ps.map Prod.fst):=by rw[h.es];exact h.ok.wf
theorem zP.below{S0:Nat}{w w':World}{lb:Nat}{ev:Value}{ps:List Pr}{l:LS}{m N:Nat}(h:zP S0 w lb ev ps l m)(hb:Below N w w')(hN:w.heap.size<=N):zP S0 w' lb ev ps l m :=
 ⟨h.la.below hb hN,h.es,h.ok,h.sz,h.lb0,h.ev0,h.len,h.nx⟩
theorem zP.ents{S0:Nat}{w:World}{lb:Nat}{ev:Value}{ps:List Pr}{l:LS}{m:Nat}(h:zP S0 w lb ev ps l m)(hm:m<=10000):jhS ps:=by
 have hmem:∀p∈ps,p.1∈l.es:=fun p hp=>by rw[<- h.es];exact jnB hp
 have hl:ps.length=l.es.length:=by rw[<- h.es,jmE]
 refine⟨by have:=h.len;omega,fun p hp=>(h.sz _ (hmem p hp)).1,fun p hp=>(h.sz _ (hmem p hp)).2,fun p hp => ?_⟩
 rcases h.ok.wf _ (hmem p hp) with ⟨_,q⟩|⟨_,q⟩
 ·have hn:p.1.2∈nums l.es:=by
   unfold nums
   exact List.mem_filter.2 ⟨jnB (hmem p hp),by simpa using q⟩
  have:=h.ok.lt _ hn
  have:=h.nx
  omega
 omega
theorem zP.str{S0:Nat}{w:World}{lb:Nat}{ev:Value}{ps:List Pr}{l:LS}{m:Nat}(h:zP S0 w lb ev ps l m):StR w lb ev ps l.next (.slice none 0 0) [] :=
 ⟨h.la,jcz w,(fun b e=>by cases e),(fun p hp=>by cases hp)⟩
theorem SzL.edit{l:LS}(h:SzL l.es)(kind id:Int){fs:List Fld}(h1:(jU fs).length<=100000)(h2:fs.length<=1000000):SzL (xw l kind id fs).ls.es:=fun e he=>by
 rcases jg3 l kind id fs e he with q|⟨q,_⟩
 ·exact h e q
 rw[q];exact⟨h1,h2⟩
theorem zP.edit{S0:Nat}{w w':World}{lb:Nat}{ev ev':Value}{ps ps':List Pr}{l:LS}{m:Nat}(h:zP S0 w lb ev ps l m)(kind id:Int){fs:List Fld}(h1:(jU fs).length<=100000)(h2:fs.length<=1000000)
  (la:LA w' lb ev' ps' (xw l kind id fs).ls.next) (es:ps'.map Prod.fst=(xw l kind id fs).ls.es) (hS:S0<=w.heap.size) (hev:∀b,ev'.ownBlock=some b->ev.ownBlock=some b\/w.heap.size<=b):zP S0 w' lb ev' ps' (xw l kind id fs).ls (m+1):=by
 obtain⟨a,_,c⟩:=jg4 l kind id fs
 have hl:=h.len
 have hn:=h.nx
 refine⟨la,es,h.ok.edit kind id fs,h.sz.edit kind id h1 h2,h.lb0,fun b e => ?_,by omega,by omega⟩
 rcases hev b e with q|q
 ·exact h.ev0 b q
 omega
end Go.Proofs.YtpibhbjmcmfnmaaGreatDoor
