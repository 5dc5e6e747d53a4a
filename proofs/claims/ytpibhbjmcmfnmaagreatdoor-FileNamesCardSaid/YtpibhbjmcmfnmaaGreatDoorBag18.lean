/- Texts put together:EA,ED,EE,EF,EG,NH,NF,NI,NJ. -/
import Derived.LaidEql
import Derived.Stop.Asserts
import Derived.RowKitTokens
import Derived.Test.YtpibhbjmcmfnmaaGreatDoorBag17
set_option linter.unusedVariables false
set_option maxRecDepth 100000
set_option maxHeartbeats 16000000
namespace Go.Proofs.YtpibhbjmcmfnmaaGreatDoor
open Go.RowKit Go.Shelf Tryz
abbrev jpG:=@Go.World.cell?_alloc_lt
def qr(ed:Ed):Nat:=if ed.kind=1\/ed.kind=3 then vG ed.fields else if ed.kind=2/\ed.fields.length=0 then 0 else 2
theorem jia(ed:Ed):qr ed<=11:=by
 unfold qr
 split
 ·exact WW _
 split<;>decide
def JT:Nat->List Ed->Int×Nat
 | _,[]=>(-9,0)
 | k,ed::r=>if qr ed=0 then JT (k+1) r else ((k:Nat),qr ed)
def vS(eds:List Ed):Int×Nat:=if eds.length<1\/40<eds.length then (-9,1) else JT 0 eds
theorem jcz:∀(eds:List Ed) (q k:Nat) (ed:Ed),(∀x∈eds.take k,qr x=0)->eds[k]?=some ed->qr ed≠0->JT q eds=(((q+k:Nat):Int),qr ed)
 | [],q,k,ed,_,h,_=>by simp at h
 | a::r,q,0,ed,_,h,h0=>by
  simp at h;subst h
  unfold JT
  rw[if_neg h0];rfl
 | a::r,q,k+1,ed,hg,h,h0=>by
  have ih:=jcz r (q+1) k ed (fun x hx=>hg x (by rw[jph];exact jnm _ hx)) (by simpa using h) h0
  unfold JT
  rw[if_pos (hg a (by rw[jph];exact jno)),ih,show q+1+k=q+(k+1) by omega]
theorem YV:∀(eds:List Ed) (q:Nat),(∀x∈eds,qr x=0)->JT q eds=(-9,0)
 | [],_,_=>rfl
 | a::r,q,h=>by
  unfold JT
  rw[if_pos (h a jno)]
  exact YV r (q+1) (fun x hx=>h x (jnm _ hx))
theorem KC:∀(eds:List Ed) (q:Nat),(JT q eds).2=0->∀x∈eds,qr x=0
 | [],_,_,x,hx=>by cases hx
 | a::r,q,h,x,hx=>by
  unfold JT at h
  split at h
  ·rename_i h0
   rcases List.mem_cons.1 hx with rfl|hx
   ·exact h0
   exact KC r (q+1) h x hx
  rename_i h0;exact absurd h h0
theorem yN{eds:List Ed}(h:(vS eds).2=0):(1<=eds.length/\eds.length<=40)/\∀x∈eds,qr x=0:=by
 unfold vS at h
 split at h
 ·cases h
 exact⟨by omega,KC eds 0 h⟩
theorem jk0{eds:List Ed}(h1:1<=eds.length)(h2:eds.length<=40)(h:∀x∈eds,qr x=0):vS eds=(-9,0):=by
 unfold vS
 rw[if_neg (by omega)]
 exact YV eds 0 h
theorem jgp{eds:List Ed}(h:(vS eds).2=0):vS eds=(-9,0):=by
 obtain⟨⟨a,b⟩,c⟩:=yN h
 exact jk0 a b c
theorem ZZ{ed:Ed}(h:qr ed=0):ed.kind=1\/ed.kind=2\/ed.kind=3:=by
 unfold qr at h
 split at h
 ·rename_i q;omega
 split at h
 ·rename_i q;exact .inr (.inl q.1)
 cases h
def zC(l:LS)(ed:Ed):Did:=xU l ed.kind ed.id ed.fields
def ym:LS->List Ed->LS
 | l,[]=>l
 | l,ed::r=>ym (zC l ed).ls r
def Gh:LS->List Ed->Prop
 | _,[]=>True
 | l,ed::r=>(zC l ed).bad=0/\Gh (zC l ed).ls r
def zD:LS->List Ed->List Int
 | _,[]=>[]
 | l,ed::r=>(if ed.kind=3 then [(zC l ed).id] else [])++zD (zC l ed).ls r
def jgY:Nat->LS->List Ed->Int×Nat
 | _,_,[]=>(-9,0)
 | k,l,ed::r=>if (zC l ed).bad=0 then jgY (k+1) (zC l ed).ls r else ((k:Nat),(zC l ed).bad)
def doB(l:LS)(eds:List Ed):Int×Nat:=if (vS eds).2=0 then jgY 0 l eds else vS eds
theorem Yu:∀(l:LS) (a b:List Ed),ym l (a++b)=ym (ym l a) b
 | _,[],_=>rfl
 | l,ed::r,b=>Yu (zC l ed).ls r b
theorem Ym:∀(l:LS) (a b:List Ed),Gh l (a++b)↔Gh l a/\Gh (ym l a) b
 | _,[],_=>by simp[Gh,ym]
 | l,ed::r,b=>by
  show((zC l ed).bad=0/\Gh (zC l ed).ls (r++b))↔((zC l ed).bad=0/\Gh (zC l ed).ls r)/\Gh (ym (zC l ed).ls r) b
  rw[Ym,and_assoc]
theorem QP:∀(l:LS) (a b:List Ed),zD l (a++b)=zD l a++zD (ym l a) b
 | _,[],_=>rfl
 | l,ed::r,b=>by
  show _++zD (zC l ed).ls (r++b)=(_++zD (zC l ed).ls r)++zD (ym (zC l ed).ls r) b
  rw[QP,jnx]
theorem JR:∀(q:Nat) (l:LS) (a b:List Ed),Gh l a->jgY q l (a++b)=jgY (q+a.length) (ym l a) b
 | q,l,[],b,_=>rfl
 | q,l,ed::r,b,h=>by
  have ih:=JR (q+1) (zC l ed).ls r b h.2
  show(if (zC l ed).bad=0 then jgY (q+1) (zC l ed).ls (r++b) else _)=jgY (q+(r.length+1)) (ym (zC l ed).ls r) b
  rw[if_pos h.1,ih,show q+1+r.length=q+(r.length+1) by omega]
theorem jkP:∀(q:Nat) (l:LS) (a:List Ed),Gh l a->jgY q l a=(-9,0):=fun q l a h=>by
 have:=JR q l a [] h
 rw[jnR]at this
 rw[this];rfl
theorem ye{eds:List Ed}{k:Nat}{ed:Ed}(h:eds[k]?=some ed):eds.take (k+1)=eds.take k++[ed]:=by rw[jnW,h];rfl
theorem jg8{eds:List Ed}{k:Nat}{ed:Ed}(h:eds[k]?=some ed):eds=eds.take k++ed::eds.drop (k+1):=by
 obtain⟨hk,e⟩:=List.getElem?_eq_some_iff.1 h
 conv=>lhs;rw[<- jnQ k eds]
 rw[<- e]
 congr 1
 exact jot hk
theorem jg9{eds:List Ed}{k:Nat}{ed:Ed}(h:eds[k]?=some ed):(eds.take k).length=k:=by
 have:=(List.getElem?_eq_some_iff.1 h).1
 rw[jnk];omega
theorem jfj{l:LS}{eds:List Ed}{k:Nat}{ed:Ed}(h:eds[k]?=some ed):ym l (eds.take (k+1))=(zC (ym l (eds.take k)) ed).ls:=by rw[ye h,Yu];rfl
theorem je9{l:LS}{eds:List Ed}{k:Nat}{ed:Ed}(h:eds[k]?=some ed)(ho:Gh l (eds.take k))(h0:(zC (ym l (eds.take k)) ed).bad=0):Gh l (eds.take (k+1)):=by
 rw[ye h,Ym];exact⟨ho,h0,trivial⟩
theorem jdx{l:LS}{eds:List Ed}{k:Nat}{ed:Ed}(h:eds[k]?=some ed):zD l (eds.take (k+1))=zD l (eds.take k)++(if ed.kind=3 then [(zC (ym l (eds.take k)) ed).id] else []):=by
 rw[ye h,QP]
 show _++((if ed.kind=3 then _ else _)++[])=_
 rw[jnR]
theorem jkQ{l:LS}{eds:List Ed}{k:Nat}{ed:Ed}(h:eds[k]?=some ed)(ho:Gh l (eds.take k))(h0:(zC (ym l (eds.take k)) ed).bad≠0):jgY 0 l eds=(((k:Nat):Int),(zC (ym l (eds.take k)) ed).bad):=by
 have e:=jg8 h
 have:jgY 0 l (eds.take k++ed::eds.drop (k+1))=(((k:Nat):Int),(zC (ym l (eds.take k)) ed).bad):=by
  rw[JR 0 l _ _ ho,jg9 h]
  show(if _ then _ else _)=_
  rw[if_neg h0,jnX]
 rw[<- e]at this
 exact this
theorem jfG(l:LS):∀(eds:List Ed),(zD l eds).length<=eds.length:=by
 intro eds
 induction eds generalizing l with
 | nil=>exact jnd _
 | cons ed r ih =>
 have:=ih (zC l ed).ls
 show((if ed.kind=3 then [(zC l ed).id] else [])++zD (zC l ed).ls r).length<=r.length+1
 rw[jnf]
 split
 ·simp only[jni,jnG];omega
 simp only[jnG];omega
theorem jjG(l:LS)(ed:Ed):(zC l ed).bad<=11:=by
 unfold zC xU
 split
 ·unfold qo
  split
  ·show(7:Nat)<=11;decide
  split
  ·exact jnt _
  exact WW _
 split
 ·unfold vm
  split
  ·show(7:Nat)<=11;decide
  exact jnt _
 unfold qT
 split
 ·show(7:Nat)<=11;decide
 split
 ·split
  ·show(11:Nat)<=11;decide
  exact jnt _
 exact WW _
section
open Go.Extern.Stop Go.Stop Go.Extern
theorem Ul(t:Addr)(w:World):(ReflectliteValue.unpack (.iface 243 (.pointer (some t)))).run prog w
  = .ok (.agg #[.pointer (some ⟨9,243,none⟩),.pointer (some ⟨w.heap.size,0,none⟩),.int .u64 150]) (w.alloc (.cells #[.pointer (some t)] 243)):=by kernel_rfl
theorem ji2(a:Addr)(w:World):(ReflectliteValue.methodAny (ReflectliteValue.valueError "reflectlite.Value.Type" 0) (fun t _ _ _=>ReflectliteType.toType t) #[.agg #[.pointer (some ⟨9,243,none⟩),.pointer (some a),.int .u64 150]]).run prog w
  = .ok (.iface 193 (.agg #[.pointer (some ⟨9,243,none⟩)])) w:=by kernel_rfl
theorem Kb(h:Value)(w:World):(Go.method 503 193 (.agg #[h]) "Kind").run prog w=.ok (314,h) w:=by kernel_rfl
theorem jjb(w:World):((ReflectliteType.abiMethod fun t=>(fun a:Nat=>Value.int IntKind.u8 (a:Int)) <$> Rtype.kind t) #[.pointer (some ⟨9,243,none⟩)]).run prog w=.ok (.int .u8 22) w:=by kernel_rfl
theorem jlK(w:World):((ReflectliteType.abiMethod fun t=>(fun a:Nat=>Value.int IntKind.u8 (a:Int)) <$> Rtype.kind t) #[.pointer (some ⟨9,133,none⟩)]).run prog w=.ok (.int .u8 22) w:=by kernel_rfl
theorem jmS(z:Sem Value)(f:TypeId->Addr->Nat->Nat->Sem Value)(v:Value):
  ReflectliteValue.method z f #[v]=(do match <- ReflectliteValue.parts v with | none=>z | some (t,a,fl)=>f t a fl (fl % 32)):=rfl
theorem je3(a:Addr)(w:World):(ReflectliteValue.parts (.agg #[.pointer (some ⟨9,243,none⟩),.pointer (some a),.int .u64 150])).run prog w=.ok (some (243,a,150)) w:=by kernel_rfl
theorem jfz(a p:Addr)(W:World)(ha:W.cell? a=some (.pointer (some p))):
  (ReflectliteValue.method (ReflectliteValue.valueError "reflectlite.Value.IsNil" 0) ReflectliteValue.isNil #[.agg #[.pointer (some ⟨9,243,none⟩),.pointer (some a),.int .u64 150]]).run prog W=.ok (.bool false) W:=by
 rw[jmS]
 simp only[joL,je3,Result.andThen]
 simp[ReflectliteValue.isNil,loadVar,isAgg,underlying,underlying243,ha,Result.andThen]
theorem Kc(h:Value)(w:World):(Go.method 503 193 (.agg #[h]) "Elem").run prog w=.ok (325,.agg #[h]) w:=by kernel_rfl
theorem xn(h:Value)(w:World):(Go.method 503 193 (.agg #[h]) "Implements").run prog w=.ok (326,.agg #[h]) w:=by kernel_rfl
theorem yo(h:Value)(w:World):(Go.method 503 193 (.agg #[h]) "AssignableTo").run prog w=.ok (323,.agg #[h]) w:=by kernel_rfl
theorem jjh(w:World):(ReflectliteType.method ReflectliteType.elem #[.agg #[.pointer (some ⟨9,243,none⟩)]]).run prog w=.ok (.iface 193 (.agg #[.pointer (some ⟨9,133,none⟩)])) w:=by kernel_rfl
theorem YG(w:World):(ReflectliteType.relation "Implements" ReflectliteType.implements_ #[.agg #[.pointer (some ⟨9,133,none⟩)],.iface 193 (.agg #[.pointer (some ⟨9,35,none⟩)])]).run prog w=.ok (.bool true) w:=by kernel_rfl
theorem jjt(v:Value)(w:World):(ReflectliteType.typeOf #[.iface 133 v]).run prog w=.ok (.iface 193 (.agg #[.pointer (some ⟨9,133,none⟩)])) w:=by kernel_rfl
theorem jju(v:Value)(w:World):(ReflectliteType.typeOf #[.iface 46 v]).run prog w=.ok (.iface 193 (.agg #[.pointer (some ⟨9,46,none⟩)])) w:=by kernel_rfl
theorem jbs(w:World):(ReflectliteType.relation "AssignableTo" ReflectliteType.assignableTo #[.agg #[.pointer (some ⟨9,133,none⟩)],.iface 193 (.agg #[.pointer (some ⟨9,133,none⟩)])]).run prog w=.ok (.bool true) w:=by kernel_rfl
theorem jbt(w:World):(ReflectliteType.relation "AssignableTo" ReflectliteType.assignableTo #[.agg #[.pointer (some ⟨9,46,none⟩)],.iface 193 (.agg #[.pointer (some ⟨9,133,none⟩)])]).run prog w=.ok (.bool false) w:=by kernel_rfl
theorem jg4(e:Addr)(w:World):(ReflectliteValue.unpack (.iface 133 (.pointer (some e)))).run prog w
  = .ok (.agg #[.pointer (some ⟨9,133,none⟩),.pointer (some ⟨w.heap.size,0,none⟩),.int .u64 150]) (w.alloc (.cells #[.pointer (some e)] 133)):=by kernel_rfl
theorem jiy(w:World):(Rtype.elem? 243).run prog w=.ok (some 133) w:=by kernel_rfl
theorem mkP(p:Addr)(w:World):(ReflectliteValue.mk 133 p ReflectliteValue.flagAddr).run prog w=.ok (.agg #[.pointer (some ⟨9,133,none⟩),.pointer (some p),.int .u64 406]) w:=by kernel_rfl
theorem jkL(a p:Addr)(W:World)(ha:W.cell? a=some (.pointer (some p))):
  (ReflectliteValue.method (ReflectliteValue.valueError "reflectlite.Value.Elem" 0) ReflectliteValue.elem #[.agg #[.pointer (some ⟨9,243,none⟩),.pointer (some a),.int .u64 150]]).run prog W
   = .ok (.agg #[.pointer (some ⟨9,133,none⟩),.pointer (some p),.int .u64 406]) W:=by
 rw[jmS]
 simp only[joL,je3,Result.andThen]
 simp[ReflectliteValue.elem,loadVar,isAgg,underlying,underlying243,ha,Result.andThen,jiy,mkP]
theorem jm1(v x:Value):ReflectliteValue.set #[v,x]=(do
  let (some (dst,a,fl),some (src,b,_)):=(<- ReflectliteValue.parts v,<- ReflectliteValue.parts x)
   | unsupported (.noEntry "extern/(internal/reflectlite.Value).Set.zeroValue")
  if fl / ReflectliteValue.flagAddr % 2==0 then unsupported (.noEntry "extern/(internal/reflectlite.Value).Set.unaddressable")
  let val <- loadVar src b
  if <- Rtype.directlyAssignable dst src then storeVar dst a val
  else if <- Rtype.implements dst src then
   if (<- Rtype.kind src)==20 then
    match val with
    | .nilIface=>unsupported (.noEntry "extern/reflectlite: a nil value of one interface type handed on as a value of another")
    | _=>storeVar dst a val
   else storeVar dst a (.iface src val)
  else panicString ("reflectlite.Set: value of type " ++ (<- Rtype.spelt src) ++ " is not assignable to type " ++ (<- Rtype.spelt dst))
  pure (.tuple #[])):=rfl
theorem jjX(a:Addr)(w:World):(ReflectliteValue.parts (.agg #[.pointer (some ⟨9,133,none⟩),.pointer (some a),.int .u64 406])).run prog w=.ok (some (133,a,406)) w:=by kernel_rfl
theorem jlB(a:Addr)(w:World):(ReflectliteValue.parts (.agg #[.pointer (some ⟨9,133,none⟩),.pointer (some a),.int .u64 150])).run prog w=.ok (some (133,a,150)) w:=by kernel_rfl
theorem jkS(w:World):(Rtype.directlyAssignable 133 133).run prog w=.ok true w:=by kernel_rfl
theorem jmZ(ta b e:Addr)(old:Value)(W:World)(hb:W.cell? b=some (.pointer (some e)))(ht:W.cell? ta=some old)(hf:W.frozen? ta=false):
  (ReflectliteValue.set #[.agg #[.pointer (some ⟨9,133,none⟩),.pointer (some ta),.int .u64 406],.agg #[.pointer (some ⟨9,133,none⟩),.pointer (some b),.int .u64 150]]).run prog W
   = .ok (.tuple #[]) (W.setCell ta (.pointer (some e))):=by
 rw[jm1]
 simp only[joL,jjX,jlB,Result.andThen]
 simp[ReflectliteValue.flagAddr,loadVar,isAgg,underlying,underlying133,hb,Result.andThen,jkS,storeVar,Value.cells,storeCells,Addr.add]
 rw[run_store prog W ta _ _ (by rfl)]
 simp[ht,hf]
def ErrT(w:World):Prop:=w.cell? ⟨0,0,none⟩=some (.iface 193 (.agg #[.pointer (some ⟨9,35,none⟩)]))
abbrev hP:Value:=.pointer (some ⟨9,133,none⟩)
theorem jiX(e t a:Addr)(old:Value)(w:World)(ha:w.cell? a=some (.pointer (some t)))(ht0:w.cell? t=some old)(hf0:w.frozen? t=false):
  Calls prog 215 #[.iface 133 (.pointer (some e)),.iface 243 (.pointer (some t)),.agg #[.pointer (some ⟨9,243,none⟩),.pointer (some a),.int .u64 150],.iface 193 (.agg #[.pointer (some ⟨9,133,none⟩)])] w
   fun ev w'=>ev=.returned (.bool true)/\w'=((w.alloc (.cells #[.pointer (some ⟨9,243,none⟩),.pointer (some a),.int .u64 150] 287)).alloc (.cells #[.pointer (some e)] 133)).setCell t (.pointer (some e)):=by
 have h10:=@run_callFunc_extern prog 90 _ ReflectliteType.typeOf func90 (by kernel_rfl) (by kernel_rfl) (by kernel_rfl) (by kernel_rfl)
 have h35:=@run_callFunc_extern prog 323 _ (ReflectliteType.relation "AssignableTo" ReflectliteType.assignableTo) func323 (by kernel_rfl) (by kernel_rfl) (by kernel_rfl) (by kernel_rfl)
 have h6:=@run_callFunc_extern prog 212 _ (fun args=>ReflectliteValue.unpack (args.getD 0 (.tuple #[]))) func212 (by kernel_rfl) (by kernel_rfl) (by kernel_rfl) (by kernel_rfl)
 have h11:=@run_callFunc_extern prog 257 _ (ReflectliteValue.method (ReflectliteValue.valueError "reflectlite.Value.Elem" 0) ReflectliteValue.elem) func257 (by kernel_rfl) (by kernel_rfl) (by kernel_rfl) (by kernel_rfl)
 have h12:=@run_callFunc_extern prog 258 _ ReflectliteValue.set func258 (by kernel_rfl) (by kernel_rfl) (by kernel_rfl) (by kernel_rfl)
 have tO:=jjt
 have mA:=yo
 have a25:=jbs
 have v25:=jg4
 have htl:t.block<w.heap.size:=by
  rcases jnK t.block w.heap.size with h|h
  ·exact h
  simp[World.cell?,Array.getElem?_eq_none h]at ht0
 have hal:a.block<w.heap.size:=by
  rcases jnK a.block w.heap.size with h|h
  ·exact h
  simp[World.cell?,Array.getElem?_eq_none h]at ha
 have el:=jkL a t (w.alloc (.cells #[.pointer (some ⟨9,243,none⟩),.pointer (some a),.int .u64 150] 287)) (by rw[jpG _ _ a hal];exact ha)
 have st:=jmZ t ⟨w.heap.size+1,0,none⟩ e old ((w.alloc (.cells #[.pointer (some ⟨9,243,none⟩),.pointer (some a),.int .u64 150] 287)).alloc (.cells #[.pointer (some e)] 133))
  (by rw[joF _ _ _ _ (by simp)];rfl)
  (by rw[jpG _ _ t (by simp;omega),jpG _ _ t htl];exact ht0)
  (by rw[World.frozen?_alloc_old _ _ t (by simp;omega),World.frozen?_alloc_old _ _ t (jpE htl)];exact hf0)
 go_enter func215,ntmps215
 go_wp2
 refine wp_loop_rounds 1 ?_
 rw[rounds_succ]
 go_wp2
 go_ret
 exact⟨rfl,rfl⟩
theorem jmu(v:Value)(xT:TypeId)(w:World):(Instr.typeAssert (.iface 46 v) xT 335 true).run prog w=.ok (.tuple #[.nilIface,.bool false]) w:=run_typeAssert_lacksB underlying335 (by kernel_rfl) (by kernel_rfl) v xT w
theorem jmt(v:Value)(xT:TypeId)(w:World):(Instr.typeAssert (.iface 46 v) xT 198 true).run prog w=.ok (.tuple #[.nilIface,.bool false]) w:=run_typeAssert_lacksB underlying198 (by kernel_rfl) (by kernel_rfl) v xT w
theorem jlE(v:Value)(xT:TypeId)(w:World):(Instr.typeAssert (.iface 46 v) xT 199 true).run prog w=.ok (.tuple #[.nilIface,.bool false]) w:=run_typeAssert_lacksB underlying199 (by kernel_rfl) (by kernel_rfl) v xT w
theorem jgE(n:Int)(t a:Addr)(w:World):
  Calls prog 215 #[.iface 46 (.int .i64 n),.iface 243 (.pointer (some t)),.agg #[.pointer (some ⟨9,243,none⟩),.pointer (some a),.int .u64 150],.iface 193 (.agg #[.pointer (some ⟨9,133,none⟩)])] w
   fun ev w'=>ev=.returned (.bool false)/\Below w.heap.size w w':=by
 have h10:=@run_callFunc_extern prog 90 _ ReflectliteType.typeOf func90 (by kernel_rfl) (by kernel_rfl) (by kernel_rfl) (by kernel_rfl)
 have h35:=@run_callFunc_extern prog 323 _ (ReflectliteType.relation "AssignableTo" ReflectliteType.assignableTo) func323 (by kernel_rfl) (by kernel_rfl) (by kernel_rfl) (by kernel_rfl)
 have tO:=jju
 have mA:=yo
 have a25:=jbt
 have n1:=jmu
 have n2:=jmt
 have n3:=jlE
 go_enter func215,ntmps215
 go_wp2
 refine wp_loop_rounds 1 ?_
 rw[rounds_succ]
 go_wp2
 go_ret
 exact⟨rfl,(jne _ _).alloc (jnd _) _⟩
theorem ErrT.below{w w':World}{N:Nat}(h:ErrT w)(hb:Below N w w')(hN:w.heap.size<=N):ErrT w':=by
 have hlt:0<w.heap.size:=World.block_lt_of_cell? w _ h
 exact(hb.cell (p:=⟨0,0,none⟩) (jnw hlt hN)).trans h
theorem jl9(e t:Addr)(old:Value)(w:World)(hg:ErrT w)(ht0:w.cell? t=some old)(hf0:w.frozen? t=false):
  Calls prog 160 #[.iface 133 (.pointer (some e)),.iface 243 (.pointer (some t))] w
   fun ev w'=>ev=.returned (.bool true)/\∃w1,Below w.heap.size w w1/\w'=w1.setCell t (.pointer (some e)):=by
 have h6:=@run_callFunc_extern prog 212 _ (fun args=>ReflectliteValue.unpack (args.getD 0 (.tuple #[]))) func212 (by kernel_rfl) (by kernel_rfl) (by kernel_rfl) (by kernel_rfl)
 have h7:=@run_callFunc_extern prog 213 _ (ReflectliteValue.methodAny (ReflectliteValue.valueError "reflectlite.Value.Type" 0) (fun t _ _ _=>ReflectliteType.toType t)) func213 (by kernel_rfl) (by kernel_rfl) (by kernel_rfl) (by kernel_rfl)
 have h8:=@run_callFunc_extern prog 214 _ (ReflectliteValue.method (ReflectliteValue.valueError "reflectlite.Value.IsNil" 0) ReflectliteValue.isNil) func214 (by kernel_rfl) (by kernel_rfl) (by kernel_rfl) (by kernel_rfl)
 have h27:=@run_callFunc_extern prog 314 _ (ReflectliteType.abiMethod fun t=>do pure (.int .u8 (<- Rtype.kind t))) func314 (by kernel_rfl) (by kernel_rfl) (by kernel_rfl) (by kernel_rfl)
 have h37:=@run_callFunc_extern prog 325 _ (ReflectliteType.method ReflectliteType.elem) func325 (by kernel_rfl) (by kernel_rfl) (by kernel_rfl) (by kernel_rfl)
 have h38:=@run_callFunc_extern prog 326 _ (ReflectliteType.relation "Implements" ReflectliteType.implements_) func326 (by kernel_rfl) (by kernel_rfl) (by kernel_rfl) (by kernel_rfl)
 have f6:=Ul
 have f7:=ji2
 have mK:=Kb
 have mE:=Kc
 have mI:=xn
 have k27:=jjb
 have k25:=jlK
 have e27:=jjh
 have i25:=YG
 have htl:t.block<w.heap.size:=by
  rcases jnK t.block w.heap.size with h|h
  ·exact h
  simp[World.cell?,Array.getElem?_eq_none h]at ht0
 obtain⟨wa,hwa⟩:∃wa,wa=(w.alloc (.cells #[.pointer (some t)] 243)).alloc (.cells #[.pointer (some ⟨9,243,none⟩),.pointer (some ⟨w.heap.size,0,none⟩),.int .u64 150] 287):=⟨_,rfl⟩
 have hba:Below w.heap.size w wa:=by rw[hwa];exact((jne _ w).alloc (jnd _) _).alloc (by simp) _
 have n8:=jfz ⟨w.heap.size,0,none⟩ t wa (by rw[hwa];simp)
 have hg2:wa.cell? ⟨0,0,none⟩=some (.iface 193 (.agg #[.pointer (some ⟨9,35,none⟩)])):=hg.below hba (jnd _)
 have HI:=jnc (jiX e t ⟨w.heap.size,0,none⟩ old wa (by rw[hwa];simp) ((hba.cell htl).trans ht0) ((hba.frozen htl).trans hf0))
 have HB:=jnc hba
 subst hwa
 clear hba
 go_enter func160,ntmps160
 go_wp2_with fail
 refine HI.out.mono ?_
 rintro ev w2 ⟨rfl,rfl⟩
 go_wp2_with fail
 go_ret
 exact⟨rfl,_,(HB.out.alloc HB.out.size _).alloc (HB.out.alloc HB.out.size _).size _,rfl⟩
theorem jk4(n:Int)(t:Addr)(w:World)(hg:ErrT w):
  Calls prog 160 #[.iface 46 (.int .i64 n),.iface 243 (.pointer (some t))] w
   fun ev w'=>ev=.returned (.bool false)/\Below w.heap.size w w':=by
 have h6:=@run_callFunc_extern prog 212 _ (fun args=>ReflectliteValue.unpack (args.getD 0 (.tuple #[]))) func212 (by kernel_rfl) (by kernel_rfl) (by kernel_rfl) (by kernel_rfl)
 have h7:=@run_callFunc_extern prog 213 _ (ReflectliteValue.methodAny (ReflectliteValue.valueError "reflectlite.Value.Type" 0) (fun t _ _ _=>ReflectliteType.toType t)) func213 (by kernel_rfl) (by kernel_rfl) (by kernel_rfl) (by kernel_rfl)
 have h8:=@run_callFunc_extern prog 214 _ (ReflectliteValue.method (ReflectliteValue.valueError "reflectlite.Value.IsNil" 0) ReflectliteValue.isNil) func214 (by kernel_rfl) (by kernel_rfl) (by kernel_rfl) (by kernel_rfl)
 have h27:=@run_callFunc_extern prog 314 _ (ReflectliteType.abiMethod fun t=>do pure (.int .u8 (<- Rtype.kind t))) func314 (by kernel_rfl) (by kernel_rfl) (by kernel_rfl) (by kernel_rfl)
 have h37:=@run_callFunc_extern prog 325 _ (ReflectliteType.method ReflectliteType.elem) func325 (by kernel_rfl) (by kernel_rfl) (by kernel_rfl) (by kernel_rfl)
 have h38:=@run_callFunc_extern prog 326 _ (ReflectliteType.relation "Implements" ReflectliteType.implements_) func326 (by kernel_rfl) (by kernel_rfl) (by kernel_rfl) (by kernel_rfl)
 have f6:=Ul
 have f7:=ji2
 have mK:=Kb
 have mE:=Kc
 have mI:=xn
 have k27:=jjb
 have k25:=jlK
 have e27:=jjh
 have i25:=YG
 obtain⟨wa,hwa⟩:∃wa,wa=(w.alloc (.cells #[.pointer (some t)] 243)).alloc (.cells #[.pointer (some ⟨9,243,none⟩),.pointer (some ⟨w.heap.size,0,none⟩),.int .u64 150] 287):=⟨_,rfl⟩
 have hba:Below w.heap.size w wa:=by rw[hwa];exact((jne _ w).alloc (jnd _) _).alloc (by simp) _
 have n8:=jfz ⟨w.heap.size,0,none⟩ t wa (by rw[hwa];simp)
 have hg2:wa.cell? ⟨0,0,none⟩=some (.iface 193 (.agg #[.pointer (some ⟨9,35,none⟩)])):=hg.below hba (jnd _)
 have HI:=jnc (jgE n t ⟨w.heap.size,0,none⟩ wa)
 have HB:=jnc hba
 subst hwa
 clear hba
 go_enter func160,ntmps160
 go_wp2_with fail
 refine HI.out.mono ?_
 rintro ev w2 ⟨rfl,b2⟩
 go_wp2_with fail
 go_ret
 exact⟨rfl,HB.out.trans (b2.mono HB.out.size)⟩
end
section
attribute [local go_sem] jnn
def EdV(w:World)(v:Value)(eds:List Ed):Prop :=
 ∃A cap,v=.slice A eds.length cap/\eds.length<=cap/\∀(i:Nat) (ed:Ed),eds[i]?=some ed->∃b off fv,A=some ⟨b,off,none⟩/\b<w.heap.size/\w.cell? ⟨b,off+i*3,none⟩=some (.int .i64 ed.kind)/\w.cell? ⟨b,off+i*3+1,none⟩=some (.int .i64 ed.id)/\w.cell? ⟨b,off+i*3+1+1,none⟩=some fv/\ZK w fv ed.fields
theorem EdV.below{w w':World}{v:Value}{eds:List Ed}{N:Nat}(h:EdV w v eds)(hb:Below N w w')(hN:w.heap.size<=N):EdV w' v eds:=by
 obtain⟨A,cap,e,hle,hc⟩:=h
 refine⟨A,cap,e,hle,fun i ed hi => ?_⟩
 obtain⟨b,off,fv,e1,hbb,c0,c1,c2,hf⟩:=hc i ed hi
 have hbN:b<N:=by omega
 exact⟨b,off,fv,e1,jnw hbb hb.size,(hb.cell (p:=⟨b,off+i*3,none⟩) hbN).trans c0,(hb.cell (p:=⟨b,off+i*3+1,none⟩) hbN).trans c1,(hb.cell (p:=⟨b,off+i*3+1+1,none⟩) hbN).trans c2,hf.below hb hN⟩
def Xk(eds:List Ed):Prop:=∀ed∈eds,jgQ ed.fields
structure jk9(fs:List Fld):Prop where
 len:fs.length<=1000000
 each:∀f∈fs,f.1.length<=100000/\f.2.length<=100000
def jaD(eds:List Ed):Prop:=∀ed∈eds,jk9 ed.fields
theorem Xk.eight{eds:List Ed}(h:Xk eds):jaD eds:=fun ed hm=>⟨by have:=(h ed hm).len;omega,(h ed hm).each⟩
theorem vV.mono{lo lo':Nat}{w:World}{u:Value}{a:Int}{n:Nat}(h:vV lo w u a n)(hl:lo'<=lo):vV lo' w u a n:=by
 obtain⟨h1,h2⟩:=h
 refine⟨h1,?_⟩
 rcases h2 with h2|⟨k,h3,h4⟩
 ·exact .inl h2
 exact .inr ⟨k,h3.mono hl,h4⟩
theorem vV.fault{lo:Nat}{w:World}{u:Value}{k n:Nat}(h:jr lo w u k n)(hn:n≠0)(h11:n<=11):vV lo w u (k:Nat) n:=⟨h11,.inr ⟨k,h,rfl,hn⟩⟩
theorem GR{lo:Nat}(k n:Nat)(a:Int)(u:Value)(w:World)(h:vV lo w u a n)(hn:n≠0)(hg:ErrT w):
  Calls prog 117 #[.int .i64 (k:Nat),u] w fun e w'=>∃u',e=.returned u'/\Below w.heap.size w w'/\jr w.heap.size w' u' k n:=by
 obtain⟨_,h⟩:=h
 obtain⟨wa,hwa⟩:∃wa,wa=w.alloc (.cells #[.pointer none] 133):=⟨_,rfl⟩
 have hba:Below w.heap.size w wa:=by rw[hwa];exact(jne _ w).alloc (jnd _) _
 have hga:ErrT wa:=hg.below hba (jnd _)
 have ht:wa.cell? ⟨w.heap.size,0,none⟩=some (.pointer none):=by rw[hwa];simp
 have hf:wa.frozen? ⟨w.heap.size,0,none⟩=false:=by rw[hwa];simp
 have hz:wa.heap.size=w.heap.size+1:=by rw[hwa];simp
 rcases h with ⟨rfl,_⟩|⟨k',⟨q,_,rfl,hq⟩,_,_⟩
 ·rw[ze n (by omega)]
  have HM:=jnc (jk4 (n:Int) ⟨w.heap.size,0,none⟩ wa hga)
  have HBA:=jnc hba
  have FIN:Hid (∀W,Below wa.heap.size wa W->jr w.heap.size (W.alloc (.cells #[.int .i64 (k:Nat),.iface 46 (.int .i64 (n:Nat))] 135)) (.iface 133 (.pointer (some ⟨W.heap.size,0,none⟩))) k n):=by
   intro W hW
   rw[<- ze n (by omega)]
   exact jr.new W k n _ _ rfl (by have:=hW.size;omega)
  clear hba hga ht hf
  subst hwa
  go_enter func117,ntmps117
  go_wp2_with fail
  refine HM.out.mono ?_
  rintro e w2 ⟨rfl,b2⟩
  have F2:=FIN.out w2 b2
  have B2:Below w.heap.size w w2:=HBA.out.trans (b2.mono HBA.out.size)
  go_wp2_with fail
  go_ret
  exact⟨_,rfl,B2.alloc B2.size _,F2⟩
 have hql:=hq.lt
 have HM:=jnc (jl9 ⟨q,0,none⟩ ⟨w.heap.size,0,none⟩ (.pointer none) wa hga ht hf)
 have HBA:=jnc hba
 have HQ:Hid (∀w1,Below wa.heap.size wa w1->(w1.setCell ⟨w.heap.size,0,none⟩ (.pointer (some ⟨q,0,none⟩))).cell? ⟨w.heap.size,0,none⟩=some (.pointer (some ⟨q,0,none⟩))/\(w1.setCell ⟨w.heap.size,0,none⟩ (.pointer (some ⟨q,0,none⟩))).cell? ⟨q,1,none⟩=some (.iface 46 (.int .i64 (n:Nat)))/\Below w.heap.size w (w1.setCell ⟨w.heap.size,0,none⟩ (.pointer (some ⟨q,0,none⟩)))):=by
  intro w1 b1
  have hb:Below w.heap.size w w1:=hba.trans (b1.mono hba.size)
  have c1:ja w1 w.heap.size 133 #[.pointer none]:=je (by rw[hwa];exact ja.new _ _ _) b1 (by omega)
  have c1':=c1.set 0 (.pointer (some ⟨q,0,none⟩))
  have cq:ja w1 q 135 #[.int .i64 k',qm n]:=je hq hb hql
  have cq':ja (w1.setCell ⟨w.heap.size,0,none⟩ (.pointer (some ⟨q,0,none⟩))) q 135 #[.int .i64 k',qm n]:=cq.other (p:=⟨w.heap.size,0,none⟩) (by show q≠w.heap.size;omega) _
  refine⟨?_,?_,hb.setCell (p:=⟨w.heap.size,0,none⟩) (jnd _) _⟩
  ·rw[c1'.cell 0];rfl
  rw[<- ze n (by omega),cq'.cell 1];rfl
 have FIN:Hid (∀W:World,w.heap.size<=W.heap.size->jr w.heap.size (W.alloc (.cells #[.int .i64 (k:Nat),.iface 46 (.int .i64 (n:Nat))] 135)) (.iface 133 (.pointer (some ⟨W.heap.size,0,none⟩))) k n):=by
  intro W hW
  rw[<- ze n (by omega)]
  exact jr.new W k n _ _ rfl hW
 clear hba hga ht hf hq
 subst hwa
 go_enter func117,ntmps117
 go_wp2_with fail
 refine HM.out.mono ?_
 rintro e w2 ⟨rfl,w1,b1,hw2⟩
 obtain⟨c1,c2,hb⟩:=HQ.out w1 b1
 rw[<- hw2]at c1 c2 hb
 have F2:=FIN.out w2 hb.size
 clear hw2 HQ b1 HM
 go_wp2_with fail
 go_ret
 exact⟨_,rfl,hb.alloc hb.size _,F2⟩
theorem jgo(ed:Ed)(fv:Value)(w:World)(h:Xj w fv ed.fields)(hf:jk9 ed.fields):
  Calls prog 155 #[.agg #[.int .i64 ed.kind,.int .i64 ed.id,fv]] w fun e w'=>∃u a,e=.returned u/\Below w.heap.size w w'/\vV w.heap.size w' u a (qr ed):=by
 obtain⟨fa,fc,rfl,_,_⟩:=_root_.id h
 obtain⟨wa,hwa⟩:∃wa,wa=w.alloc (.cells #[.int .i64 ed.kind,.int .i64 ed.id,.slice fa ed.fields.length fc] 63):=⟨_,rfl⟩
 have hba:Below w.heap.size w wa:=by rw[hwa];exact(jne _ w).alloc (jnd _) _
 have HC:=jnc (jgn ed.fields (.slice fa ed.fields.length fc) wa (h.below hba (jnd _)) (by have:=hf.len;omega) (fun f hm=>by have:=hf.each f hm;omega))
 have HB:=jnc hba
 have GE:=jnc (show qr ed=if ed.kind=1\/ed.kind=3 then vG ed.fields else if ed.kind=2/\ed.fields.length=0 then 0 else 2 from rfl)
 have FIN:Hid (∀W u,vV wa.heap.size W u (YW ed.fields) (vG ed.fields)->qr ed=vG ed.fields->∃a,vV w.heap.size W u a (qr ed)):=by
  intro W u hz hg
  rw[hg]
  exact⟨_,hz.mono hba.size⟩
 have HZ:Hid (∀W u,Jb wa.heap.size W u ed.fields->vV wa.heap.size W u (YW ed.fields) (vG ed.fields)):=fun W u h=>vV.of h
 have E0:Hid (∀W,qr ed=0->vV w.heap.size W .nilIface (-9) (qr ed)):=fun W h=>by rw[h];exact vV.none _ _
 have E2:Hid (∀W,qr ed=2->vV w.heap.size W (.iface 46 (.int .i64 2)) (-9) (qr ed)):=fun W h=>by rw[h];exact vV.err _ _ 2 (by decide)
 have hlz:((ed.fields.length:Int)==0)=decide (ed.fields.length=0):=by
  rw[jod];simp
 clear hba h
 subst hwa
 generalize hgg:qr ed=ge at *
 generalize vG ed.fields=cn at *
 generalize YW ed.fields=ca at *
 generalize ed.fields.length=fl at *
 generalize ed.kind=kk at *
 generalize ed.id=ii at *
 clear hgg
 by_cases h1:kk=1
 ·subst h1
  have hg:ge=cn:=by rw[GE.out,if_pos (.inl rfl)]
  go_enter func155,ntmps155
  go_wp2_with fail
  refine HC.out.mono ?_
  rintro e w2 ⟨u,rfl,b2,hu⟩
  obtain⟨a,F2⟩:=FIN.out w2 u (HZ.out w2 u hu) hg
  go_wp2_with fail
  go_ret
  first | exact⟨_,rfl,HB.out.trans (b2.mono HB.out.size),a,F2⟩ | exact⟨_,a,rfl,HB.out.trans (b2.mono HB.out.size),F2⟩
 by_cases h3:kk=3
 ·subst h3
  have hg:ge=cn:=by rw[GE.out,if_pos (.inr rfl)]
  go_enter func155,ntmps155
  go_wp2_with fail
  refine HC.out.mono ?_
  rintro e w2 ⟨u,rfl,b2,hu⟩
  obtain⟨a,F2⟩:=FIN.out w2 u (HZ.out w2 u hu) hg
  go_wp2_with fail
  go_ret
  first | exact⟨_,rfl,HB.out.trans (b2.mono HB.out.size),a,F2⟩ | exact⟨_,a,rfl,HB.out.trans (b2.mono HB.out.size),F2⟩
 have q1:(kk==1)=false:=by simpa using h1
 have q3:(kk==3)=false:=by simpa using h3
 by_cases h2:kk=2
 ·subst h2
  by_cases h0:fl=0
  ·have hg:ge=0:=by rw[GE.out,if_neg (by omega),if_pos ⟨rfl,h0⟩]
   have F:=E0.out (w.alloc (.cells #[.int .i64 2,.int .i64 ii,.slice fa fl fc] 63)) hg
   clear hg GE E0 E2 FIN HZ
   subst h0
   go_enter func155,ntmps155
   go_wp2_with fail
   go_ret
   first | exact⟨_,rfl,HB.out,_,F⟩ | exact⟨_,_,rfl,HB.out,F⟩
  have hg:ge=2:=by rw[GE.out,if_neg (by omega),if_neg (by intro h;exact h0 h.2)]
  have F:=E2.out (w.alloc (.cells #[.int .i64 2,.int .i64 ii,.slice fa fl fc] 63)) hg
  clear hg GE E0 E2 FIN HZ
  rw[decide_eq_false h0]at hlz
  go_enter func155,ntmps155
  go_wp2_with fail
  go_ret
  first | exact⟨_,rfl,HB.out,_,F⟩ | exact⟨_,_,rfl,HB.out,F⟩
 have q2:(kk==2)=false:=by simpa using h2
 have hg:ge=2:=by rw[GE.out,if_neg (by omega),if_neg (by intro h;exact h2 h.1)]
 have F:=E2.out (w.alloc (.cells #[.int .i64 kk,.int .i64 ii,.slice fa fl fc] 63)) hg
 clear hg GE E0 E2 FIN HZ
 go_enter func155,ntmps155
 go_wp2_with fail
 go_ret
 first | exact⟨_,rfl,HB.out,_,F⟩ | exact⟨_,_,rfl,HB.out,F⟩
theorem YY(eds:List Ed)(v:Value)(w:World)(h:EdV w v eds)(hl:eds.length<=1000000)(hf:jaD eds)(hg:ErrT w):
  Calls prog 114 #[v] w fun e w'=>∃u,e=.returned u/\Below w.heap.size w w'/\vV w.heap.size w' u (vS eds).1 (vS eds).2:=by
 obtain⟨A,cap,rfl,hle,hc⟩:=h
 have PC:=jnc hc
 have HF:=jnc hf
 have HG:=jnc hg
 clear hc hf hg
 by_cases h0:eds.length=0
 ·have e0:vS eds=(-9,1):=by unfold vS;rw[if_pos (by omega)]
  rw[e0,h0]
  have F:=vV.err w.heap.size w 1 (by decide)
  rw[show qm 1=.iface 46 (.int .i64 1) from rfl]at F
  go_enter func114,ntmps114
  go_wp2_with fail
  go_ret
  exact⟨_,rfl,jne _ _,F⟩
 have q0:((eds.length:Int)==0)=false:=by simp;intro h;exact h0 (by rw[h];rfl)
 by_cases h40:40<eds.length
 ·have e0:vS eds=(-9,1):=by unfold vS;rw[if_pos (by omega)]
  rw[e0]
  have F:=vV.err w.heap.size w 1 (by decide)
  rw[show qm 1=.iface 46 (.int .i64 1) from rfl]at F
  go_enter func114,ntmps114
  go_wp2_with fail
  go_ret
  exact⟨_,rfl,jne _ _,F⟩
 have e1:vS eds=JT 0 eds:=by unfold vS;rw[if_neg (by omega)]
 rw[e1]
 go_enter func114,ntmps114
 go_wp2_with fail
 go_loopw [17] (fun i wr=>∃k:Nat,k<=eds.length/\i=.int .i64 k/\(∀x∈eds.take k,qr x=0)/\Below w.heap.size w wr) (fun i _=>eds.length-(intOf i).toNat)
 case atStart=>exact⟨0,jnt _,rfl,(fun x hx=>by simp at hx),jne _ _⟩
 case round =>
 obtain⟨k,hk,rfl,hsm,hb⟩:=hrel
 by_cases hlt:k<eds.length
 ·obtain⟨ed,hed⟩:∃ed,eds[k]?=some ed:=⟨_,jnh hlt⟩
  obtain⟨b,off,fv,rfl,hbb,c0,c1,c2,hfl⟩:=PC.out k ed hed
  obtain⟨fa,fc,rfl,_,_⟩:=_root_.id hfl.1
  replace c0:=(hb.cell (p:=⟨b,off+k*3,none⟩) hbb).trans c0
  replace c1:=(hb.cell (p:=⟨b,off+k*3+1,none⟩) hbb).trans c1
  replace c2:=(hb.cell (p:=⟨b,off+k*3+1+1,none⟩) hbb).trans c2
  obtain⟨wa,hwa⟩:∃wa,wa=wr.alloc (.cells #[.int .i64 ed.kind,.int .i64 ed.id,.slice fa ed.fields.length fc] 63):=⟨_,rfl⟩
  have hba:Below w.heap.size w wa:=by rw[hwa];exact hb.alloc hb.size _
  have CK:=jnc (jgo ed (.slice fa ed.fields.length fc) wa (hfl.1.below hba (jnd _)) (HF.out ed (jnC hed)))
  have SM:Hid (qr ed=0->∀x∈eds.take (k+1),qr x=0):=fun hz x hx=>by
   rw[ye hed]at hx
   rcases List.mem_append.1 hx with hx|hx
   ·exact hsm x hx
   rw[List.mem_singleton.1 hx];exact hz
  have AT:Hid (qr ed≠0->JT 0 eds=(((k:Nat):Int),qr ed)):=fun hz=>by rw[jcz eds 0 k ed hsm hed hz,jnX]
  have HBA:=jnc hba
  have hle11:=jia ed
  clear hed hsm hfl hba
  generalize qr ed=ge at *
  subst hwa
  go_wp2_with fail
  refine CK.out.mono ?_
  rintro e w2 ⟨u,a,rfl,b2,hz⟩
  have B2:=jnc (HBA.out.trans (b2.mono HBA.out.size))
  by_cases hg0:ge=0
  ·subst hg0
   obtain⟨_,⟨rfl,_⟩|⟨_,_,_,hx⟩⟩:=hz
   ·have SM1:=jnc (SM.out rfl)
    clear SM AT CK
    rw[show qm 0=.nilIface from rfl]
    go_wp2_with fail
    go_roundw
    case rel=>exact⟨k+1,hlt,by go_num,SM1.out,B2.out⟩
    case measure=>simp[intOf];omega
   exact absurd rfl hx
  have FA:=jnc (GR k ge a u w2 hz hg0 (HG.out.below B2.out (jnd _)))
  have AT1:=AT.out hg0
  have hform:(∃z,u=.iface 46 (.int .i64 z))\/∃q,u=.iface 133 (.pointer (some ⟨q,0,none⟩)):=by
   obtain⟨_,⟨rfl,_⟩|⟨_,⟨q,_,rfl,_⟩,_,_⟩⟩:=hz
   ·rw[ze ge (by omega)];exact .inl ⟨_,rfl⟩
   exact .inr ⟨q,rfl⟩
  clear hz SM AT CK
  rcases hform with ⟨z,rfl⟩|⟨q,rfl⟩
  all_goals
   go_wp2_with fail
   refine FA.out.mono ?_
   rintro e w3 ⟨u',rfl,b3,hfa⟩
   have Z3:Hid (vV w.heap.size w3 u' (JT 0 eds).1 (JT 0 eds).2):=by
    show vV _ _ _ _ _
    rw[AT1];exact vV.fault (hfa.mono B2.out.size) hg0 hle11
   have B3:=jnc (B2.out.trans (b3.mono B2.out.size))
   clear hfa b3
   go_wp2_with fail
   go_ret
   exact⟨_,rfl,B3.out,Z3.out⟩
 obtain rfl:k=eds.length:=by omega
 rw[jnP]at hsm
 have HZ:vV w.heap.size wr .nilIface (JT 0 eds).1 (JT 0 eds).2:=by rw[YV eds 0 hsm];exact vV.none w.heap.size wr
 clear PC hsm
 go_wp2_with fail
 go_ret
 exact⟨_,rfl,hb,HZ⟩
theorem jd2(eds:List Ed)(v:Value)(w:World)(h:EdV w v eds)(hl:eds.length<=1000000)(hf:Xk eds)(hg:ErrT w):
  Calls prog 114 #[v] w fun e w'=>∃u,e=.returned u/\Below w.heap.size w w'/\vV w.heap.size w' u (vS eds).1 (vS eds).2:=YY eds v w h hl hf.eight hg
end
def jdZ(its:List It):Nat:=(its.filter fun it=>decide (it.kind=3)).length
theorem jal(its:List It)(it:It):jdZ (its++[it])=jdZ its+if it.kind=3 then 1 else 0:=by
 unfold jdZ
 rw[jpn,jnf]
 congr 1
 by_cases h:it.kind=3
 ·rw[if_pos h,joB,if_pos (by simpa using h)];rfl
 rw[if_neg h,joB,if_neg (by simpa using h)];rfl
def Qu(p:PS):Prop:=jdZ p.items=p.stanzas
theorem Qu.endField{p:PS}(h:Qu p):Qu (jb p):=by
 unfold jb
 split
 ·exact h
 exact h
theorem Qu.endItem{t:List UInt8}{p:PS}(h:Qu p)(kind e:Nat)(hk:kind≠3):Qu (zt t p kind e):=by
 show jdZ (p.items++[_])=p.stanzas
 rw[jal,if_neg (by show((kind:Nat):Int)≠3;omega),h];rfl
theorem Qu.endBlock{t:List UInt8}{p:PS}(h:Qu p)(e:Nat):Qu (jy t p e):=by
 unfold jy
 split
 ·exact h
 split
 ·exact h.endItem 2 e (by decide)
 show jdZ (p.items++[_])=p.stanzas+1
 rw[jal,if_pos (by rfl),h]
theorem Qu.went{p:PS}(h:Qu p)(x:Ln):Qu (qH p x):=by
 unfold qH
 split<;>exact h
theorem Qu.then_{p:PS}(h:Qu p)(x:Ln):Qu (vC p x):=by
 unfold vC
 split
 ·exact(h.went x).endField
 exact h.went x
theorem Qu.put{t:List UInt8}{p:PS}(h:Qu p)(x:Ln):Qu (Va t p x):=by
 unfold Va
 split
 ·exact h
 split
 ·exact(h.endBlock x.at_).endItem 1 _ (by decide)
 exact h
theorem Qu.take{t:List UInt8}{p q:PS}{x:Ln}(h:Qu p)(he:zO t p x=.ok q):Qu q:=by
 obtain⟨_,_,rfl⟩:=yF he
 exact(h.then_ x).put x
theorem Qu.run(t:List UInt8):∀(xs:List Ln) (p q:PS),Qu p->vK t p xs=.ok q->Qu q
 | [],p,q,h,he=>by cases he;exact h
 | x::xs,p,q,h,he=>by
  unfold vK at he
  cases ht:zO t p x with
  | error e=>rw[ht]at he;cases he
  | ok p1 =>
  rw[ht]at he
  exact Qu.run t xs p1 q (h.take ht) he
theorem Yj{t:List UInt8}{its:List It}(h:jE t=.ok its):jdZ its<=400:=by
 obtain⟨p,hr,h0,rfl,g,_⟩:=ZV h
 have hc:Qu (jy t (jb p) t.length):=((Qu.run t _ _ _ (by rfl) hr).endField).endBlock _
 rw[show jdZ _=_ from hc]
 exact g.st
theorem Yn:∀(n:Int) (its:List It),0<n->(∀m∈nums (qj n its),n<=m/\m<jX n its)/\(nums (qj n its)).Nodup/\(nums (qj n its)).length=jdZ its/\n<=jX n its
 | n,[],h=>⟨(fun m hm=>by cases hm),List.nodup_nil,rfl,joq _⟩
 | n,it::r,h=>by
  by_cases hk:it.kind=3
  ·obtain⟨a,b,c,d⟩:=Yn (n+1) r (by omega)
   have e1:nums (qj n (it::r))=n::nums (qj (n+1) r):=by
    unfold nums
    rw[qj,if_pos hk,jnH,joB,if_pos (by simpa using h)]
   have e2:jX n (it::r)=jX (n+1) r:=by rw[jX,if_pos hk]
   rw[e1,e2]
   refine⟨fun m hm => ?_,List.nodup_cons.2 ⟨fun q => ?_,b⟩,?_,by omega⟩
   ·rcases List.mem_cons.1 hm with rfl|hm
    ·exact⟨joq _,by omega⟩
    have:=a m hm;exact⟨by omega,this.2⟩
   ·have:=(a n q).1;omega
   unfold jdZ at c ⊢
   rw[jni,c,joB,if_pos (by simpa using hk)];rfl
  obtain⟨a,b,c,d⟩:=Yn n r h
  have e1:nums (qj n (it::r))=nums (qj n r):=by
   unfold nums
   rw[qj,if_neg hk,jnH,joB,if_neg (by simp)]
  have e2:jX n (it::r)=jX n r:=by rw[jX,if_neg hk]
  rw[e1,e2]
  refine⟨a,b,?_,d⟩
  unfold jdZ at c ⊢
  rw[c,joB,if_neg (by simpa using hk)]
theorem jkB{t:List UInt8}{its:List It}(h:jE t=.ok its):OkL (qE its):=by
 obtain⟨a,b,c,d⟩:=Yn 1 its (by decide)
 refine⟨ja9 1 its (by decide),by show 0<jX 1 its;omega,fun n hn=>(a n hn).2,b,?_⟩
 rw[<- yX]
 show(nums (qj 1 its)).length<=400
 rw[c];exact Yj h
section
attribute [local go_sem] jnn
theorem jhW(lb:Nat)(ev:Value)(ps:List Pr)(nx id:Int)(fs:List Fld)(v:Value)(w:World)(h:LA w lb ev ps nx)(hwf:WF (ps.map Prod.fst))(h4:jaE (ps.map Prod.fst)<=400)(hps:ps.length<=10000)(hnx : -1000000<=nx/\nx<=1000000)(hs:ZK w v fs)(hfs:jgQ fs):
  Calls prog 159 #[ptr lb,.int .i64 id,v] w fun e w'=>∃u ev' ps',e=.returned (.tuple #[.int .i64 (qT ⟨ps.map Prod.fst,nx⟩ id fs).id,u])/\WrR w lb ev ps (qT ⟨ps.map Prod.fst,nx⟩ id fs) u w' ev' ps':=by
 have:=ja1 lb ev ps nx id fs v w h hps hnx hs hfs
 rw[jlP hwf,jlQ hwf h4,show yz (jlg (ps.map Prod.fst) id) (decide (400<=jaE (ps.map Prod.fst))) ⟨ps.map Prod.fst,nx⟩ fs=qT ⟨ps.map Prod.fst,nx⟩ id fs by rw[jfA]]at this
 exact this
end
def SzL(es:List En):Prop:=∀e∈es,e.1.raw.length<=100000/\e.1.fields.length<=1000000
theorem jiz(l:LS)(kind id:Int)(fs:List Fld):∀e∈(xU l kind id fs).ls.es,e∈l.es\/(e.1=zS fs/\vG fs=0):=by
 intro e he
 unfold xU at he
 split at he
 ·unfold qo at he
  split at he
  ·exact .inl he
  rename_i k hk
  split at he
  ·rename_i hc
   have he':e∈KV l.es k (zS fs):=he
   unfold KV at he'
   obtain⟨j,hj⟩:=List.getElem?_of_mem he'
   rw[jpd]at hj
   cases hx:l.es[j]? with
   | none=>rw[hx]at hj;cases hj
   | some y =>
   rw[hx]at hj
   have hj':(if k=j then (zS fs,y.2) else y)=e:=jng hj
   by_cases q:k=j
   ·rw[if_pos q]at hj'
    rw[<- hj'];exact .inr ⟨rfl,hc⟩
   rw[if_neg q]at hj'
   rw[<- hj'];exact .inl (jnC hx)
  exact .inl he
 split at he
 ·unfold vm at he
  split at he
  ·exact .inl he
  have he':e∈jdX l.es _:=he
  unfold jdX at he'
  rcases List.mem_append.1 he' with q|q
  ·exact .inl (jog q)
  exact .inl (job q)
 unfold qT at he
 split at he
 ·exact .inl he
 split at he
 ·rename_i hc
  split at he
  ·exact .inl he
  have he':e∈jaS l.es _ (zS fs,l.next):=he
  unfold jaS at he'
  rcases List.mem_append.1 he' with q|q
  ·exact .inl (jog q)
  rcases List.mem_cons.1 q with q|q
  ·rw[q];exact .inr ⟨rfl,hc⟩
  exact .inl (job q)
 exact .inl he
structure qb(S0:Nat)(w:World)(lb:Nat)(ev:Value)(ps:List Pr)(l:LS)(m:Nat):Prop where
 la:LA w lb ev ps l.next
 es:ps.map Prod.fst=l.es
 ok:OkL l
 sz:SzL l.es
 lb0:S0<=lb
 ev0:∀b,ev.ownBlock=some b->S0<=b
 len:l.es.length<=m
 nx:l.next<=m+1
theorem qb.wf{S0:Nat}{w:World}{lb:Nat}{ev:Value}{ps:List Pr}{l:LS}{m:Nat}(h:qb S0 w lb ev ps l m):WF (ps.map Prod.fst):=by rw[h.es];exact h.ok.wf
theorem qb.below{S0:Nat}{w w':World}{lb:Nat}{ev:Value}{ps:List Pr}{l:LS}{m N:Nat}(h:qb S0 w lb ev ps l m)(hb:Below N w w')(hN:w.heap.size<=N):qb S0 w' lb ev ps l m :=
 ⟨h.la.below hb hN,h.es,h.ok,h.sz,h.lb0,h.ev0,h.len,h.nx⟩
theorem qb.ents{S0:Nat}{w:World}{lb:Nat}{ev:Value}{ps:List Pr}{l:LS}{m:Nat}(h:qb S0 w lb ev ps l m)(hm:m<=10000):jjo ps:=by
 have hmem:∀p∈ps,p.1∈l.es:=fun p hp=>by rw[<- h.es];exact joH hp
 have hl:ps.length=l.es.length:=by rw[<- h.es,jnI]
 refine⟨by have:=h.len;omega,fun p hp=>(h.sz _ (hmem p hp)).1,fun p hp=>(h.sz _ (hmem p hp)).2,fun p hp => ?_⟩
 rcases h.ok.wf _ (hmem p hp) with ⟨_,q⟩|⟨_,q⟩
 ·have hn:p.1.2∈nums l.es:=by
   unfold nums
   exact List.mem_filter.2 ⟨joH (hmem p hp),by simpa using q⟩
  have:=h.ok.lt _ hn
  have:=h.nx
  omega
 omega
theorem qb.str{S0:Nat}{w:World}{lb:Nat}{ev:Value}{ps:List Pr}{l:LS}{m:Nat}(h:qb S0 w lb ev ps l m):StR w lb ev ps l.next (.slice none 0 0) [] :=
 ⟨h.la,jdL w,(fun b e=>by cases e),(fun p hp=>by cases hp)⟩
theorem SzL.edit{l:LS}(h:SzL l.es)(kind id:Int){fs:List Fld}(h1:(zb fs).length<=100000)(h2:fs.length<=1000000):SzL (xU l kind id fs).ls.es:=fun e he=>by
 rcases jiz l kind id fs e he with q|⟨q,_⟩
 ·exact h e q
 rw[q];exact⟨h1,h2⟩
theorem qb.edit{S0:Nat}{w w':World}{lb:Nat}{ev ev':Value}{ps ps':List Pr}{l:LS}{m:Nat}(h:qb S0 w lb ev ps l m)(kind id:Int){fs:List Fld}(h1:(zb fs).length<=100000)(h2:fs.length<=1000000)
  (la:LA w' lb ev' ps' (xU l kind id fs).ls.next) (es:ps'.map Prod.fst=(xU l kind id fs).ls.es) (hS:S0<=w.heap.size) (hev:∀b,ev'.ownBlock=some b->ev.ownBlock=some b\/w.heap.size<=b):qb S0 w' lb ev' ps' (xU l kind id fs).ls (m+1):=by
 obtain⟨a,_,c⟩:=jiA l kind id fs
 have hl:=h.len
 have hn:=h.nx
 refine⟨la,es,h.ok.edit kind id fs,h.sz.edit kind id h1 h2,h.lb0,fun b e => ?_,by omega,by omega⟩
 rcases hev b e with q|q
 ·exact h.ev0 b q
 omega
end Go.Proofs.YtpibhbjmcmfnmaaGreatDoor
