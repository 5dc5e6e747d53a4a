/- Texts put together:ED,EE,EF,EG,NH,NF,NI,NJ,EH. -/
import Derived.LaidEql
import Derived.Stop.Asserts
import Derived.RowKitTokens
import Derived.Test.YtbapfpekklcicaaGreatDoorBtx16
set_option linter.unusedVariables false
set_option maxRecDepth 100000
set_option maxHeartbeats 16000000
namespace Go.Proofs.YtbapfpekklcicaaGreatDoor
open Go.RowKit Go.Shelf Tryz
abbrev jp6:=@Go.Sem.run_bind
abbrev jqh:=@Go.World.cell?_alloc_lt
abbrev jqQ:=@List.mem_map_of_mem
section
open Go.Extern.Stop Go.Stop Go.Extern
theorem jak(t:Addr)(w:World):(ReflectliteValue.unpack (.iface 263 (.pointer (some t)))).run prog w
  = .ok (.agg #[.pointer (some ⟨9,263,none⟩),.pointer (some ⟨w.heap.size,0,none⟩),.int .u64 150]) (w.alloc (.cells #[.pointer (some t)] 263)):=by kernel_rfl
theorem jko(a:Addr)(w:World):(ReflectliteValue.methodAny (ReflectliteValue.valueError "reflectlite.Value.Type" 0) (fun t _ _ _=>ReflectliteType.toType t) #[.agg #[.pointer (some ⟨9,263,none⟩),.pointer (some a),.int .u64 150]]).run prog w
  = .ok (.iface 320 (.agg #[.pointer (some ⟨9,263,none⟩)])) w:=by kernel_rfl
theorem Wh(h:Value)(w:World):(Go.method 488 320 (.agg #[h]) "Kind").run prog w=.ok (304,h) w:=by kernel_rfl
theorem jkF(w:World):((ReflectliteType.abiMethod fun t=>(fun a:Nat=>Value.int IntKind.u8 (a:Int)) <$> Rtype.kind t) #[.pointer (some ⟨9,263,none⟩)]).run prog w=.ok (.int .u8 22) w:=by kernel_rfl
theorem jm4(w:World):((ReflectliteType.abiMethod fun t=>(fun a:Nat=>Value.int IntKind.u8 (a:Int)) <$> Rtype.kind t) #[.pointer (some ⟨9,87,none⟩)]).run prog w=.ok (.int .u8 22) w:=by kernel_rfl
theorem jom(z:Sem Value)(f:TypeId->Addr->Nat->Nat->Sem Value)(v:Value):
  ReflectliteValue.method z f #[v]=(do match <- ReflectliteValue.parts v with | none=>z | some (t,a,fl)=>f t a fl (fl % 32)):=rfl
theorem jgn(a:Addr)(w:World):(ReflectliteValue.parts (.agg #[.pointer (some ⟨9,263,none⟩),.pointer (some a),.int .u64 150])).run prog w=.ok (some (263,a,150)) w:=by kernel_rfl
theorem jgZ(a p:Addr)(W:World)(b:W.cell? a=some (.pointer (some p))):
  (ReflectliteValue.method (ReflectliteValue.valueError "reflectlite.Value.IsNil" 0) ReflectliteValue.isNil #[.agg #[.pointer (some ⟨9,263,none⟩),.pointer (some a),.int .u64 150]]).run prog W=.ok (.bool false) W:=by
 rw[jom];simp only[jp6,jgn,Result.andThen];simp[ReflectliteValue.isNil,loadVar,isAgg,underlying,underlying263,b,Result.andThen]
theorem Wi(h:Value)(w:World):(Go.method 488 320 (.agg #[h]) "Elem").run prog w=.ok (321,.agg #[h]) w:=by kernel_rfl
theorem xR(h:Value)(w:World):(Go.method 488 320 (.agg #[h]) "Implements").run prog w=.ok (322,.agg #[h]) w:=by kernel_rfl
theorem yy(h:Value)(w:World):(Go.method 488 320 (.agg #[h]) "AssignableTo").run prog w=.ok (319,.agg #[h]) w:=by kernel_rfl
theorem jkK(w:World):(ReflectliteType.method ReflectliteType.elem #[.agg #[.pointer (some ⟨9,263,none⟩)]]).run prog w=.ok (.iface 320 (.agg #[.pointer (some ⟨9,87,none⟩)])) w:=by kernel_rfl
theorem Xu(w:World):(ReflectliteType.relation "Implements" ReflectliteType.implements_ #[.agg #[.pointer (some ⟨9,87,none⟩)],.iface 320 (.agg #[.pointer (some ⟨9,32,none⟩)])]).run prog w=.ok (.bool true) w:=by kernel_rfl
theorem jkS(v:Value)(w:World):(ReflectliteType.typeOf #[.iface 87 v]).run prog w=.ok (.iface 320 (.agg #[.pointer (some ⟨9,87,none⟩)])) w:=by kernel_rfl
theorem jkT(v:Value)(w:World):(ReflectliteType.typeOf #[.iface 54 v]).run prog w=.ok (.iface 320 (.agg #[.pointer (some ⟨9,54,none⟩)])) w:=by kernel_rfl
theorem jcN(w:World):(ReflectliteType.relation "AssignableTo" ReflectliteType.assignableTo #[.agg #[.pointer (some ⟨9,87,none⟩)],.iface 320 (.agg #[.pointer (some ⟨9,87,none⟩)])]).run prog w=.ok (.bool true) w:=by kernel_rfl
theorem jcO(w:World):(ReflectliteType.relation "AssignableTo" ReflectliteType.assignableTo #[.agg #[.pointer (some ⟨9,54,none⟩)],.iface 320 (.agg #[.pointer (some ⟨9,87,none⟩)])]).run prog w=.ok (.bool false) w:=by kernel_rfl
theorem jis(e:Addr)(w:World):(ReflectliteValue.unpack (.iface 87 (.pointer (some e)))).run prog w
  = .ok (.agg #[.pointer (some ⟨9,87,none⟩),.pointer (some ⟨w.heap.size,0,none⟩),.int .u64 150]) (w.alloc (.cells #[.pointer (some e)] 87)):=by kernel_rfl
theorem jjS(w:World):(Rtype.elem? 263).run prog w=.ok (some 87) w:=by kernel_rfl
theorem mkP(p:Addr)(w:World):(ReflectliteValue.mk 87 p ReflectliteValue.flagAddr).run prog w=.ok (.agg #[.pointer (some ⟨9,87,none⟩),.pointer (some p),.int .u64 406]) w:=by kernel_rfl
theorem jma(a p:Addr)(W:World)(b:W.cell? a=some (.pointer (some p))):
  (ReflectliteValue.method (ReflectliteValue.valueError "reflectlite.Value.Elem" 0) ReflectliteValue.elem #[.agg #[.pointer (some ⟨9,263,none⟩),.pointer (some a),.int .u64 150]]).run prog W
   = .ok (.agg #[.pointer (some ⟨9,87,none⟩),.pointer (some p),.int .u64 406]) W:=by
 rw[jom];simp only[jp6,jgn,Result.andThen];simp[ReflectliteValue.elem,loadVar,isAgg,underlying,underlying263,b,Result.andThen,jjS,mkP]
theorem jow(v x:Value):ReflectliteValue.set #[v,x]=(do
  let (some (dst,a,fl),some (src,b,_)):=(<- ReflectliteValue.parts v,<- ReflectliteValue.parts x)
   | unsupported (.noEntry "extern/(internal/reflectlite.Value).Set.zeroValue")
  if fl / ReflectliteValue.flagAddr % 2==0 then unsupported (.noEntry "extern/(internal/reflectlite.Value).Set.unaddressable")
  let val <- loadVar src b
  if <- Rtype.directlyAssignable dst src then storeVar dst a val
  else if <- Rtype.implements dst src then
   if (<- Rtype.kind src)==20 then
    match val with
    | .nilIface=>unsupported (.noEntry "extern/reflectlite: a nil value of one interface type handed on as a value of another")
    | _=>storeVar dst a val
   else storeVar dst a (.iface src val)
  else panicString ("reflectlite.Set: value of type " ++ (<- Rtype.spelt src) ++ " is not assignable to type " ++ (<- Rtype.spelt dst))
  pure (.tuple #[])):=rfl
theorem jlo(a:Addr)(w:World):(ReflectliteValue.parts (.agg #[.pointer (some ⟨9,87,none⟩),.pointer (some a),.int .u64 406])).run prog w=.ok (some (87,a,406)) w:=by kernel_rfl
theorem jmS(a:Addr)(w:World):(ReflectliteValue.parts (.agg #[.pointer (some ⟨9,87,none⟩),.pointer (some a),.int .u64 150])).run prog w=.ok (some (87,a,150)) w:=by kernel_rfl
theorem jmd(w:World):(Rtype.directlyAssignable 87 87).run prog w=.ok true w:=by kernel_rfl
theorem jov(a b e:Addr)(c:Value)(W:World)(d:W.cell? b=some (.pointer (some e)))(g:W.cell? a=some c)(f:W.frozen? a=false):
  (ReflectliteValue.set #[.agg #[.pointer (some ⟨9,87,none⟩),.pointer (some a),.int .u64 406],.agg #[.pointer (some ⟨9,87,none⟩),.pointer (some b),.int .u64 150]]).run prog W
   = .ok (.tuple #[]) (W.setCell a (.pointer (some e))):=by
 rw[jow];simp only[jp6,jlo,jmS,Result.andThen];simp[ReflectliteValue.flagAddr,loadVar,isAgg,underlying,underlying87,d,Result.andThen,jmd,storeVar,Value.cells,storeCells,Addr.add];rw[run_store prog W a _ _ (by rfl)];simp[g,f]
def ErrT(w:World):Prop:=w.cell? ⟨1,0,none⟩=some (.iface 320 (.agg #[.pointer (some ⟨9,32,none⟩)]))
abbrev hPP:Value:=.pointer (some ⟨9,263,none⟩)
abbrev hP:Value:=.pointer (some ⟨9,87,none⟩)
theorem jkh(e t a:Addr)(d:Value)(w:World)(i:w.cell? a=some (.pointer (some t)))(b:w.cell? t=some d)(g:w.frozen? t=false):
  Calls prog 238 #[.iface 87 (.pointer (some e)),.iface 263 (.pointer (some t)),.agg #[.pointer (some ⟨9,263,none⟩),.pointer (some a),.int .u64 150],.iface 320 (.agg #[.pointer (some ⟨9,87,none⟩)])] w
   fun k q=>k=.returned (.bool true)/\q=((w.alloc (.cells #[.pointer (some ⟨9,263,none⟩),.pointer (some a),.int .u64 150] 294)).alloc (.cells #[.pointer (some e)] 87)).setCell t (.pointer (some e)):=by
 have l:=@run_callFunc_extern prog 256 _ ReflectliteType.typeOf func256 (by kernel_rfl) (by kernel_rfl) (by kernel_rfl) (by kernel_rfl);have o:=@run_callFunc_extern prog 319 _ (ReflectliteType.relation "AssignableTo" ReflectliteType.assignableTo) func319 (by kernel_rfl) (by kernel_rfl) (by kernel_rfl) (by kernel_rfl)
 have s:=@run_callFunc_extern prog 235 _ (fun args=>ReflectliteValue.unpack (args.getD 0 (.tuple #[]))) func235 (by kernel_rfl) (by kernel_rfl) (by kernel_rfl) (by kernel_rfl);have m:=@run_callFunc_extern prog 257 _ (ReflectliteValue.method (ReflectliteValue.valueError "reflectlite.Value.Elem" 0) ReflectliteValue.elem) func257 (by kernel_rfl) (by kernel_rfl) (by kernel_rfl) (by kernel_rfl)
 have n:=@run_callFunc_extern prog 258 _ ReflectliteValue.set func258 (by kernel_rfl) (by kernel_rfl) (by kernel_rfl) (by kernel_rfl);have v:=jkS
 have u:=yy;have j:=jcN
 have p:=jis;have c:t.block<w.heap.size:=by
  rcases jpc t.block w.heap.size with h|h
  ·exact h
  simp[World.cell?,Array.getElem?_eq_none h]at b
 have f:a.block<w.heap.size:=by
  rcases jpc a.block w.heap.size with h|h
  ·exact h
  simp[World.cell?,Array.getElem?_eq_none h]at i
 have r:=jma a t (w.alloc (.cells #[.pointer (some ⟨9,263,none⟩),.pointer (some a),.int .u64 150] 294)) (by rw[jqh _ _ a f];exact i);have st:=jov t ⟨w.heap.size+1,0,none⟩ e d ((w.alloc (.cells #[.pointer (some ⟨9,263,none⟩),.pointer (some a),.int .u64 150] 294)).alloc (.cells #[.pointer (some e)] 87))
  (by rw[jqg _ _ _ _ (by simp)];rfl)
  (by rw[jqh _ _ t (by simp;omega),jqh _ _ t c];exact b)
  (by rw[World.frozen?_alloc_old _ _ t (by simp;omega),World.frozen?_alloc_old _ _ t (jqY c)];exact g)
 go_enter func238,ntmps238;go_wp2;refine wp_loop_rounds 1 ?_;rw[rounds_succ];go_wp2;go_ret;exact⟨rfl,rfl⟩
theorem jnY(v:Value)(a:TypeId)(w:World):(Instr.typeAssert (.iface 54 v) a 325 true).run prog w=.ok (.tuple #[.nilIface,.bool false]) w:=run_typeAssert_lacksB underlying325 (by kernel_rfl) (by kernel_rfl) v a w
theorem jnX(v:Value)(a:TypeId)(w:World):(Instr.typeAssert (.iface 54 v) a 328 true).run prog w=.ok (.tuple #[.nilIface,.bool false]) w:=run_typeAssert_lacksB underlying328 (by kernel_rfl) (by kernel_rfl) v a w
theorem jmY(v:Value)(a:TypeId)(w:World):(Instr.typeAssert (.iface 54 v) a 329 true).run prog w=.ok (.tuple #[.nilIface,.bool false]) w:=run_typeAssert_lacksB underlying329 (by kernel_rfl) (by kernel_rfl) v a w
theorem jia(n:Int)(t a:Addr)(w:World):
  Calls prog 238 #[.iface 54 (.int .i64 n),.iface 263 (.pointer (some t)),.agg #[.pointer (some ⟨9,263,none⟩),.pointer (some a),.int .u64 150],.iface 320 (.agg #[.pointer (some ⟨9,87,none⟩)])] w
   fun c f=>c=.returned (.bool false)/\Below w.heap.size w f:=by
 have d:=@run_callFunc_extern prog 256 _ ReflectliteType.typeOf func256 (by kernel_rfl) (by kernel_rfl) (by kernel_rfl) (by kernel_rfl);have e:=@run_callFunc_extern prog 319 _ (ReflectliteType.relation "AssignableTo" ReflectliteType.assignableTo) func319 (by kernel_rfl) (by kernel_rfl) (by kernel_rfl) (by kernel_rfl)
 have k:=jkT;have g:=yy
 have b:=jcO;have h:=jnY
 have i:=jnX;have j:=jmY
 go_enter func238,ntmps238;go_wp2;refine wp_loop_rounds 1 ?_;rw[rounds_succ];go_wp2;go_ret;exact⟨rfl,(joL _ _).alloc (joJ _) _⟩
theorem ErrT.below{w w':World}{N:Nat}(h:ErrT w)(c:Below N w w')(b:w.heap.size<=N):ErrT w':=by have a:1<w.heap.size:=World.block_lt_of_cell? w _ h;exact(c.cell (p:=⟨1,0,none⟩) (jo4 a b)).trans h
theorem jnB(e t:Addr)(g:Value)(w:World)(r:ErrT w)(d:w.cell? t=some g)(j:w.frozen? t=false):
  Calls prog 201 #[.iface 87 (.pointer (some e)),.iface 263 (.pointer (some t))] w
   fun k y=>k=.returned (.bool true)/\∃l,Below w.heap.size w l/\y=l.setCell t (.pointer (some e)):=by
 have C:=@run_callFunc_extern prog 235 _ (fun args=>ReflectliteValue.unpack (args.getD 0 (.tuple #[]))) func235 (by kernel_rfl) (by kernel_rfl) (by kernel_rfl) (by kernel_rfl);have D:=@run_callFunc_extern prog 236 _ (ReflectliteValue.methodAny (ReflectliteValue.valueError "reflectlite.Value.Type" 0) (fun t _ _ _=>ReflectliteType.toType t)) func236 (by kernel_rfl) (by kernel_rfl) (by kernel_rfl) (by kernel_rfl)
 have E:=@run_callFunc_extern prog 237 _ (ReflectliteValue.method (ReflectliteValue.valueError "reflectlite.Value.IsNil" 0) ReflectliteValue.isNil) func237 (by kernel_rfl) (by kernel_rfl) (by kernel_rfl) (by kernel_rfl);have o:=@run_callFunc_extern prog 304 _ (ReflectliteType.abiMethod fun t=>do pure (.int .u8 (<- Rtype.kind t))) func304 (by kernel_rfl) (by kernel_rfl) (by kernel_rfl) (by kernel_rfl)
 have p:=@run_callFunc_extern prog 321 _ (ReflectliteType.method ReflectliteType.elem) func321 (by kernel_rfl) (by kernel_rfl) (by kernel_rfl) (by kernel_rfl);have q:=@run_callFunc_extern prog 322 _ (ReflectliteType.relation "Implements" ReflectliteType.implements_) func322 (by kernel_rfl) (by kernel_rfl) (by kernel_rfl) (by kernel_rfl)
 have z:=jak;have A:=jko
 have I:=Wh;have G:=Wi
 have H:=xR;have x:=jkF
 have v:=jm4;have n:=jkK
 have u:=Xu;have f:t.block<w.heap.size:=by
  rcases jpc t.block w.heap.size with h|h
  ·exact h
  simp[World.cell?,Array.getElem?_eq_none h]at d
 obtain⟨c,b⟩:∃c,c=(w.alloc (.cells #[.pointer (some t)] 263)).alloc (.cells #[.pointer (some ⟨9,263,none⟩),.pointer (some ⟨w.heap.size,0,none⟩),.int .u64 150] 294):=⟨_,rfl⟩
 have a:Below w.heap.size w c:=by rw[b];exact((joL _ w).alloc (joJ _) _).alloc (by simp) _
 have J:=jgZ ⟨w.heap.size,0,none⟩ t c (by rw[b];simp);have s:c.cell? ⟨1,0,none⟩=some (.iface 320 (.agg #[.pointer (some ⟨9,32,none⟩)])):=r.below a (joJ _)
 have m:=joI (jkh e t ⟨w.heap.size,0,none⟩ g c (by rw[b];simp) ((a.cell f).trans d) ((a.frozen f).trans j));have i:=joI a
 subst b;clear a;go_enter func201,ntmps201;go_wp2_with fail;refine m.out.mono ?_;rintro k K ⟨rfl,rfl⟩;go_wp2_with fail;go_ret;exact⟨rfl,_,(i.out.alloc i.out.size _).alloc (i.out.alloc i.out.size _).size _,rfl⟩
theorem jmq(n:Int)(t:Addr)(w:World)(l:ErrT w):
  Calls prog 201 #[.iface 54 (.int .i64 n),.iface 263 (.pointer (some t))] w
   fun e r=>e=.returned (.bool false)/\Below w.heap.size w r:=by
 have v:=@run_callFunc_extern prog 235 _ (fun args=>ReflectliteValue.unpack (args.getD 0 (.tuple #[]))) func235 (by kernel_rfl) (by kernel_rfl) (by kernel_rfl) (by kernel_rfl);have x:=@run_callFunc_extern prog 236 _ (ReflectliteValue.methodAny (ReflectliteValue.valueError "reflectlite.Value.Type" 0) (fun t _ _ _=>ReflectliteType.toType t)) func236 (by kernel_rfl) (by kernel_rfl) (by kernel_rfl) (by kernel_rfl)
 have y:=@run_callFunc_extern prog 237 _ (ReflectliteValue.method (ReflectliteValue.valueError "reflectlite.Value.IsNil" 0) ReflectliteValue.isNil) func237 (by kernel_rfl) (by kernel_rfl) (by kernel_rfl) (by kernel_rfl);have i:=@run_callFunc_extern prog 304 _ (ReflectliteType.abiMethod fun t=>do pure (.int .u8 (<- Rtype.kind t))) func304 (by kernel_rfl) (by kernel_rfl) (by kernel_rfl) (by kernel_rfl)
 have j:=@run_callFunc_extern prog 321 _ (ReflectliteType.method ReflectliteType.elem) func321 (by kernel_rfl) (by kernel_rfl) (by kernel_rfl) (by kernel_rfl);have k:=@run_callFunc_extern prog 322 _ (ReflectliteType.relation "Implements" ReflectliteType.implements_) func322 (by kernel_rfl) (by kernel_rfl) (by kernel_rfl) (by kernel_rfl)
 have s:=jak;have u:=jko
 have C:=Wh;have z:=Wi
 have A:=xR;have q:=jkF
 have p:=jm4;have h:=jkK
 have o:=Xu;obtain⟨c,b⟩:∃c,c=(w.alloc (.cells #[.pointer (some t)] 263)).alloc (.cells #[.pointer (some ⟨9,263,none⟩),.pointer (some ⟨w.heap.size,0,none⟩),.int .u64 150] 294):=⟨_,rfl⟩
 have a:Below w.heap.size w c:=by rw[b];exact((joL _ w).alloc (joJ _) _).alloc (by simp) _
 have D:=jgZ ⟨w.heap.size,0,none⟩ t c (by rw[b];simp);have m:c.cell? ⟨1,0,none⟩=some (.iface 320 (.agg #[.pointer (some ⟨9,32,none⟩)])):=l.below a (joJ _)
 have f:=joI (jia n t ⟨w.heap.size,0,none⟩ c);have d:=joI a
 subst b;clear a;go_enter func201,ntmps201;go_wp2_with fail;refine f.out.mono ?_;rintro e E ⟨rfl,g⟩;go_wp2_with fail;go_ret;exact⟨rfl,d.out.trans (g.mono d.out.size)⟩
end
section
attribute [local go_sem] joY
def EdV(w:World)(v:Value)(eds:List Ed):Prop :=
 ∃A cap,v=.slice A eds.length cap/\eds.length<=cap/\∀(i:Nat) (ed:Ed),eds[i]?=some ed->∃b off fv,A=some ⟨b,off,none⟩/\b<w.heap.size/\w.cell? ⟨b,off+i*3,none⟩=some (.int .i64 ed.kind)/\w.cell? ⟨b,off+i*3+1,none⟩=some (.int .i64 ed.id)/\w.cell? ⟨b,off+i*3+1+1,none⟩=some fv/\ZC w fv ed.fields
theorem EdV.below{w w':World}{v:Value}{eds:List Ed}{N:Nat}(h:EdV w v eds)(d:Below N w w')(r:w.heap.size<=N):EdV w' v eds:=by
 obtain⟨A,f,e,j,s⟩:=h;refine⟨A,f,e,j,fun i o u => ?_⟩;obtain⟨b,a,q,n,g,k,l,m,t⟩:=s i o u;have c:b<N:=by omega
 exact⟨b,a,q,n,jo4 g d.size,(d.cell (p:=⟨b,a+i*3,none⟩) c).trans k,(d.cell (p:=⟨b,a+i*3+1,none⟩) c).trans l,(d.cell (p:=⟨b,a+i*3+1+1,none⟩) c).trans m,t.below d r⟩
def Kd(eds:List Ed):Prop:=∀ed∈eds,jbN ed.fields
structure jkm(fs:List Fld):Prop where
 len:fs.length<=1000000
 each:∀f∈fs,f.1.length<=100000/\f.2.length<=100000
def VY(eds:List Ed):Prop:=∀ed∈eds,jkm ed.fields
theorem Kd.eight{eds:List Ed}(h:Kd eds):VY eds:=fun a b=>⟨by have:=(h a b).len;omega,(h a b).each⟩
theorem vE.mono{lo b:Nat}{w:World}{u:Value}{a:Int}{n:Nat}(h:vE lo w u a n)(hl:b<=lo):vE b w u a n:=by
 obtain⟨d,c⟩:=h;refine⟨d,?_⟩;rcases c with c|⟨k,e,f⟩
 ·exact .inl c
 exact .inr ⟨k,e.mono hl,f⟩
theorem vE.fault{lo:Nat}{w:World}{u:Value}{k n:Nat}(h:jB lo w u k n)(b:n≠0)(a:n<=11):vE lo w u (k:Nat) n:=⟨a,.inr ⟨k,h,rfl,b⟩⟩
theorem jbh{lo:Nat}(k n:Nat)(a:Int)(u:Value)(w:World)(h:vE lo w u a n)(Q:n≠0)(P:ErrT w):
  Calls prog 164 #[.int .i64 (k:Nat),u] w fun e L=>∃K,e=.returned K/\Below w.heap.size w L/\jB w.heap.size L K k n:=by
 obtain⟨_,h⟩:=h;obtain⟨d,c⟩:∃d,d=w.alloc (.cells #[.pointer none] 87):=⟨_,rfl⟩
 have b:Below w.heap.size w d:=by rw[c];exact(joL _ w).alloc (joJ _) _
 have g:ErrT d:=P.below b (joJ _);have E:d.cell? ⟨w.heap.size,0,none⟩=some (.pointer none):=by rw[c];simp
 have A:d.frozen? ⟨w.heap.size,0,none⟩=false:=by rw[c];simp
 have R:d.heap.size=w.heap.size+1:=by rw[c];simp
 rcases h with ⟨rfl,_⟩|⟨J,⟨q,_,rfl,C⟩,_,_⟩
 ·rw[zf n (by omega)];have r:=joI (jmq (n:Int) ⟨w.heap.size,0,none⟩ d g)
  have j:=joI b;have i:Hid (∀W,Below d.heap.size d W->jB w.heap.size (W.alloc (.cells #[.int .i64 (k:Nat),.iface 54 (.int .i64 (n:Nat))] 90)) (.iface 87 (.pointer (some ⟨W.heap.size,0,none⟩))) k n):=by intro W z;rw[<- zf n (by omega)];exact jB.new W k n _ _ rfl (by have:=z.size;omega)
  clear b g E A;subst c;go_enter func164,ntmps164;go_wp2_with fail;refine r.out.mono ?_;rintro e s ⟨rfl,I⟩;have t:=i.out s I
  have G:Below w.heap.size w s:=j.out.trans (I.mono j.out.size);go_wp2_with fail;go_ret;exact⟨_,rfl,G.alloc G.size _,t⟩
 have D:=C.lt;have r:=joI (jnB ⟨q,0,none⟩ ⟨w.heap.size,0,none⟩ (.pointer none) d g E A)
 have j:=joI b;have H:Hid (∀f,Below d.heap.size d f->(f.setCell ⟨w.heap.size,0,none⟩ (.pointer (some ⟨q,0,none⟩))).cell? ⟨w.heap.size,0,none⟩=some (.pointer (some ⟨q,0,none⟩))/\(f.setCell ⟨w.heap.size,0,none⟩ (.pointer (some ⟨q,0,none⟩))).cell? ⟨q,1,none⟩=some (.iface 54 (.int .i64 (n:Nat)))/\Below w.heap.size w (f.setCell ⟨w.heap.size,0,none⟩ (.pointer (some ⟨q,0,none⟩)))):=by
  intro f m;have l:Below w.heap.size w f:=b.trans (m.mono b.size)
  have v:ja f w.heap.size 87 #[.pointer none]:=jb (by rw[c];exact ja.new _ _ _) m (by omega);have x:=v.set 0 (.pointer (some ⟨q,0,none⟩))
  have O:ja f q 90 #[.int .i64 J,Zc n]:=jb C l D;have y:ja (f.setCell ⟨w.heap.size,0,none⟩ (.pointer (some ⟨q,0,none⟩))) q 90 #[.int .i64 J,Zc n]:=O.other (p:=⟨w.heap.size,0,none⟩) (by show q≠w.heap.size;omega) _
  refine⟨?_,?_,l.setCell (p:=⟨w.heap.size,0,none⟩) (joJ _) _⟩
  ·rw[x.cell 0];rfl
  rw[<- zf n (by omega),y.cell 1];rfl
 have i:Hid (∀W:World,w.heap.size<=W.heap.size->jB w.heap.size (W.alloc (.cells #[.int .i64 (k:Nat),.iface 54 (.int .i64 (n:Nat))] 90)) (.iface 87 (.pointer (some ⟨W.heap.size,0,none⟩))) k n):=by intro W z;rw[<- zf n (by omega)];exact jB.new W k n _ _ rfl z
 clear b g E A C;subst c;go_enter func164,ntmps164;go_wp2_with fail;refine r.out.mono ?_;rintro e s ⟨rfl,f,m,o⟩;obtain⟨v,N,l⟩:=H.out f m;rw[<- o]at v N l;have t:=i.out s l.size
 clear o H m r;go_wp2_with fail;go_ret;exact⟨_,rfl,l.alloc l.size _,t⟩
theorem jhU(ed:Ed)(H:Value)(w:World)(h:vP w H ed.fields)(K:jkm ed.fields):
  Calls prog 163 #[.agg #[.int .i64 ed.kind,.int .i64 ed.id,H]] w fun e L=>∃u a,e=.returned u/\Below w.heap.size w L/\vE w.heap.size L u a (zG ed):=by
 obtain⟨p,q,rfl,_,_⟩:=_root_.id h;obtain⟨k,s⟩:∃k,k=w.alloc (.cells #[.int .i64 ed.kind,.int .i64 ed.id,.slice p ed.fields.length q] 75):=⟨_,rfl⟩
 have g:Below w.heap.size w k:=by rw[s];exact(joL _ w).alloc (joJ _) _
 have E:=joI (jhT ed.fields (.slice p ed.fields.length q) k (h.below g (joJ _)) (by have:=K.len;omega) (fun f N=>by have:=K.each f N;omega));have b:=joI g
 have i:=joI (show zG ed=if ed.kind=1\/ed.kind=3 then qD ed.fields else if ed.kind=2/\ed.fields.length=0 then 0 else 2 from rfl);have d:Hid (∀W u,vE k.heap.size W u (vz ed.fields) (qD ed.fields)->zG ed=qD ed.fields->∃a,vE w.heap.size W u a (zG ed)):=by intro W u O c;rw[c];exact⟨_,O.mono g.size⟩
 have n:Hid (∀W u,JF k.heap.size W u ed.fields->vE k.heap.size W u (vz ed.fields) (qD ed.fields)):=fun W u h=>vE.of h;have v:Hid (∀W,zG ed=0->vE w.heap.size W .nilIface (-9) (zG ed)):=fun W h=>by rw[h];exact vE.none _ _
 have l:Hid (∀W,zG ed=2->vE w.heap.size W (.iface 54 (.int .i64 2)) (-9) (zG ed)):=fun W h=>by rw[h];exact vE.err _ _ 2 (by decide)
 have A:((ed.fields.length:Int)==0)=decide (ed.fields.length=0):=by rw[jpI];simp
 clear g h;subst s;generalize z:zG ed=r at *
 generalize qD ed.fields=G at *
 generalize vz ed.fields=P at *
 generalize ed.fields.length=fl at *
 generalize ed.kind=j at *
 generalize ed.id=D at *
 clear z;by_cases I:j=1
 ·subst I;have c:r=G:=by rw[i.out,if_pos (.inl rfl)]
  go_enter func163,ntmps163;go_wp2_with fail;refine E.out.mono ?_;rintro e t ⟨u,rfl,o,C⟩;obtain⟨a,m⟩:=d.out t u (n.out t u C) c;go_wp2_with fail;go_ret
  first | exact⟨_,rfl,b.out.trans (o.mono b.out.size),a,m⟩ | exact⟨_,a,rfl,b.out.trans (o.mono b.out.size),m⟩
 by_cases J:j=3
 ·subst J;have c:r=G:=by rw[i.out,if_pos (.inr rfl)]
  go_enter func163,ntmps163;go_wp2_with fail;refine E.out.mono ?_;rintro e t ⟨u,rfl,o,C⟩;obtain⟨a,m⟩:=d.out t u (n.out t u C) c;go_wp2_with fail;go_ret
  first | exact⟨_,rfl,b.out.trans (o.mono b.out.size),a,m⟩ | exact⟨_,a,rfl,b.out.trans (o.mono b.out.size),m⟩
 have Q:(j==1)=false:=by simpa using I
 have U:(j==3)=false:=by simpa using J
 by_cases y:j=2
 ·subst y;by_cases x:fl=0
  ·have c:r=0:=by rw[i.out,if_neg (by omega),if_pos ⟨rfl,x⟩]
   have F:=v.out (w.alloc (.cells #[.int .i64 2,.int .i64 D,.slice p fl q] 75)) c;clear c i v l d n;subst x;go_enter func163,ntmps163;go_wp2_with fail;go_ret
   first | exact⟨_,rfl,b.out,_,F⟩ | exact⟨_,_,rfl,b.out,F⟩
  have c:r=2:=by rw[i.out,if_neg (by omega),if_neg (by intro h;exact x h.2)]
  have F:=l.out (w.alloc (.cells #[.int .i64 2,.int .i64 D,.slice p fl q] 75)) c;clear c i v l d n;rw[decide_eq_false x]at A;go_enter func163,ntmps163;go_wp2_with fail;go_ret
  first | exact⟨_,rfl,b.out,_,F⟩ | exact⟨_,_,rfl,b.out,F⟩
 have R:(j==2)=false:=by simpa using y
 have c:r=2:=by rw[i.out,if_neg (by omega),if_neg (by intro h;exact y h.1)]
 have F:=l.out (w.alloc (.cells #[.int .i64 j,.int .i64 D,.slice p fl q] 75)) c;clear c i v l d n;go_enter func163,ntmps163;go_wp2_with fail;go_ret
 first | exact⟨_,rfl,b.out,_,F⟩ | exact⟨_,_,rfl,b.out,F⟩
theorem XP(eds:List Ed)(v:Value)(w:World)(h:EdV w v eds)(hl:eds.length<=1000000)(hf:VY eds)(hg:ErrT w):
  Calls prog 118 #[v] w fun e w'=>∃u,e=.returned u/\Below w.heap.size w w'/\vE w.heap.size w' u (qw eds).1 (qw eds).2:=by
 obtain⟨A,a7,rfl,aa,Z⟩:=h;have Q:=joI Z
 have HF:=joI hf;have HG:=joI hg
 clear Z hf hg;by_cases Y:eds.length=0
 ·have O:qw eds=(-9,1):=by unfold qw;rw[if_pos (by omega)]
  rw[O,Y];have F:=vE.err w.heap.size w 1 (by decide)
  rw[show Zc 1=.iface 54 (.int .i64 1) from rfl]at F;go_enter func118,ntmps118;go_wp2_with fail;go_ret;exact⟨_,rfl,joL _ _,F⟩
 have q0:((eds.length:Int)==0)=false:=by simp;intro h;exact Y (by rw[h];rfl)
 by_cases a8:40<eds.length
 ·have O:qw eds=(-9,1):=by unfold qw;rw[if_pos (by omega)]
  rw[O];have F:=vE.err w.heap.size w 1 (by decide)
  rw[show Zc 1=.iface 54 (.int .i64 1) from rfl]at F;go_enter func118,ntmps118;go_wp2_with fail;go_ret;exact⟨_,rfl,joL _ _,F⟩
 have e1:qw eds=yG 0 eds:=by unfold qw;rw[if_neg (by omega)]
 rw[e1];go_enter func118,ntmps118;go_wp2_with fail;go_loopw [17] (fun i wr=>∃k:Nat,k<=eds.length/\i=.int .i64 k/\(∀x∈eds.take k,zG x=0)/\Below w.heap.size w wr) (fun i _=>eds.length-(intOf i).toNat)
 case atStart=>exact⟨0,joT _,rfl,(fun x hx=>by simp at hx),joL _ _⟩
 case round =>
 obtain⟨k,hk,rfl,d,t⟩:=hrel;by_cases E:k<eds.length
 ·obtain⟨c,f⟩:∃c,eds[k]?=some c:=⟨_,joM E⟩
  obtain⟨b,s,fv,rfl,m,R,U,V,n⟩:=Q.out k c f;obtain⟨W,X,rfl,_,_⟩:=_root_.id n.1;replace R:=(t.cell (p:=⟨b,s+k*3,none⟩) m).trans R;replace U:=(t.cell (p:=⟨b,s+k*3+1,none⟩) m).trans U;replace V:=(t.cell (p:=⟨b,s+k*3+1+1,none⟩) m).trans V;obtain⟨H,G⟩:∃H,H=wr.alloc (.cells #[.int .i64 c.kind,.int .i64 c.id,.slice W c.fields.length X] 75):=⟨_,rfl⟩
  have l:Below w.heap.size w H:=by rw[G];exact t.alloc t.size _
  have K:=joI (jhU c (.slice W c.fields.length X) H (n.1.below l (joJ _)) (HF.out c (joW f)));have L:Hid (zG c=0->∀x∈eds.take (k+1),zG x=0):=fun j x hx=>by
   rw[take_snoc f]at hx;rcases List.mem_append.1 hx with hx|hx
   ·exact d x hx
   rw[List.mem_singleton.1 hx];exact j
  have I:Hid (zG c≠0->yG 0 eds=(((k:Nat):Int),zG c)):=fun j=>by rw[GY eds 0 k c d f j,jpl]
  have C:=joI l;have r:=jjw c
  clear f d n l;generalize zG c=P at *
  subst G;go_wp2_with fail;refine K.out.mono ?_;rintro e w2 ⟨u,a,rfl,b2,j⟩;have y:=joI (C.out.trans (b2.mono C.out.size))
  by_cases g:P=0
  ·subst g;obtain⟨_,⟨rfl,_⟩|⟨_,_,_,hx⟩⟩:=j
   ·have N:=joI (L.out rfl);clear L I K;rw[show Zc 0=.nilIface from rfl];go_wp2_with fail;go_roundw
    case rel=>exact⟨k+1,E,by go_num,N.out,y.out⟩
    case measure=>simp[intOf];omega
   exact absurd rfl hx
  have FA:=joI (jbh k P a u w2 j g (HG.out.below y.out (joJ _)));have J:=I.out g
  have o:(∃z,u=.iface 54 (.int .i64 z))\/∃q,u=.iface 87 (.pointer (some ⟨q,0,none⟩)):=by
   obtain⟨_,⟨rfl,_⟩|⟨_,⟨q,_,rfl,_⟩,_,_⟩⟩:=j
   ·rw[zf P (by omega)];exact .inl ⟨_,rfl⟩
   exact .inr ⟨q,rfl⟩
  clear j L I K;rcases o with ⟨z,rfl⟩|⟨q,rfl⟩
  all_goals
   go_wp2_with fail;refine FA.out.mono ?_;rintro e w3 ⟨u',rfl,b3,D⟩;have Z3:Hid (vE w.heap.size w3 u' (yG 0 eds).1 (yG 0 eds).2):=by show vE _ _ _ _ _;rw[J];exact vE.fault (D.mono y.out.size) g r
   have B3:=joI (y.out.trans (b3.mono y.out.size));clear D b3;go_wp2_with fail;go_ret;exact⟨_,rfl,B3.out,Z3.out⟩
 obtain rfl:k=eds.length:=by omega
 rw[jpa]at d;have HZ:vE w.heap.size wr .nilIface (yG 0 eds).1 (yG 0 eds).2:=by rw[Qg eds 0 d];exact vE.none w.heap.size wr
 clear Q d;go_wp2_with fail;go_ret;exact⟨_,rfl,t,HZ⟩
theorem jfn(eds:List Ed)(v:Value)(w:World)(h:EdV w v eds)(hl:eds.length<=1000000)(b:Kd eds)(c:ErrT w):
  Calls prog 118 #[v] w fun e a=>∃u,e=.returned u/\Below w.heap.size w a/\vE w.heap.size a u (qw eds).1 (qw eds).2:=XP eds v w h hl b.eight c
end
def jfm(its:List It):Nat:=(its.filter fun it=>decide (it.kind=3)).length
theorem jbv(its:List It)(it:It):jfm (its++[it])=jfm its+if it.kind=3 then 1 else 0:=by
 unfold jfm;rw[jqS,joK];congr 1;by_cases h:it.kind=3
 ·rw[if_pos h,jp4,if_pos (by simpa using h)];rfl
 rw[if_neg h,jp4,if_neg (by simpa using h)];rfl
def Vo(p:PS):Prop:=jfm p.items=p.stanzas
theorem Vo.endField{p:PS}(h:Vo p):Vo (jd p):=by
 unfold jd;split
 ·exact h
 exact h
theorem Vo.endItem{t:List UInt8}{p:PS}(h:Vo p)(kind e:Nat)(a:kind≠3):Vo (zl t p kind e):=by show jfm (p.items++[_])=p.stanzas;rw[jbv,if_neg (by show((kind:Nat):Int)≠3;omega),h];rfl
theorem Vo.endBlock{t:List UInt8}{p:PS}(h:Vo p)(e:Nat):Vo (jk t p e):=by
 unfold jk;split
 ·exact h
 split
 ·exact h.endItem 2 e (by decide)
 show jfm (p.items++[_])=p.stanzas+1;rw[jbv,if_pos (by rfl),h]
theorem Vo.went{p:PS}(h:Vo p)(x:Ln):Vo (zx p x):=by unfold zx;split<;>exact h
theorem Vo.then_{p:PS}(h:Vo p)(x:Ln):Vo (qT p x):=by
 unfold qT;split
 ·exact(h.went x).endField
 exact h.went x
theorem Vo.put{t:List UInt8}{p:PS}(h:Vo p)(x:Ln):Vo (JK t p x):=by
 unfold JK;split
 ·exact h
 split
 ·exact(h.endBlock x.at_).endItem 1 _ (by decide)
 exact h
theorem Vo.take{t:List UInt8}{p q:PS}{x:Ln}(h:Vo p)(a:zq t p x=.ok q):Vo q:=by obtain⟨_,_,rfl⟩:=yK a;exact(h.then_ x).put x
theorem Vo.run(t:List UInt8):∀(c:List Ln) (p q:PS),Vo p->qU t p c=.ok q->Vo q
 | [],p,q,h,a=>by cases a;exact h
 | x::c,p,q,h,a=>by
  unfold qU at a;cases b:zq t p x with
  | error e=>rw[b]at a;cases a
  | ok d =>
  rw[b]at a;exact Vo.run t c d q (h.take b) a
theorem YZ{t:List UInt8}{its:List It}(h:jD t=.ok its):jfm its<=400:=by
 obtain⟨p,b,c,rfl,g,_⟩:=QS h;have a:Vo (jk t (jd p) t.length):=((Vo.run t _ _ _ (by rfl) b).endField).endBlock _
 rw[show jfm _=_ from a];exact g.st
theorem Xd:∀(n:Int) (e:List It),0<n->(∀m∈nums (zT n e),n<=m/\m<jI n e)/\(nums (zT n e)).Nodup/\(nums (zT n e)).length=jfm e/\n<=jI n e
 | n,[],h=>⟨(fun m g=>by cases g),List.nodup_nil,rfl,jqm _⟩
 | n,i::r,h=>by
  by_cases f:i.kind=3
  ·obtain⟨a,b,c,d⟩:=Xd (n+1) r (by omega);have j:nums (zT n (i::r))=n::nums (zT (n+1) r):=by unfold nums;rw[zT,if_pos f,jpr,jp4,if_pos (by simpa using h)]
   have k:jI n (i::r)=jI (n+1) r:=by rw[jI,if_pos f]
   rw[j,k];refine⟨fun m g => ?_,List.nodup_cons.2 ⟨fun q => ?_,b⟩,?_,by omega⟩
   ·rcases List.mem_cons.1 g with rfl|g
    ·exact⟨jqm _,by omega⟩
    have:=a m g;exact⟨by omega,this.2⟩
   ·have:=(a n q).1;omega
   unfold jfm at c ⊢;rw[joR,c,jp4,if_pos (by simpa using f)];rfl
  obtain⟨a,b,c,d⟩:=Xd n r h;have j:nums (zT n (i::r))=nums (zT n r):=by unfold nums;rw[zT,if_neg f,jpr,jp4,if_neg (by simp)]
  have k:jI n (i::r)=jI n r:=by rw[jI,if_neg f]
  rw[j,k];refine⟨a,b,?_,d⟩;unfold jfm at c ⊢;rw[c,jp4,if_neg (by simpa using f)]
theorem jhd{t:List UInt8}{its:List It}(h:jD t=.ok its):OkL (zF its):=by
 obtain⟨a,b,c,d⟩:=Xd 1 its (by decide);refine⟨jcu 1 its (by decide),by show 0<jI 1 its;omega,fun n e=>(a n e).2,b,?_⟩;rw[<- xu];show(nums (zT 1 its)).length<=400
 rw[c];exact YZ h
section
attribute [local go_sem] joY
theorem jjk(lb:Nat)(d:Value)(a:List Pr)(b id:Int)(fs:List Fld)(v:Value)(w:World)(h:LA w lb d a b)(c:WF (a.map Prod.fst))(l:yS (a.map Prod.fst)<=400)(j:a.length<=10000)(i : -1000000<=b/\b<=1000000)(m:ZC w v fs)(g:jbN fs):
  Calls prog 243 #[ptr lb,.int .i64 id,v] w fun e n=>∃u f k,e=.returned (.tuple #[.int .i64 (zo ⟨a.map Prod.fst,b⟩ id fs).id,u])/\WrR w lb d a (zo ⟨a.map Prod.fst,b⟩ id fs) u n f k:=by
 have:=jci lb d a b id fs v w h j i m g;rw[jnh c,jni c l,show yl (jha (a.map Prod.fst) id) (decide (400<=yS (a.map Prod.fst))) ⟨a.map Prod.fst,b⟩ fs=zo ⟨a.map Prod.fst,b⟩ id fs by rw[ja5]]at this;exact this
theorem jn1(lb:Nat)(d:Value)(a:List Pr)(f:Int)(w:World)(h:LR w lb d a f)(c:WF (a.map Prod.fst))(b:a.length<=1000000):
  Calls prog 32 #[ptr lb] w fun e g=>e=.returned (.int .i64 (yS (a.map Prod.fst):Nat))/\Below w.heap.size w g:=by
 have:=Gf lb d a f w h b;rw[jc9 c]at this;exact this
end
def SzL(es:List En):Prop:=∀e∈es,e.1.raw.length<=100000/\e.1.fields.length<=1000000
theorem jjT(l:LS)(kind id:Int)(fs:List Fld):∀e∈(xe l kind id fs).ls.es,e∈l.es\/(e.1=zI fs/\qD fs=0):=by
 intro e a;unfold xe at a;split at a
 ·unfold zy at a;split at a
  ·exact .inl a
  rename_i k g;split at a
  ·rename_i f;have b:e∈Uh l.es k (zI fs):=a
   unfold Uh at b;obtain⟨j,d⟩:=List.getElem?_of_mem b;rw[jq1]at d;cases hx:l.es[j]? with
   | none=>rw[hx]at d;cases d
   | some y =>
   rw[hx]at d;have c:(if k=j then (zI fs,y.2) else y)=e:=joN d
   by_cases q:k=j
   ·rw[if_pos q]at c;rw[<- c];exact .inr ⟨rfl,f⟩
   rw[if_neg q]at c;rw[<- c];exact .inl (joW hx)
  exact .inl a
 split at a
 ·unfold qr at a;split at a
  ·exact .inl a
  have b:e∈jcI l.es _:=a;unfold jcI at b;rcases List.mem_append.1 b with q|q
  ·exact .inl (jpM q)
  exact .inl (jpz q)
 unfold zo at a;split at a
 ·exact .inl a
 split at a
 ·rename_i f;split at a
  ·exact .inl a
  have b:e∈jbO l.es _ (zI fs,l.next):=a;unfold jbO at b;rcases List.mem_append.1 b with q|q
  ·exact .inl (jpM q)
  rcases List.mem_cons.1 q with q|q
  ·rw[q];exact .inr ⟨rfl,f⟩
  exact .inl (jpz q)
 exact .inl a
structure zM(S0:Nat)(w:World)(lb:Nat)(ev:Value)(ps:List Pr)(l:LS)(m:Nat):Prop where
 la:LA w lb ev ps l.next
 es:ps.map Prod.fst=l.es
 ok:OkL l
 sz:SzL l.es
 lb0:S0<=lb
 ev0:∀b,ev.ownBlock=some b->S0<=b
 len:l.es.length<=m
 nx:l.next<=m+1
theorem zM.wf{S0:Nat}{w:World}{lb:Nat}{b:Value}{a:List Pr}{l:LS}{m:Nat}(h:zM S0 w lb b a l m):WF (a.map Prod.fst):=by rw[h.es];exact h.ok.wf
theorem zM.below{S0:Nat}{w w':World}{lb:Nat}{a:Value}{b:List Pr}{l:LS}{m N:Nat}(h:zM S0 w lb a b l m)(d:Below N w w')(c:w.heap.size<=N):zM S0 w' lb a b l m :=
 ⟨h.la.below d c,h.es,h.ok,h.sz,h.lb0,h.ev0,h.len,h.nx⟩
theorem zM.ents{S0:Nat}{w:World}{lb:Nat}{d:Value}{c:List Pr}{l:LS}{m:Nat}(h:zM S0 w lb d c l m)(f:m<=10000):Ke c:=by
 have a:∀p∈c,p.1∈l.es:=fun p b=>by rw[<- h.es];exact jqQ b
 have hl:c.length=l.es.length:=by rw[<- h.es,jo8]
 refine⟨by have:=h.len;omega,fun p b=>(h.sz _ (a p b)).1,fun p b=>(h.sz _ (a p b)).2,fun p b => ?_⟩;rcases h.ok.wf _ (a p b) with ⟨_,q⟩|⟨_,q⟩
 ·have e:p.1.2∈nums l.es:=by unfold nums;exact List.mem_filter.2 ⟨jqQ (a p b),by simpa using q⟩
  have:=h.ok.lt _ e;have:=h.nx
  omega
 omega
theorem zM.str{S0:Nat}{w:World}{lb:Nat}{a:Value}{c:List Pr}{l:LS}{m:Nat}(h:zM S0 w lb a c l m):StR w lb a c l.next (.slice none 0 0) [] :=
 ⟨h.la,jff w,(fun b e=>by cases e),(fun p d=>by cases d)⟩
theorem SzL.edit{l:LS}(h:SzL l.es)(kind id:Int){fs:List Fld}(a:(jO fs).length<=100000)(b:fs.length<=1000000):SzL (xe l kind id fs).ls.es:=fun e c=>by
 rcases jjT l kind id fs e c with q|⟨q,_⟩
 ·exact h e q
 rw[q];exact⟨a,b⟩
theorem zM.edit{S0:Nat}{w w':World}{lb:Nat}{i d:Value}{o f:List Pr}{l:LS}{m:Nat}(h:zM S0 w lb i o l m)(kind id:Int){fs:List Fld}(j:(jO fs).length<=100000)(k:fs.length<=1000000)
  (n:LA w' lb d f (xe l kind id fs).ls.next) (es:f.map Prod.fst=(xe l kind id fs).ls.es) (p:S0<=w.heap.size) (g:∀b,d.ownBlock=some b->i.ownBlock=some b\/w.heap.size<=b):zM S0 w' lb d f (xe l kind id fs).ls (m+1):=by
 obtain⟨a,_,c⟩:=jdR l kind id fs;have hl:=h.len
 have r:=h.nx;refine⟨n,es,h.ok.edit kind id fs,h.sz.edit kind id j k,h.lb0,fun b e => ?_,by omega,by omega⟩;rcases g b e with q|q
 ·exact h.ev0 b q
 omega
section
attribute [local go_sem] joY
theorem WrR.from{w j w':World}{lb:Nat}{g u a:Value}{i c:List Pr}{d:Did}(h:WrR j lb g i d u w' a c)(f:Below w.heap.size w j):WrR w lb g i d u w' a c:=by
 refine⟨h.la,h.es,?_,?_,h.err.mono f.size,fun p k => ?_⟩
 ·exact(jH.of_below (S:=fun r=>r=lb\/g.ownBlock=some r) f (joJ _)).trans h.only (fun r _ e=>e)
 ·rcases h.blk with q|⟨b,q,l⟩
  ·exact .inl q
  exact .inr ⟨b,q,by have:=f.size;omega⟩
 rcases h.mem p k with q|q
 ·exact .inl q
 exact .inr (fun b e=>by have:=q b e;have:=f.size;omega)
theorem jf5(l:LS){ed:Ed}(h:ed.kind=1):jM l ed=zy l ed.id ed.fields:=by unfold jM xe;rw[if_pos h]
theorem jf4(l:LS){ed:Ed}(h:ed.kind=2):jM l ed=qr l ed.id:=by unfold jM xe;rw[if_neg (by omega),if_pos h]
theorem jf3(l:LS){ed:Ed}(a:ed.kind≠1)(b:ed.kind≠2):jM l ed=zo l ed.id ed.fields:=by unfold jM xe;rw[if_neg a,if_neg b]
theorem Vx(l:LS)(id:Int)(fs:List Fld):(zy l id fs).id=0:=by
 unfold zy;split
 ·rfl
 split<;>rfl
theorem XL(l:LS)(id:Int):(qr l id).id=0:=by unfold qr;split<;>rfl
theorem jmc{S0:Nat}{w:World}{lb:Nat}{j:Value}{c:List Pr}{l:LS}{m:Nat}(C:zM S0 w lb j c l m)(G:m<=10000)(ed:Ed)(z:Value)(s:ZC w z ed.fields)(A:jbN ed.fields):
  Calls prog 209 #[ptr lb,.agg #[.int .i64 ed.kind,.int .i64 ed.id,z]] w fun e i=>∃u a b,e=.returned (.tuple #[.int .i64 (jM l ed).id,u])/\WrR w lb j c (jM l ed) u i a b:=by
 obtain⟨x,y,rfl⟩:=s.form;obtain⟨n,f⟩:∃n,n=w.alloc (.cells #[.int .i64 ed.kind,.int .i64 ed.id,.slice x ed.fields.length y] 75):=⟨_,rfl⟩
 have d:Below w.heap.size w n:=by rw[f];exact(joL _ w).alloc (joJ _) _
 have q:=C.below d (joJ _);have hl:c.length<=m:=by have:=C.len;rw[<- C.es,jo8]at this;exact this
 have E:=C.nx;have I:=C.ok.pos
 have g:=C.wf;have k:=s.below d (joJ _)
 have r:(⟨c.map Prod.fst,l.next⟩:LS)=l:=by rw[C.es]
 by_cases t:ed.kind=1
 ·have R:=jaB lb j c l.next ed.id ed.fields (.slice x ed.fields.length y) n q.la (by omega) k A;rw[jcz g,show JJ (vM (c.map Prod.fst) ed.id) ⟨c.map Prod.fst,l.next⟩ ed.fields=zy ⟨c.map Prod.fst,l.next⟩ ed.id ed.fields by rw[KQ],r]at R;rw[jf5 l t,Vx];have R:=joI R
  have o:Hid (∀u i a b,WrR n lb j c (zy l ed.id ed.fields) u i a b->WrR w lb j c (zy l ed.id ed.fields) u i a b):=fun u i a b h=>h.from d;generalize zy l ed.id ed.fields=dd at *
  clear d q C s k g r;rw[t]at f ⊢;subst f;unfold ptr at *
  go_enter func209,ntmps209;go_wp2_with fail;refine R.out.mono ?_;rintro e D ⟨u,a,b,rfl,p⟩;have H:=o.out _ _ _ _ p
  clear p R o;go_wp2_with fail;go_ret2;exact⟨u,a,b,rfl,H⟩
 by_cases v:ed.kind=2
 ·have R:=jcE lb j c l.next ed.id n q.la (by omega);rw[jcz g,show XK (vM (c.map Prod.fst) ed.id) ⟨c.map Prod.fst,l.next⟩=qr ⟨c.map Prod.fst,l.next⟩ ed.id by rw[jbq],r]at R;rw[jf4 l v,XL];have R:=joI R
  have o:Hid (∀u i a b,WrR n lb j c (qr l ed.id) u i a b->WrR w lb j c (qr l ed.id) u i a b):=fun u i a b h=>h.from d;generalize qr l ed.id=dd at *
  clear d q C s k g r;rw[v]at f ⊢;subst f;unfold ptr at *
  go_enter func209,ntmps209;go_wp2_with fail;refine R.out.mono ?_;rintro e D ⟨u,a,b,rfl,p⟩;have H:=o.out _ _ _ _ p
  clear p R o;go_wp2_with fail;go_ret2;exact⟨u,a,b,rfl,H⟩
 have R:=jjk lb j c l.next ed.id ed.fields (.slice x ed.fields.length y) n q.la g (by rw[C.es];exact C.ok.len) (by omega) (by omega) k A;rw[r]at R;rw[jf3 l t v];have R:=joI R
 have o:Hid (∀u i a b,WrR n lb j c (zo l ed.id ed.fields) u i a b->WrR w lb j c (zo l ed.id ed.fields) u i a b):=fun u i a b h=>h.from d;generalize zo l ed.id ed.fields=dd at *
 have J:(ed.kind==1)=false:=by simpa using t
 have K:(ed.kind==2)=false:=by simpa using v
 clear d q C s k g r;subst f;unfold ptr at *
 go_enter func209,ntmps209;go_wp2_with fail;refine R.out.mono ?_;rintro e D ⟨u,a,b,rfl,p⟩;have H:=o.out _ _ _ _ p
 clear p R o;go_wp2_with fail;go_ret2;exact⟨u,a,b,rfl,H⟩
structure jnC(g:Nat)(cb:Array Value)(w0:World)(N1:Nat)(l0:LS)(eds:List Ed)(P:Nat->World->(Nat->Prop)->Prop):Prop where
 eg:∀args w,(callFunc g args).run prog w=.ok (.enter g args) w
 lt:∀j W Z,P j W Z->∀r,Z r->w0.heap.size<=r/\r<W.heap.size
 keep:∀j W W' Z (S:Nat->Prop),P j W Z->jH S W W'->(∀r,Z r->¬S r)->P j W' Z
 ask:∀(j:Nat) (ed:Ed) (fv:Value) (W:World) (Z:Nat->Prop) (lb:Nat) (ev:Value) (ps:List Pr) (m:Nat),eds[j]?=some ed->zG ed=0->P j W Z->Below w0.heap.size w0 W->zM N1 W lb ev ps (zH l0 (eds.take j)) m->m<=10000->(∀r,Ky lb ev ps (.slice none 0 0) [] r->¬Z r)->ZC W fv ed.fields->(∃A c,fv=.slice A ed.fields.length c) ->
  Calls prog g (#[ptr lb,.agg #[.int .i64 ed.kind,.int .i64 ed.id,fv]]++cb) W fun e W'=>e=.returned (.tuple #[])/\∃Z',P (j+1) W' Z'/\jH Z W W'/\∀r,Z' r->Z r\/W.heap.size<=r
theorem zM.blkEd{S0:Nat}{w w':World}{lb:Nat}{d a u:Value}{f c:List Pr}{l:LS}{m:Nat}(h:zM S0 w lb d f l m){ed:Ed}(g:(jO ed.fields).length<=100000)(i:ed.fields.length<=1000000)(j:S0<=w.heap.size)(R:WrR w lb d f (jM l ed) u w' a c):zM S0 w' lb a c (jM l ed).ls (m+1) :=
 h.edit ed.kind ed.id g i R.la R.es j (fun b e=>by
  rcases R.blk with q|⟨n,q,k⟩
  ·exact .inl (by rw[<- q];exact e)
  right;rw[q]at e;cases e;exact k)
theorem WrR.blks{w w':World}{lb:Nat}{i u a:Value}{j c:List Pr}{d:Did}(h:WrR w lb i j d u w' a c){r:Nat}(l:Ky lb a c (.slice none 0 0) [] r):Ky lb i j (.slice none 0 0) [] r\/w.heap.size<=r:=by
 rcases l with q|q|q|⟨p,g,f,q⟩|⟨p,g,_⟩
 ·exact .inl (.inl q)
 ·rcases h.blk with e|⟨b,e,k⟩
  ·exact .inl (.inr (.inl (by rw[<- e];exact q)))
  rw[e]at q;cases q;exact .inr k
 ·cases q
 ·rcases h.mem p g with e|e
  ·exact .inl (.inr (.inr (.inr (.inl ⟨p,e,f,q⟩))))
  exact .inr (e r q)
 cases g
theorem zM.only{S0:Nat}{w w':World}{lb:Nat}{a:Value}{b:List Pr}{l:LS}{m:Nat}{S:Nat->Prop}(h:zM S0 w lb a b l m)(g:jH S w w')(c:∀r,Ky lb a b (.slice none 0 0) [] r->¬S r):zM S0 w' lb a b l m :=
 ⟨(h.str.only g c).la,h.es,h.ok,h.sz,h.lb0,h.ev0,h.len,h.nx⟩
end
end Go.Proofs.YtbapfpekklcicaaGreatDoor
