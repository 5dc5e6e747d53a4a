/- Texts put together:ED,EE,EF,EG,NH,NF,NI,NJ,EH. -/
import Derived.LaidEql
import Derived.Stop.Asserts
import Derived.RowKitTokens
import Derived.Test.YtbapfpekklcicaaGreatDoorBbx14
set_option linter.unusedVariables false
set_option maxRecDepth 100000
set_option maxHeartbeats 16000000
namespace Go.Proofs.YtbapfpekklcicaaGreatDoor
open Go.RowKit Go.Shelf Tryz
abbrev jpn:=@Go.Sem.run_bind
abbrev jpr:=@Go.World.cell?_alloc_lt
abbrev jpu:=@List.mem_map_of_mem
abbrev jqA:=@List.getElem?_of_mem
section
open Go.Extern.Stop Go.Stop Go.Extern
theorem GU(t:Addr)(w:World):(ReflectliteValue.unpack (.iface 263 (.pointer (some t)))).run prog w
  = .ok (.agg #[.pointer (some ⟨9,263,none⟩),.pointer (some ⟨w.heap.size,0,none⟩),.int .u64 150]) (w.alloc (.cells #[.pointer (some t)] 263)):=by kernel_rfl
theorem jjS(a:Addr)(w:World):(ReflectliteValue.methodAny (ReflectliteValue.valueError "reflectlite.Value.Type" 0) (fun t _ _ _=>ReflectliteType.toType t) #[.agg #[.pointer (some ⟨9,263,none⟩),.pointer (some a),.int .u64 150]]).run prog w
  = .ok (.iface 320 (.agg #[.pointer (some ⟨9,263,none⟩)])) w:=by kernel_rfl
theorem KT(h:Value)(w:World):(Go.method 488 320 (.agg #[h]) "Kind").run prog w=.ok (304,h) w:=by kernel_rfl
theorem jj9(w:World):((ReflectliteType.abiMethod fun t=>(fun a:Nat=>Value.int IntKind.u8 (a:Int)) <$> Rtype.kind t) #[.pointer (some ⟨9,263,none⟩)]).run prog w=.ok (.int .u8 22) w:=by kernel_rfl
theorem jml(w:World):((ReflectliteType.abiMethod fun t=>(fun a:Nat=>Value.int IntKind.u8 (a:Int)) <$> Rtype.kind t) #[.pointer (some ⟨9,87,none⟩)]).run prog w=.ok (.int .u8 22) w:=by kernel_rfl
theorem jnA(z:Sem Value)(f:TypeId->Addr->Nat->Nat->Sem Value)(v:Value):
  ReflectliteValue.method z f #[v]=(do match <- ReflectliteValue.parts v with | none=>z | some (t,a,fl)=>f t a fl (fl % 32)):=rfl
theorem jfS(a:Addr)(w:World):(ReflectliteValue.parts (.agg #[.pointer (some ⟨9,263,none⟩),.pointer (some a),.int .u64 150])).run prog w=.ok (some (263,a,150)) w:=by kernel_rfl
theorem jgr(a p:Addr)(W:World)(b:W.cell? a=some (.pointer (some p))):
  (ReflectliteValue.method (ReflectliteValue.valueError "reflectlite.Value.IsNil" 0) ReflectliteValue.isNil #[.agg #[.pointer (some ⟨9,263,none⟩),.pointer (some a),.int .u64 150]]).run prog W=.ok (.bool false) W:=by
 rw[jnA];simp only[jpn,jfS,Result.andThen];simp[ReflectliteValue.isNil,loadVar,isAgg,underlying,underlying263,b,Result.andThen]
theorem KU(h:Value)(w:World):(Go.method 488 320 (.agg #[h]) "Elem").run prog w=.ok (321,.agg #[h]) w:=by kernel_rfl
theorem xN(h:Value)(w:World):(Go.method 488 320 (.agg #[h]) "Implements").run prog w=.ok (322,.agg #[h]) w:=by kernel_rfl
theorem yv(h:Value)(w:World):(Go.method 488 320 (.agg #[h]) "AssignableTo").run prog w=.ok (319,.agg #[h]) w:=by kernel_rfl
theorem jkd(w:World):(ReflectliteType.method ReflectliteType.elem #[.agg #[.pointer (some ⟨9,263,none⟩)]]).run prog w=.ok (.iface 320 (.agg #[.pointer (some ⟨9,87,none⟩)])) w:=by kernel_rfl
theorem Xh(w:World):(ReflectliteType.relation "Implements" ReflectliteType.implements_ #[.agg #[.pointer (some ⟨9,87,none⟩)],.iface 320 (.agg #[.pointer (some ⟨9,32,none⟩)])]).run prog w=.ok (.bool true) w:=by kernel_rfl
theorem jkl(v:Value)(w:World):(ReflectliteType.typeOf #[.iface 87 v]).run prog w=.ok (.iface 320 (.agg #[.pointer (some ⟨9,87,none⟩)])) w:=by kernel_rfl
theorem jkm(v:Value)(w:World):(ReflectliteType.typeOf #[.iface 54 v]).run prog w=.ok (.iface 320 (.agg #[.pointer (some ⟨9,54,none⟩)])) w:=by kernel_rfl
theorem jcr(w:World):(ReflectliteType.relation "AssignableTo" ReflectliteType.assignableTo #[.agg #[.pointer (some ⟨9,87,none⟩)],.iface 320 (.agg #[.pointer (some ⟨9,87,none⟩)])]).run prog w=.ok (.bool true) w:=by kernel_rfl
theorem jcs(w:World):(ReflectliteType.relation "AssignableTo" ReflectliteType.assignableTo #[.agg #[.pointer (some ⟨9,54,none⟩)],.iface 320 (.agg #[.pointer (some ⟨9,87,none⟩)])]).run prog w=.ok (.bool false) w:=by kernel_rfl
theorem jhU(e:Addr)(w:World):(ReflectliteValue.unpack (.iface 87 (.pointer (some e)))).run prog w
  = .ok (.agg #[.pointer (some ⟨9,87,none⟩),.pointer (some ⟨w.heap.size,0,none⟩),.int .u64 150]) (w.alloc (.cells #[.pointer (some e)] 87)):=by kernel_rfl
theorem jjm(w:World):(Rtype.elem? 263).run prog w=.ok (some 87) w:=by kernel_rfl
theorem mkP(p:Addr)(w:World):(ReflectliteValue.mk 87 p ReflectliteValue.flagAddr).run prog w=.ok (.agg #[.pointer (some ⟨9,87,none⟩),.pointer (some p),.int .u64 406]) w:=by kernel_rfl
theorem jlv(a p:Addr)(W:World)(b:W.cell? a=some (.pointer (some p))):
  (ReflectliteValue.method (ReflectliteValue.valueError "reflectlite.Value.Elem" 0) ReflectliteValue.elem #[.agg #[.pointer (some ⟨9,263,none⟩),.pointer (some a),.int .u64 150]]).run prog W
   = .ok (.agg #[.pointer (some ⟨9,87,none⟩),.pointer (some p),.int .u64 406]) W:=by
 rw[jnA];simp only[jpn,jfS,Result.andThen];simp[ReflectliteValue.elem,loadVar,isAgg,underlying,underlying263,b,Result.andThen,jjm,mkP]
theorem jnH(v x:Value):ReflectliteValue.set #[v,x]=(do
  let (some (dst,a,fl),some (src,b,_)):=(<- ReflectliteValue.parts v,<- ReflectliteValue.parts x)
   | unsupported (.noEntry "extern/(internal/reflectlite.Value).Set.zeroValue")
  if fl / ReflectliteValue.flagAddr % 2==0 then unsupported (.noEntry "extern/(internal/reflectlite.Value).Set.unaddressable")
  let val <- loadVar src b
  if <- Rtype.directlyAssignable dst src then storeVar dst a val
  else if <- Rtype.implements dst src then
   if (<- Rtype.kind src)==20 then
    match val with
    | .nilIface=>unsupported (.noEntry "extern/reflectlite: a nil value of one interface type handed on as a value of another")
    | _=>storeVar dst a val
   else storeVar dst a (.iface src val)
  else panicString ("reflectlite.Set: value of type " ++ (<- Rtype.spelt src) ++ " is not assignable to type " ++ (<- Rtype.spelt dst))
  pure (.tuple #[])):=rfl
theorem jkP(a:Addr)(w:World):(ReflectliteValue.parts (.agg #[.pointer (some ⟨9,87,none⟩),.pointer (some a),.int .u64 406])).run prog w=.ok (some (87,a,406)) w:=by kernel_rfl
theorem jmb(a:Addr)(w:World):(ReflectliteValue.parts (.agg #[.pointer (some ⟨9,87,none⟩),.pointer (some a),.int .u64 150])).run prog w=.ok (some (87,a,150)) w:=by kernel_rfl
theorem jlz(w:World):(Rtype.directlyAssignable 87 87).run prog w=.ok true w:=by kernel_rfl
theorem jnG(a b e:Addr)(c:Value)(W:World)(d:W.cell? b=some (.pointer (some e)))(g:W.cell? a=some c)(f:W.frozen? a=false):
  (ReflectliteValue.set #[.agg #[.pointer (some ⟨9,87,none⟩),.pointer (some a),.int .u64 406],.agg #[.pointer (some ⟨9,87,none⟩),.pointer (some b),.int .u64 150]]).run prog W
   = .ok (.tuple #[]) (W.setCell a (.pointer (some e))):=by
 rw[jnH];simp only[jpn,jkP,jmb,Result.andThen];simp[ReflectliteValue.flagAddr,loadVar,isAgg,underlying,underlying87,d,Result.andThen,jlz,storeVar,Value.cells,storeCells,Addr.add];rw[run_store prog W a _ _ (by rfl)];simp[g,f]
def ErrT(w:World):Prop:=w.cell? ⟨1,0,none⟩=some (.iface 320 (.agg #[.pointer (some ⟨9,32,none⟩)]))
abbrev hPP:Value:=.pointer (some ⟨9,263,none⟩)
abbrev hP:Value:=.pointer (some ⟨9,87,none⟩)
theorem jjK(e t a:Addr)(d:Value)(w:World)(i:w.cell? a=some (.pointer (some t)))(b:w.cell? t=some d)(g:w.frozen? t=false):
  Calls prog 238 #[.iface 87 (.pointer (some e)),.iface 263 (.pointer (some t)),.agg #[.pointer (some ⟨9,263,none⟩),.pointer (some a),.int .u64 150],.iface 320 (.agg #[.pointer (some ⟨9,87,none⟩)])] w
   fun k q=>k=.returned (.bool true)/\q=((w.alloc (.cells #[.pointer (some ⟨9,263,none⟩),.pointer (some a),.int .u64 150] 294)).alloc (.cells #[.pointer (some e)] 87)).setCell t (.pointer (some e)):=by
 have l:=@run_callFunc_extern prog 256 _ ReflectliteType.typeOf func256 (by kernel_rfl) (by kernel_rfl) (by kernel_rfl) (by kernel_rfl);have o:=@run_callFunc_extern prog 319 _ (ReflectliteType.relation "AssignableTo" ReflectliteType.assignableTo) func319 (by kernel_rfl) (by kernel_rfl) (by kernel_rfl) (by kernel_rfl)
 have s:=@run_callFunc_extern prog 235 _ (fun args=>ReflectliteValue.unpack (args.getD 0 (.tuple #[]))) func235 (by kernel_rfl) (by kernel_rfl) (by kernel_rfl) (by kernel_rfl);have m:=@run_callFunc_extern prog 257 _ (ReflectliteValue.method (ReflectliteValue.valueError "reflectlite.Value.Elem" 0) ReflectliteValue.elem) func257 (by kernel_rfl) (by kernel_rfl) (by kernel_rfl) (by kernel_rfl)
 have n:=@run_callFunc_extern prog 258 _ ReflectliteValue.set func258 (by kernel_rfl) (by kernel_rfl) (by kernel_rfl) (by kernel_rfl);have v:=jkl
 have u:=yv;have j:=jcr
 have p:=jhU;have c:t.block<w.heap.size:=by
  rcases joo t.block w.heap.size with h|h
  ·exact h
  simp[World.cell?,Array.getElem?_eq_none h]at b
 have f:a.block<w.heap.size:=by
  rcases joo a.block w.heap.size with h|h
  ·exact h
  simp[World.cell?,Array.getElem?_eq_none h]at i
 have r:=jlv a t (w.alloc (.cells #[.pointer (some ⟨9,263,none⟩),.pointer (some a),.int .u64 150] 294)) (by rw[jpr _ _ a f];exact i);have st:=jnG t ⟨w.heap.size+1,0,none⟩ e d ((w.alloc (.cells #[.pointer (some ⟨9,263,none⟩),.pointer (some a),.int .u64 150] 294)).alloc (.cells #[.pointer (some e)] 87))
  (by rw[jpq _ _ _ _ (by simp)];rfl)
  (by rw[jpr _ _ t (by simp;omega),jpr _ _ t c];exact b)
  (by rw[World.frozen?_alloc_old _ _ t (by simp;omega),World.frozen?_alloc_old _ _ t (jp6 c)];exact g)
 go_enter func238,ntmps238;go_wp2;refine wp_loop_rounds 1 ?_;rw[rounds_succ];go_wp2;go_ret;exact⟨rfl,rfl⟩
theorem jnf(v:Value)(a:TypeId)(w:World):(Instr.typeAssert (.iface 54 v) a 325 true).run prog w=.ok (.tuple #[.nilIface,.bool false]) w:=run_typeAssert_lacksB underlying325 (by kernel_rfl) (by kernel_rfl) v a w
theorem jne(v:Value)(a:TypeId)(w:World):(Instr.typeAssert (.iface 54 v) a 328 true).run prog w=.ok (.tuple #[.nilIface,.bool false]) w:=run_typeAssert_lacksB underlying328 (by kernel_rfl) (by kernel_rfl) v a w
theorem jmf(v:Value)(a:TypeId)(w:World):(Instr.typeAssert (.iface 54 v) a 329 true).run prog w=.ok (.tuple #[.nilIface,.bool false]) w:=run_typeAssert_lacksB underlying329 (by kernel_rfl) (by kernel_rfl) v a w
theorem jhA(n:Int)(t a:Addr)(w:World):
  Calls prog 238 #[.iface 54 (.int .i64 n),.iface 263 (.pointer (some t)),.agg #[.pointer (some ⟨9,263,none⟩),.pointer (some a),.int .u64 150],.iface 320 (.agg #[.pointer (some ⟨9,87,none⟩)])] w
   fun c f=>c=.returned (.bool false)/\Below w.heap.size w f:=by
 have d:=@run_callFunc_extern prog 256 _ ReflectliteType.typeOf func256 (by kernel_rfl) (by kernel_rfl) (by kernel_rfl) (by kernel_rfl);have e:=@run_callFunc_extern prog 319 _ (ReflectliteType.relation "AssignableTo" ReflectliteType.assignableTo) func319 (by kernel_rfl) (by kernel_rfl) (by kernel_rfl) (by kernel_rfl)
 have k:=jkm;have g:=yv
 have b:=jcs;have h:=jnf
 have i:=jne;have j:=jmf
 go_enter func238,ntmps238;go_wp2;refine wp_loop_rounds 1 ?_;rw[rounds_succ];go_wp2;go_ret;exact⟨rfl,(jnV _ _).alloc (jnT _) _⟩
theorem ErrT.below{w w':World}{N:Nat}(h:ErrT w)(c:Below N w w')(b:w.heap.size<=N):ErrT w':=by have a:1<w.heap.size:=World.block_lt_of_cell? w _ h;exact(c.cell (p:=⟨1,0,none⟩) (jod a b)).trans h
theorem jmR(e t:Addr)(g:Value)(w:World)(r:ErrT w)(d:w.cell? t=some g)(j:w.frozen? t=false):
  Calls prog 201 #[.iface 87 (.pointer (some e)),.iface 263 (.pointer (some t))] w
   fun k y=>k=.returned (.bool true)/\∃l,Below w.heap.size w l/\y=l.setCell t (.pointer (some e)):=by
 have C:=@run_callFunc_extern prog 235 _ (fun args=>ReflectliteValue.unpack (args.getD 0 (.tuple #[]))) func235 (by kernel_rfl) (by kernel_rfl) (by kernel_rfl) (by kernel_rfl);have D:=@run_callFunc_extern prog 236 _ (ReflectliteValue.methodAny (ReflectliteValue.valueError "reflectlite.Value.Type" 0) (fun t _ _ _=>ReflectliteType.toType t)) func236 (by kernel_rfl) (by kernel_rfl) (by kernel_rfl) (by kernel_rfl)
 have E:=@run_callFunc_extern prog 237 _ (ReflectliteValue.method (ReflectliteValue.valueError "reflectlite.Value.IsNil" 0) ReflectliteValue.isNil) func237 (by kernel_rfl) (by kernel_rfl) (by kernel_rfl) (by kernel_rfl);have o:=@run_callFunc_extern prog 304 _ (ReflectliteType.abiMethod fun t=>do pure (.int .u8 (<- Rtype.kind t))) func304 (by kernel_rfl) (by kernel_rfl) (by kernel_rfl) (by kernel_rfl)
 have p:=@run_callFunc_extern prog 321 _ (ReflectliteType.method ReflectliteType.elem) func321 (by kernel_rfl) (by kernel_rfl) (by kernel_rfl) (by kernel_rfl);have q:=@run_callFunc_extern prog 322 _ (ReflectliteType.relation "Implements" ReflectliteType.implements_) func322 (by kernel_rfl) (by kernel_rfl) (by kernel_rfl) (by kernel_rfl)
 have z:=GU;have A:=jjS
 have I:=KT;have G:=KU
 have H:=xN;have x:=jj9
 have v:=jml;have n:=jkd
 have u:=Xh;have f:t.block<w.heap.size:=by
  rcases joo t.block w.heap.size with h|h
  ·exact h
  simp[World.cell?,Array.getElem?_eq_none h]at d
 obtain⟨c,b⟩:∃c,c=(w.alloc (.cells #[.pointer (some t)] 263)).alloc (.cells #[.pointer (some ⟨9,263,none⟩),.pointer (some ⟨w.heap.size,0,none⟩),.int .u64 150] 294):=⟨_,rfl⟩
 have a:Below w.heap.size w c:=by rw[b];exact((jnV _ w).alloc (jnT _) _).alloc (by simp) _
 have J:=jgr ⟨w.heap.size,0,none⟩ t c (by rw[b];simp);have s:c.cell? ⟨1,0,none⟩=some (.iface 320 (.agg #[.pointer (some ⟨9,32,none⟩)])):=r.below a (jnT _)
 have m:=jnS (jjK e t ⟨w.heap.size,0,none⟩ g c (by rw[b];simp) ((a.cell f).trans d) ((a.frozen f).trans j));have i:=jnS a
 subst b;clear a;go_enter func201,ntmps201;go_wp2_with fail;refine m.out.mono ?_;rintro k K ⟨rfl,rfl⟩;go_wp2_with fail;go_ret;exact⟨rfl,_,(i.out.alloc i.out.size _).alloc (i.out.alloc i.out.size _).size _,rfl⟩
theorem jlL(n:Int)(t:Addr)(w:World)(l:ErrT w):
  Calls prog 201 #[.iface 54 (.int .i64 n),.iface 263 (.pointer (some t))] w
   fun e r=>e=.returned (.bool false)/\Below w.heap.size w r:=by
 have v:=@run_callFunc_extern prog 235 _ (fun args=>ReflectliteValue.unpack (args.getD 0 (.tuple #[]))) func235 (by kernel_rfl) (by kernel_rfl) (by kernel_rfl) (by kernel_rfl);have x:=@run_callFunc_extern prog 236 _ (ReflectliteValue.methodAny (ReflectliteValue.valueError "reflectlite.Value.Type" 0) (fun t _ _ _=>ReflectliteType.toType t)) func236 (by kernel_rfl) (by kernel_rfl) (by kernel_rfl) (by kernel_rfl)
 have y:=@run_callFunc_extern prog 237 _ (ReflectliteValue.method (ReflectliteValue.valueError "reflectlite.Value.IsNil" 0) ReflectliteValue.isNil) func237 (by kernel_rfl) (by kernel_rfl) (by kernel_rfl) (by kernel_rfl);have i:=@run_callFunc_extern prog 304 _ (ReflectliteType.abiMethod fun t=>do pure (.int .u8 (<- Rtype.kind t))) func304 (by kernel_rfl) (by kernel_rfl) (by kernel_rfl) (by kernel_rfl)
 have j:=@run_callFunc_extern prog 321 _ (ReflectliteType.method ReflectliteType.elem) func321 (by kernel_rfl) (by kernel_rfl) (by kernel_rfl) (by kernel_rfl);have k:=@run_callFunc_extern prog 322 _ (ReflectliteType.relation "Implements" ReflectliteType.implements_) func322 (by kernel_rfl) (by kernel_rfl) (by kernel_rfl) (by kernel_rfl)
 have s:=GU;have u:=jjS
 have C:=KT;have z:=KU
 have A:=xN;have q:=jj9
 have p:=jml;have h:=jkd
 have o:=Xh;obtain⟨c,b⟩:∃c,c=(w.alloc (.cells #[.pointer (some t)] 263)).alloc (.cells #[.pointer (some ⟨9,263,none⟩),.pointer (some ⟨w.heap.size,0,none⟩),.int .u64 150] 294):=⟨_,rfl⟩
 have a:Below w.heap.size w c:=by rw[b];exact((jnV _ w).alloc (jnT _) _).alloc (by simp) _
 have D:=jgr ⟨w.heap.size,0,none⟩ t c (by rw[b];simp);have m:c.cell? ⟨1,0,none⟩=some (.iface 320 (.agg #[.pointer (some ⟨9,32,none⟩)])):=l.below a (jnT _)
 have f:=jnS (jhA n t ⟨w.heap.size,0,none⟩ c);have d:=jnS a
 subst b;clear a;go_enter func201,ntmps201;go_wp2_with fail;refine f.out.mono ?_;rintro e E ⟨rfl,g⟩;go_wp2_with fail;go_ret;exact⟨rfl,d.out.trans (g.mono d.out.size)⟩
end
section
attribute [local go_sem] jn9
def EdV(w:World)(v:Value)(eds:List Ed):Prop :=
 ∃A cap,v=.slice A eds.length cap/\eds.length<=cap/\∀(i:Nat) (ed:Ed),eds[i]?=some ed->∃b off fv,A=some ⟨b,off,none⟩/\b<w.heap.size/\w.cell? ⟨b,off+i*3,none⟩=some (.int .i64 ed.kind)/\w.cell? ⟨b,off+i*3+1,none⟩=some (.int .i64 ed.id)/\w.cell? ⟨b,off+i*3+1+1,none⟩=some fv/\Qn w fv ed.fields
theorem EdV.below{w w':World}{v:Value}{eds:List Ed}{N:Nat}(h:EdV w v eds)(d:Below N w w')(r:w.heap.size<=N):EdV w' v eds:=by
 obtain⟨A,f,e,j,s⟩:=h;refine⟨A,f,e,j,fun i o u => ?_⟩;obtain⟨b,a,q,n,g,k,l,m,t⟩:=s i o u;have c:b<N:=by omega
 exact⟨b,a,q,n,jod g d.size,(d.cell (p:=⟨b,a+i*3,none⟩) c).trans k,(d.cell (p:=⟨b,a+i*3+1,none⟩) c).trans l,(d.cell (p:=⟨b,a+i*3+1+1,none⟩) c).trans m,t.below d r⟩
def XO(eds:List Ed):Prop:=∀ed∈eds,jbx ed.fields
structure jjQ(fs:List Fld):Prop where
 len:fs.length<=1000000
 each:∀f∈fs,f.1.length<=100000/\f.2.length<=100000
def VQ(eds:List Ed):Prop:=∀ed∈eds,jjQ ed.fields
theorem XO.eight{eds:List Ed}(h:XO eds):VQ eds:=fun a b=>⟨by have:=(h a b).len;omega,(h a b).each⟩
theorem vZ.mono{lo b:Nat}{w:World}{u:Value}{a:Int}{n:Nat}(h:vZ lo w u a n)(hl:b<=lo):vZ b w u a n:=by
 obtain⟨d,c⟩:=h;refine⟨d,?_⟩;rcases c with c|⟨k,e,f⟩
 ·exact .inl c
 exact .inr ⟨k,e.mono hl,f⟩
theorem vZ.fault{lo:Nat}{w:World}{u:Value}{k n:Nat}(h:jz lo w u k n)(b:n≠0)(a:n<=11):vZ lo w u (k:Nat) n:=⟨a,.inr ⟨k,h,rfl,b⟩⟩
theorem ja4{lo:Nat}(k n:Nat)(a:Int)(u:Value)(w:World)(h:vZ lo w u a n)(Q:n≠0)(P:ErrT w):
  Calls prog 164 #[.int .i64 (k:Nat),u] w fun e L=>∃K,e=.returned K/\Below w.heap.size w L/\jz w.heap.size L K k n:=by
 obtain⟨_,h⟩:=h;obtain⟨d,c⟩:∃d,d=w.alloc (.cells #[.pointer none] 87):=⟨_,rfl⟩
 have b:Below w.heap.size w d:=by rw[c];exact(jnV _ w).alloc (jnT _) _
 have g:ErrT d:=P.below b (jnT _);have E:d.cell? ⟨w.heap.size,0,none⟩=some (.pointer none):=by rw[c];simp
 have A:d.frozen? ⟨w.heap.size,0,none⟩=false:=by rw[c];simp
 have R:d.heap.size=w.heap.size+1:=by rw[c];simp
 rcases h with ⟨rfl,_⟩|⟨J,⟨q,_,rfl,C⟩,_,_⟩
 ·rw[zn n (by omega)];have r:=jnS (jlL (n:Int) ⟨w.heap.size,0,none⟩ d g)
  have j:=jnS b;have i:Hid (∀W,Below d.heap.size d W->jz w.heap.size (W.alloc (.cells #[.int .i64 (k:Nat),.iface 54 (.int .i64 (n:Nat))] 90)) (.iface 87 (.pointer (some ⟨W.heap.size,0,none⟩))) k n):=by intro W z;rw[<- zn n (by omega)];exact jz.new W k n _ _ rfl (by have:=z.size;omega)
  clear b g E A;subst c;go_enter func164,ntmps164;go_wp2_with fail;refine r.out.mono ?_;rintro e s ⟨rfl,I⟩;have t:=i.out s I
  have G:Below w.heap.size w s:=j.out.trans (I.mono j.out.size);go_wp2_with fail;go_ret;exact⟨_,rfl,G.alloc G.size _,t⟩
 have D:=C.lt;have r:=jnS (jmR ⟨q,0,none⟩ ⟨w.heap.size,0,none⟩ (.pointer none) d g E A)
 have j:=jnS b;have H:Hid (∀f,Below d.heap.size d f->(f.setCell ⟨w.heap.size,0,none⟩ (.pointer (some ⟨q,0,none⟩))).cell? ⟨w.heap.size,0,none⟩=some (.pointer (some ⟨q,0,none⟩))/\(f.setCell ⟨w.heap.size,0,none⟩ (.pointer (some ⟨q,0,none⟩))).cell? ⟨q,1,none⟩=some (.iface 54 (.int .i64 (n:Nat)))/\Below w.heap.size w (f.setCell ⟨w.heap.size,0,none⟩ (.pointer (some ⟨q,0,none⟩)))):=by
  intro f m;have l:Below w.heap.size w f:=b.trans (m.mono b.size)
  have v:jd f w.heap.size 87 #[.pointer none]:=jb (by rw[c];exact jd.new _ _ _) m (by omega);have x:=v.set 0 (.pointer (some ⟨q,0,none⟩))
  have O:jd f q 90 #[.int .i64 J,Zv n]:=jb C l D;have y:jd (f.setCell ⟨w.heap.size,0,none⟩ (.pointer (some ⟨q,0,none⟩))) q 90 #[.int .i64 J,Zv n]:=O.other (p:=⟨w.heap.size,0,none⟩) (by show q≠w.heap.size;omega) _
  refine⟨?_,?_,l.setCell (p:=⟨w.heap.size,0,none⟩) (jnT _) _⟩
  ·rw[x.cell 0];rfl
  rw[<- zn n (by omega),y.cell 1];rfl
 have i:Hid (∀W:World,w.heap.size<=W.heap.size->jz w.heap.size (W.alloc (.cells #[.int .i64 (k:Nat),.iface 54 (.int .i64 (n:Nat))] 90)) (.iface 87 (.pointer (some ⟨W.heap.size,0,none⟩))) k n):=by intro W z;rw[<- zn n (by omega)];exact jz.new W k n _ _ rfl z
 clear b g E A C;subst c;go_enter func164,ntmps164;go_wp2_with fail;refine r.out.mono ?_;rintro e s ⟨rfl,f,m,o⟩;obtain⟨v,N,l⟩:=H.out f m;rw[<- o]at v N l;have t:=i.out s l.size
 clear o H m r;go_wp2_with fail;go_ret;exact⟨_,rfl,l.alloc l.size _,t⟩
theorem jhk(ed:Ed)(H:Value)(w:World)(h:vK w H ed.fields)(K:jjQ ed.fields):
  Calls prog 163 #[.agg #[.int .i64 ed.kind,.int .i64 ed.id,H]] w fun e L=>∃u a,e=.returned u/\Below w.heap.size w L/\vZ w.heap.size L u a (zG ed):=by
 obtain⟨p,q,rfl,_,_⟩:=_root_.id h;obtain⟨k,s⟩:∃k,k=w.alloc (.cells #[.int .i64 ed.kind,.int .i64 ed.id,.slice p ed.fields.length q] 75):=⟨_,rfl⟩
 have g:Below w.heap.size w k:=by rw[s];exact(jnV _ w).alloc (jnT _) _
 have E:=jnS (jhj ed.fields (.slice p ed.fields.length q) k (h.below g (jnT _)) (by have:=K.len;omega) (fun f N=>by have:=K.each f N;omega));have b:=jnS g
 have i:=jnS (show zG ed=if ed.kind=1\/ed.kind=3 then qA ed.fields else if ed.kind=2/\ed.fields.length=0 then 0 else 2 from rfl);have d:Hid (∀W u,vZ k.heap.size W u (vv ed.fields) (qA ed.fields)->zG ed=qA ed.fields->∃a,vZ w.heap.size W u a (zG ed)):=by intro W u O c;rw[c];exact⟨_,O.mono g.size⟩
 have n:Hid (∀W u,Jw k.heap.size W u ed.fields->vZ k.heap.size W u (vv ed.fields) (qA ed.fields)):=fun W u h=>vZ.of h;have v:Hid (∀W,zG ed=0->vZ w.heap.size W .nilIface (-9) (zG ed)):=fun W h=>by rw[h];exact vZ.none _ _
 have l:Hid (∀W,zG ed=2->vZ w.heap.size W (.iface 54 (.int .i64 2)) (-9) (zG ed)):=fun W h=>by rw[h];exact vZ.err _ _ 2 (by decide)
 have A:((ed.fields.length:Int)==0)=decide (ed.fields.length=0):=by rw[joS];simp
 clear g h;subst s;generalize z:zG ed=r at *
 generalize qA ed.fields=G at *
 generalize vv ed.fields=P at *
 generalize ed.fields.length=fl at *
 generalize ed.kind=j at *
 generalize ed.id=D at *
 clear z;by_cases I:j=1
 ·subst I;have c:r=G:=by rw[i.out,if_pos (.inl rfl)]
  go_enter func163,ntmps163;go_wp2_with fail;refine E.out.mono ?_;rintro e t ⟨u,rfl,o,C⟩;obtain⟨a,m⟩:=d.out t u (n.out t u C) c;go_wp2_with fail;go_ret
  first | exact⟨_,rfl,b.out.trans (o.mono b.out.size),a,m⟩ | exact⟨_,a,rfl,b.out.trans (o.mono b.out.size),m⟩
 by_cases J:j=3
 ·subst J;have c:r=G:=by rw[i.out,if_pos (.inr rfl)]
  go_enter func163,ntmps163;go_wp2_with fail;refine E.out.mono ?_;rintro e t ⟨u,rfl,o,C⟩;obtain⟨a,m⟩:=d.out t u (n.out t u C) c;go_wp2_with fail;go_ret
  first | exact⟨_,rfl,b.out.trans (o.mono b.out.size),a,m⟩ | exact⟨_,a,rfl,b.out.trans (o.mono b.out.size),m⟩
 have Q:(j==1)=false:=by simpa using I
 have U:(j==3)=false:=by simpa using J
 by_cases y:j=2
 ·subst y;by_cases x:fl=0
  ·have c:r=0:=by rw[i.out,if_neg (by omega),if_pos ⟨rfl,x⟩]
   have F:=v.out (w.alloc (.cells #[.int .i64 2,.int .i64 D,.slice p fl q] 75)) c;clear c i v l d n;subst x;go_enter func163,ntmps163;go_wp2_with fail;go_ret
   first | exact⟨_,rfl,b.out,_,F⟩ | exact⟨_,_,rfl,b.out,F⟩
  have c:r=2:=by rw[i.out,if_neg (by omega),if_neg (by intro h;exact x h.2)]
  have F:=l.out (w.alloc (.cells #[.int .i64 2,.int .i64 D,.slice p fl q] 75)) c;clear c i v l d n;rw[decide_eq_false x]at A;go_enter func163,ntmps163;go_wp2_with fail;go_ret
  first | exact⟨_,rfl,b.out,_,F⟩ | exact⟨_,_,rfl,b.out,F⟩
 have R:(j==2)=false:=by simpa using y
 have c:r=2:=by rw[i.out,if_neg (by omega),if_neg (by intro h;exact y h.1)]
 have F:=l.out (w.alloc (.cells #[.int .i64 j,.int .i64 D,.slice p fl q] 75)) c;clear c i v l d n;go_enter func163,ntmps163;go_wp2_with fail;go_ret
 first | exact⟨_,rfl,b.out,_,F⟩ | exact⟨_,_,rfl,b.out,F⟩
theorem XC(eds:List Ed)(v:Value)(w:World)(h:EdV w v eds)(hl:eds.length<=1000000)(hf:VQ eds)(hg:ErrT w):
  Calls prog 118 #[v] w fun e w'=>∃u,e=.returned u/\Below w.heap.size w w'/\vZ w.heap.size w' u (qu eds).1 (qu eds).2:=by
 obtain⟨A,a7,rfl,aa,Z⟩:=h;have Q:=jnS Z
 have HF:=jnS hf;have HG:=jnS hg
 clear Z hf hg;by_cases Y:eds.length=0
 ·have O:qu eds=(-9,1):=by unfold qu;rw[if_pos (by omega)]
  rw[O,Y];have F:=vZ.err w.heap.size w 1 (by decide)
  rw[show Zv 1=.iface 54 (.int .i64 1) from rfl]at F;go_enter func118,ntmps118;go_wp2_with fail;go_ret;exact⟨_,rfl,jnV _ _,F⟩
 have q0:((eds.length:Int)==0)=false:=by simp;intro h;exact Y (by rw[h];rfl)
 by_cases a8:40<eds.length
 ·have O:qu eds=(-9,1):=by unfold qu;rw[if_pos (by omega)]
  rw[O];have F:=vZ.err w.heap.size w 1 (by decide)
  rw[show Zv 1=.iface 54 (.int .i64 1) from rfl]at F;go_enter func118,ntmps118;go_wp2_with fail;go_ret;exact⟨_,rfl,jnV _ _,F⟩
 have e1:qu eds=yB 0 eds:=by unfold qu;rw[if_neg (by omega)]
 rw[e1];go_enter func118,ntmps118;go_wp2_with fail;go_loopw [17] (fun i wr=>∃k:Nat,k<=eds.length/\i=.int .i64 k/\(∀x∈eds.take k,zG x=0)/\Below w.heap.size w wr) (fun i _=>eds.length-(intOf i).toNat)
 case atStart=>exact⟨0,jn3 _,rfl,(fun x hx=>by simp at hx),jnV _ _⟩
 case round =>
 obtain⟨k,hk,rfl,d,t⟩:=hrel;by_cases E:k<eds.length
 ·obtain⟨c,f⟩:∃c,eds[k]?=some c:=⟨_,jnW E⟩
  obtain⟨b,s,fv,rfl,m,R,U,V,n⟩:=Q.out k c f;obtain⟨W,X,rfl,_,_⟩:=_root_.id n.1;replace R:=(t.cell (p:=⟨b,s+k*3,none⟩) m).trans R;replace U:=(t.cell (p:=⟨b,s+k*3+1,none⟩) m).trans U;replace V:=(t.cell (p:=⟨b,s+k*3+1+1,none⟩) m).trans V;obtain⟨H,G⟩:∃H,H=wr.alloc (.cells #[.int .i64 c.kind,.int .i64 c.id,.slice W c.fields.length X] 75):=⟨_,rfl⟩
  have l:Below w.heap.size w H:=by rw[G];exact t.alloc t.size _
  have K:=jnS (jhk c (.slice W c.fields.length X) H (n.1.below l (jnT _)) (HF.out c (jn7 f)));have L:Hid (zG c=0->∀x∈eds.take (k+1),zG x=0):=fun j x hx=>by
   rw[take_snoc f]at hx;rcases List.mem_append.1 hx with hx|hx
   ·exact d x hx
   rw[List.mem_singleton.1 hx];exact j
  have I:Hid (zG c≠0->yB 0 eds=(((k:Nat):Int),zG c)):=fun j=>by rw[Gn eds 0 k c d f j,jov]
  have C:=jnS l;have r:=ji0 c
  clear f d n l;generalize zG c=P at *
  subst G;go_wp2_with fail;refine K.out.mono ?_;rintro e w2 ⟨u,a,rfl,b2,j⟩;have y:=jnS (C.out.trans (b2.mono C.out.size))
  by_cases g:P=0
  ·subst g;obtain⟨_,⟨rfl,_⟩|⟨_,_,_,hx⟩⟩:=j
   ·have N:=jnS (L.out rfl);clear L I K;rw[show Zv 0=.nilIface from rfl];go_wp2_with fail;go_roundw
    case rel=>exact⟨k+1,E,by go_num,N.out,y.out⟩
    case measure=>simp[intOf];omega
   exact absurd rfl hx
  have FA:=jnS (ja4 k P a u w2 j g (HG.out.below y.out (jnT _)));have J:=I.out g
  have o:(∃z,u=.iface 54 (.int .i64 z))\/∃q,u=.iface 87 (.pointer (some ⟨q,0,none⟩)):=by
   obtain⟨_,⟨rfl,_⟩|⟨_,⟨q,_,rfl,_⟩,_,_⟩⟩:=j
   ·rw[zn P (by omega)];exact .inl ⟨_,rfl⟩
   exact .inr ⟨q,rfl⟩
  clear j L I K;rcases o with ⟨z,rfl⟩|⟨q,rfl⟩
  all_goals
   go_wp2_with fail;refine FA.out.mono ?_;rintro e w3 ⟨u',rfl,b3,D⟩;have Z3:Hid (vZ w.heap.size w3 u' (yB 0 eds).1 (yB 0 eds).2):=by show vZ _ _ _ _ _;rw[J];exact vZ.fault (D.mono y.out.size) g r
   have B3:=jnS (y.out.trans (b3.mono y.out.size));clear D b3;go_wp2_with fail;go_ret;exact⟨_,rfl,B3.out,Z3.out⟩
 obtain rfl:k=eds.length:=by omega
 rw[jom]at d;have HZ:vZ w.heap.size wr .nilIface (yB 0 eds).1 (yB 0 eds).2:=by rw[Qe eds 0 d];exact vZ.none w.heap.size wr
 clear Q d;go_wp2_with fail;go_ret;exact⟨_,rfl,t,HZ⟩
theorem jeW(eds:List Ed)(v:Value)(w:World)(h:EdV w v eds)(hl:eds.length<=1000000)(b:XO eds)(c:ErrT w):
  Calls prog 118 #[v] w fun e a=>∃u,e=.returned u/\Below w.heap.size w a/\vZ w.heap.size a u (qu eds).1 (qu eds).2:=XC eds v w h hl b.eight c
end
def jeV(its:List It):Nat:=(its.filter fun it=>decide (it.kind=3)).length
theorem jbh(its:List It)(it:It):jeV (its++[it])=jeV its+if it.kind=3 then 1 else 0:=by
 unfold jeV;rw[jo8,jnU];congr 1;by_cases h:it.kind=3
 ·rw[if_pos h,joP,if_pos (by simpa using h)];rfl
 rw[if_neg h,joP,if_neg (by simpa using h)];rfl
def Vi(p:PS):Prop:=jeV p.items=p.stanzas
theorem Vi.endField{p:PS}(h:Vi p):Vi (ja p):=by
 unfold ja;split
 ·exact h
 exact h
theorem Vi.endItem{t:List UInt8}{p:PS}(h:Vi p)(kind e:Nat)(a:kind≠3):Vi (zk t p kind e):=by show jeV (p.items++[_])=p.stanzas;rw[jbh,if_neg (by show((kind:Nat):Int)≠3;omega),h];rfl
theorem Vi.endBlock{t:List UInt8}{p:PS}(h:Vi p)(e:Nat):Vi (jk t p e):=by
 unfold jk;split
 ·exact h
 split
 ·exact h.endItem 2 e (by decide)
 show jeV (p.items++[_])=p.stanzas+1;rw[jbh,if_pos (by rfl),h]
theorem Vi.went{p:PS}(h:Vi p)(x:Ln):Vi (zy p x):=by unfold zy;split<;>exact h
theorem Vi.then_{p:PS}(h:Vi p)(x:Ln):Vi (qN p x):=by
 unfold qN;split
 ·exact(h.went x).endField
 exact h.went x
theorem Vi.put{t:List UInt8}{p:PS}(h:Vi p)(x:Ln):Vi (JC t p x):=by
 unfold JC;split
 ·exact h
 split
 ·exact(h.endBlock x.at_).endItem 1 _ (by decide)
 exact h
theorem Vi.take{t:List UInt8}{p q:PS}{x:Ln}(h:Vi p)(a:zo t p x=.ok q):Vi q:=by obtain⟨_,_,rfl⟩:=yE a;exact(h.then_ x).put x
theorem Vi.run(t:List UInt8):∀(c:List Ln) (p q:PS),Vi p->qO t p c=.ok q->Vi q
 | [],p,q,h,a=>by cases a;exact h
 | x::c,p,q,h,a=>by
  unfold qO at a;cases b:zo t p x with
  | error e=>rw[b]at a;cases a
  | ok d =>
  rw[b]at a;exact Vi.run t c d q (h.take b) a
theorem YO{t:List UInt8}{its:List It}(h:jv t=.ok its):jeV its<=400:=by
 obtain⟨p,b,c,rfl,g,_⟩:=QM h;have a:Vi (jk t (ja p) t.length):=((Vi.run t _ _ _ (by rfl) b).endField).endBlock _
 rw[show jeV _=_ from a];exact g.st
theorem ZK:∀(n:Int) (e:List It),0<n->(∀m∈nums (zq n e),n<=m/\m<jB n e)/\(nums (zq n e)).Nodup/\(nums (zq n e)).length=jeV e/\n<=jB n e
 | n,[],h=>⟨(fun m g=>by cases g),List.nodup_nil,rfl,jpp _⟩
 | n,i::r,h=>by
  by_cases f:i.kind=3
  ·obtain⟨a,b,c,d⟩:=ZK (n+1) r (by omega);have j:nums (zq n (i::r))=n::nums (zq (n+1) r):=by unfold nums;rw[zq,if_pos f,joy,joP,if_pos (by simpa using h)]
   have k:jB n (i::r)=jB (n+1) r:=by rw[jB,if_pos f]
   rw[j,k];refine⟨fun m g => ?_,List.nodup_cons.2 ⟨fun q => ?_,b⟩,?_,by omega⟩
   ·rcases List.mem_cons.1 g with rfl|g
    ·exact⟨jpp _,by omega⟩
    have:=a m g;exact⟨by omega,this.2⟩
   ·have:=(a n q).1;omega
   unfold jeV at c ⊢;rw[jn1,c,joP,if_pos (by simpa using f)];rfl
  obtain⟨a,b,c,d⟩:=ZK n r h;have j:nums (zq n (i::r))=nums (zq n r):=by unfold nums;rw[zq,if_neg f,joy,joP,if_neg (by simp)]
  have k:jB n (i::r)=jB n r:=by rw[jB,if_neg f]
  rw[j,k];refine⟨a,b,?_,d⟩;unfold jeV at c ⊢;rw[c,joP,if_neg (by simpa using f)]
theorem jb9{t:List UInt8}{its:List It}(h:jv t=.ok its):OkL (jQ its):=by
 obtain⟨a,b,c,d⟩:=ZK 1 its (by decide);refine⟨jb8 1 its (by decide),by show 0<jB 1 its;omega,fun n e=>(a n e).2,b,?_⟩;rw[<- xj];show(nums (zq 1 its)).length<=400
 rw[c];exact YO h
section
attribute [local go_sem] jn9
theorem jiK(lb:Nat)(d:Value)(a:List Pr)(b id:Int)(fs:List Fld)(v:Value)(w:World)(h:LA w lb d a b)(c:WF (a.map Prod.fst))(l:xp (a.map Prod.fst)<=400)(j:a.length<=10000)(i : -1000000<=b/\b<=1000000)(m:Qn w v fs)(g:jbx fs):
  Calls prog 243 #[ptr lb,.int .i64 id,v] w fun e n=>∃u f k,e=.returned (.tuple #[.int .i64 (zh ⟨a.map Prod.fst,b⟩ id fs).id,u])/\WrR w lb d a (zh ⟨a.map Prod.fst,b⟩ id fs) u n f k:=by
 have:=jbX lb d a b id fs v w h j i m g;rw[jmy c,jmz c l,show yi (jgC (a.map Prod.fst) id) (decide (400<=xp (a.map Prod.fst))) ⟨a.map Prod.fst,b⟩ fs=zh ⟨a.map Prod.fst,b⟩ id fs by rw[jaT]]at this;exact this
theorem jni(lb:Nat)(d:Value)(a:List Pr)(f:Int)(w:World)(h:LR w lb d a f)(c:WF (a.map Prod.fst))(b:a.length<=1000000):
  Calls prog 32 #[ptr lb] w fun e g=>e=.returned (.int .i64 (xp (a.map Prod.fst):Nat))/\Below w.heap.size w g:=by
 have:=Ur lb d a f w h b;rw[jcK c]at this;exact this
end
def SzL(es:List En):Prop:=∀e∈es,e.1.raw.length<=100000/\e.1.fields.length<=1000000
theorem jjn(l:LS)(kind id:Int)(fs:List Fld):∀e∈(vU l kind id fs).ls.es,e∈l.es\/(e.1=zx fs/\qA fs=0):=by
 intro e a;unfold vU at a;split at a
 ·unfold zu at a;split at a
  ·exact .inl a
  rename_i k g;split at a
  ·rename_i f;have b:e∈XP l.es k (zx fs):=a
   unfold XP at b;obtain⟨j,d⟩:=jqA b;rw[jqb]at d;cases hx:l.es[j]? with
   | none=>rw[hx]at d;cases d
   | some y =>
   rw[hx]at d;have c:(if k=j then (zx fs,y.2) else y)=e:=jnY d
   by_cases q:k=j
   ·rw[if_pos q]at c;rw[<- c];exact .inr ⟨rfl,f⟩
   rw[if_neg q]at c;rw[<- c];exact .inl (jn7 hx)
  exact .inl a
 split at a
 ·unfold zR at a;split at a
  ·exact .inl a
  have b:e∈GG l.es _:=a;unfold GG at b;rcases List.mem_append.1 b with q|q
  ·exact .inl (joR q)
  exact .inl (joJ q)
 unfold zh at a;split at a
 ·exact .inl a
 split at a
 ·rename_i f;split at a
  ·exact .inl a
  have b:e∈Ui l.es _ (zx fs,l.next):=a;unfold Ui at b;rcases List.mem_append.1 b with q|q
  ·exact .inl (joR q)
  rcases List.mem_cons.1 q with q|q
  ·rw[q];exact .inr ⟨rfl,f⟩
  exact .inl (joJ q)
 exact .inl a
structure zS(S0:Nat)(w:World)(lb:Nat)(ev:Value)(ps:List Pr)(l:LS)(m:Nat):Prop where
 la:LA w lb ev ps l.next
 es:ps.map Prod.fst=l.es
 ok:OkL l
 sz:SzL l.es
 lb0:S0<=lb
 ev0:∀b,ev.ownBlock=some b->S0<=b
 len:l.es.length<=m
 nx:l.next<=m+1
theorem zS.wf{S0:Nat}{w:World}{lb:Nat}{b:Value}{a:List Pr}{l:LS}{m:Nat}(h:zS S0 w lb b a l m):WF (a.map Prod.fst):=by rw[h.es];exact h.ok.wf
theorem zS.below{S0:Nat}{w w':World}{lb:Nat}{a:Value}{b:List Pr}{l:LS}{m N:Nat}(h:zS S0 w lb a b l m)(d:Below N w w')(c:w.heap.size<=N):zS S0 w' lb a b l m :=
 ⟨h.la.below d c,h.es,h.ok,h.sz,h.lb0,h.ev0,h.len,h.nx⟩
theorem zS.ents{S0:Nat}{w:World}{lb:Nat}{d:Value}{c:List Pr}{l:LS}{m:Nat}(h:zS S0 w lb d c l m)(f:m<=10000):jkk c:=by
 have a:∀p∈c,p.1∈l.es:=fun p b=>by rw[<- h.es];exact jpu b
 have hl:c.length=l.es.length:=by rw[<- h.es,joi]
 refine⟨by have:=h.len;omega,fun p b=>(h.sz _ (a p b)).1,fun p b=>(h.sz _ (a p b)).2,fun p b => ?_⟩;rcases h.ok.wf _ (a p b) with ⟨_,q⟩|⟨_,q⟩
 ·have e:p.1.2∈nums l.es:=by unfold nums;exact List.mem_filter.2 ⟨jpu (a p b),by simpa using q⟩
  have:=h.ok.lt _ e;have:=h.nx
  omega
 omega
theorem zS.str{S0:Nat}{w:World}{lb:Nat}{a:Value}{c:List Pr}{l:LS}{m:Nat}(h:zS S0 w lb a c l m):StR w lb a c l.next (.slice none 0 0) [] :=
 ⟨h.la,jeO w,(fun b e=>by cases e),(fun p d=>by cases d)⟩
theorem SzL.edit{l:LS}(h:SzL l.es)(kind id:Int){fs:List Fld}(a:(jM fs).length<=100000)(b:fs.length<=1000000):SzL (vU l kind id fs).ls.es:=fun e c=>by
 rcases jjn l kind id fs e c with q|⟨q,_⟩
 ·exact h e q
 rw[q];exact⟨a,b⟩
theorem zS.edit{S0:Nat}{w w':World}{lb:Nat}{i d:Value}{o f:List Pr}{l:LS}{m:Nat}(h:zS S0 w lb i o l m)(kind id:Int){fs:List Fld}(j:(jM fs).length<=100000)(k:fs.length<=1000000)
  (n:LA w' lb d f (vU l kind id fs).ls.next) (es:f.map Prod.fst=(vU l kind id fs).ls.es) (p:S0<=w.heap.size) (g:∀b,d.ownBlock=some b->i.ownBlock=some b\/w.heap.size<=b):zS S0 w' lb d f (vU l kind id fs).ls (m+1):=by
 obtain⟨a,_,c⟩:=Gi l kind id fs;have hl:=h.len
 have r:=h.nx;refine⟨n,es,h.ok.edit kind id fs,h.sz.edit kind id j k,h.lb0,fun b e => ?_,by omega,by omega⟩;rcases g b e with q|q
 ·exact h.ev0 b q
 omega
section
attribute [local go_sem] jn9
theorem WrR.from{w j w':World}{lb:Nat}{g u a:Value}{i c:List Pr}{d:Did}(h:WrR j lb g i d u w' a c)(f:Below w.heap.size w j):WrR w lb g i d u w' a c:=by
 refine⟨h.la,h.es,?_,?_,h.err.mono f.size,fun p k => ?_⟩
 ·exact(jI.of_below (S:=fun r=>r=lb\/g.ownBlock=some r) f (jnT _)).trans h.only (fun r _ e=>e)
 ·rcases h.blk with q|⟨b,q,l⟩
  ·exact .inl q
  exact .inr ⟨b,q,by have:=f.size;omega⟩
 rcases h.mem p k with q|q
 ·exact .inl q
 exact .inr (fun b e=>by have:=q b e;have:=f.size;omega)
theorem jfA(l:LS){ed:Ed}(h:ed.kind=1):jL l ed=zu l ed.id ed.fields:=by unfold jL vU;rw[if_pos h]
theorem jfz(l:LS){ed:Ed}(h:ed.kind=2):jL l ed=zR l ed.id:=by unfold jL vU;rw[if_neg (by omega),if_pos h]
theorem jfy(l:LS){ed:Ed}(a:ed.kind≠1)(b:ed.kind≠2):jL l ed=zh l ed.id ed.fields:=by unfold jL vU;rw[if_neg a,if_neg b]
theorem Vu(l:LS)(id:Int)(fs:List Fld):(zu l id fs).id=0:=by
 unfold zu;split
 ·rfl
 split<;>rfl
theorem Xw(l:LS)(id:Int):(zR l id).id=0:=by unfold zR;split<;>rfl
theorem jly{S0:Nat}{w:World}{lb:Nat}{j:Value}{c:List Pr}{l:LS}{m:Nat}(C:zS S0 w lb j c l m)(G:m<=10000)(ed:Ed)(z:Value)(s:Qn w z ed.fields)(A:jbx ed.fields):
  Calls prog 209 #[ptr lb,.agg #[.int .i64 ed.kind,.int .i64 ed.id,z]] w fun e i=>∃u a b,e=.returned (.tuple #[.int .i64 (jL l ed).id,u])/\WrR w lb j c (jL l ed) u i a b:=by
 obtain⟨x,y,rfl⟩:=s.form;obtain⟨n,f⟩:∃n,n=w.alloc (.cells #[.int .i64 ed.kind,.int .i64 ed.id,.slice x ed.fields.length y] 75):=⟨_,rfl⟩
 have d:Below w.heap.size w n:=by rw[f];exact(jnV _ w).alloc (jnT _) _
 have q:=C.below d (jnT _);have hl:c.length<=m:=by have:=C.len;rw[<- C.es,joi]at this;exact this
 have E:=C.nx;have I:=C.ok.pos
 have g:=C.wf;have k:=s.below d (jnT _)
 have r:(⟨c.map Prod.fst,l.next⟩:LS)=l:=by rw[C.es]
 by_cases t:ed.kind=1
 ·have R:=jar lb j c l.next ed.id ed.fields (.slice x ed.fields.length y) n q.la (by omega) k A;rw[Gc g,show JA (vu (c.map Prod.fst) ed.id) ⟨c.map Prod.fst,l.next⟩ ed.fields=zu ⟨c.map Prod.fst,l.next⟩ ed.id ed.fields by rw[Kx],r]at R;rw[jfA l t,Vu];have R:=jnS R
  have o:Hid (∀u i a b,WrR n lb j c (zu l ed.id ed.fields) u i a b->WrR w lb j c (zu l ed.id ed.fields) u i a b):=fun u i a b h=>h.from d;generalize zu l ed.id ed.fields=dd at *
  clear d q C s k g r;rw[t]at f ⊢;subst f;unfold ptr at *
  go_enter func209,ntmps209;go_wp2_with fail;refine R.out.mono ?_;rintro e D ⟨u,a,b,rfl,p⟩;have H:=o.out _ _ _ _ p
  clear p R o;go_wp2_with fail;go_ret2;exact⟨u,a,b,rfl,H⟩
 by_cases v:ed.kind=2
 ·have R:=jci lb j c l.next ed.id n q.la (by omega);rw[Gc g,show Xv (vu (c.map Prod.fst) ed.id) ⟨c.map Prod.fst,l.next⟩=zR ⟨c.map Prod.fst,l.next⟩ ed.id by rw[jbc],r]at R;rw[jfz l v,Xw];have R:=jnS R
  have o:Hid (∀u i a b,WrR n lb j c (zR l ed.id) u i a b->WrR w lb j c (zR l ed.id) u i a b):=fun u i a b h=>h.from d;generalize zR l ed.id=dd at *
  clear d q C s k g r;rw[v]at f ⊢;subst f;unfold ptr at *
  go_enter func209,ntmps209;go_wp2_with fail;refine R.out.mono ?_;rintro e D ⟨u,a,b,rfl,p⟩;have H:=o.out _ _ _ _ p
  clear p R o;go_wp2_with fail;go_ret2;exact⟨u,a,b,rfl,H⟩
 have R:=jiK lb j c l.next ed.id ed.fields (.slice x ed.fields.length y) n q.la g (by rw[C.es];exact C.ok.len) (by omega) (by omega) k A;rw[r]at R;rw[jfy l t v];have R:=jnS R
 have o:Hid (∀u i a b,WrR n lb j c (zh l ed.id ed.fields) u i a b->WrR w lb j c (zh l ed.id ed.fields) u i a b):=fun u i a b h=>h.from d;generalize zh l ed.id ed.fields=dd at *
 have J:(ed.kind==1)=false:=by simpa using t
 have K:(ed.kind==2)=false:=by simpa using v
 clear d q C s k g r;subst f;unfold ptr at *
 go_enter func209,ntmps209;go_wp2_with fail;refine R.out.mono ?_;rintro e D ⟨u,a,b,rfl,p⟩;have H:=o.out _ _ _ _ p
 clear p R o;go_wp2_with fail;go_ret2;exact⟨u,a,b,rfl,H⟩
structure jmS(g:Nat)(cb:Array Value)(w0:World)(N1:Nat)(l0:LS)(eds:List Ed)(P:Nat->World->(Nat->Prop)->Prop):Prop where
 eg:∀args w,(callFunc g args).run prog w=.ok (.enter g args) w
 lt:∀j W Z,P j W Z->∀r,Z r->w0.heap.size<=r/\r<W.heap.size
 keep:∀j W W' Z (S:Nat->Prop),P j W Z->jI S W W'->(∀r,Z r->¬S r)->P j W' Z
 ask:∀(j:Nat) (ed:Ed) (fv:Value) (W:World) (Z:Nat->Prop) (lb:Nat) (ev:Value) (ps:List Pr) (m:Nat),eds[j]?=some ed->zG ed=0->P j W Z->Below w0.heap.size w0 W->zS N1 W lb ev ps (zE l0 (eds.take j)) m->m<=10000->(∀r,Ki lb ev ps (.slice none 0 0) [] r->¬Z r)->Qn W fv ed.fields->(∃A c,fv=.slice A ed.fields.length c) ->
  Calls prog g (#[ptr lb,.agg #[.int .i64 ed.kind,.int .i64 ed.id,fv]]++cb) W fun e W'=>e=.returned (.tuple #[])/\∃Z',P (j+1) W' Z'/\jI Z W W'/\∀r,Z' r->Z r\/W.heap.size<=r
theorem zS.blkEd{S0:Nat}{w w':World}{lb:Nat}{d a u:Value}{f c:List Pr}{l:LS}{m:Nat}(h:zS S0 w lb d f l m){ed:Ed}(g:(jM ed.fields).length<=100000)(i:ed.fields.length<=1000000)(j:S0<=w.heap.size)(R:WrR w lb d f (jL l ed) u w' a c):zS S0 w' lb a c (jL l ed).ls (m+1) :=
 h.edit ed.kind ed.id g i R.la R.es j (fun b e=>by
  rcases R.blk with q|⟨n,q,k⟩
  ·exact .inl (by rw[<- q];exact e)
  right;rw[q]at e;cases e;exact k)
theorem WrR.blks{w w':World}{lb:Nat}{i u a:Value}{j c:List Pr}{d:Did}(h:WrR w lb i j d u w' a c){r:Nat}(l:Ki lb a c (.slice none 0 0) [] r):Ki lb i j (.slice none 0 0) [] r\/w.heap.size<=r:=by
 rcases l with q|q|q|⟨p,g,f,q⟩|⟨p,g,_⟩
 ·exact .inl (.inl q)
 ·rcases h.blk with e|⟨b,e,k⟩
  ·exact .inl (.inr (.inl (by rw[<- e];exact q)))
  rw[e]at q;cases q;exact .inr k
 ·cases q
 ·rcases h.mem p g with e|e
  ·exact .inl (.inr (.inr (.inr (.inl ⟨p,e,f,q⟩))))
  exact .inr (e r q)
 cases g
theorem zS.only{S0:Nat}{w w':World}{lb:Nat}{a:Value}{b:List Pr}{l:LS}{m:Nat}{S:Nat->Prop}(h:zS S0 w lb a b l m)(g:jI S w w')(c:∀r,Ki lb a b (.slice none 0 0) [] r->¬S r):zS S0 w' lb a b l m :=
 ⟨(h.str.only g c).la,h.es,h.ok,h.sz,h.lb0,h.ev0,h.len,h.nx⟩
end
end Go.Proofs.YtbapfpekklcicaaGreatDoor
