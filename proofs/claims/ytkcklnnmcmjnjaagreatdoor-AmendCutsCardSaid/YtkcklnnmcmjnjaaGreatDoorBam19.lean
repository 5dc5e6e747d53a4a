/- Texts put together: ED, EE, EF, EG, AE. -/
import Derived.Test.YtkcklnnmcmjnjaaGreatDoorProg
import Derived.WalkKit
import Derived.LaidEql
import Derived.Stop.Asserts
import Derived.RowKitTokens
import Derived.Below
import Derived.Lib.Hide
import Derived.Test.YtkcklnnmcmjnjaaGreatDoorBam16
import Derived.Test.YtkcklnnmcmjnjaaGreatDoorBam18
set_option linter.unusedVariables false
namespace Go.Proofs.YtkcklnnmcmjnjaaGreatDoor
open Go.RowKit Go.Extern.Stop Go.Stop Go.Extern

theorem valueOfPP (t : Addr) (w : World) : (ReflectliteValue.unpack (.iface 157 (.pointer (some t)))).run Tryz.prog w
    = .ok (.agg #[.pointer (some ⟨9, 157, none⟩), .pointer (some ⟨w.heap.size, 0, none⟩), .int .u64 150]) (w.alloc (.cells #[.pointer (some t)] 157)) := by kernel_rfl
theorem typePP (a : Addr) (w : World) : (ReflectliteValue.methodAny (ReflectliteValue.valueError "reflectlite.Value.Type" 0) (fun t _ _ _ => ReflectliteType.toType t) #[.agg #[.pointer (some ⟨9, 157, none⟩), .pointer (some a), .int .u64 150]]).run Tryz.prog w
    = .ok (.iface 245 (.agg #[.pointer (some ⟨9, 157, none⟩)])) w := by kernel_rfl
theorem methodKind (h : Value) (w : World) : (Go.method 446 245 (.agg #[h]) "Kind").run Tryz.prog w = .ok (257, h) w := by kernel_rfl
theorem kindPP (w : World) : ((ReflectliteType.abiMethod fun t => (fun a : Nat => Value.int IntKind.u8 (a : Int)) <$> Rtype.kind t) #[.pointer (some ⟨9, 157, none⟩)]).run Tryz.prog w = .ok (.int .u8 22) w := by kernel_rfl
theorem kindP (w : World) : ((ReflectliteType.abiMethod fun t => (fun a : Nat => Value.int IntKind.u8 (a : Int)) <$> Rtype.kind t) #[.pointer (some ⟨9, 86, none⟩)]).run Tryz.prog w = .ok (.int .u8 22) w := by kernel_rfl
theorem rlm9 (z : Sem Value) (f : TypeId → Addr → Nat → Nat → Sem Value) (v : Value) :
    ReflectliteValue.method z f #[v] = (do match ← ReflectliteValue.parts v with | none => z | some (t, a, fl) => f t a fl (fl % 32)) := rfl
theorem partsPP (a : Addr) (w : World) : (ReflectliteValue.parts (.agg #[.pointer (some ⟨9, 157, none⟩), .pointer (some a), .int .u64 150])).run Tryz.prog w = .ok (some (157, a, 150)) w := by kernel_rfl
theorem isNilPP (a p : Addr) (W : World) (ha : W.cell? a = some (.pointer (some p))) :
    (ReflectliteValue.method (ReflectliteValue.valueError "reflectlite.Value.IsNil" 0) ReflectliteValue.isNil #[.agg #[.pointer (some ⟨9, 157, none⟩), .pointer (some a), .int .u64 150]]).run Tryz.prog W = .ok (.bool false) W := by
  rw [rlm9]
  simp only [Sem.run_bind, partsPP, Result.andThen]
  simp [ReflectliteValue.isNil, loadVar, isAgg, underlying, Tryz.underlying157, ha, Result.andThen]
theorem methodElem (h : Value) (w : World) : (Go.method 446 245 (.agg #[h]) "Elem").run Tryz.prog w = .ok (270, .agg #[h]) w := by kernel_rfl
theorem methodImplements (h : Value) (w : World) : (Go.method 446 245 (.agg #[h]) "Implements").run Tryz.prog w = .ok (271, .agg #[h]) w := by kernel_rfl
theorem methodAssignableTo (h : Value) (w : World) : (Go.method 446 245 (.agg #[h]) "AssignableTo").run Tryz.prog w = .ok (268, .agg #[h]) w := by kernel_rfl
theorem elemPP (w : World) : (ReflectliteType.method ReflectliteType.elem #[.agg #[.pointer (some ⟨9, 157, none⟩)]]).run Tryz.prog w = .ok (.iface 245 (.agg #[.pointer (some ⟨9, 86, none⟩)])) w := by kernel_rfl
theorem implementsP (w : World) : (ReflectliteType.relation "Implements" ReflectliteType.implements_ #[.agg #[.pointer (some ⟨9, 86, none⟩)], .iface 245 (.agg #[.pointer (some ⟨9, 27, none⟩)])]).run Tryz.prog w = .ok (.bool true) w := by kernel_rfl
theorem typeOfP (v : Value) (w : World) : (ReflectliteType.typeOf #[.iface 86 v]).run Tryz.prog w = .ok (.iface 245 (.agg #[.pointer (some ⟨9, 86, none⟩)])) w := by kernel_rfl
theorem typeOfE (v : Value) (w : World) : (ReflectliteType.typeOf #[.iface 67 v]).run Tryz.prog w = .ok (.iface 245 (.agg #[.pointer (some ⟨9, 67, none⟩)])) w := by kernel_rfl
theorem assignableP (w : World) : (ReflectliteType.relation "AssignableTo" ReflectliteType.assignableTo #[.agg #[.pointer (some ⟨9, 86, none⟩)], .iface 245 (.agg #[.pointer (some ⟨9, 86, none⟩)])]).run Tryz.prog w = .ok (.bool true) w := by kernel_rfl
theorem assignableE (w : World) : (ReflectliteType.relation "AssignableTo" ReflectliteType.assignableTo #[.agg #[.pointer (some ⟨9, 67, none⟩)], .iface 245 (.agg #[.pointer (some ⟨9, 86, none⟩)])]).run Tryz.prog w = .ok (.bool false) w := by kernel_rfl
theorem valueOfP (e : Addr) (w : World) : (ReflectliteValue.unpack (.iface 86 (.pointer (some e)))).run Tryz.prog w
    = .ok (.agg #[.pointer (some ⟨9, 86, none⟩), .pointer (some ⟨w.heap.size, 0, none⟩), .int .u64 150]) (w.alloc (.cells #[.pointer (some e)] 86)) := by kernel_rfl
theorem elemOfPP (w : World) : (Rtype.elem? 157).run Tryz.prog w = .ok (some 86) w := by kernel_rfl
theorem mkP (p : Addr) (w : World) : (ReflectliteValue.mk 86 p ReflectliteValue.flagAddr).run Tryz.prog w = .ok (.agg #[.pointer (some ⟨9, 86, none⟩), .pointer (some p), .int .u64 406]) w := by kernel_rfl
theorem elemVPP (a p : Addr) (W : World) (ha : W.cell? a = some (.pointer (some p))) :
    (ReflectliteValue.method (ReflectliteValue.valueError "reflectlite.Value.Elem" 0) ReflectliteValue.elem #[.agg #[.pointer (some ⟨9, 157, none⟩), .pointer (some a), .int .u64 150]]).run Tryz.prog W
      = .ok (.agg #[.pointer (some ⟨9, 86, none⟩), .pointer (some p), .int .u64 406]) W := by
  rw [rlm9]
  simp only [Sem.run_bind, partsPP, Result.andThen]
  simp [ReflectliteValue.elem, loadVar, isAgg, underlying, Tryz.underlying157, ha, Result.andThen, elemOfPP, mkP]
theorem rls9 (v x : Value) : ReflectliteValue.set #[v, x] = (do
    let (some (dst, a, fl), some (src, b, _)) := (← ReflectliteValue.parts v, ← ReflectliteValue.parts x)
      | unsupported (.noEntry "extern/(internal/reflectlite.Value).Set.zeroValue")
    if fl / ReflectliteValue.flagAddr % 2 == 0 then unsupported (.noEntry "extern/(internal/reflectlite.Value).Set.unaddressable")
    let val ← loadVar src b
    if ← Rtype.directlyAssignable dst src then storeVar dst a val
    else if ← Rtype.implements dst src then
      if (← Rtype.kind src) == 20 then
        match val with
        | .nilIface => unsupported (.noEntry "extern/reflectlite: a nil value of one interface type handed on as a value of another")
        | _ => storeVar dst a val
      else storeVar dst a (.iface src val)
    else panicString ("reflectlite.Set: value of type " ++ (← Rtype.spelt src) ++ " is not assignable to type " ++ (← Rtype.spelt dst))
    pure (.tuple #[])) := rfl
theorem partsPa (a : Addr) (w : World) : (ReflectliteValue.parts (.agg #[.pointer (some ⟨9, 86, none⟩), .pointer (some a), .int .u64 406])).run Tryz.prog w = .ok (some (86, a, 406)) w := by kernel_rfl
theorem partsP (a : Addr) (w : World) : (ReflectliteValue.parts (.agg #[.pointer (some ⟨9, 86, none⟩), .pointer (some a), .int .u64 150])).run Tryz.prog w = .ok (some (86, a, 150)) w := by kernel_rfl
theorem directP (w : World) : (Rtype.directlyAssignable 86 86).run Tryz.prog w = .ok true w := by kernel_rfl
theorem setP (ta b e : Addr) (old : Value) (W : World) (hb : W.cell? b = some (.pointer (some e))) (ht : W.cell? ta = some old) (hf : W.frozen? ta = false) :
    (ReflectliteValue.set #[.agg #[.pointer (some ⟨9, 86, none⟩), .pointer (some ta), .int .u64 406], .agg #[.pointer (some ⟨9, 86, none⟩), .pointer (some b), .int .u64 150]]).run Tryz.prog W
      = .ok (.tuple #[]) (W.setCell ta (.pointer (some e))) := by
  rw [rls9]
  simp only [Sem.run_bind, partsPa, partsP, Result.andThen]
  simp [ReflectliteValue.flagAddr, loadVar, isAgg, underlying, Tryz.underlying86, hb, Result.andThen, directP, storeVar, Value.cells, storeCells, Addr.add]
  rw [run_store Tryz.prog W ta _ _ (by rfl)]
  simp [ht, hf]
/-- The variable that errors.As reads: the handle of the type error. -/
def ErrT (w : World) : Prop := w.cell? ⟨0, 0, none⟩ = some (.iface 245 (.agg #[.pointer (some ⟨9, 27, none⟩)]))
end Go.Proofs.YtkcklnnmcmjnjaaGreatDoor

namespace Go.Proofs.YtkcklnnmcmjnjaaGreatDoor
open Go.RowKit Go.Extern.Stop Go.Stop Go.Extern

abbrev hP : Value := .pointer (some ⟨9, 86, none⟩)
set_option maxHeartbeats 4000000 in
theorem asIn_hit (e t a : Addr) (old : Value) (w : World) (ha : w.cell? a = some (.pointer (some t))) (ht0 : w.cell? t = some old) (hf0 : w.frozen? t = false) :
    Calls Tryz.prog 126 #[.iface 86 (.pointer (some e)), .iface 157 (.pointer (some t)), .agg #[.pointer (some ⟨9, 157, none⟩), .pointer (some a), .int .u64 150], .iface 245 (.agg #[.pointer (some ⟨9, 86, none⟩)])] w
      fun ev w' => ev = .returned (.bool true) ∧ w' = ((w.alloc (.cells #[.pointer (some ⟨9, 157, none⟩), .pointer (some a), .int .u64 150] 208)).alloc (.cells #[.pointer (some e)] 86)).setCell t (.pointer (some e)) := by
  have h10 := @run_callFunc_extern Tryz.prog 165 _ ReflectliteType.typeOf Tryz.func165 (by kernel_rfl) (by kernel_rfl) (by kernel_rfl) (by kernel_rfl)
  have h35 := @run_callFunc_extern Tryz.prog 268 _ (ReflectliteType.relation "AssignableTo" ReflectliteType.assignableTo) Tryz.func268 (by kernel_rfl) (by kernel_rfl) (by kernel_rfl) (by kernel_rfl)
  have h6 := @run_callFunc_extern Tryz.prog 123 _ (fun args => ReflectliteValue.unpack (args.getD 0 (.tuple #[]))) Tryz.func123 (by kernel_rfl) (by kernel_rfl) (by kernel_rfl) (by kernel_rfl)
  have h11 := @run_callFunc_extern Tryz.prog 166 _ (ReflectliteValue.method (ReflectliteValue.valueError "reflectlite.Value.Elem" 0) ReflectliteValue.elem) Tryz.func166 (by kernel_rfl) (by kernel_rfl) (by kernel_rfl) (by kernel_rfl)
  have h12 := @run_callFunc_extern Tryz.prog 167 _ ReflectliteValue.set Tryz.func167 (by kernel_rfl) (by kernel_rfl) (by kernel_rfl) (by kernel_rfl)
  have tO := typeOfP
  have mA := methodAssignableTo
  have a25 := assignableP
  have v25 := valueOfP
  have htl : t.block < w.heap.size := by
    rcases Nat.lt_or_ge t.block w.heap.size with h | h
    · exact h
    · simp [World.cell?, Array.getElem?_eq_none h] at ht0
  have hal : a.block < w.heap.size := by
    rcases Nat.lt_or_ge a.block w.heap.size with h | h
    · exact h
    · simp [World.cell?, Array.getElem?_eq_none h] at ha
  have el := elemVPP a t (w.alloc (.cells #[.pointer (some ⟨9, 157, none⟩), .pointer (some a), .int .u64 150] 208)) (by rw [World.cell?_alloc_lt _ _ a hal]; exact ha)
  have st := setP t ⟨w.heap.size + 1, 0, none⟩ e old ((w.alloc (.cells #[.pointer (some ⟨9, 157, none⟩), .pointer (some a), .int .u64 150] 208)).alloc (.cells #[.pointer (some e)] 86))
    (by rw [World.cell?_alloc_at _ _ _ _ (by simp)]; rfl)
    (by rw [World.cell?_alloc_lt _ _ t (by simp; omega), World.cell?_alloc_lt _ _ t htl]; exact ht0)
    (by rw [World.frozen?_alloc_old _ _ t (by simp; omega), World.frozen?_alloc_old _ _ t (Nat.ne_of_lt htl)]; exact hf0)
  go_enter Tryz.func126, Tryz.ntmps126
  go_wp2
  refine wp_loop_rounds 1 ?_
  rw [rounds_succ]
  go_wp2
  go_ret
  exact ⟨rfl, rfl⟩
theorem noAsE (v : Value) (xT : TypeId) (w : World) : (Instr.typeAssert (.iface 67 v) xT 250 true).run Tryz.prog w = .ok (.tuple #[.nilIface, .bool false]) w := run_typeAssert_lacksB Tryz.underlying250 (by kernel_rfl) (by kernel_rfl) v xT w
theorem noUnE (v : Value) (xT : TypeId) (w : World) : (Instr.typeAssert (.iface 67 v) xT 253 true).run Tryz.prog w = .ok (.tuple #[.nilIface, .bool false]) w := run_typeAssert_lacksB Tryz.underlying253 (by kernel_rfl) (by kernel_rfl) v xT w
theorem noUnsE (v : Value) (xT : TypeId) (w : World) : (Instr.typeAssert (.iface 67 v) xT 254 true).run Tryz.prog w = .ok (.tuple #[.nilIface, .bool false]) w := run_typeAssert_lacksB Tryz.underlying254 (by kernel_rfl) (by kernel_rfl) v xT w
set_option maxRecDepth 100000 in
set_option maxHeartbeats 4000000 in
theorem asIn_miss (n : Int) (t a : Addr) (w : World) :
    Calls Tryz.prog 126 #[.iface 67 (.int .i64 n), .iface 157 (.pointer (some t)), .agg #[.pointer (some ⟨9, 157, none⟩), .pointer (some a), .int .u64 150], .iface 245 (.agg #[.pointer (some ⟨9, 86, none⟩)])] w
      fun ev w' => ev = .returned (.bool false) ∧ Below w.heap.size w w' := by
  have h10 := @run_callFunc_extern Tryz.prog 165 _ ReflectliteType.typeOf Tryz.func165 (by kernel_rfl) (by kernel_rfl) (by kernel_rfl) (by kernel_rfl)
  have h35 := @run_callFunc_extern Tryz.prog 268 _ (ReflectliteType.relation "AssignableTo" ReflectliteType.assignableTo) Tryz.func268 (by kernel_rfl) (by kernel_rfl) (by kernel_rfl) (by kernel_rfl)
  have tO := typeOfE
  have mA := methodAssignableTo
  have a25 := assignableE
  have n1 := noAsE
  have n2 := noUnE
  have n3 := noUnsE
  go_enter Tryz.func126, Tryz.ntmps126
  go_wp2
  refine wp_loop_rounds 1 ?_
  rw [rounds_succ]
  go_wp2
  go_ret
  exact ⟨rfl, (Below.refl _ _).alloc (Nat.le_refl _) _⟩
end Go.Proofs.YtkcklnnmcmjnjaaGreatDoor

namespace Go.Proofs.YtkcklnnmcmjnjaaGreatDoor
open Go.RowKit Go.Extern.Stop Go.Stop Go.Extern

theorem ErrT.below {w w' : World} {N : Nat} (h : ErrT w) (hb : Below N w w') (hN : w.heap.size ≤ N) : ErrT w' := by
  have hlt : 0 < w.heap.size := World.block_lt_of_cell? w _ h
  exact (hb.cell (p := ⟨0, 0, none⟩) (Nat.lt_of_lt_of_le hlt hN)).trans h
theorem ErrT.low {w w' : World} {N : Nat} (h : ErrT w) (hb : Below N w w') (hN : 0 < N) : ErrT w' :=
  (hb.cell (p := ⟨0, 0, none⟩) hN).trans h
set_option maxRecDepth 100000 in
set_option maxHeartbeats 4000000 in
theorem as_hit (e t : Addr) (old : Value) (w : World) (hg : ErrT w) (ht0 : w.cell? t = some old) (hf0 : w.frozen? t = false) :
    Calls Tryz.prog 88 #[.iface 86 (.pointer (some e)), .iface 157 (.pointer (some t))] w
      fun ev w' => ev = .returned (.bool true) ∧ ∃ w1, Below w.heap.size w w1 ∧ w' = w1.setCell t (.pointer (some e)) := by
  have h6 := @run_callFunc_extern Tryz.prog 123 _ (fun args => ReflectliteValue.unpack (args.getD 0 (.tuple #[]))) Tryz.func123 (by kernel_rfl) (by kernel_rfl) (by kernel_rfl) (by kernel_rfl)
  have h7 := @run_callFunc_extern Tryz.prog 124 _ (ReflectliteValue.methodAny (ReflectliteValue.valueError "reflectlite.Value.Type" 0) (fun t _ _ _ => ReflectliteType.toType t)) Tryz.func124 (by kernel_rfl) (by kernel_rfl) (by kernel_rfl) (by kernel_rfl)
  have h8 := @run_callFunc_extern Tryz.prog 125 _ (ReflectliteValue.method (ReflectliteValue.valueError "reflectlite.Value.IsNil" 0) ReflectliteValue.isNil) Tryz.func125 (by kernel_rfl) (by kernel_rfl) (by kernel_rfl) (by kernel_rfl)
  have h27 := @run_callFunc_extern Tryz.prog 257 _ (ReflectliteType.abiMethod fun t => do pure (.int .u8 (← Rtype.kind t))) Tryz.func257 (by kernel_rfl) (by kernel_rfl) (by kernel_rfl) (by kernel_rfl)
  have h37 := @run_callFunc_extern Tryz.prog 270 _ (ReflectliteType.method ReflectliteType.elem) Tryz.func270 (by kernel_rfl) (by kernel_rfl) (by kernel_rfl) (by kernel_rfl)
  have h38 := @run_callFunc_extern Tryz.prog 271 _ (ReflectliteType.relation "Implements" ReflectliteType.implements_) Tryz.func271 (by kernel_rfl) (by kernel_rfl) (by kernel_rfl) (by kernel_rfl)
  have f6 := valueOfPP
  have f7 := typePP
  have mK := methodKind
  have mE := methodElem
  have mI := methodImplements
  have k27 := kindPP
  have k25 := kindP
  have e27 := elemPP
  have i25 := implementsP
  have htl : t.block < w.heap.size := by
    rcases Nat.lt_or_ge t.block w.heap.size with h | h
    · exact h
    · simp [World.cell?, Array.getElem?_eq_none h] at ht0
  obtain ⟨wa, hwa⟩ : ∃ wa, wa = (w.alloc (.cells #[.pointer (some t)] 157)).alloc (.cells #[.pointer (some ⟨9, 157, none⟩), .pointer (some ⟨w.heap.size, 0, none⟩), .int .u64 150] 208) := ⟨_, rfl⟩
  have hba : Below w.heap.size w wa := by rw [hwa]; exact ((Below.refl _ w).alloc (Nat.le_refl _) _).alloc (by simp) _
  have n8 := isNilPP ⟨w.heap.size, 0, none⟩ t wa (by rw [hwa]; simp)
  have hg2 : wa.cell? ⟨0, 0, none⟩ = some (.iface 245 (.agg #[.pointer (some ⟨9, 27, none⟩)])) := hg.below hba (Nat.le_refl _)
  have HI := Lib.hid (asIn_hit e t ⟨w.heap.size, 0, none⟩ old wa (by rw [hwa]; simp) ((hba.cell htl).trans ht0) ((hba.frozen htl).trans hf0))
  have HB := Lib.hid hba
  subst hwa
  clear hba
  go_enter Tryz.func88, Tryz.ntmps88
  go_wp2_with fail
  refine HI.out.mono ?_
  rintro ev w2 ⟨rfl, rfl⟩
  go_wp2_with fail
  go_ret
  exact ⟨rfl, _, (HB.out.alloc HB.out.size _).alloc (HB.out.alloc HB.out.size _).size _, rfl⟩
set_option maxRecDepth 100000 in
set_option maxHeartbeats 4000000 in
theorem as_miss (n : Int) (t : Addr) (w : World) (hg : ErrT w) :
    Calls Tryz.prog 88 #[.iface 67 (.int .i64 n), .iface 157 (.pointer (some t))] w
      fun ev w' => ev = .returned (.bool false) ∧ Below w.heap.size w w' := by
  have h6 := @run_callFunc_extern Tryz.prog 123 _ (fun args => ReflectliteValue.unpack (args.getD 0 (.tuple #[]))) Tryz.func123 (by kernel_rfl) (by kernel_rfl) (by kernel_rfl) (by kernel_rfl)
  have h7 := @run_callFunc_extern Tryz.prog 124 _ (ReflectliteValue.methodAny (ReflectliteValue.valueError "reflectlite.Value.Type" 0) (fun t _ _ _ => ReflectliteType.toType t)) Tryz.func124 (by kernel_rfl) (by kernel_rfl) (by kernel_rfl) (by kernel_rfl)
  have h8 := @run_callFunc_extern Tryz.prog 125 _ (ReflectliteValue.method (ReflectliteValue.valueError "reflectlite.Value.IsNil" 0) ReflectliteValue.isNil) Tryz.func125 (by kernel_rfl) (by kernel_rfl) (by kernel_rfl) (by kernel_rfl)
  have h27 := @run_callFunc_extern Tryz.prog 257 _ (ReflectliteType.abiMethod fun t => do pure (.int .u8 (← Rtype.kind t))) Tryz.func257 (by kernel_rfl) (by kernel_rfl) (by kernel_rfl) (by kernel_rfl)
  have h37 := @run_callFunc_extern Tryz.prog 270 _ (ReflectliteType.method ReflectliteType.elem) Tryz.func270 (by kernel_rfl) (by kernel_rfl) (by kernel_rfl) (by kernel_rfl)
  have h38 := @run_callFunc_extern Tryz.prog 271 _ (ReflectliteType.relation "Implements" ReflectliteType.implements_) Tryz.func271 (by kernel_rfl) (by kernel_rfl) (by kernel_rfl) (by kernel_rfl)
  have f6 := valueOfPP
  have f7 := typePP
  have mK := methodKind
  have mE := methodElem
  have mI := methodImplements
  have k27 := kindPP
  have k25 := kindP
  have e27 := elemPP
  have i25 := implementsP
  obtain ⟨wa, hwa⟩ : ∃ wa, wa = (w.alloc (.cells #[.pointer (some t)] 157)).alloc (.cells #[.pointer (some ⟨9, 157, none⟩), .pointer (some ⟨w.heap.size, 0, none⟩), .int .u64 150] 208) := ⟨_, rfl⟩
  have hba : Below w.heap.size w wa := by rw [hwa]; exact ((Below.refl _ w).alloc (Nat.le_refl _) _).alloc (by simp) _
  have n8 := isNilPP ⟨w.heap.size, 0, none⟩ t wa (by rw [hwa]; simp)
  have hg2 : wa.cell? ⟨0, 0, none⟩ = some (.iface 245 (.agg #[.pointer (some ⟨9, 27, none⟩)])) := hg.below hba (Nat.le_refl _)
  have HI := Lib.hid (asIn_miss n t ⟨w.heap.size, 0, none⟩ wa)
  have HB := Lib.hid hba
  subst hwa
  clear hba
  go_enter Tryz.func88, Tryz.ntmps88
  go_wp2_with fail
  refine HI.out.mono ?_
  rintro ev w2 ⟨rfl, b2⟩
  go_wp2_with fail
  go_ret
  exact ⟨rfl, HB.out.trans (b2.mono HB.out.size)⟩
end Go.Proofs.YtkcklnnmcmjnjaaGreatDoor

namespace Go.Proofs.YtkcklnnmcmjnjaaGreatDoor
open Go.RowKit Go.Shelf
attribute [local go_sem] Oper.semAt_some

/-- A batch that can be read. -/
def EdV (w : World) (v : Value) (eds : List Ed) : Prop :=
  ∃ A cap, v = .slice A eds.length cap ∧ eds.length ≤ cap ∧ ∀ (i : Nat) (ed : Ed), eds[i]? = some ed → ∃ b off fv, A = some ⟨b, off, none⟩ ∧ b < w.heap.size ∧ w.cell? ⟨b, off + i * 3, none⟩ = some (.int .i64 ed.kind) ∧ w.cell? ⟨b, off + i * 3 + 1, none⟩ = some (.int .i64 ed.id) ∧ w.cell? ⟨b, off + i * 3 + 1 + 1, none⟩ = some fv ∧ FldR w fv ed.fields
theorem EdV.below {w w' : World} {v : Value} {eds : List Ed} {N : Nat} (h : EdV w v eds) (hb : Below N w w') (hN : w.heap.size ≤ N) : EdV w' v eds := by
  obtain ⟨A, cap, e, hle, hc⟩ := h
  refine ⟨A, cap, e, hle, fun i ed hi => ?_⟩
  obtain ⟨b, off, fv, e1, hbb, c0, c1, c2, hf⟩ := hc i ed hi
  have hbN : b < N := by omega
  exact ⟨b, off, fv, e1, Nat.lt_of_lt_of_le hbb hb.size, (hb.cell (p := ⟨b, off + i * 3, none⟩) hbN).trans c0, (hb.cell (p := ⟨b, off + i * 3 + 1, none⟩) hbN).trans c1, (hb.cell (p := ⟨b, off + i * 3 + 1 + 1, none⟩) hbN).trans c2, hf.below hb hN⟩
theorem EdsIn.edv {w : World} {v : Value} {eds : List Ed} (h : EdsIn w v eds) : EdV w v eds := by
  obtain ⟨_, A, cap, e, hle, hc⟩ := h
  refine ⟨A, cap, e, hle, fun i ed hi => ?_⟩
  obtain ⟨b, off, fv, e1, hbb, c0, c1, c2, hf⟩ := hc i ed hi
  exact ⟨b, off, fv, e1, hbb, c0, c1, c2, hf.flds, hf.nil⟩
/-- Fields of a size that is walked. -/
def Fines (eds : List Ed) : Prop := ∀ ed ∈ eds, Fine7 ed.fields
/-- .. of any size that a text has. -/
structure Fine8 (fs : List Fld) : Prop where
  len : fs.length ≤ 1000000
  each : ∀ f ∈ fs, f.1.length ≤ 100000 ∧ f.2.length ≤ 100000
def Fines8 (eds : List Ed) : Prop := ∀ ed ∈ eds, Fine8 ed.fields
theorem Fines.eight {eds : List Ed} (h : Fines eds) : Fines8 eds := fun ed hm => ⟨by have := (h ed hm).len; omega, (h ed hm).each⟩
theorem Light.fines {eds : List Ed} (h : Light eds) : Fines eds := fun _ he => h.fine he
theorem ErrZ.mono {lo lo' : Nat} {w : World} {u : Value} {a : Int} {n : Nat} (h : ErrZ lo w u a n) (hl : lo' ≤ lo) : ErrZ lo' w u a n := by
  obtain ⟨h1, h2⟩ := h
  refine ⟨h1, ?_⟩
  rcases h2 with h2 | ⟨k, h3, h4⟩
  · exact .inl h2
  · exact .inr ⟨k, h3.mono hl, h4⟩
theorem ErrZ.fault {lo : Nat} {w : World} {u : Value} {k n : Nat} (h : FaultAt lo w u k n) (hn : n ≠ 0) (h11 : n ≤ 11) : ErrZ lo w u (k : Nat) n := ⟨h11, .inr ⟨k, h, rfl, hn⟩⟩
set_option maxRecDepth 100000 in
set_option maxHeartbeats 4000000 in
theorem fault_any {lo : Nat} (k n : Nat) (a : Int) (u : Value) (w : World) (h : ErrZ lo w u a n) (hn : n ≠ 0) (hg : ErrT w) :
    Calls Tryz.prog 45 #[.int .i64 (k : Nat), u] w fun e w' => ∃ u', e = .returned u' ∧ Below w.heap.size w w' ∧ FaultAt w.heap.size w' u' k n := by
  obtain ⟨_, h⟩ := h
  obtain ⟨wa, hwa⟩ : ∃ wa, wa = w.alloc (.cells #[.pointer none] 86) := ⟨_, rfl⟩
  have hba : Below w.heap.size w wa := by rw [hwa]; exact (Below.refl _ w).alloc (Nat.le_refl _) _
  have hga : ErrT wa := hg.below hba (Nat.le_refl _)
  have ht : wa.cell? ⟨w.heap.size, 0, none⟩ = some (.pointer none) := by rw [hwa]; simp
  have hf : wa.frozen? ⟨w.heap.size, 0, none⟩ = false := by rw [hwa]; simp
  have hz : wa.heap.size = w.heap.size + 1 := by rw [hwa]; simp
  rcases h with ⟨rfl, _⟩ | ⟨k', ⟨q, _, rfl, hq⟩, _, _⟩
  · rw [errV_pos n (by omega)]
    have HM := Lib.hid (as_miss (n : Int) ⟨w.heap.size, 0, none⟩ wa hga)
    have HBA := Lib.hid hba
    have FIN : Hid (∀ W, Below wa.heap.size wa W → FaultAt w.heap.size (W.alloc (.cells #[.int .i64 (k : Nat), .iface 67 (.int .i64 (n : Nat))] 89)) (.iface 86 (.pointer (some ⟨W.heap.size, 0, none⟩))) k n) := by
      intro W hW
      rw [← errV_pos n (by omega)]
      exact FaultAt.new W k n _ _ rfl (by have := hW.size; omega)
    clear hba hga ht hf
    subst hwa
    go_enter Tryz.func45, Tryz.ntmps45
    go_wp2_with fail
    refine HM.out.mono ?_
    rintro e w2 ⟨rfl, b2⟩
    have F2 := FIN.out w2 b2
    have B2 : Below w.heap.size w w2 := HBA.out.trans (b2.mono HBA.out.size)
    go_wp2_with fail
    go_ret
    exact ⟨_, rfl, B2.alloc B2.size _, F2⟩
  · have hql := hq.lt
    have HM := Lib.hid (as_hit ⟨q, 0, none⟩ ⟨w.heap.size, 0, none⟩ (.pointer none) wa hga ht hf)
    have HBA := Lib.hid hba
    have HQ : Hid (∀ w1, Below wa.heap.size wa w1 → (w1.setCell ⟨w.heap.size, 0, none⟩ (.pointer (some ⟨q, 0, none⟩))).cell? ⟨w.heap.size, 0, none⟩ = some (.pointer (some ⟨q, 0, none⟩)) ∧ (w1.setCell ⟨w.heap.size, 0, none⟩ (.pointer (some ⟨q, 0, none⟩))).cell? ⟨q, 1, none⟩ = some (.iface 67 (.int .i64 (n : Nat))) ∧ Below w.heap.size w (w1.setCell ⟨w.heap.size, 0, none⟩ (.pointer (some ⟨q, 0, none⟩)))) := by
      intro w1 b1
      have hb : Below w.heap.size w w1 := hba.trans (b1.mono hba.size)
      have c1 : Cells w1 w.heap.size 86 #[.pointer none] := cells_kept (by rw [hwa]; exact Cells.new _ _ _) b1 (by omega)
      have c1' := c1.set 0 (.pointer (some ⟨q, 0, none⟩))
      have cq : Cells w1 q 89 #[.int .i64 k', errV n] := cells_kept hq hb hql
      have cq' : Cells (w1.setCell ⟨w.heap.size, 0, none⟩ (.pointer (some ⟨q, 0, none⟩))) q 89 #[.int .i64 k', errV n] := cq.other (p := ⟨w.heap.size, 0, none⟩) (by show q ≠ w.heap.size; omega) _
      refine ⟨?_, ?_, hb.setCell (p := ⟨w.heap.size, 0, none⟩) (Nat.le_refl _) _⟩
      · rw [c1'.cell 0]; rfl
      · rw [← errV_pos n (by omega), cq'.cell 1]; rfl
    have FIN : Hid (∀ W : World, w.heap.size ≤ W.heap.size → FaultAt w.heap.size (W.alloc (.cells #[.int .i64 (k : Nat), .iface 67 (.int .i64 (n : Nat))] 89)) (.iface 86 (.pointer (some ⟨W.heap.size, 0, none⟩))) k n) := by
      intro W hW
      rw [← errV_pos n (by omega)]
      exact FaultAt.new W k n _ _ rfl hW
    clear hba hga ht hf hq
    subst hwa
    go_enter Tryz.func45, Tryz.ntmps45
    go_wp2_with fail
    refine HM.out.mono ?_
    rintro e w2 ⟨rfl, w1, b1, hw2⟩
    obtain ⟨c1, c2, hb⟩ := HQ.out w1 b1
    rw [← hw2] at c1 c2 hb
    have F2 := FIN.out w2 hb.size
    clear hw2 HQ b1 HM
    go_wp2_with fail
    go_ret
    exact ⟨_, rfl, hb.alloc hb.size _, F2⟩
set_option maxRecDepth 100000 in
set_option maxHeartbeats 4000000 in
theorem chkE_any8 (ed : Ed) (fv : Value) (w : World) (h : Flds w fv ed.fields) (hf : Fine8 ed.fields) :
    Calls Tryz.prog 44 #[.agg #[.int .i64 ed.kind, .int .i64 ed.id, fv]] w fun e w' => ∃ u a, e = .returned u ∧ Below w.heap.size w w' ∧ ErrZ w.heap.size w' u a (goodE ed) := by
  obtain ⟨fa, fc, rfl, _, _⟩ := _root_.id h
  obtain ⟨wa, hwa⟩ : ∃ wa, wa = w.alloc (.cells #[.int .i64 ed.kind, .int .i64 ed.id, .slice fa ed.fields.length fc] 33) := ⟨_, rfl⟩
  have hba : Below w.heap.size w wa := by rw [hwa]; exact (Below.refl _ w).alloc (Nat.le_refl _) _
  have HC := Lib.hid (chk_any ed.fields (.slice fa ed.fields.length fc) wa (h.below hba (Nat.le_refl _)) (by have := hf.len; omega) (fun f hm => by have := hf.each f hm; omega))
  have HB := Lib.hid hba
  have GE := Lib.hid (show goodE ed = if ed.kind = 1 ∨ ed.kind = 3 then chkN ed.fields else if ed.kind = 2 ∧ ed.fields.length = 0 then 0 else 2 from rfl)
  have FIN : Hid (∀ W u, ErrZ wa.heap.size W u (chkAt ed.fields) (chkN ed.fields) → goodE ed = chkN ed.fields → ∃ a, ErrZ w.heap.size W u a (goodE ed)) := by
    intro W u hz hg
    rw [hg]
    exact ⟨_, hz.mono hba.size⟩
  have HZ : Hid (∀ W u, ChkV wa.heap.size W u ed.fields → ErrZ wa.heap.size W u (chkAt ed.fields) (chkN ed.fields)) := fun W u h => ErrZ.of h
  have E0 : Hid (∀ W, goodE ed = 0 → ErrZ w.heap.size W .nilIface (-9) (goodE ed)) := fun W h => by rw [h]; exact ErrZ.none _ _
  have E2 : Hid (∀ W, goodE ed = 2 → ErrZ w.heap.size W (.iface 67 (.int .i64 2)) (-9) (goodE ed)) := fun W h => by rw [h]; exact ErrZ.err _ _ 2 (by decide)
  have hlz : ((ed.fields.length : Int) == 0) = decide (ed.fields.length = 0) := by
    rw [Bool.eq_iff_iff]; simp
  clear hba h
  subst hwa
  generalize hgg : goodE ed = ge at *
  generalize chkN ed.fields = cn at *
  generalize chkAt ed.fields = ca at *
  generalize ed.fields.length = fl at *
  generalize ed.kind = kk at *
  generalize ed.id = ii at *
  clear hgg
  by_cases h1 : kk = 1
  · subst h1
    have hg : ge = cn := by rw [GE.out, if_pos (.inl rfl)]
    go_enter Tryz.func44, Tryz.ntmps44
    go_wp2_with fail
    refine HC.out.mono ?_
    rintro e w2 ⟨u, rfl, b2, hu⟩
    obtain ⟨a, F2⟩ := FIN.out w2 u (HZ.out w2 u hu) hg
    go_wp2_with fail
    go_ret
    first | exact ⟨_, rfl, HB.out.trans (b2.mono HB.out.size), a, F2⟩ | exact ⟨_, a, rfl, HB.out.trans (b2.mono HB.out.size), F2⟩
  · by_cases h3 : kk = 3
    · subst h3
      have hg : ge = cn := by rw [GE.out, if_pos (.inr rfl)]
      go_enter Tryz.func44, Tryz.ntmps44
      go_wp2_with fail
      refine HC.out.mono ?_
      rintro e w2 ⟨u, rfl, b2, hu⟩
      obtain ⟨a, F2⟩ := FIN.out w2 u (HZ.out w2 u hu) hg
      go_wp2_with fail
      go_ret
      first | exact ⟨_, rfl, HB.out.trans (b2.mono HB.out.size), a, F2⟩ | exact ⟨_, a, rfl, HB.out.trans (b2.mono HB.out.size), F2⟩
    · have q1 : (kk == 1) = false := by simpa using h1
      have q3 : (kk == 3) = false := by simpa using h3
      by_cases h2 : kk = 2
      · subst h2
        by_cases h0 : fl = 0
        · have hg : ge = 0 := by rw [GE.out, if_neg (by omega), if_pos ⟨rfl, h0⟩]
          have F := E0.out (w.alloc (.cells #[.int .i64 2, .int .i64 ii, .slice fa fl fc] 33)) hg
          clear hg GE E0 E2 FIN HZ
          subst h0
          go_enter Tryz.func44, Tryz.ntmps44
          go_wp2_with fail
          go_ret
          first | exact ⟨_, rfl, HB.out, _, F⟩ | exact ⟨_, _, rfl, HB.out, F⟩
        · have hg : ge = 2 := by rw [GE.out, if_neg (by omega), if_neg (by intro h; exact h0 h.2)]
          have F := E2.out (w.alloc (.cells #[.int .i64 2, .int .i64 ii, .slice fa fl fc] 33)) hg
          clear hg GE E0 E2 FIN HZ
          rw [decide_eq_false h0] at hlz
          go_enter Tryz.func44, Tryz.ntmps44
          go_wp2_with fail
          go_ret
          first | exact ⟨_, rfl, HB.out, _, F⟩ | exact ⟨_, _, rfl, HB.out, F⟩
      · have q2 : (kk == 2) = false := by simpa using h2
        have hg : ge = 2 := by rw [GE.out, if_neg (by omega), if_neg (by intro h; exact h2 h.1)]
        have F := E2.out (w.alloc (.cells #[.int .i64 kk, .int .i64 ii, .slice fa fl fc] 33)) hg
        clear hg GE E0 E2 FIN HZ
        go_enter Tryz.func44, Tryz.ntmps44
        go_wp2_with fail
        go_ret
        first | exact ⟨_, rfl, HB.out, _, F⟩ | exact ⟨_, _, rfl, HB.out, F⟩
set_option maxRecDepth 100000 in
set_option maxHeartbeats 4000000 in
/-- Check: nil, or the first edit that isn't good. -/
theorem checkB_any8 (eds : List Ed) (v : Value) (w : World) (h : EdV w v eds) (hl : eds.length ≤ 1000000) (hf : Fines8 eds) (hg : ErrT w) :
    Calls Tryz.prog 12 #[v] w fun e w' => ∃ u, e = .returned u ∧ Below w.heap.size w w' ∧ ErrZ w.heap.size w' u (chkB eds).1 (chkB eds).2 := by
  obtain ⟨A, cap, rfl, hle, hc⟩ := h
  have PC := Lib.hid hc
  have HF := Lib.hid hf
  have HG := Lib.hid hg
  clear hc hf hg
  by_cases h0 : eds.length = 0
  · have e0 : chkB eds = (-9, 1) := by unfold chkB; rw [if_pos (by omega)]
    rw [e0, h0]
    have F := ErrZ.err w.heap.size w 1 (by decide)
    rw [show errV 1 = .iface 67 (.int .i64 1) from rfl] at F
    go_enter Tryz.func12, Tryz.ntmps12
    go_wp2_with fail
    go_ret
    exact ⟨_, rfl, Below.refl _ _, F⟩
  have q0 : ((eds.length : Int) == 0) = false := by simp; intro h; exact h0 (by rw [h]; rfl)
  by_cases h40 : 40 < eds.length
  · have e0 : chkB eds = (-9, 1) := by unfold chkB; rw [if_pos (by omega)]
    rw [e0]
    have F := ErrZ.err w.heap.size w 1 (by decide)
    rw [show errV 1 = .iface 67 (.int .i64 1) from rfl] at F
    go_enter Tryz.func12, Tryz.ntmps12
    go_wp2_with fail
    go_ret
    exact ⟨_, rfl, Below.refl _ _, F⟩
  have e1 : chkB eds = chkOn 0 eds := by unfold chkB; rw [if_neg (by omega)]
  rw [e1]
  go_enter Tryz.func12, Tryz.ntmps12
  go_wp2_with fail
  go_loopw [17] (fun i wr => ∃ k : Nat, k ≤ eds.length ∧ i = .int .i64 k ∧ (∀ x ∈ eds.take k, goodE x = 0) ∧ Below w.heap.size w wr) (fun i _ => eds.length - (intOf i).toNat)
  case atStart => exact ⟨0, Nat.zero_le _, rfl, (fun x hx => by simp at hx), Below.refl _ _⟩
  case round =>
    obtain ⟨k, hk, rfl, hsm, hb⟩ := hrel
    by_cases hlt : k < eds.length
    · obtain ⟨ed, hed⟩ : ∃ ed, eds[k]? = some ed := ⟨_, List.getElem?_eq_getElem hlt⟩
      obtain ⟨b, off, fv, rfl, hbb, c0, c1, c2, hfl⟩ := PC.out k ed hed
      obtain ⟨fa, fc, rfl, _, _⟩ := _root_.id hfl.1
      replace c0 := (hb.cell (p := ⟨b, off + k * 3, none⟩) hbb).trans c0
      replace c1 := (hb.cell (p := ⟨b, off + k * 3 + 1, none⟩) hbb).trans c1
      replace c2 := (hb.cell (p := ⟨b, off + k * 3 + 1 + 1, none⟩) hbb).trans c2
      obtain ⟨wa, hwa⟩ : ∃ wa, wa = wr.alloc (.cells #[.int .i64 ed.kind, .int .i64 ed.id, .slice fa ed.fields.length fc] 33) := ⟨_, rfl⟩
      have hba : Below w.heap.size w wa := by rw [hwa]; exact hb.alloc hb.size _
      have CK := Lib.hid (chkE_any8 ed (.slice fa ed.fields.length fc) wa (hfl.1.below hba (Nat.le_refl _)) (HF.out ed (List.mem_of_getElem? hed)))
      have SM : Hid (goodE ed = 0 → ∀ x ∈ eds.take (k + 1), goodE x = 0) := fun hz x hx => by
        rw [take_snoc hed] at hx
        rcases List.mem_append.1 hx with hx | hx
        · exact hsm x hx
        · rw [List.mem_singleton.1 hx]; exact hz
      have AT : Hid (goodE ed ≠ 0 → chkOn 0 eds = (((k : Nat) : Int), goodE ed)) := fun hz => by rw [chkOn_at eds 0 k ed hsm hed hz, Nat.zero_add]
      have HBA := Lib.hid hba
      have hle11 := goodE_le ed
      clear hed hsm hfl hba
      generalize goodE ed = ge at *
      subst hwa
      go_wp2_with fail
      refine CK.out.mono ?_
      rintro e w2 ⟨u, a, rfl, b2, hz⟩
      have B2 := Lib.hid (HBA.out.trans (b2.mono HBA.out.size))
      by_cases hg0 : ge = 0
      · subst hg0
        obtain ⟨_, ⟨rfl, _⟩ | ⟨_, _, _, hx⟩⟩ := hz
        · have SM1 := Lib.hid (SM.out rfl)
          clear SM AT CK
          rw [show errV 0 = .nilIface from rfl]
          go_wp2_with fail
          go_roundw
          case rel => exact ⟨k + 1, hlt, by go_num, SM1.out, B2.out⟩
          case measure => simp [intOf]; omega
        · exact absurd rfl hx
      · have FA := Lib.hid (fault_any k ge a u w2 hz hg0 (HG.out.below B2.out (Nat.le_refl _)))
        have AT1 := AT.out hg0
        have hform : (∃ z, u = .iface 67 (.int .i64 z)) ∨ ∃ q, u = .iface 86 (.pointer (some ⟨q, 0, none⟩)) := by
          obtain ⟨_, ⟨rfl, _⟩ | ⟨_, ⟨q, _, rfl, _⟩, _, _⟩⟩ := hz
          · rw [errV_pos ge (by omega)]; exact .inl ⟨_, rfl⟩
          · exact .inr ⟨q, rfl⟩
        clear hz SM AT CK
        rcases hform with ⟨z, rfl⟩ | ⟨q, rfl⟩
        all_goals
          go_wp2_with fail
          refine FA.out.mono ?_
          rintro e w3 ⟨u', rfl, b3, hfa⟩
          have Z3 : Hid (ErrZ w.heap.size w3 u' (chkOn 0 eds).1 (chkOn 0 eds).2) := by
            show ErrZ _ _ _ _ _
            rw [AT1]; exact ErrZ.fault (hfa.mono B2.out.size) hg0 hle11
          have B3 := Lib.hid (B2.out.trans (b3.mono B2.out.size))
          clear hfa b3
          go_wp2_with fail
          go_ret
          exact ⟨_, rfl, B3.out, Z3.out⟩
    · obtain rfl : k = eds.length := by omega
      rw [List.take_length] at hsm
      have HZ : ErrZ w.heap.size wr .nilIface (chkOn 0 eds).1 (chkOn 0 eds).2 := by rw [chkOn_all eds 0 hsm]; exact ErrZ.none w.heap.size wr
      clear PC hsm
      go_wp2_with fail
      go_ret
      exact ⟨_, rfl, hb, HZ⟩
theorem checkB_any (eds : List Ed) (v : Value) (w : World) (h : EdV w v eds) (hl : eds.length ≤ 1000000) (hf : Fines eds) (hg : ErrT w) :
    Calls Tryz.prog 12 #[v] w fun e w' => ∃ u, e = .returned u ∧ Below w.heap.size w w' ∧ ErrZ w.heap.size w' u (chkB eds).1 (chkB eds).2 := checkB_any8 eds v w h hl hf.eight hg
end Go.Proofs.YtkcklnnmcmjnjaaGreatDoor

namespace Go.Proofs.YtkcklnnmcmjnjaaGreatDoor
open Go.RowKit Go.Shelf
attribute [local go_sem] Oper.semAt_some

theorem var_below {P : Program} {w w' : World} {N : Nat} {name : String} {cs : Array Value} (h : w.var? P name = some cs) (hb : Below N w w') (hN : w.heap.size ≤ N) : w'.var? P name = some cs := by
  unfold World.var? at *
  cases hg : P.globalNamed name with
  | none => simp [hg] at h
  | some g =>
    simp only [hg, Option.bind_some] at h ⊢
    have hlt : g < w.heap.size := by
      rcases Nat.lt_or_ge g w.heap.size with h' | h'
      · exact h'
      · rw [Array.getElem?_eq_none h'] at h; simp at h
    rw [hb.block g (by omega)]
    exact h
/-- What the variables hold that the library reads: the powers of ten, the two errors of strconv, the type of errors. -/
structure Tabs (w : World) : Prop where
  err : ErrT w
  pow : Lib.TabIs Tryz.prog w "internal/strconv.uint64pow10" .u64 Lib.pow10Tab
  syn : ∃ tp p, w.var? Tryz.prog "strconv.ErrSyntax" = some #[.iface tp p]
  ran : ∃ tp p, w.var? Tryz.prog "strconv.ErrRange" = some #[.iface tp p]
theorem Tabs.below {w w' : World} {N : Nat} (h : Tabs w) (hb : Below N w w') (hN : w.heap.size ≤ N) : Tabs w' := by
  obtain ⟨a, b, ⟨t1, p1, c⟩, ⟨t2, p2, d⟩⟩ := h
  exact ⟨a.below hb hN, var_below b hb hN, ⟨t1, p1, var_below c hb hN⟩, ⟨t2, p2, var_below d hb hN⟩⟩
theorem bsameA (a b : List UInt8) : ((B a).toList == (B b).toList) = decide (a = b) := by rw [Lib.toList_data, Lib.toList_data, B_data, B_data, Bool.eq_iff_iff]; simp
set_option maxRecDepth 100000 in
theorem word_any (k : Int) (w : World) : Calls Tryz.prog 78 #[.int .i64 k] w fun e w' => e = .returned (.string (B (wordL k))) ∧ w' = w := by
  unfold wordL
  by_cases h1 : k = 1
  · subst h1
    go_enter Tryz.func78, Tryz.ntmps78
    go_wp2_with fail
    go_ret
    exact ⟨rfl, rfl⟩
  · have q1 : (k == 1) = false := by simpa using h1
    rw [if_neg h1]
    by_cases h2 : k = 2
    · subst h2
      go_enter Tryz.func78, Tryz.ntmps78
      go_wp2_with fail
      go_ret
      exact ⟨rfl, rfl⟩
    · have q2 : (k == 2) = false := by simpa using h2
      rw [if_neg h2]
      by_cases h3 : k = 3
      · subst h3
        go_enter Tryz.func78, Tryz.ntmps78
        go_wp2_with fail
        go_ret
        exact ⟨rfl, rfl⟩
      · have q3 : (k == 3) = false := by simpa using h3
        rw [if_neg h3]
        go_enter Tryz.func78, Tryz.ntmps78
        go_wp2_with fail
        go_ret
        exact ⟨rfl, rfl⟩
theorem grow_below {w : World} (n : Nat) (os : Array Obj) : Below w.heap.size w (Go.Sort.grow (w.drewN n) os) :=
  ⟨rfl, rfl, rfl, by rw [Go.Sort.size_grow]; exact Nat.le_add_right _ _, fun k hk => Go.Sort.heap_grow_old _ _ hk⟩
set_option maxRecDepth 100000 in
set_option maxHeartbeats 4000000 in
theorem lineA_any (ed : Ed) (fv : Value) (hi : I64 ed.id) (w : World) (ht : Tabs w) :
    Calls Tryz.prog 35 #[.agg #[.int .i64 ed.kind, .int .i64 ed.id, fv]] w fun e w' => e = .returned (.string (B (lineA ed.kind ed.id))) ∧ Below w.heap.size w w' := by
  obtain ⟨wa, hwa⟩ : ∃ wa, wa = w.alloc (.cells #[.int .i64 ed.kind, .int .i64 ed.id, fv] 33) := ⟨_, rfl⟩
  have hba : Below w.heap.size w wa := by rw [hwa]; exact (Below.refl _ w).alloc (Nat.le_refl _) _
  have HB := Lib.hid hba
  have IT := Lib.hid (Tryz.strconv_Itoa ed.id hi.1 hi.2 wa (ht.below hba (Nat.le_refl _)).pow)
  have WD := Lib.hid (word_any ed.kind wa)
  have hil := Lib.itoa_length_le ed.id hi.1 hi.2
  have k0 : wa.cell? ⟨w.heap.size, 0, none⟩ = some (.int .i64 ed.kind) := by rw [hwa]; simp
  have k1 : wa.cell? ⟨w.heap.size, 1, none⟩ = some (.int .i64 ed.id) := by rw [hwa]; simp
  by_cases hk : ed.kind = 1 ∨ ed.kind = 2 ∨ ed.kind = 3
  · have e3 : Hid (∀ z : ByteArray, z = (⟨(Lib.itoa ed.id).toArray⟩ : ByteArray) → (⟨#[32]⟩ : ByteArray) ++ B (wordL ed.kind) ++ ⟨#[32]⟩ ++ z = B (lineA ed.kind ed.id)) := by
      rintro z rfl
      unfold lineA
      rw [if_pos hk, show (⟨#[32]⟩ : ByteArray) = B [32] from rfl, show (⟨(Lib.itoa ed.id).toArray⟩ : ByteArray) = B (Lib.itoa ed.id) from rfl, B_append, B_append, B_append]
      congr 1; simp
    have hne : ((B (wordL ed.kind)) == (⟨#[]⟩ : ByteArray)) = false := by
      rcases hk with h | h | h <;> rw [h] <;> decide
    have hne2 : (B (wordL ed.kind)).toList.isEmpty = false := by
      rcases hk with h | h | h <;> rw [h] <;> decide +kernel
    have hws : (B (wordL ed.kind)).size ≤ 7 := by rw [B_size]; rcases hk with h | h | h <;> rw [h] <;> decide
    have his : (⟨(Lib.itoa ed.id).toArray⟩ : ByteArray).size ≤ 21 := by show (Lib.itoa ed.id).toArray.size ≤ 21; simpa using hil
    generalize (⟨(Lib.itoa ed.id).toArray⟩ : ByteArray) = z at *
    generalize B (wordL ed.kind) = wd at *
    have s1 : ((⟨#[32]⟩ : ByteArray) ++ wd).size ≤ 8 := by rw [ByteArray.size_append]; show 1 + _ ≤ _; omega
    have s2 : ((⟨#[32]⟩ : ByteArray) ++ wd ++ ⟨#[32]⟩).size ≤ 9 := by rw [ByteArray.size_append]; show _ + 1 ≤ _; omega
    clear hba ht
    subst hwa
    go_enter Tryz.func35, Tryz.ntmps35
    go_wp2_with fail
    refine WD.out.mono ?_
    rintro e w2 ⟨rfl, rfl⟩
    go_wp2_with fail
    refine IT.out.mono ?_
    rintro e w3 ⟨rfl, n, os, rfl⟩
    have B3 := Lib.hid (HB.out.trans ((grow_below n os).mono HB.out.size))
    go_wp2_with fail
    go_ret
    exact ⟨by rw [e3.out _ rfl]; rfl, B3.out⟩
  · have e0 : wordL ed.kind = [] := by
      unfold wordL
      rw [if_neg (by omega), if_neg (by omega), if_neg (by omega)]
    have e1 : lineA ed.kind ed.id = [] := by unfold lineA; rw [if_neg hk]
    rw [e0] at WD
    rw [e1]
    rw [show B [] = (⟨#[]⟩ : ByteArray) from rfl] at WD ⊢
    clear hba ht
    subst hwa
    go_enter Tryz.func35, Tryz.ntmps35
    go_wp2_with fail
    refine WD.out.mono ?_
    rintro e w2 ⟨rfl, rfl⟩
    go_wp2_with fail
    go_ret
    exact ⟨rfl, HB.out⟩
end Go.Proofs.YtkcklnnmcmjnjaaGreatDoor

