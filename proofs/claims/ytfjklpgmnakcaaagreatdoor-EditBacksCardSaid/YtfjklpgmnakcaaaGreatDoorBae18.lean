/- Texts put together: EA, ED, EE, EF, EG, EM. -/
import Derived.Test.YtfjklpgmnakcaaaGreatDoorProg
import Derived.WalkKit
import Derived.LaidEql
import Derived.Stop.Asserts
import Derived.RowKitTokens
import Derived.Below
import Derived.Lib.Hide
import Derived.Test.YtfjklpgmnakcaaaGreatDoorBae1
import Derived.Test.YtfjklpgmnakcaaaGreatDoorBae2
import Derived.Test.YtfjklpgmnakcaaaGreatDoorBae15
import Derived.Test.YtfjklpgmnakcaaaGreatDoorBae17
set_option linter.unusedVariables false
set_option maxRecDepth 100000
set_option maxHeartbeats 16000000
namespace Go.Proofs.YtfjklpgmnakcaaaGreatDoor
def goodE (ed : Ed) : Nat := if ed.kind = 1 \/ ed.kind = 3 then chkN ed.fields else if ed.kind = 2 /\ ed.fields.length = 0 then 0 else 2
theorem goodE_le (ed : Ed) : goodE ed <= 11 := by
  unfold goodE
  split
  . exact chkN_le _
  split <;> decide
def chkOn : Nat -> List Ed -> Int × Nat
  | _, [] => (-9, 0)
  | k, ed :: r => if goodE ed = 0 then chkOn (k + 1) r else ((k : Nat), goodE ed)
def chkB (eds : List Ed) : Int × Nat := if eds.length < 1 \/ 40 < eds.length then (-9, 1) else chkOn 0 eds
theorem chkOn_at : ∀ (eds : List Ed) (q k : Nat) (ed : Ed), (∀ x ∈ eds.take k, goodE x = 0) -> eds[k]? = some ed -> goodE ed ≠ 0 -> chkOn q eds = (((q + k : Nat) : Int), goodE ed)
  | [], q, k, ed, _, h, _ => by simp at h
  | a :: r, q, 0, ed, _, h, h0 => by
    simp at h; subst h
    unfold chkOn
    rw [if_neg h0]; rfl
  | a :: r, q, k + 1, ed, hg, h, h0 => by
    have ih := chkOn_at r (q + 1) k ed (fun x hx => hg x (by rw [List.take_succ_cons]; exact List.mem_cons_of_mem _ hx)) (by simpa using h) h0
    unfold chkOn
    rw [if_pos (hg a (by rw [List.take_succ_cons]; exact List.mem_cons_self)), ih, show q + 1 + k = q + (k + 1) by omega]
theorem chkOn_all : ∀ (eds : List Ed) (q : Nat), (∀ x ∈ eds, goodE x = 0) -> chkOn q eds = (-9, 0)
  | [], _, _ => rfl
  | a :: r, q, h => by
    unfold chkOn
    rw [if_pos (h a List.mem_cons_self)]
    exact chkOn_all r (q + 1) (fun x hx => h x (List.mem_cons_of_mem _ hx))
theorem chkOn_good : ∀ (eds : List Ed) (q : Nat), (chkOn q eds).2 = 0 -> ∀ x ∈ eds, goodE x = 0
  | [], _, _, x, hx => by cases hx
  | a :: r, q, h, x, hx => by
    unfold chkOn at h
    split at h
    . rename_i h0
      rcases List.mem_cons.1 hx with rfl | hx
      . exact h0
      exact chkOn_good r (q + 1) h x hx
    rename_i h0; exact absurd h h0
theorem chkB_good {eds : List Ed} (h : (chkB eds).2 = 0) : (1 <= eds.length /\ eds.length <= 40) /\ ∀ x ∈ eds, goodE x = 0 := by
  unfold chkB at h
  split at h
  . cases h
  exact ⟨by omega, chkOn_good eds 0 h⟩
theorem chkB_of {eds : List Ed} (h1 : 1 <= eds.length) (h2 : eds.length <= 40) (h : ∀ x ∈ eds, goodE x = 0) : chkB eds = (-9, 0) := by
  unfold chkB
  rw [if_neg (by omega)]
  exact chkOn_all eds 0 h
theorem chkB_zero {eds : List Ed} (h : (chkB eds).2 = 0) : chkB eds = (-9, 0) := by
  obtain ⟨⟨a, b⟩, c⟩ := chkB_good h
  exact chkB_of a b c
theorem goodE_kind {ed : Ed} (h : goodE ed = 0) : ed.kind = 1 \/ ed.kind = 2 \/ ed.kind = 3 := by
  unfold goodE at h
  split at h
  . rename_i q; omega
  split at h
  . rename_i q; exact .inr (.inl q.1)
  cases h
def stepE (l : LS) (ed : Ed) : Did := editR l ed.kind ed.id ed.fields
def lsOn : LS -> List Ed -> LS
  | l, [] => l
  | l, ed :: r => lsOn (stepE l ed).ls r
def okOn : LS -> List Ed -> Prop
  | _, [] => True
  | l, ed :: r => (stepE l ed).bad = 0 /\ okOn (stepE l ed).ls r
def idsOn : LS -> List Ed -> List Int
  | _, [] => []
  | l, ed :: r => (if ed.kind = 3 then [(stepE l ed).id] else []) ++ idsOn (stepE l ed).ls r
def doOn : Nat -> LS -> List Ed -> Int × Nat
  | _, _, [] => (-9, 0)
  | k, l, ed :: r => if (stepE l ed).bad = 0 then doOn (k + 1) (stepE l ed).ls r else ((k : Nat), (stepE l ed).bad)
def doB (l : LS) (eds : List Ed) : Int × Nat := if (chkB eds).2 = 0 then doOn 0 l eds else chkB eds
theorem lsOn_append : ∀ (l : LS) (a b : List Ed), lsOn l (a ++ b) = lsOn (lsOn l a) b
  | _, [], _ => rfl
  | l, ed :: r, b => lsOn_append (stepE l ed).ls r b
theorem okOn_append : ∀ (l : LS) (a b : List Ed), okOn l (a ++ b) ↔ okOn l a /\ okOn (lsOn l a) b
  | _, [], _ => by simp [okOn, lsOn]
  | l, ed :: r, b => by
    show ((stepE l ed).bad = 0 /\ okOn (stepE l ed).ls (r ++ b)) ↔ ((stepE l ed).bad = 0 /\ okOn (stepE l ed).ls r) /\ okOn (lsOn (stepE l ed).ls r) b
    rw [okOn_append, and_assoc]
theorem idsOn_append : ∀ (l : LS) (a b : List Ed), idsOn l (a ++ b) = idsOn l a ++ idsOn (lsOn l a) b
  | _, [], _ => rfl
  | l, ed :: r, b => by
    show _ ++ idsOn (stepE l ed).ls (r ++ b) = (_ ++ idsOn (stepE l ed).ls r) ++ idsOn (lsOn (stepE l ed).ls r) b
    rw [idsOn_append, List.append_assoc]
theorem doOn_append : ∀ (q : Nat) (l : LS) (a b : List Ed), okOn l a -> doOn q l (a ++ b) = doOn (q + a.length) (lsOn l a) b
  | q, l, [], b, _ => rfl
  | q, l, ed :: r, b, h => by
    have ih := doOn_append (q + 1) (stepE l ed).ls r b h.2
    show (if (stepE l ed).bad = 0 then doOn (q + 1) (stepE l ed).ls (r ++ b) else _) = doOn (q + (r.length + 1)) (lsOn (stepE l ed).ls r) b
    rw [if_pos h.1, ih, show q + 1 + r.length = q + (r.length + 1) by omega]
theorem doOn_ok : ∀ (q : Nat) (l : LS) (a : List Ed), okOn l a -> doOn q l a = (-9, 0) := fun q l a h => by
  have := doOn_append q l a [] h
  rw [List.append_nil] at this
  rw [this]; rfl
theorem doOn_zero : ∀ (q : Nat) (l : LS) (a : List Ed), (doOn q l a).2 = 0 -> okOn l a
  | _, _, [], _ => trivial
  | q, l, ed :: r, h => by
    have h' : (if (stepE l ed).bad = 0 then doOn (q + 1) (stepE l ed).ls r else ((q : Nat), (stepE l ed).bad)).2 = 0 := h
    split at h'
    . rename_i h0; exact ⟨h0, doOn_zero (q + 1) _ r h'⟩
    rename_i h0; exact absurd h' h0
theorem take_snoc {eds : List Ed} {k : Nat} {ed : Ed} (h : eds[k]? = some ed) : eds.take (k + 1) = eds.take k ++ [ed] := by rw [List.take_add_one, h]; rfl
theorem take_mid {eds : List Ed} {k : Nat} {ed : Ed} (h : eds[k]? = some ed) : eds = eds.take k ++ ed :: eds.drop (k + 1) := by
  obtain ⟨hk, e⟩ := List.getElem?_eq_some_iff.1 h
  conv => lhs; rw [<- List.take_append_drop k eds]
  rw [<- e]
  congr 1
  exact List.drop_eq_getElem_cons hk
theorem take_len {eds : List Ed} {k : Nat} {ed : Ed} (h : eds[k]? = some ed) : (eds.take k).length = k := by
  have := (List.getElem?_eq_some_iff.1 h).1
  rw [List.length_take]; omega
theorem lsOn_snoc {l : LS} {eds : List Ed} {k : Nat} {ed : Ed} (h : eds[k]? = some ed) : lsOn l (eds.take (k + 1)) = (stepE (lsOn l (eds.take k)) ed).ls := by rw [take_snoc h, lsOn_append]; rfl
theorem okOn_snoc {l : LS} {eds : List Ed} {k : Nat} {ed : Ed} (h : eds[k]? = some ed) (ho : okOn l (eds.take k)) (h0 : (stepE (lsOn l (eds.take k)) ed).bad = 0) : okOn l (eds.take (k + 1)) := by
  rw [take_snoc h, okOn_append]; exact ⟨ho, h0, trivial⟩
theorem idsOn_snoc {l : LS} {eds : List Ed} {k : Nat} {ed : Ed} (h : eds[k]? = some ed) : idsOn l (eds.take (k + 1)) = idsOn l (eds.take k) ++ (if ed.kind = 3 then [(stepE (lsOn l (eds.take k)) ed).id] else []) := by
  rw [take_snoc h, idsOn_append]
  show _ ++ ((if ed.kind = 3 then _ else _) ++ []) = _
  rw [List.append_nil]
theorem doOn_at {l : LS} {eds : List Ed} {k : Nat} {ed : Ed} (h : eds[k]? = some ed) (ho : okOn l (eds.take k)) (h0 : (stepE (lsOn l (eds.take k)) ed).bad ≠ 0) : doOn 0 l eds = (((k : Nat) : Int), (stepE (lsOn l (eds.take k)) ed).bad) := by
  have e := take_mid h
  have : doOn 0 l (eds.take k ++ ed :: eds.drop (k + 1)) = (((k : Nat) : Int), (stepE (lsOn l (eds.take k)) ed).bad) := by
    rw [doOn_append 0 l _ _ ho, take_len h]
    show (if _ then _ else _) = _
    rw [if_neg h0, Nat.zero_add]
  rw [<- e] at this
  exact this
theorem idsOn_len (l : LS) : ∀ (eds : List Ed), (idsOn l eds).length <= eds.length := by
  intro eds
  induction eds generalizing l with
  | nil => exact Nat.le_refl _
  | cons ed r ih =>
  have := ih (stepE l ed).ls
  show ((if ed.kind = 3 then [(stepE l ed).id] else []) ++ idsOn (stepE l ed).ls r).length <= r.length + 1
  rw [List.length_append]
  split
  . simp only [List.length_cons, List.length_nil]; omega
  simp only [List.length_nil]; omega
theorem OkL.on {l : LS} (h : OkL l) : ∀ (eds : List Ed), OkL (lsOn l eds) := by
  intro eds
  induction eds generalizing l with
  | nil => exact h
  | cons ed r ih => exact ih (h.edit ed.kind ed.id ed.fields)
theorem on_len (l : LS) : ∀ (eds : List Ed), (lsOn l eds).es.length <= l.es.length + eds.length /\ l.next <= (lsOn l eds).next /\ (lsOn l eds).next <= l.next + (eds.length : Nat) := by
  intro eds
  induction eds generalizing l with
  | nil => exact ⟨Nat.le_refl _, Int.le_refl _, by show l.next <= l.next + ((0 : Nat) : Int); omega⟩
  | cons ed r ih =>
  obtain ⟨a, b, c⟩ := ih (stepE l ed).ls
  obtain ⟨a1, b1, c1⟩ := edit_len l ed.kind ed.id ed.fields
  refine ⟨?_, ?_, ?_⟩
  . show (lsOn (stepE l ed).ls r).es.length <= l.es.length + (r.length + 1)
    have : (stepE l ed).ls.es.length <= l.es.length + 1 := a1
    omega
  . show l.next <= (lsOn (stepE l ed).ls r).next
    have : l.next <= (stepE l ed).ls.next := b1
    omega
  show (lsOn (stepE l ed).ls r).next <= l.next + ((r.length + 1 : Nat) : Int)
  have : (stepE l ed).ls.next <= l.next + 1 := c1
  omega
theorem step_le (l : LS) (ed : Ed) : (stepE l ed).bad <= 11 := by
  unfold stepE editR
  split
  . unfold replaceR
    split
    . show (7 : Nat) <= 11; decide
    split
    . exact Nat.zero_le _
    exact chkN_le _
  split
  . unfold deleteR
    split
    . show (7 : Nat) <= 11; decide
    exact Nat.zero_le _
  unfold insertR
  split
  . show (7 : Nat) <= 11; decide
  split
  . split
    . show (11 : Nat) <= 11; decide
    exact Nat.zero_le _
  exact chkN_le _
theorem step_id {l : LS} (hp : 0 < l.next) {ed : Ed} (hk : ed.kind = 1 \/ ed.kind = 2 \/ ed.kind = 3) (h0 : (stepE l ed).bad = 0) : (if ed.kind = 3 then [(stepE l ed).id] else []) = (if 0 < (stepE l ed).id then [(stepE l ed).id] else []) := by
  rcases hk with hk | hk | hk
  . have e : (stepE l ed).id = 0 := by
      unfold stepE editR
      rw [if_pos hk]
      unfold replaceR
      split
      . rfl
      split <;> rfl
    rw [if_neg (by omega), if_neg (by omega)]
  . have e : (stepE l ed).id = 0 := by
      unfold stepE editR
      rw [if_neg (by omega), if_pos hk]
      unfold deleteR
      split <;> rfl
    rw [if_neg (by omega), if_neg (by omega)]
  have e1 : stepE l ed = insertR l ed.id ed.fields := by
    unfold stepE editR
    rw [if_neg (by omega), if_neg (by omega)]
  have e : (stepE l ed).id = l.next := by
    rw [e1] at h0 ⊢
    rcases insert_id l ed.id ed.fields with q | q
    . exact q.2.1
    exact absurd h0 q.1
  rw [if_pos hk, if_pos (by omega)]
end Go.Proofs.YtfjklpgmnakcaaaGreatDoor
namespace Go.Proofs.YtfjklpgmnakcaaaGreatDoor
open Go.RowKit Go.Extern.Stop Go.Stop Go.Extern
theorem valueOfPP (t : Addr) (w : World) : (ReflectliteValue.unpack (.iface 157 (.pointer (some t)))).run Tryz.prog w
    = .ok (.agg #[.pointer (some ⟨4, 157, none⟩), .pointer (some ⟨w.heap.size, 0, none⟩), .int .u64 150]) (w.alloc (.cells #[.pointer (some t)] 157)) := by kernel_rfl
theorem typePP (a : Addr) (w : World) : (ReflectliteValue.methodAny (ReflectliteValue.valueError "reflectlite.Value.Type" 0) (fun t _ _ _ => ReflectliteType.toType t) #[.agg #[.pointer (some ⟨4, 157, none⟩), .pointer (some a), .int .u64 150]]).run Tryz.prog w
    = .ok (.iface 209 (.agg #[.pointer (some ⟨4, 157, none⟩)])) w := by kernel_rfl
theorem methodKind (h : Value) (w : World) : (Go.method 388 209 (.agg #[h]) "Kind").run Tryz.prog w = .ok (184, h) w := by kernel_rfl
theorem kindPP (w : World) : ((ReflectliteType.abiMethod fun t => (fun a : Nat => Value.int IntKind.u8 (a : Int)) <$> Rtype.kind t) #[.pointer (some ⟨4, 157, none⟩)]).run Tryz.prog w = .ok (.int .u8 22) w := by kernel_rfl
theorem kindP (w : World) : ((ReflectliteType.abiMethod fun t => (fun a : Nat => Value.int IntKind.u8 (a : Int)) <$> Rtype.kind t) #[.pointer (some ⟨4, 73, none⟩)]).run Tryz.prog w = .ok (.int .u8 22) w := by kernel_rfl
theorem rlm9 (z : Sem Value) (f : TypeId -> Addr -> Nat -> Nat -> Sem Value) (v : Value) :
    ReflectliteValue.method z f #[v] = (do match <- ReflectliteValue.parts v with | none => z | some (t, a, fl) => f t a fl (fl % 32)) := rfl
theorem partsPP (a : Addr) (w : World) : (ReflectliteValue.parts (.agg #[.pointer (some ⟨4, 157, none⟩), .pointer (some a), .int .u64 150])).run Tryz.prog w = .ok (some (157, a, 150)) w := by kernel_rfl
theorem isNilPP (a p : Addr) (W : World) (ha : W.cell? a = some (.pointer (some p))) :
    (ReflectliteValue.method (ReflectliteValue.valueError "reflectlite.Value.IsNil" 0) ReflectliteValue.isNil #[.agg #[.pointer (some ⟨4, 157, none⟩), .pointer (some a), .int .u64 150]]).run Tryz.prog W = .ok (.bool false) W := by
  rw [rlm9]
  simp only [Sem.run_bind, partsPP, Result.andThen]
  simp [ReflectliteValue.isNil, loadVar, isAgg, underlying, Tryz.underlying157, ha, Result.andThen]
theorem methodElem (h : Value) (w : World) : (Go.method 388 209 (.agg #[h]) "Elem").run Tryz.prog w = .ok (196, .agg #[h]) w := by kernel_rfl
theorem methodImplements (h : Value) (w : World) : (Go.method 388 209 (.agg #[h]) "Implements").run Tryz.prog w = .ok (197, .agg #[h]) w := by kernel_rfl
theorem methodAssignableTo (h : Value) (w : World) : (Go.method 388 209 (.agg #[h]) "AssignableTo").run Tryz.prog w = .ok (194, .agg #[h]) w := by kernel_rfl
theorem elemPP (w : World) : (ReflectliteType.method ReflectliteType.elem #[.agg #[.pointer (some ⟨4, 157, none⟩)]]).run Tryz.prog w = .ok (.iface 209 (.agg #[.pointer (some ⟨4, 73, none⟩)])) w := by kernel_rfl
theorem implementsP (w : World) : (ReflectliteType.relation "Implements" ReflectliteType.implements_ #[.agg #[.pointer (some ⟨4, 73, none⟩)], .iface 209 (.agg #[.pointer (some ⟨4, 32, none⟩)])]).run Tryz.prog w = .ok (.bool true) w := by kernel_rfl
theorem typeOfP (v : Value) (w : World) : (ReflectliteType.typeOf #[.iface 73 v]).run Tryz.prog w = .ok (.iface 209 (.agg #[.pointer (some ⟨4, 73, none⟩)])) w := by kernel_rfl
theorem typeOfE (v : Value) (w : World) : (ReflectliteType.typeOf #[.iface 57 v]).run Tryz.prog w = .ok (.iface 209 (.agg #[.pointer (some ⟨4, 57, none⟩)])) w := by kernel_rfl
theorem assignableP (w : World) : (ReflectliteType.relation "AssignableTo" ReflectliteType.assignableTo #[.agg #[.pointer (some ⟨4, 73, none⟩)], .iface 209 (.agg #[.pointer (some ⟨4, 73, none⟩)])]).run Tryz.prog w = .ok (.bool true) w := by kernel_rfl
theorem assignableE (w : World) : (ReflectliteType.relation "AssignableTo" ReflectliteType.assignableTo #[.agg #[.pointer (some ⟨4, 57, none⟩)], .iface 209 (.agg #[.pointer (some ⟨4, 73, none⟩)])]).run Tryz.prog w = .ok (.bool false) w := by kernel_rfl
theorem valueOfP (e : Addr) (w : World) : (ReflectliteValue.unpack (.iface 73 (.pointer (some e)))).run Tryz.prog w
    = .ok (.agg #[.pointer (some ⟨4, 73, none⟩), .pointer (some ⟨w.heap.size, 0, none⟩), .int .u64 150]) (w.alloc (.cells #[.pointer (some e)] 73)) := by kernel_rfl
theorem elemOfPP (w : World) : (Rtype.elem? 157).run Tryz.prog w = .ok (some 73) w := by kernel_rfl
theorem mkP (p : Addr) (w : World) : (ReflectliteValue.mk 73 p ReflectliteValue.flagAddr).run Tryz.prog w = .ok (.agg #[.pointer (some ⟨4, 73, none⟩), .pointer (some p), .int .u64 406]) w := by kernel_rfl
theorem elemVPP (a p : Addr) (W : World) (ha : W.cell? a = some (.pointer (some p))) :
    (ReflectliteValue.method (ReflectliteValue.valueError "reflectlite.Value.Elem" 0) ReflectliteValue.elem #[.agg #[.pointer (some ⟨4, 157, none⟩), .pointer (some a), .int .u64 150]]).run Tryz.prog W
      = .ok (.agg #[.pointer (some ⟨4, 73, none⟩), .pointer (some p), .int .u64 406]) W := by
  rw [rlm9]
  simp only [Sem.run_bind, partsPP, Result.andThen]
  simp [ReflectliteValue.elem, loadVar, isAgg, underlying, Tryz.underlying157, ha, Result.andThen, elemOfPP, mkP]
theorem rls9 (v x : Value) : ReflectliteValue.set #[v, x] = (do
    let (some (dst, a, fl), some (src, b, _)) := (<- ReflectliteValue.parts v, <- ReflectliteValue.parts x)
      | unsupported (.noEntry "extern/(internal/reflectlite.Value).Set.zeroValue")
    if fl / ReflectliteValue.flagAddr % 2 == 0 then unsupported (.noEntry "extern/(internal/reflectlite.Value).Set.unaddressable")
    let val <- loadVar src b
    if <- Rtype.directlyAssignable dst src then storeVar dst a val
    else if <- Rtype.implements dst src then
      if (<- Rtype.kind src) == 20 then
        match val with
        | .nilIface => unsupported (.noEntry "extern/reflectlite: a nil value of one interface type handed on as a value of another")
        | _ => storeVar dst a val
      else storeVar dst a (.iface src val)
    else panicString ("reflectlite.Set: value of type " ++ (<- Rtype.spelt src) ++ " is not assignable to type " ++ (<- Rtype.spelt dst))
    pure (.tuple #[])) := rfl
theorem partsPa (a : Addr) (w : World) : (ReflectliteValue.parts (.agg #[.pointer (some ⟨4, 73, none⟩), .pointer (some a), .int .u64 406])).run Tryz.prog w = .ok (some (73, a, 406)) w := by kernel_rfl
theorem partsP (a : Addr) (w : World) : (ReflectliteValue.parts (.agg #[.pointer (some ⟨4, 73, none⟩), .pointer (some a), .int .u64 150])).run Tryz.prog w = .ok (some (73, a, 150)) w := by kernel_rfl
theorem directP (w : World) : (Rtype.directlyAssignable 73 73).run Tryz.prog w = .ok true w := by kernel_rfl
theorem setP (ta b e : Addr) (old : Value) (W : World) (hb : W.cell? b = some (.pointer (some e))) (ht : W.cell? ta = some old) (hf : W.frozen? ta = false) :
    (ReflectliteValue.set #[.agg #[.pointer (some ⟨4, 73, none⟩), .pointer (some ta), .int .u64 406], .agg #[.pointer (some ⟨4, 73, none⟩), .pointer (some b), .int .u64 150]]).run Tryz.prog W
      = .ok (.tuple #[]) (W.setCell ta (.pointer (some e))) := by
  rw [rls9]
  simp only [Sem.run_bind, partsPa, partsP, Result.andThen]
  simp [ReflectliteValue.flagAddr, loadVar, isAgg, underlying, Tryz.underlying73, hb, Result.andThen, directP, storeVar, Value.cells, storeCells, Addr.add]
  rw [run_store Tryz.prog W ta _ _ (by rfl)]
  simp [ht, hf]
def ErrT (w : World) : Prop := w.cell? ⟨0, 0, none⟩ = some (.iface 209 (.agg #[.pointer (some ⟨4, 32, none⟩)]))
end Go.Proofs.YtfjklpgmnakcaaaGreatDoor
namespace Go.Proofs.YtfjklpgmnakcaaaGreatDoor
open Go.RowKit Go.Extern.Stop Go.Stop Go.Extern
abbrev hP : Value := .pointer (some ⟨4, 73, none⟩)
theorem asIn_hit (e t a : Addr) (old : Value) (w : World) (ha : w.cell? a = some (.pointer (some t))) (ht0 : w.cell? t = some old) (hf0 : w.frozen? t = false) :
    Calls Tryz.prog 98 #[.iface 73 (.pointer (some e)), .iface 157 (.pointer (some t)), .agg #[.pointer (some ⟨4, 157, none⟩), .pointer (some a), .int .u64 150], .iface 209 (.agg #[.pointer (some ⟨4, 73, none⟩)])] w
      fun ev w' => ev = .returned (.bool true) /\ w' = ((w.alloc (.cells #[.pointer (some ⟨4, 157, none⟩), .pointer (some a), .int .u64 150] 184)).alloc (.cells #[.pointer (some e)] 73)).setCell t (.pointer (some e)) := by
  have h10 := @run_callFunc_extern Tryz.prog 116 _ ReflectliteType.typeOf Tryz.func116 (by kernel_rfl) (by kernel_rfl) (by kernel_rfl) (by kernel_rfl)
  have h35 := @run_callFunc_extern Tryz.prog 194 _ (ReflectliteType.relation "AssignableTo" ReflectliteType.assignableTo) Tryz.func194 (by kernel_rfl) (by kernel_rfl) (by kernel_rfl) (by kernel_rfl)
  have h6 := @run_callFunc_extern Tryz.prog 95 _ (fun args => ReflectliteValue.unpack (args.getD 0 (.tuple #[]))) Tryz.func95 (by kernel_rfl) (by kernel_rfl) (by kernel_rfl) (by kernel_rfl)
  have h11 := @run_callFunc_extern Tryz.prog 117 _ (ReflectliteValue.method (ReflectliteValue.valueError "reflectlite.Value.Elem" 0) ReflectliteValue.elem) Tryz.func117 (by kernel_rfl) (by kernel_rfl) (by kernel_rfl) (by kernel_rfl)
  have h12 := @run_callFunc_extern Tryz.prog 118 _ ReflectliteValue.set Tryz.func118 (by kernel_rfl) (by kernel_rfl) (by kernel_rfl) (by kernel_rfl)
  have tO := typeOfP
  have mA := methodAssignableTo
  have a25 := assignableP
  have v25 := valueOfP
  have htl : t.block < w.heap.size := by
    rcases Nat.lt_or_ge t.block w.heap.size with h | h
    . exact h
    simp [World.cell?, Array.getElem?_eq_none h] at ht0
  have hal : a.block < w.heap.size := by
    rcases Nat.lt_or_ge a.block w.heap.size with h | h
    . exact h
    simp [World.cell?, Array.getElem?_eq_none h] at ha
  have el := elemVPP a t (w.alloc (.cells #[.pointer (some ⟨4, 157, none⟩), .pointer (some a), .int .u64 150] 184)) (by rw [World.cell?_alloc_lt _ _ a hal]; exact ha)
  have st := setP t ⟨w.heap.size + 1, 0, none⟩ e old ((w.alloc (.cells #[.pointer (some ⟨4, 157, none⟩), .pointer (some a), .int .u64 150] 184)).alloc (.cells #[.pointer (some e)] 73))
    (by rw [World.cell?_alloc_at _ _ _ _ (by simp)]; rfl)
    (by rw [World.cell?_alloc_lt _ _ t (by simp; omega), World.cell?_alloc_lt _ _ t htl]; exact ht0)
    (by rw [World.frozen?_alloc_old _ _ t (by simp; omega), World.frozen?_alloc_old _ _ t (Nat.ne_of_lt htl)]; exact hf0)
  go_enter Tryz.func98, Tryz.ntmps98
  go_wp2
  refine wp_loop_rounds 1 ?_
  rw [rounds_succ]
  go_wp2
  go_ret
  exact ⟨rfl, rfl⟩
theorem noAsE (v : Value) (xT : TypeId) (w : World) : (Instr.typeAssert (.iface 57 v) xT 214 true).run Tryz.prog w = .ok (.tuple #[.nilIface, .bool false]) w := run_typeAssert_lacksB Tryz.underlying214 (by kernel_rfl) (by kernel_rfl) v xT w
theorem noUnE (v : Value) (xT : TypeId) (w : World) : (Instr.typeAssert (.iface 57 v) xT 217 true).run Tryz.prog w = .ok (.tuple #[.nilIface, .bool false]) w := run_typeAssert_lacksB Tryz.underlying217 (by kernel_rfl) (by kernel_rfl) v xT w
theorem noUnsE (v : Value) (xT : TypeId) (w : World) : (Instr.typeAssert (.iface 57 v) xT 218 true).run Tryz.prog w = .ok (.tuple #[.nilIface, .bool false]) w := run_typeAssert_lacksB Tryz.underlying218 (by kernel_rfl) (by kernel_rfl) v xT w
theorem asIn_miss (n : Int) (t a : Addr) (w : World) :
    Calls Tryz.prog 98 #[.iface 57 (.int .i64 n), .iface 157 (.pointer (some t)), .agg #[.pointer (some ⟨4, 157, none⟩), .pointer (some a), .int .u64 150], .iface 209 (.agg #[.pointer (some ⟨4, 73, none⟩)])] w
      fun ev w' => ev = .returned (.bool false) /\ Below w.heap.size w w' := by
  have h10 := @run_callFunc_extern Tryz.prog 116 _ ReflectliteType.typeOf Tryz.func116 (by kernel_rfl) (by kernel_rfl) (by kernel_rfl) (by kernel_rfl)
  have h35 := @run_callFunc_extern Tryz.prog 194 _ (ReflectliteType.relation "AssignableTo" ReflectliteType.assignableTo) Tryz.func194 (by kernel_rfl) (by kernel_rfl) (by kernel_rfl) (by kernel_rfl)
  have tO := typeOfE
  have mA := methodAssignableTo
  have a25 := assignableE
  have n1 := noAsE
  have n2 := noUnE
  have n3 := noUnsE
  go_enter Tryz.func98, Tryz.ntmps98
  go_wp2
  refine wp_loop_rounds 1 ?_
  rw [rounds_succ]
  go_wp2
  go_ret
  exact ⟨rfl, (Below.refl _ _).alloc (Nat.le_refl _) _⟩
end Go.Proofs.YtfjklpgmnakcaaaGreatDoor
namespace Go.Proofs.YtfjklpgmnakcaaaGreatDoor
open Go.RowKit Go.Extern.Stop Go.Stop Go.Extern
theorem ErrT.below {w w' : World} {N : Nat} (h : ErrT w) (hb : Below N w w') (hN : w.heap.size <= N) : ErrT w' := by
  have hlt : 0 < w.heap.size := World.block_lt_of_cell? w _ h
  exact (hb.cell (p := ⟨0, 0, none⟩) (Nat.lt_of_lt_of_le hlt hN)).trans h
theorem as_hit (e t : Addr) (old : Value) (w : World) (hg : ErrT w) (ht0 : w.cell? t = some old) (hf0 : w.frozen? t = false) :
    Calls Tryz.prog 70 #[.iface 73 (.pointer (some e)), .iface 157 (.pointer (some t))] w
      fun ev w' => ev = .returned (.bool true) /\ ∃ w1, Below w.heap.size w w1 /\ w' = w1.setCell t (.pointer (some e)) := by
  have h6 := @run_callFunc_extern Tryz.prog 95 _ (fun args => ReflectliteValue.unpack (args.getD 0 (.tuple #[]))) Tryz.func95 (by kernel_rfl) (by kernel_rfl) (by kernel_rfl) (by kernel_rfl)
  have h7 := @run_callFunc_extern Tryz.prog 96 _ (ReflectliteValue.methodAny (ReflectliteValue.valueError "reflectlite.Value.Type" 0) (fun t _ _ _ => ReflectliteType.toType t)) Tryz.func96 (by kernel_rfl) (by kernel_rfl) (by kernel_rfl) (by kernel_rfl)
  have h8 := @run_callFunc_extern Tryz.prog 97 _ (ReflectliteValue.method (ReflectliteValue.valueError "reflectlite.Value.IsNil" 0) ReflectliteValue.isNil) Tryz.func97 (by kernel_rfl) (by kernel_rfl) (by kernel_rfl) (by kernel_rfl)
  have h27 := @run_callFunc_extern Tryz.prog 184 _ (ReflectliteType.abiMethod fun t => do pure (.int .u8 (<- Rtype.kind t))) Tryz.func184 (by kernel_rfl) (by kernel_rfl) (by kernel_rfl) (by kernel_rfl)
  have h37 := @run_callFunc_extern Tryz.prog 196 _ (ReflectliteType.method ReflectliteType.elem) Tryz.func196 (by kernel_rfl) (by kernel_rfl) (by kernel_rfl) (by kernel_rfl)
  have h38 := @run_callFunc_extern Tryz.prog 197 _ (ReflectliteType.relation "Implements" ReflectliteType.implements_) Tryz.func197 (by kernel_rfl) (by kernel_rfl) (by kernel_rfl) (by kernel_rfl)
  have f6 := valueOfPP
  have f7 := typePP
  have mK := methodKind
  have mE := methodElem
  have mI := methodImplements
  have k27 := kindPP
  have k25 := kindP
  have e27 := elemPP
  have i25 := implementsP
  have htl : t.block < w.heap.size := by
    rcases Nat.lt_or_ge t.block w.heap.size with h | h
    . exact h
    simp [World.cell?, Array.getElem?_eq_none h] at ht0
  obtain ⟨wa, hwa⟩ : ∃ wa, wa = (w.alloc (.cells #[.pointer (some t)] 157)).alloc (.cells #[.pointer (some ⟨4, 157, none⟩), .pointer (some ⟨w.heap.size, 0, none⟩), .int .u64 150] 184) := ⟨_, rfl⟩
  have hba : Below w.heap.size w wa := by rw [hwa]; exact ((Below.refl _ w).alloc (Nat.le_refl _) _).alloc (by simp) _
  have n8 := isNilPP ⟨w.heap.size, 0, none⟩ t wa (by rw [hwa]; simp)
  have hg2 : wa.cell? ⟨0, 0, none⟩ = some (.iface 209 (.agg #[.pointer (some ⟨4, 32, none⟩)])) := hg.below hba (Nat.le_refl _)
  have HI := Lib.hid (asIn_hit e t ⟨w.heap.size, 0, none⟩ old wa (by rw [hwa]; simp) ((hba.cell htl).trans ht0) ((hba.frozen htl).trans hf0))
  have HB := Lib.hid hba
  subst hwa
  clear hba
  go_enter Tryz.func70, Tryz.ntmps70
  go_wp2_with fail
  refine HI.out.mono ?_
  rintro ev w2 ⟨rfl, rfl⟩
  go_wp2_with fail
  go_ret
  exact ⟨rfl, _, (HB.out.alloc HB.out.size _).alloc (HB.out.alloc HB.out.size _).size _, rfl⟩
theorem as_miss (n : Int) (t : Addr) (w : World) (hg : ErrT w) :
    Calls Tryz.prog 70 #[.iface 57 (.int .i64 n), .iface 157 (.pointer (some t))] w
      fun ev w' => ev = .returned (.bool false) /\ Below w.heap.size w w' := by
  have h6 := @run_callFunc_extern Tryz.prog 95 _ (fun args => ReflectliteValue.unpack (args.getD 0 (.tuple #[]))) Tryz.func95 (by kernel_rfl) (by kernel_rfl) (by kernel_rfl) (by kernel_rfl)
  have h7 := @run_callFunc_extern Tryz.prog 96 _ (ReflectliteValue.methodAny (ReflectliteValue.valueError "reflectlite.Value.Type" 0) (fun t _ _ _ => ReflectliteType.toType t)) Tryz.func96 (by kernel_rfl) (by kernel_rfl) (by kernel_rfl) (by kernel_rfl)
  have h8 := @run_callFunc_extern Tryz.prog 97 _ (ReflectliteValue.method (ReflectliteValue.valueError "reflectlite.Value.IsNil" 0) ReflectliteValue.isNil) Tryz.func97 (by kernel_rfl) (by kernel_rfl) (by kernel_rfl) (by kernel_rfl)
  have h27 := @run_callFunc_extern Tryz.prog 184 _ (ReflectliteType.abiMethod fun t => do pure (.int .u8 (<- Rtype.kind t))) Tryz.func184 (by kernel_rfl) (by kernel_rfl) (by kernel_rfl) (by kernel_rfl)
  have h37 := @run_callFunc_extern Tryz.prog 196 _ (ReflectliteType.method ReflectliteType.elem) Tryz.func196 (by kernel_rfl) (by kernel_rfl) (by kernel_rfl) (by kernel_rfl)
  have h38 := @run_callFunc_extern Tryz.prog 197 _ (ReflectliteType.relation "Implements" ReflectliteType.implements_) Tryz.func197 (by kernel_rfl) (by kernel_rfl) (by kernel_rfl) (by kernel_rfl)
  have f6 := valueOfPP
  have f7 := typePP
  have mK := methodKind
  have mE := methodElem
  have mI := methodImplements
  have k27 := kindPP
  have k25 := kindP
  have e27 := elemPP
  have i25 := implementsP
  obtain ⟨wa, hwa⟩ : ∃ wa, wa = (w.alloc (.cells #[.pointer (some t)] 157)).alloc (.cells #[.pointer (some ⟨4, 157, none⟩), .pointer (some ⟨w.heap.size, 0, none⟩), .int .u64 150] 184) := ⟨_, rfl⟩
  have hba : Below w.heap.size w wa := by rw [hwa]; exact ((Below.refl _ w).alloc (Nat.le_refl _) _).alloc (by simp) _
  have n8 := isNilPP ⟨w.heap.size, 0, none⟩ t wa (by rw [hwa]; simp)
  have hg2 : wa.cell? ⟨0, 0, none⟩ = some (.iface 209 (.agg #[.pointer (some ⟨4, 32, none⟩)])) := hg.below hba (Nat.le_refl _)
  have HI := Lib.hid (asIn_miss n t ⟨w.heap.size, 0, none⟩ wa)
  have HB := Lib.hid hba
  subst hwa
  clear hba
  go_enter Tryz.func70, Tryz.ntmps70
  go_wp2_with fail
  refine HI.out.mono ?_
  rintro ev w2 ⟨rfl, b2⟩
  go_wp2_with fail
  go_ret
  exact ⟨rfl, HB.out.trans (b2.mono HB.out.size)⟩
end Go.Proofs.YtfjklpgmnakcaaaGreatDoor
namespace Go.Proofs.YtfjklpgmnakcaaaGreatDoor
open Go.RowKit Go.Shelf
attribute [local go_sem] Oper.semAt_some
def EdV (w : World) (v : Value) (eds : List Ed) : Prop :=
  ∃ A cap, v = .slice A eds.length cap /\ eds.length <= cap /\ ∀ (i : Nat) (ed : Ed), eds[i]? = some ed -> ∃ b off fv, A = some ⟨b, off, none⟩ /\ b < w.heap.size /\ w.cell? ⟨b, off + i * 3, none⟩ = some (.int .i64 ed.kind) /\ w.cell? ⟨b, off + i * 3 + 1, none⟩ = some (.int .i64 ed.id) /\ w.cell? ⟨b, off + i * 3 + 1 + 1, none⟩ = some fv /\ FldR w fv ed.fields
theorem EdV.below {w w' : World} {v : Value} {eds : List Ed} {N : Nat} (h : EdV w v eds) (hb : Below N w w') (hN : w.heap.size <= N) : EdV w' v eds := by
  obtain ⟨A, cap, e, hle, hc⟩ := h
  refine ⟨A, cap, e, hle, fun i ed hi => ?_⟩
  obtain ⟨b, off, fv, e1, hbb, c0, c1, c2, hf⟩ := hc i ed hi
  have hbN : b < N := by omega
  exact ⟨b, off, fv, e1, Nat.lt_of_lt_of_le hbb hb.size, (hb.cell (p := ⟨b, off + i * 3, none⟩) hbN).trans c0, (hb.cell (p := ⟨b, off + i * 3 + 1, none⟩) hbN).trans c1, (hb.cell (p := ⟨b, off + i * 3 + 1 + 1, none⟩) hbN).trans c2, hf.below hb hN⟩
theorem EdsIn.edv {w : World} {v : Value} {eds : List Ed} (h : EdsIn w v eds) : EdV w v eds := by
  obtain ⟨_, A, cap, e, hle, hc⟩ := h
  refine ⟨A, cap, e, hle, fun i ed hi => ?_⟩
  obtain ⟨b, off, fv, e1, hbb, c0, c1, c2, hf⟩ := hc i ed hi
  exact ⟨b, off, fv, e1, hbb, c0, c1, c2, hf.flds, hf.nil⟩
def Fines (eds : List Ed) : Prop := ∀ ed ∈ eds, Fine7 ed.fields
structure Fine8 (fs : List Fld) : Prop where
  len : fs.length <= 1000000
  each : ∀ f ∈ fs, f.1.length <= 100000 /\ f.2.length <= 100000
def Fines8 (eds : List Ed) : Prop := ∀ ed ∈ eds, Fine8 ed.fields
theorem Fines.eight {eds : List Ed} (h : Fines eds) : Fines8 eds := fun ed hm => ⟨by have := (h ed hm).len; omega, (h ed hm).each⟩
theorem Light.fines {eds : List Ed} (h : Light eds) : Fines eds := fun _ he => h.fine he
theorem ErrZ.mono {lo lo' : Nat} {w : World} {u : Value} {a : Int} {n : Nat} (h : ErrZ lo w u a n) (hl : lo' <= lo) : ErrZ lo' w u a n := by
  obtain ⟨h1, h2⟩ := h
  refine ⟨h1, ?_⟩
  rcases h2 with h2 | ⟨k, h3, h4⟩
  . exact .inl h2
  exact .inr ⟨k, h3.mono hl, h4⟩
theorem ErrZ.fault {lo : Nat} {w : World} {u : Value} {k n : Nat} (h : FaultAt lo w u k n) (hn : n ≠ 0) (h11 : n <= 11) : ErrZ lo w u (k : Nat) n := ⟨h11, .inr ⟨k, h, rfl, hn⟩⟩
theorem fault_any {lo : Nat} (k n : Nat) (a : Int) (u : Value) (w : World) (h : ErrZ lo w u a n) (hn : n ≠ 0) (hg : ErrT w) :
    Calls Tryz.prog 42 #[.int .i64 (k : Nat), u] w fun e w' => ∃ u', e = .returned u' /\ Below w.heap.size w w' /\ FaultAt w.heap.size w' u' k n := by
  obtain ⟨_, h⟩ := h
  obtain ⟨wa, hwa⟩ : ∃ wa, wa = w.alloc (.cells #[.pointer none] 73) := ⟨_, rfl⟩
  have hba : Below w.heap.size w wa := by rw [hwa]; exact (Below.refl _ w).alloc (Nat.le_refl _) _
  have hga : ErrT wa := hg.below hba (Nat.le_refl _)
  have ht : wa.cell? ⟨w.heap.size, 0, none⟩ = some (.pointer none) := by rw [hwa]; simp
  have hf : wa.frozen? ⟨w.heap.size, 0, none⟩ = false := by rw [hwa]; simp
  have hz : wa.heap.size = w.heap.size + 1 := by rw [hwa]; simp
  rcases h with ⟨rfl, _⟩ | ⟨k', ⟨q, _, rfl, hq⟩, _, _⟩
  . rw [errV_pos n (by omega)]
    have HM := Lib.hid (as_miss (n : Int) ⟨w.heap.size, 0, none⟩ wa hga)
    have HBA := Lib.hid hba
    have FIN : Hid (∀ W, Below wa.heap.size wa W -> FaultAt w.heap.size (W.alloc (.cells #[.int .i64 (k : Nat), .iface 57 (.int .i64 (n : Nat))] 76)) (.iface 73 (.pointer (some ⟨W.heap.size, 0, none⟩))) k n) := by
      intro W hW
      rw [<- errV_pos n (by omega)]
      exact FaultAt.new W k n _ _ rfl (by have := hW.size; omega)
    clear hba hga ht hf
    subst hwa
    go_enter Tryz.func42, Tryz.ntmps42
    go_wp2_with fail
    refine HM.out.mono ?_
    rintro e w2 ⟨rfl, b2⟩
    have F2 := FIN.out w2 b2
    have B2 : Below w.heap.size w w2 := HBA.out.trans (b2.mono HBA.out.size)
    go_wp2_with fail
    go_ret
    exact ⟨_, rfl, B2.alloc B2.size _, F2⟩
  have hql := hq.lt
  have HM := Lib.hid (as_hit ⟨q, 0, none⟩ ⟨w.heap.size, 0, none⟩ (.pointer none) wa hga ht hf)
  have HBA := Lib.hid hba
  have HQ : Hid (∀ w1, Below wa.heap.size wa w1 -> (w1.setCell ⟨w.heap.size, 0, none⟩ (.pointer (some ⟨q, 0, none⟩))).cell? ⟨w.heap.size, 0, none⟩ = some (.pointer (some ⟨q, 0, none⟩)) /\ (w1.setCell ⟨w.heap.size, 0, none⟩ (.pointer (some ⟨q, 0, none⟩))).cell? ⟨q, 1, none⟩ = some (.iface 57 (.int .i64 (n : Nat))) /\ Below w.heap.size w (w1.setCell ⟨w.heap.size, 0, none⟩ (.pointer (some ⟨q, 0, none⟩)))) := by
    intro w1 b1
    have hb : Below w.heap.size w w1 := hba.trans (b1.mono hba.size)
    have c1 : Cells w1 w.heap.size 73 #[.pointer none] := cells_kept (by rw [hwa]; exact Cells.new _ _ _) b1 (by omega)
    have c1' := c1.set 0 (.pointer (some ⟨q, 0, none⟩))
    have cq : Cells w1 q 76 #[.int .i64 k', errV n] := cells_kept hq hb hql
    have cq' : Cells (w1.setCell ⟨w.heap.size, 0, none⟩ (.pointer (some ⟨q, 0, none⟩))) q 76 #[.int .i64 k', errV n] := cq.other (p := ⟨w.heap.size, 0, none⟩) (by show q ≠ w.heap.size; omega) _
    refine ⟨?_, ?_, hb.setCell (p := ⟨w.heap.size, 0, none⟩) (Nat.le_refl _) _⟩
    . rw [c1'.cell 0]; rfl
    rw [<- errV_pos n (by omega), cq'.cell 1]; rfl
  have FIN : Hid (∀ W : World, w.heap.size <= W.heap.size -> FaultAt w.heap.size (W.alloc (.cells #[.int .i64 (k : Nat), .iface 57 (.int .i64 (n : Nat))] 76)) (.iface 73 (.pointer (some ⟨W.heap.size, 0, none⟩))) k n) := by
    intro W hW
    rw [<- errV_pos n (by omega)]
    exact FaultAt.new W k n _ _ rfl hW
  clear hba hga ht hf hq
  subst hwa
  go_enter Tryz.func42, Tryz.ntmps42
  go_wp2_with fail
  refine HM.out.mono ?_
  rintro e w2 ⟨rfl, w1, b1, hw2⟩
  obtain ⟨c1, c2, hb⟩ := HQ.out w1 b1
  rw [<- hw2] at c1 c2 hb
  have F2 := FIN.out w2 hb.size
  clear hw2 HQ b1 HM
  go_wp2_with fail
  go_ret
  exact ⟨_, rfl, hb.alloc hb.size _, F2⟩
theorem chkE_any8 (ed : Ed) (fv : Value) (w : World) (h : Flds w fv ed.fields) (hf : Fine8 ed.fields) :
    Calls Tryz.prog 65 #[.agg #[.int .i64 ed.kind, .int .i64 ed.id, fv]] w fun e w' => ∃ u a, e = .returned u /\ Below w.heap.size w w' /\ ErrZ w.heap.size w' u a (goodE ed) := by
  obtain ⟨fa, fc, rfl, _, _⟩ := _root_.id h
  obtain ⟨wa, hwa⟩ : ∃ wa, wa = w.alloc (.cells #[.int .i64 ed.kind, .int .i64 ed.id, .slice fa ed.fields.length fc] 53) := ⟨_, rfl⟩
  have hba : Below w.heap.size w wa := by rw [hwa]; exact (Below.refl _ w).alloc (Nat.le_refl _) _
  have HC := Lib.hid (chk_any ed.fields (.slice fa ed.fields.length fc) wa (h.below hba (Nat.le_refl _)) (by have := hf.len; omega) (fun f hm => by have := hf.each f hm; omega))
  have HB := Lib.hid hba
  have GE := Lib.hid (show goodE ed = if ed.kind = 1 \/ ed.kind = 3 then chkN ed.fields else if ed.kind = 2 /\ ed.fields.length = 0 then 0 else 2 from rfl)
  have FIN : Hid (∀ W u, ErrZ wa.heap.size W u (chkAt ed.fields) (chkN ed.fields) -> goodE ed = chkN ed.fields -> ∃ a, ErrZ w.heap.size W u a (goodE ed)) := by
    intro W u hz hg
    rw [hg]
    exact ⟨_, hz.mono hba.size⟩
  have HZ : Hid (∀ W u, ChkV wa.heap.size W u ed.fields -> ErrZ wa.heap.size W u (chkAt ed.fields) (chkN ed.fields)) := fun W u h => ErrZ.of h
  have E0 : Hid (∀ W, goodE ed = 0 -> ErrZ w.heap.size W .nilIface (-9) (goodE ed)) := fun W h => by rw [h]; exact ErrZ.none _ _
  have E2 : Hid (∀ W, goodE ed = 2 -> ErrZ w.heap.size W (.iface 57 (.int .i64 2)) (-9) (goodE ed)) := fun W h => by rw [h]; exact ErrZ.err _ _ 2 (by decide)
  have hlz : ((ed.fields.length : Int) == 0) = decide (ed.fields.length = 0) := by
    rw [Bool.eq_iff_iff]; simp
  clear hba h
  subst hwa
  generalize hgg : goodE ed = ge at *
  generalize chkN ed.fields = cn at *
  generalize chkAt ed.fields = ca at *
  generalize ed.fields.length = fl at *
  generalize ed.kind = kk at *
  generalize ed.id = ii at *
  clear hgg
  by_cases h1 : kk = 1
  . subst h1
    have hg : ge = cn := by rw [GE.out, if_pos (.inl rfl)]
    go_enter Tryz.func65, Tryz.ntmps65
    go_wp2_with fail
    refine HC.out.mono ?_
    rintro e w2 ⟨u, rfl, b2, hu⟩
    obtain ⟨a, F2⟩ := FIN.out w2 u (HZ.out w2 u hu) hg
    go_wp2_with fail
    go_ret
    first | exact ⟨_, rfl, HB.out.trans (b2.mono HB.out.size), a, F2⟩ | exact ⟨_, a, rfl, HB.out.trans (b2.mono HB.out.size), F2⟩
  by_cases h3 : kk = 3
  . subst h3
    have hg : ge = cn := by rw [GE.out, if_pos (.inr rfl)]
    go_enter Tryz.func65, Tryz.ntmps65
    go_wp2_with fail
    refine HC.out.mono ?_
    rintro e w2 ⟨u, rfl, b2, hu⟩
    obtain ⟨a, F2⟩ := FIN.out w2 u (HZ.out w2 u hu) hg
    go_wp2_with fail
    go_ret
    first | exact ⟨_, rfl, HB.out.trans (b2.mono HB.out.size), a, F2⟩ | exact ⟨_, a, rfl, HB.out.trans (b2.mono HB.out.size), F2⟩
  have q1 : (kk == 1) = false := by simpa using h1
  have q3 : (kk == 3) = false := by simpa using h3
  by_cases h2 : kk = 2
  . subst h2
    by_cases h0 : fl = 0
    . have hg : ge = 0 := by rw [GE.out, if_neg (by omega), if_pos ⟨rfl, h0⟩]
      have F := E0.out (w.alloc (.cells #[.int .i64 2, .int .i64 ii, .slice fa fl fc] 53)) hg
      clear hg GE E0 E2 FIN HZ
      subst h0
      go_enter Tryz.func65, Tryz.ntmps65
      go_wp2_with fail
      go_ret
      first | exact ⟨_, rfl, HB.out, _, F⟩ | exact ⟨_, _, rfl, HB.out, F⟩
    have hg : ge = 2 := by rw [GE.out, if_neg (by omega), if_neg (by intro h; exact h0 h.2)]
    have F := E2.out (w.alloc (.cells #[.int .i64 2, .int .i64 ii, .slice fa fl fc] 53)) hg
    clear hg GE E0 E2 FIN HZ
    rw [decide_eq_false h0] at hlz
    go_enter Tryz.func65, Tryz.ntmps65
    go_wp2_with fail
    go_ret
    first | exact ⟨_, rfl, HB.out, _, F⟩ | exact ⟨_, _, rfl, HB.out, F⟩
  have q2 : (kk == 2) = false := by simpa using h2
  have hg : ge = 2 := by rw [GE.out, if_neg (by omega), if_neg (by intro h; exact h2 h.1)]
  have F := E2.out (w.alloc (.cells #[.int .i64 kk, .int .i64 ii, .slice fa fl fc] 53)) hg
  clear hg GE E0 E2 FIN HZ
  go_enter Tryz.func65, Tryz.ntmps65
  go_wp2_with fail
  go_ret
  first | exact ⟨_, rfl, HB.out, _, F⟩ | exact ⟨_, _, rfl, HB.out, F⟩
theorem checkB_any8 (eds : List Ed) (v : Value) (w : World) (h : EdV w v eds) (hl : eds.length <= 1000000) (hf : Fines8 eds) (hg : ErrT w) :
    Calls Tryz.prog 39 #[v] w fun e w' => ∃ u, e = .returned u /\ Below w.heap.size w w' /\ ErrZ w.heap.size w' u (chkB eds).1 (chkB eds).2 := by
  obtain ⟨A, cap, rfl, hle, hc⟩ := h
  have PC := Lib.hid hc
  have HF := Lib.hid hf
  have HG := Lib.hid hg
  clear hc hf hg
  by_cases h0 : eds.length = 0
  . have e0 : chkB eds = (-9, 1) := by unfold chkB; rw [if_pos (by omega)]
    rw [e0, h0]
    have F := ErrZ.err w.heap.size w 1 (by decide)
    rw [show errV 1 = .iface 57 (.int .i64 1) from rfl] at F
    go_enter Tryz.func39, Tryz.ntmps39
    go_wp2_with fail
    go_ret
    exact ⟨_, rfl, Below.refl _ _, F⟩
  have q0 : ((eds.length : Int) == 0) = false := by simp; intro h; exact h0 (by rw [h]; rfl)
  by_cases h40 : 40 < eds.length
  . have e0 : chkB eds = (-9, 1) := by unfold chkB; rw [if_pos (by omega)]
    rw [e0]
    have F := ErrZ.err w.heap.size w 1 (by decide)
    rw [show errV 1 = .iface 57 (.int .i64 1) from rfl] at F
    go_enter Tryz.func39, Tryz.ntmps39
    go_wp2_with fail
    go_ret
    exact ⟨_, rfl, Below.refl _ _, F⟩
  have e1 : chkB eds = chkOn 0 eds := by unfold chkB; rw [if_neg (by omega)]
  rw [e1]
  go_enter Tryz.func39, Tryz.ntmps39
  go_wp2_with fail
  go_loopw [17] (fun i wr => ∃ k : Nat, k <= eds.length /\ i = .int .i64 k /\ (∀ x ∈ eds.take k, goodE x = 0) /\ Below w.heap.size w wr) (fun i _ => eds.length - (intOf i).toNat)
  case atStart => exact ⟨0, Nat.zero_le _, rfl, (fun x hx => by simp at hx), Below.refl _ _⟩
  case round =>
  obtain ⟨k, hk, rfl, hsm, hb⟩ := hrel
  by_cases hlt : k < eds.length
  . obtain ⟨ed, hed⟩ : ∃ ed, eds[k]? = some ed := ⟨_, List.getElem?_eq_getElem hlt⟩
    obtain ⟨b, off, fv, rfl, hbb, c0, c1, c2, hfl⟩ := PC.out k ed hed
    obtain ⟨fa, fc, rfl, _, _⟩ := _root_.id hfl.1
    replace c0 := (hb.cell (p := ⟨b, off + k * 3, none⟩) hbb).trans c0
    replace c1 := (hb.cell (p := ⟨b, off + k * 3 + 1, none⟩) hbb).trans c1
    replace c2 := (hb.cell (p := ⟨b, off + k * 3 + 1 + 1, none⟩) hbb).trans c2
    obtain ⟨wa, hwa⟩ : ∃ wa, wa = wr.alloc (.cells #[.int .i64 ed.kind, .int .i64 ed.id, .slice fa ed.fields.length fc] 53) := ⟨_, rfl⟩
    have hba : Below w.heap.size w wa := by rw [hwa]; exact hb.alloc hb.size _
    have CK := Lib.hid (chkE_any8 ed (.slice fa ed.fields.length fc) wa (hfl.1.below hba (Nat.le_refl _)) (HF.out ed (List.mem_of_getElem? hed)))
    have SM : Hid (goodE ed = 0 -> ∀ x ∈ eds.take (k + 1), goodE x = 0) := fun hz x hx => by
      rw [take_snoc hed] at hx
      rcases List.mem_append.1 hx with hx | hx
      . exact hsm x hx
      rw [List.mem_singleton.1 hx]; exact hz
    have AT : Hid (goodE ed ≠ 0 -> chkOn 0 eds = (((k : Nat) : Int), goodE ed)) := fun hz => by rw [chkOn_at eds 0 k ed hsm hed hz, Nat.zero_add]
    have HBA := Lib.hid hba
    have hle11 := goodE_le ed
    clear hed hsm hfl hba
    generalize goodE ed = ge at *
    subst hwa
    go_wp2_with fail
    refine CK.out.mono ?_
    rintro e w2 ⟨u, a, rfl, b2, hz⟩
    have B2 := Lib.hid (HBA.out.trans (b2.mono HBA.out.size))
    by_cases hg0 : ge = 0
    . subst hg0
      obtain ⟨_, ⟨rfl, _⟩ | ⟨_, _, _, hx⟩⟩ := hz
      . have SM1 := Lib.hid (SM.out rfl)
        clear SM AT CK
        rw [show errV 0 = .nilIface from rfl]
        go_wp2_with fail
        go_roundw
        case rel => exact ⟨k + 1, hlt, by go_num, SM1.out, B2.out⟩
        case measure => simp [intOf]; omega
      exact absurd rfl hx
    have FA := Lib.hid (fault_any k ge a u w2 hz hg0 (HG.out.below B2.out (Nat.le_refl _)))
    have AT1 := AT.out hg0
    have hform : (∃ z, u = .iface 57 (.int .i64 z)) \/ ∃ q, u = .iface 73 (.pointer (some ⟨q, 0, none⟩)) := by
      obtain ⟨_, ⟨rfl, _⟩ | ⟨_, ⟨q, _, rfl, _⟩, _, _⟩⟩ := hz
      . rw [errV_pos ge (by omega)]; exact .inl ⟨_, rfl⟩
      exact .inr ⟨q, rfl⟩
    clear hz SM AT CK
    rcases hform with ⟨z, rfl⟩ | ⟨q, rfl⟩
    all_goals
      go_wp2_with fail
      refine FA.out.mono ?_
      rintro e w3 ⟨u', rfl, b3, hfa⟩
      have Z3 : Hid (ErrZ w.heap.size w3 u' (chkOn 0 eds).1 (chkOn 0 eds).2) := by
        show ErrZ _ _ _ _ _
        rw [AT1]; exact ErrZ.fault (hfa.mono B2.out.size) hg0 hle11
      have B3 := Lib.hid (B2.out.trans (b3.mono B2.out.size))
      clear hfa b3
      go_wp2_with fail
      go_ret
      exact ⟨_, rfl, B3.out, Z3.out⟩
  obtain rfl : k = eds.length := by omega
  rw [List.take_length] at hsm
  have HZ : ErrZ w.heap.size wr .nilIface (chkOn 0 eds).1 (chkOn 0 eds).2 := by rw [chkOn_all eds 0 hsm]; exact ErrZ.none w.heap.size wr
  clear PC hsm
  go_wp2_with fail
  go_ret
  exact ⟨_, rfl, hb, HZ⟩
theorem checkB_any (eds : List Ed) (v : Value) (w : World) (h : EdV w v eds) (hl : eds.length <= 1000000) (hf : Fines eds) (hg : ErrT w) :
    Calls Tryz.prog 39 #[v] w fun e w' => ∃ u, e = .returned u /\ Below w.heap.size w w' /\ ErrZ w.heap.size w' u (chkB eds).1 (chkB eds).2 := checkB_any8 eds v w h hl hf.eight hg
end Go.Proofs.YtfjklpgmnakcaaaGreatDoor
namespace Go.Proofs.YtfjklpgmnakcaaaGreatDoor
open Go.RowKit Go.Shelf
attribute [local go_sem] Oper.semAt_some
section
variable {o : Oper} {a : Act} {w : World} {K : Act -> World -> Prop} {Q : Exit -> Act -> World -> Prop}
theorem mo_runW {v : Value} {w' : World} (e : (execOp a.eval o).run Tryz.prog w = .ok (.value v) w') (hK : K (a.put o.dst v) w') : Oper.wp Tryz.prog o a w K Q := by
  unfold Oper.wp
  rw [e]; exact hK
theorem mo_lit6 {x : Operand} {k i p q : Int} {fa ga : Option Addr} {fn fc gn gc : Nat} (ho : o.op = Op.buildSlice 62 1 #[(0, x)]) (hx : a.eval x = .agg #[.int .i64 k, .int .i64 i, .slice fa fn fc, .slice ga gn gc, .int .i64 p, .int .i64 q])
    (hK : K (a.put o.dst (.slice (some ⟨w.heap.size, 0, none⟩) 1 1)) (w.alloc (.cells #[.int .i64 k, .int .i64 i, .slice fa fn fc, .slice ga gn gc, .int .i64 p, .int .i64 q] 65))) : Oper.wp Tryz.prog o a w K Q := by
  refine mo_runW ?_ hK
  simp only [execOp, ho]
  rw [show (Array.map (fun (p : Nat × Operand) => match p with | (i, x) => (i, a.eval x)) #[((0 : Nat), x)]) = #[((0 : Nat), Value.agg #[.int .i64 k, .int .i64 i, .slice fa fn fc, .slice ga gn gc, .int .i64 p, .int .i64 q])] from by rw [<- hx]; simp]
  kernel_rfl
theorem mo_lit3 {x : Operand} {k i : Int} {fa : Option Addr} {fn fc : Nat} (ho : o.op = Op.buildSlice 22 1 #[(0, x)]) (hx : a.eval x = .agg #[.int .i64 k, .int .i64 i, .slice fa fn fc])
    (hK : K (a.put o.dst (.slice (some ⟨w.heap.size, 0, none⟩) 1 1)) (w.alloc (.cells #[.int .i64 k, .int .i64 i, .slice fa fn fc] 53))) : Oper.wp Tryz.prog o a w K Q := by
  refine mo_runW ?_ hK
  simp only [execOp, ho]
  rw [show (Array.map (fun (p : Nat × Operand) => match p with | (i, x) => (i, a.eval x)) #[((0 : Nat), x)]) = #[((0 : Nat), Value.agg #[.int .i64 k, .int .i64 i, .slice fa fn fc])] from by rw [<- hx]; simp]
  kernel_rfl
theorem mo_build3 {x y z : Operand} {k i : Int} {fa : Option Addr} {fn fc : Nat} (ho : o.op = Op.build 53 #[(0, x), (1, y), (2, z)]) (hx : a.eval x = .int .i64 k) (hy : a.eval y = .int .i64 i) (hz : a.eval z = .slice fa fn fc)
    (hK : K (a.put o.dst (.agg #[.int .i64 k, .int .i64 i, .slice fa fn fc])) w) : Oper.wp Tryz.prog o a w K Q := by
  refine mo_runW ?_ hK
  simp only [execOp, ho]
  rw [show (Array.map (fun (p : Nat × Operand) => match p with | (i, x) => (i, a.eval x)) #[((0 : Nat), x), (1, y), (2, z)]) = #[((0 : Nat), Value.int .i64 k), (1, .int .i64 i), (2, .slice fa fn fc)] from by rw [<- hx, <- hy, <- hz]; simp]
  kernel_rfl
theorem mo_callV {T : Value -> World -> Prop} {f x : Operand} {u : Value} {g : Nat} {cb : Array Value} {T1 : TypeId} (ho : o.op = Op.call { callee := Callee.value f, args := #[x], argTypes := #[T1] }) (hf : a.eval f = .func (.func g) #[] cb) (hx : a.eval x = u)
    (eg : ∀ args w, (callFunc g args).run Tryz.prog w = .ok (.enter g args) w) (hc : Calls Tryz.prog g (#[u] ++ cb) w fun e w' => ∃ v, e = .returned v /\ T v w') (hK : ∀ v w', T v w' -> K (a.put o.dst v) w') : Oper.wp Tryz.prog o a w K Q := by
  unfold Oper.wp
  have e : (execOp a.eval o).run Tryz.prog w = .ok (.enter g (#[u] ++ cb)) w := by
    generalize a.eval = ρ at hx hf ⊢
    simp only [execOp, ho]
    simp [go_sem, resolve, invoke, hx, hf, eg]
  rw [e]
  refine hc.mono ?_
  rintro e w' ⟨v, rfl, h⟩
  exact hK v w' h
end
end Go.Proofs.YtfjklpgmnakcaaaGreatDoor
