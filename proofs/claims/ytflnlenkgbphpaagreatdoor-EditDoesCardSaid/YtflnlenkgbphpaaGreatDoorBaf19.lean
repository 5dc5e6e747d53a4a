/- Texts put together: NG, EA, ED, EE, EF, EG. -/
import Derived.Test.YtflnlenkgbphpaaGreatDoorProg
import Derived.WalkKit
import Derived.LaidEql
import Derived.Stop.Asserts
import Derived.RowKitTokens
import Derived.Below
import Derived.Lib.Hide
import Derived.Test.YtflnlenkgbphpaaGreatDoorBaf11
import Derived.Test.YtflnlenkgbphpaaGreatDoorBaf17
import Derived.Test.YtflnlenkgbphpaaGreatDoorBaf18
set_option linter.unusedVariables false
namespace Go.Proofs.YtflnlenkgbphpaaGreatDoor

def nums (es : List En) : List Int := (es.map Prod.snd).filter fun n => decide (0 < n)
theorem nums_append (a b : List En) : nums (a ++ b) = nums a ++ nums b := by unfold nums; rw [List.map_append, List.filter_append]
theorem nums_len (es : List En) : (nums es).length = lenR es := by
  unfold nums lenR
  rw [List.filter_map, List.length_map]; rfl
theorem setE_snd (es : List En) (k : Nat) (it : It) : (setE es k it).map Prod.snd = es.map Prod.snd := by
  unfold setE
  apply List.ext_getElem?
  intro j
  rw [List.getElem?_map, List.getElem?_modify, List.getElem?_map]
  cases es[j]? with
  | none => rfl
  | some e =>
    by_cases h : k = j
    · simp [h]
    · simp [h]
/-- A list whose stanzas are well numbered. -/
structure OkL (l : LS) : Prop where
  wf : WF l.es
  pos : 0 < l.next
  lt : ∀ n ∈ nums l.es, n < l.next
  nd : (nums l.es).Nodup
  len : lenR l.es ≤ 400
theorem OkL.replace {l : LS} (h : OkL l) {k : Nat} {e : En} (he : l.es[k]? = some e) (h3 : e.1.kind = 3) (fs : List Fld) : OkL ⟨setE l.es k (itemOf fs), l.next⟩ := by
  have hn : nums (setE l.es k (itemOf fs)) = nums l.es := by unfold nums; rw [setE_snd]
  refine ⟨h.wf.set k (itemOf fs) rfl e he h3, h.pos, ?_, ?_, ?_⟩
  · show ∀ n ∈ nums (setE l.es k (itemOf fs)), n < l.next
    rw [hn]; exact h.lt
  · show (nums (setE l.es k (itemOf fs))).Nodup
    rw [hn]; exact h.nd
  · show lenR (setE l.es k (itemOf fs)) ≤ 400
    rw [← nums_len, hn, nums_len]; exact h.len
theorem cut_sub (es : List En) (k : Nat) : (nums (cutE es k)).Sublist (nums es) := by
  unfold nums cutE
  refine List.Sublist.filter _ (List.Sublist.map _ ?_)
  conv => rhs; rw [← List.take_append_drop k es]
  exact (List.Sublist.refl _).append (by rw [← List.drop_drop]; exact List.drop_sublist _ _)
theorem OkL.delete {l : LS} (h : OkL l) (k : Nat) : OkL ⟨cutE l.es k, l.next⟩ := by
  have hs := cut_sub l.es k
  refine ⟨h.wf.cut k, h.pos, fun n hn => h.lt n (hs.subset hn), hs.nodup h.nd, ?_⟩
  show lenR (cutE l.es k) ≤ 400
  have := hs.length_le
  rw [nums_len, nums_len] at this
  have := h.len
  omega
theorem put_perm (es : List En) (k : Nat) (it : It) {n : Int} (hn : 0 < n) : (nums (putE es k (it, n))).Perm (n :: nums es) := by
  have e1 : nums (putE es k (it, n)) = nums (es.take k) ++ n :: nums (es.drop k) := by
    unfold putE
    rw [nums_append]
    congr 1
    unfold nums
    rw [List.map_cons, List.filter_cons, if_pos (by simpa using hn)]
  have e2 : nums es = nums (es.take k) ++ nums (es.drop k) := by rw [← nums_append, List.take_append_drop]
  rw [e1, e2]
  exact List.perm_middle
theorem OkL.insert {l : LS} (h : OkL l) (k : Nat) (fs : List Fld) (hf : ¬ 400 ≤ lenR l.es) : OkL ⟨putE l.es k (itemOf fs, l.next), l.next + 1⟩ := by
  have hp := put_perm l.es k (itemOf fs) h.pos
  have hpos := h.pos
  refine ⟨h.wf.put k ⟨rfl, h.pos⟩, by show 0 < l.next + 1; omega, fun n hn => ?_, hp.nodup_iff.2 (List.nodup_cons.2 ⟨fun q => ?_, h.nd⟩), ?_⟩
  · show n < l.next + 1
    rcases List.mem_cons.1 (hp.subset hn) with q | q
    · omega
    · have := h.lt n q; omega
  · have := h.lt _ q; omega
  · show lenR (putE l.es k (itemOf fs, l.next)) ≤ 400
    have := hp.length_eq
    rw [nums_len, List.length_cons, nums_len] at this
    omega
theorem findR_stz {es : List En} (h : WF es) {id : Int} {k : Nat} (hf : findR es id = some k) : ∃ e, es[k]? = some e ∧ e.1.kind = 3 ∧ e.2 = id := by
  obtain ⟨_, e, he, h2, h3⟩ := findR_lt hf
  rcases h e (List.mem_of_getElem? he) with ⟨q, _⟩ | ⟨_, q⟩
  · exact ⟨e, he, q, h2⟩
  · omega
theorem OkL.edit {l : LS} (h : OkL l) (kind id : Int) (fs : List Fld) : OkL (editR l kind id fs).ls := by
  unfold editR
  split
  · unfold replaceR
    split
    · exact h
    · rename_i k hk
      obtain ⟨e, he, h3, _⟩ := findR_stz h.wf hk
      split
      · exact h.replace he h3 fs
      · exact h
  · split
    · unfold deleteR
      split
      · exact h
      · exact h.delete _
    · unfold insertR
      split
      · exact h
      · split
        · split
          · exact h
          · rename_i hf; exact h.insert _ fs hf
        · exact h
/-- How an edit's length and next number grow. -/
theorem edit_len (l : LS) (kind id : Int) (fs : List Fld) : (editR l kind id fs).ls.es.length ≤ l.es.length + 1 ∧ l.next ≤ (editR l kind id fs).ls.next ∧ (editR l kind id fs).ls.next ≤ l.next + 1 := by
  unfold editR
  split
  · unfold replaceR
    split
    · exact ⟨Nat.le_succ _, Int.le_refl _, by show l.next ≤ l.next + 1; omega⟩
    · split
      · exact ⟨by show (setE _ _ _).length ≤ _; rw [setE_len]; omega, Int.le_refl _, by show l.next ≤ l.next + 1; omega⟩
      · exact ⟨Nat.le_succ _, Int.le_refl _, by show l.next ≤ l.next + 1; omega⟩
  · split
    · unfold deleteR
      split
      · exact ⟨Nat.le_succ _, Int.le_refl _, by show l.next ≤ l.next + 1; omega⟩
      · exact ⟨by show (cutE _ _).length ≤ _; unfold cutE; rw [List.length_append, List.length_take, List.length_drop]; omega, Int.le_refl _, by show l.next ≤ l.next + 1; omega⟩
    · unfold insertR
      split
      · exact ⟨Nat.le_succ _, Int.le_refl _, by show l.next ≤ l.next + 1; omega⟩
      · split
        · split
          · exact ⟨Nat.le_succ _, Int.le_refl _, by show l.next ≤ l.next + 1; omega⟩
          · exact ⟨by show (putE _ _ _).length ≤ _; unfold putE; rw [List.length_append, List.length_cons, List.length_take, List.length_drop]; omega, by show l.next ≤ l.next + 1; omega, Int.le_refl _⟩
        · exact ⟨Nat.le_succ _, Int.le_refl _, by show l.next ≤ l.next + 1; omega⟩
end Go.Proofs.YtflnlenkgbphpaaGreatDoor

namespace Go.Proofs.YtflnlenkgbphpaaGreatDoor

/-- Why an edit isn't good; 0: it is. -/
def goodE (ed : Ed) : Nat := if ed.kind = 1 ∨ ed.kind = 3 then chkN ed.fields else if ed.kind = 2 ∧ ed.fields.length = 0 then 0 else 2
theorem goodE_le (ed : Ed) : goodE ed ≤ 11 := by
  unfold goodE
  split
  · exact chkN_le _
  · split <;> decide
def chkOn : Nat → List Ed → Int × Nat
  | _, [] => (-9, 0)
  | k, ed :: r => if goodE ed = 0 then chkOn (k + 1) r else ((k : Nat), goodE ed)
/-- Where a batch isn't good, why. -/
def chkB (eds : List Ed) : Int × Nat := if eds.length < 1 ∨ 40 < eds.length then (-9, 1) else chkOn 0 eds
theorem chkOn_at : ∀ (eds : List Ed) (q k : Nat) (ed : Ed), (∀ x ∈ eds.take k, goodE x = 0) → eds[k]? = some ed → goodE ed ≠ 0 → chkOn q eds = (((q + k : Nat) : Int), goodE ed)
  | [], q, k, ed, _, h, _ => by simp at h
  | a :: r, q, 0, ed, _, h, h0 => by
    simp at h; subst h
    unfold chkOn
    rw [if_neg h0]; rfl
  | a :: r, q, k + 1, ed, hg, h, h0 => by
    have ih := chkOn_at r (q + 1) k ed (fun x hx => hg x (by rw [List.take_succ_cons]; exact List.mem_cons_of_mem _ hx)) (by simpa using h) h0
    unfold chkOn
    rw [if_pos (hg a (by rw [List.take_succ_cons]; exact List.mem_cons_self)), ih, show q + 1 + k = q + (k + 1) by omega]
theorem chkOn_all : ∀ (eds : List Ed) (q : Nat), (∀ x ∈ eds, goodE x = 0) → chkOn q eds = (-9, 0)
  | [], _, _ => rfl
  | a :: r, q, h => by
    unfold chkOn
    rw [if_pos (h a List.mem_cons_self)]
    exact chkOn_all r (q + 1) (fun x hx => h x (List.mem_cons_of_mem _ hx))
theorem chkOn_good : ∀ (eds : List Ed) (q : Nat), (chkOn q eds).2 = 0 → ∀ x ∈ eds, goodE x = 0
  | [], _, _, x, hx => by cases hx
  | a :: r, q, h, x, hx => by
    unfold chkOn at h
    split at h
    · rename_i h0
      rcases List.mem_cons.1 hx with rfl | hx
      · exact h0
      · exact chkOn_good r (q + 1) h x hx
    · rename_i h0; exact absurd h h0
theorem chkB_good {eds : List Ed} (h : (chkB eds).2 = 0) : (1 ≤ eds.length ∧ eds.length ≤ 40) ∧ ∀ x ∈ eds, goodE x = 0 := by
  unfold chkB at h
  split at h
  · cases h
  · exact ⟨by omega, chkOn_good eds 0 h⟩
theorem chkB_of {eds : List Ed} (h1 : 1 ≤ eds.length) (h2 : eds.length ≤ 40) (h : ∀ x ∈ eds, goodE x = 0) : chkB eds = (-9, 0) := by
  unfold chkB
  rw [if_neg (by omega)]
  exact chkOn_all eds 0 h
theorem chkB_zero {eds : List Ed} (h : (chkB eds).2 = 0) : chkB eds = (-9, 0) := by
  obtain ⟨⟨a, b⟩, c⟩ := chkB_good h
  exact chkB_of a b c
theorem goodE_kind {ed : Ed} (h : goodE ed = 0) : ed.kind = 1 ∨ ed.kind = 2 ∨ ed.kind = 3 := by
  unfold goodE at h
  split at h
  · rename_i q; omega
  · split at h
    · rename_i q; exact .inr (.inl q.1)
    · cases h
/-- An edit on a list. -/
def stepE (l : LS) (ed : Ed) : Did := editR l ed.kind ed.id ed.fields
def lsOn : LS → List Ed → LS
  | l, [] => l
  | l, ed :: r => lsOn (stepE l ed).ls r
/-- All edits are done. -/
def okOn : LS → List Ed → Prop
  | _, [] => True
  | l, ed :: r => (stepE l ed).bad = 0 ∧ okOn (stepE l ed).ls r
/-- The numbers that are given. -/
def idsOn : LS → List Ed → List Int
  | _, [] => []
  | l, ed :: r => (if ed.kind = 3 then [(stepE l ed).id] else []) ++ idsOn (stepE l ed).ls r
/-- Where one is refused, why. -/
def doOn : Nat → LS → List Ed → Int × Nat
  | _, _, [] => (-9, 0)
  | k, l, ed :: r => if (stepE l ed).bad = 0 then doOn (k + 1) (stepE l ed).ls r else ((k : Nat), (stepE l ed).bad)
def doB (l : LS) (eds : List Ed) : Int × Nat := if (chkB eds).2 = 0 then doOn 0 l eds else chkB eds
theorem lsOn_append : ∀ (l : LS) (a b : List Ed), lsOn l (a ++ b) = lsOn (lsOn l a) b
  | _, [], _ => rfl
  | l, ed :: r, b => lsOn_append (stepE l ed).ls r b
theorem okOn_append : ∀ (l : LS) (a b : List Ed), okOn l (a ++ b) ↔ okOn l a ∧ okOn (lsOn l a) b
  | _, [], _ => by simp [okOn, lsOn]
  | l, ed :: r, b => by
    show ((stepE l ed).bad = 0 ∧ okOn (stepE l ed).ls (r ++ b)) ↔ ((stepE l ed).bad = 0 ∧ okOn (stepE l ed).ls r) ∧ okOn (lsOn (stepE l ed).ls r) b
    rw [okOn_append, and_assoc]
theorem idsOn_append : ∀ (l : LS) (a b : List Ed), idsOn l (a ++ b) = idsOn l a ++ idsOn (lsOn l a) b
  | _, [], _ => rfl
  | l, ed :: r, b => by
    show _ ++ idsOn (stepE l ed).ls (r ++ b) = (_ ++ idsOn (stepE l ed).ls r) ++ idsOn (lsOn (stepE l ed).ls r) b
    rw [idsOn_append, List.append_assoc]
theorem doOn_append : ∀ (q : Nat) (l : LS) (a b : List Ed), okOn l a → doOn q l (a ++ b) = doOn (q + a.length) (lsOn l a) b
  | q, l, [], b, _ => rfl
  | q, l, ed :: r, b, h => by
    have ih := doOn_append (q + 1) (stepE l ed).ls r b h.2
    show (if (stepE l ed).bad = 0 then doOn (q + 1) (stepE l ed).ls (r ++ b) else _) = doOn (q + (r.length + 1)) (lsOn (stepE l ed).ls r) b
    rw [if_pos h.1, ih, show q + 1 + r.length = q + (r.length + 1) by omega]
theorem doOn_ok : ∀ (q : Nat) (l : LS) (a : List Ed), okOn l a → doOn q l a = (-9, 0) := fun q l a h => by
  have := doOn_append q l a [] h
  rw [List.append_nil] at this
  rw [this]; rfl
theorem doOn_zero : ∀ (q : Nat) (l : LS) (a : List Ed), (doOn q l a).2 = 0 → okOn l a
  | _, _, [], _ => trivial
  | q, l, ed :: r, h => by
    have h' : (if (stepE l ed).bad = 0 then doOn (q + 1) (stepE l ed).ls r else ((q : Nat), (stepE l ed).bad)).2 = 0 := h
    split at h'
    · rename_i h0; exact ⟨h0, doOn_zero (q + 1) _ r h'⟩
    · rename_i h0; exact absurd h' h0
theorem doOn_shift : ∀ (q d : Nat) (l : LS) (a : List Ed), (doOn q l a).2 ≠ 0 → doOn (q + d) l a = ((doOn q l a).1 + (d : Nat), (doOn q l a).2)
  | _, _, _, [], h => absurd rfl h
  | q, d, l, ed :: r, h => by
    have e1 : doOn q l (ed :: r) = if (stepE l ed).bad = 0 then doOn (q + 1) (stepE l ed).ls r else ((q : Nat), (stepE l ed).bad) := rfl
    have e2 : doOn (q + d) l (ed :: r) = if (stepE l ed).bad = 0 then doOn (q + d + 1) (stepE l ed).ls r else (((q + d : Nat) : Int), (stepE l ed).bad) := rfl
    rw [e1] at h ⊢
    rw [e2]
    by_cases h0 : (stepE l ed).bad = 0
    · rw [if_pos h0] at h ⊢
      rw [if_pos h0, show q + d + 1 = q + 1 + d by omega]
      exact doOn_shift (q + 1) d _ r h
    · rw [if_neg h0, if_neg h0]
      show (((q + d : Nat) : Int), _) = (((q : Nat) : Int) + ((d : Nat) : Int), _)
      rw [Int.natCast_add]
theorem take_snoc {eds : List Ed} {k : Nat} {ed : Ed} (h : eds[k]? = some ed) : eds.take (k + 1) = eds.take k ++ [ed] := by rw [List.take_add_one, h]; rfl
theorem take_mid {eds : List Ed} {k : Nat} {ed : Ed} (h : eds[k]? = some ed) : eds = eds.take k ++ ed :: eds.drop (k + 1) := by
  obtain ⟨hk, e⟩ := List.getElem?_eq_some_iff.1 h
  conv => lhs; rw [← List.take_append_drop k eds]
  rw [← e]
  congr 1
  exact List.drop_eq_getElem_cons hk
theorem take_len {eds : List Ed} {k : Nat} {ed : Ed} (h : eds[k]? = some ed) : (eds.take k).length = k := by
  have := (List.getElem?_eq_some_iff.1 h).1
  rw [List.length_take]; omega
/-- The list goes one edit on. -/
theorem lsOn_snoc {l : LS} {eds : List Ed} {k : Nat} {ed : Ed} (h : eds[k]? = some ed) : lsOn l (eds.take (k + 1)) = (stepE (lsOn l (eds.take k)) ed).ls := by rw [take_snoc h, lsOn_append]; rfl
theorem okOn_snoc {l : LS} {eds : List Ed} {k : Nat} {ed : Ed} (h : eds[k]? = some ed) (ho : okOn l (eds.take k)) (h0 : (stepE (lsOn l (eds.take k)) ed).bad = 0) : okOn l (eds.take (k + 1)) := by
  rw [take_snoc h, okOn_append]; exact ⟨ho, h0, trivial⟩
theorem idsOn_snoc {l : LS} {eds : List Ed} {k : Nat} {ed : Ed} (h : eds[k]? = some ed) : idsOn l (eds.take (k + 1)) = idsOn l (eds.take k) ++ (if ed.kind = 3 then [(stepE (lsOn l (eds.take k)) ed).id] else []) := by
  rw [take_snoc h, idsOn_append]
  show _ ++ ((if ed.kind = 3 then _ else _) ++ []) = _
  rw [List.append_nil]
theorem doOn_at {l : LS} {eds : List Ed} {k : Nat} {ed : Ed} (h : eds[k]? = some ed) (ho : okOn l (eds.take k)) (h0 : (stepE (lsOn l (eds.take k)) ed).bad ≠ 0) : doOn 0 l eds = (((k : Nat) : Int), (stepE (lsOn l (eds.take k)) ed).bad) := by
  have e := take_mid h
  have : doOn 0 l (eds.take k ++ ed :: eds.drop (k + 1)) = (((k : Nat) : Int), (stepE (lsOn l (eds.take k)) ed).bad) := by
    rw [doOn_append 0 l _ _ ho, take_len h]
    show (if _ then _ else _) = _
    rw [if_neg h0, Nat.zero_add]
  rw [← e] at this
  exact this
theorem idsOn_len (l : LS) : ∀ (eds : List Ed), (idsOn l eds).length ≤ eds.length := by
  intro eds
  induction eds generalizing l with
  | nil => exact Nat.le_refl _
  | cons ed r ih =>
    have := ih (stepE l ed).ls
    show ((if ed.kind = 3 then [(stepE l ed).id] else []) ++ idsOn (stepE l ed).ls r).length ≤ r.length + 1
    rw [List.length_append]
    split
    · simp only [List.length_cons, List.length_nil]; omega
    · simp only [List.length_nil]; omega
theorem OkL.on {l : LS} (h : OkL l) : ∀ (eds : List Ed), OkL (lsOn l eds) := by
  intro eds
  induction eds generalizing l with
  | nil => exact h
  | cons ed r ih => exact ih (h.edit ed.kind ed.id ed.fields)
/-- An error's number of an edit is none above 11. -/
theorem step_le (l : LS) (ed : Ed) : (stepE l ed).bad ≤ 11 := by
  unfold stepE editR
  split
  · unfold replaceR
    split
    · show (7 : Nat) ≤ 11; decide
    · split
      · exact Nat.zero_le _
      · exact chkN_le _
  · split
    · unfold deleteR
      split
      · show (7 : Nat) ≤ 11; decide
      · exact Nat.zero_le _
    · unfold insertR
      split
      · show (7 : Nat) ≤ 11; decide
      · split
        · split
          · show (11 : Nat) ≤ 11; decide
          · exact Nat.zero_le _
        · exact chkN_le _
end Go.Proofs.YtflnlenkgbphpaaGreatDoor

namespace Go.Proofs.YtflnlenkgbphpaaGreatDoor
open Go.RowKit Go.Extern.Stop Go.Stop Go.Extern

theorem valueOfPP (t : Addr) (w : World) : (ReflectliteValue.unpack (.iface 124 (.pointer (some t)))).run Tryz.prog w
    = .ok (.agg #[.pointer (some ⟨4, 124, none⟩), .pointer (some ⟨w.heap.size, 0, none⟩), .int .u64 150]) (w.alloc (.cells #[.pointer (some t)] 124)) := by kernel_rfl
theorem typePP (a : Addr) (w : World) : (ReflectliteValue.methodAny (ReflectliteValue.valueError "reflectlite.Value.Type" 0) (fun t _ _ _ => ReflectliteType.toType t) #[.agg #[.pointer (some ⟨4, 124, none⟩), .pointer (some a), .int .u64 150]]).run Tryz.prog w
    = .ok (.iface 211 (.agg #[.pointer (some ⟨4, 124, none⟩)])) w := by kernel_rfl
theorem methodKind (h : Value) (w : World) : (Go.method 404 211 (.agg #[h]) "Kind").run Tryz.prog w = .ok (211, h) w := by kernel_rfl
theorem kindPP (w : World) : ((ReflectliteType.abiMethod fun t => (fun a : Nat => Value.int IntKind.u8 (a : Int)) <$> Rtype.kind t) #[.pointer (some ⟨4, 124, none⟩)]).run Tryz.prog w = .ok (.int .u8 22) w := by kernel_rfl
theorem kindP (w : World) : ((ReflectliteType.abiMethod fun t => (fun a : Nat => Value.int IntKind.u8 (a : Int)) <$> Rtype.kind t) #[.pointer (some ⟨4, 77, none⟩)]).run Tryz.prog w = .ok (.int .u8 22) w := by kernel_rfl
theorem rlm9 (z : Sem Value) (f : TypeId → Addr → Nat → Nat → Sem Value) (v : Value) :
    ReflectliteValue.method z f #[v] = (do match ← ReflectliteValue.parts v with | none => z | some (t, a, fl) => f t a fl (fl % 32)) := rfl
theorem partsPP (a : Addr) (w : World) : (ReflectliteValue.parts (.agg #[.pointer (some ⟨4, 124, none⟩), .pointer (some a), .int .u64 150])).run Tryz.prog w = .ok (some (124, a, 150)) w := by kernel_rfl
theorem isNilPP (a p : Addr) (W : World) (ha : W.cell? a = some (.pointer (some p))) :
    (ReflectliteValue.method (ReflectliteValue.valueError "reflectlite.Value.IsNil" 0) ReflectliteValue.isNil #[.agg #[.pointer (some ⟨4, 124, none⟩), .pointer (some a), .int .u64 150]]).run Tryz.prog W = .ok (.bool false) W := by
  rw [rlm9]
  simp only [Sem.run_bind, partsPP, Result.andThen]
  simp [ReflectliteValue.isNil, loadVar, isAgg, underlying, Tryz.underlying124, ha, Result.andThen]
theorem methodElem (h : Value) (w : World) : (Go.method 404 211 (.agg #[h]) "Elem").run Tryz.prog w = .ok (224, .agg #[h]) w := by kernel_rfl
theorem methodImplements (h : Value) (w : World) : (Go.method 404 211 (.agg #[h]) "Implements").run Tryz.prog w = .ok (225, .agg #[h]) w := by kernel_rfl
theorem methodAssignableTo (h : Value) (w : World) : (Go.method 404 211 (.agg #[h]) "AssignableTo").run Tryz.prog w = .ok (222, .agg #[h]) w := by kernel_rfl
theorem elemPP (w : World) : (ReflectliteType.method ReflectliteType.elem #[.agg #[.pointer (some ⟨4, 124, none⟩)]]).run Tryz.prog w = .ok (.iface 211 (.agg #[.pointer (some ⟨4, 77, none⟩)])) w := by kernel_rfl
theorem implementsP (w : World) : (ReflectliteType.relation "Implements" ReflectliteType.implements_ #[.agg #[.pointer (some ⟨4, 77, none⟩)], .iface 211 (.agg #[.pointer (some ⟨4, 27, none⟩)])]).run Tryz.prog w = .ok (.bool true) w := by kernel_rfl
theorem typeOfP (v : Value) (w : World) : (ReflectliteType.typeOf #[.iface 77 v]).run Tryz.prog w = .ok (.iface 211 (.agg #[.pointer (some ⟨4, 77, none⟩)])) w := by kernel_rfl
theorem typeOfE (v : Value) (w : World) : (ReflectliteType.typeOf #[.iface 70 v]).run Tryz.prog w = .ok (.iface 211 (.agg #[.pointer (some ⟨4, 70, none⟩)])) w := by kernel_rfl
theorem assignableP (w : World) : (ReflectliteType.relation "AssignableTo" ReflectliteType.assignableTo #[.agg #[.pointer (some ⟨4, 77, none⟩)], .iface 211 (.agg #[.pointer (some ⟨4, 77, none⟩)])]).run Tryz.prog w = .ok (.bool true) w := by kernel_rfl
theorem assignableE (w : World) : (ReflectliteType.relation "AssignableTo" ReflectliteType.assignableTo #[.agg #[.pointer (some ⟨4, 70, none⟩)], .iface 211 (.agg #[.pointer (some ⟨4, 77, none⟩)])]).run Tryz.prog w = .ok (.bool false) w := by kernel_rfl
theorem valueOfP (e : Addr) (w : World) : (ReflectliteValue.unpack (.iface 77 (.pointer (some e)))).run Tryz.prog w
    = .ok (.agg #[.pointer (some ⟨4, 77, none⟩), .pointer (some ⟨w.heap.size, 0, none⟩), .int .u64 150]) (w.alloc (.cells #[.pointer (some e)] 77)) := by kernel_rfl
theorem elemOfPP (w : World) : (Rtype.elem? 124).run Tryz.prog w = .ok (some 77) w := by kernel_rfl
theorem mkP (p : Addr) (w : World) : (ReflectliteValue.mk 77 p ReflectliteValue.flagAddr).run Tryz.prog w = .ok (.agg #[.pointer (some ⟨4, 77, none⟩), .pointer (some p), .int .u64 406]) w := by kernel_rfl
theorem elemVPP (a p : Addr) (W : World) (ha : W.cell? a = some (.pointer (some p))) :
    (ReflectliteValue.method (ReflectliteValue.valueError "reflectlite.Value.Elem" 0) ReflectliteValue.elem #[.agg #[.pointer (some ⟨4, 124, none⟩), .pointer (some a), .int .u64 150]]).run Tryz.prog W
      = .ok (.agg #[.pointer (some ⟨4, 77, none⟩), .pointer (some p), .int .u64 406]) W := by
  rw [rlm9]
  simp only [Sem.run_bind, partsPP, Result.andThen]
  simp [ReflectliteValue.elem, loadVar, isAgg, underlying, Tryz.underlying124, ha, Result.andThen, elemOfPP, mkP]
theorem rls9 (v x : Value) : ReflectliteValue.set #[v, x] = (do
    let (some (dst, a, fl), some (src, b, _)) := (← ReflectliteValue.parts v, ← ReflectliteValue.parts x)
      | unsupported (.noEntry "extern/(internal/reflectlite.Value).Set.zeroValue")
    if fl / ReflectliteValue.flagAddr % 2 == 0 then unsupported (.noEntry "extern/(internal/reflectlite.Value).Set.unaddressable")
    let val ← loadVar src b
    if ← Rtype.directlyAssignable dst src then storeVar dst a val
    else if ← Rtype.implements dst src then
      if (← Rtype.kind src) == 20 then
        match val with
        | .nilIface => unsupported (.noEntry "extern/reflectlite: a nil value of one interface type handed on as a value of another")
        | _ => storeVar dst a val
      else storeVar dst a (.iface src val)
    else panicString ("reflectlite.Set: value of type " ++ (← Rtype.spelt src) ++ " is not assignable to type " ++ (← Rtype.spelt dst))
    pure (.tuple #[])) := rfl
theorem partsPa (a : Addr) (w : World) : (ReflectliteValue.parts (.agg #[.pointer (some ⟨4, 77, none⟩), .pointer (some a), .int .u64 406])).run Tryz.prog w = .ok (some (77, a, 406)) w := by kernel_rfl
theorem partsP (a : Addr) (w : World) : (ReflectliteValue.parts (.agg #[.pointer (some ⟨4, 77, none⟩), .pointer (some a), .int .u64 150])).run Tryz.prog w = .ok (some (77, a, 150)) w := by kernel_rfl
theorem directP (w : World) : (Rtype.directlyAssignable 77 77).run Tryz.prog w = .ok true w := by kernel_rfl
theorem setP (ta b e : Addr) (old : Value) (W : World) (hb : W.cell? b = some (.pointer (some e))) (ht : W.cell? ta = some old) (hf : W.frozen? ta = false) :
    (ReflectliteValue.set #[.agg #[.pointer (some ⟨4, 77, none⟩), .pointer (some ta), .int .u64 406], .agg #[.pointer (some ⟨4, 77, none⟩), .pointer (some b), .int .u64 150]]).run Tryz.prog W
      = .ok (.tuple #[]) (W.setCell ta (.pointer (some e))) := by
  rw [rls9]
  simp only [Sem.run_bind, partsPa, partsP, Result.andThen]
  simp [ReflectliteValue.flagAddr, loadVar, isAgg, underlying, Tryz.underlying77, hb, Result.andThen, directP, storeVar, Value.cells, storeCells, Addr.add]
  rw [run_store Tryz.prog W ta _ _ (by rfl)]
  simp [ht, hf]
/-- The variable that errors.As reads: the handle of the type error. -/
def ErrT (w : World) : Prop := w.cell? ⟨0, 0, none⟩ = some (.iface 211 (.agg #[.pointer (some ⟨4, 27, none⟩)]))
end Go.Proofs.YtflnlenkgbphpaaGreatDoor

namespace Go.Proofs.YtflnlenkgbphpaaGreatDoor
open Go.RowKit Go.Extern.Stop Go.Stop Go.Extern

abbrev hP : Value := .pointer (some ⟨4, 77, none⟩)
set_option maxHeartbeats 4000000 in
theorem asIn_hit (e t a : Addr) (old : Value) (w : World) (ha : w.cell? a = some (.pointer (some t))) (ht0 : w.cell? t = some old) (hf0 : w.frozen? t = false) :
    Calls Tryz.prog 95 #[.iface 77 (.pointer (some e)), .iface 124 (.pointer (some t)), .agg #[.pointer (some ⟨4, 124, none⟩), .pointer (some a), .int .u64 150], .iface 211 (.agg #[.pointer (some ⟨4, 77, none⟩)])] w
      fun ev w' => ev = .returned (.bool true) ∧ w' = ((w.alloc (.cells #[.pointer (some ⟨4, 124, none⟩), .pointer (some a), .int .u64 150] 169)).alloc (.cells #[.pointer (some e)] 77)).setCell t (.pointer (some e)) := by
  have h10 := @run_callFunc_extern Tryz.prog 124 _ ReflectliteType.typeOf Tryz.func124 (by kernel_rfl) (by kernel_rfl) (by kernel_rfl) (by kernel_rfl)
  have h35 := @run_callFunc_extern Tryz.prog 222 _ (ReflectliteType.relation "AssignableTo" ReflectliteType.assignableTo) Tryz.func222 (by kernel_rfl) (by kernel_rfl) (by kernel_rfl) (by kernel_rfl)
  have h6 := @run_callFunc_extern Tryz.prog 92 _ (fun args => ReflectliteValue.unpack (args.getD 0 (.tuple #[]))) Tryz.func92 (by kernel_rfl) (by kernel_rfl) (by kernel_rfl) (by kernel_rfl)
  have h11 := @run_callFunc_extern Tryz.prog 125 _ (ReflectliteValue.method (ReflectliteValue.valueError "reflectlite.Value.Elem" 0) ReflectliteValue.elem) Tryz.func125 (by kernel_rfl) (by kernel_rfl) (by kernel_rfl) (by kernel_rfl)
  have h12 := @run_callFunc_extern Tryz.prog 126 _ ReflectliteValue.set Tryz.func126 (by kernel_rfl) (by kernel_rfl) (by kernel_rfl) (by kernel_rfl)
  have tO := typeOfP
  have mA := methodAssignableTo
  have a25 := assignableP
  have v25 := valueOfP
  have htl : t.block < w.heap.size := by
    rcases Nat.lt_or_ge t.block w.heap.size with h | h
    · exact h
    · simp [World.cell?, Array.getElem?_eq_none h] at ht0
  have hal : a.block < w.heap.size := by
    rcases Nat.lt_or_ge a.block w.heap.size with h | h
    · exact h
    · simp [World.cell?, Array.getElem?_eq_none h] at ha
  have el := elemVPP a t (w.alloc (.cells #[.pointer (some ⟨4, 124, none⟩), .pointer (some a), .int .u64 150] 169)) (by rw [World.cell?_alloc_lt _ _ a hal]; exact ha)
  have st := setP t ⟨w.heap.size + 1, 0, none⟩ e old ((w.alloc (.cells #[.pointer (some ⟨4, 124, none⟩), .pointer (some a), .int .u64 150] 169)).alloc (.cells #[.pointer (some e)] 77))
    (by rw [World.cell?_alloc_at _ _ _ _ (by simp)]; rfl)
    (by rw [World.cell?_alloc_lt _ _ t (by simp; omega), World.cell?_alloc_lt _ _ t htl]; exact ht0)
    (by rw [World.frozen?_alloc_old _ _ t (by simp; omega), World.frozen?_alloc_old _ _ t (Nat.ne_of_lt htl)]; exact hf0)
  go_enter Tryz.func95, Tryz.ntmps95
  go_wp2
  refine wp_loop_rounds 1 ?_
  rw [rounds_succ]
  go_wp2
  go_ret
  exact ⟨rfl, rfl⟩
theorem noAsE (v : Value) (xT : TypeId) (w : World) : (Instr.typeAssert (.iface 70 v) xT 216 true).run Tryz.prog w = .ok (.tuple #[.nilIface, .bool false]) w := run_typeAssert_lacksB Tryz.underlying216 (by kernel_rfl) (by kernel_rfl) v xT w
theorem noUnE (v : Value) (xT : TypeId) (w : World) : (Instr.typeAssert (.iface 70 v) xT 219 true).run Tryz.prog w = .ok (.tuple #[.nilIface, .bool false]) w := run_typeAssert_lacksB Tryz.underlying219 (by kernel_rfl) (by kernel_rfl) v xT w
theorem noUnsE (v : Value) (xT : TypeId) (w : World) : (Instr.typeAssert (.iface 70 v) xT 220 true).run Tryz.prog w = .ok (.tuple #[.nilIface, .bool false]) w := run_typeAssert_lacksB Tryz.underlying220 (by kernel_rfl) (by kernel_rfl) v xT w
set_option maxRecDepth 100000 in
set_option maxHeartbeats 4000000 in
theorem asIn_miss (n : Int) (t a : Addr) (w : World) :
    Calls Tryz.prog 95 #[.iface 70 (.int .i64 n), .iface 124 (.pointer (some t)), .agg #[.pointer (some ⟨4, 124, none⟩), .pointer (some a), .int .u64 150], .iface 211 (.agg #[.pointer (some ⟨4, 77, none⟩)])] w
      fun ev w' => ev = .returned (.bool false) ∧ Below w.heap.size w w' := by
  have h10 := @run_callFunc_extern Tryz.prog 124 _ ReflectliteType.typeOf Tryz.func124 (by kernel_rfl) (by kernel_rfl) (by kernel_rfl) (by kernel_rfl)
  have h35 := @run_callFunc_extern Tryz.prog 222 _ (ReflectliteType.relation "AssignableTo" ReflectliteType.assignableTo) Tryz.func222 (by kernel_rfl) (by kernel_rfl) (by kernel_rfl) (by kernel_rfl)
  have tO := typeOfE
  have mA := methodAssignableTo
  have a25 := assignableE
  have n1 := noAsE
  have n2 := noUnE
  have n3 := noUnsE
  go_enter Tryz.func95, Tryz.ntmps95
  go_wp2
  refine wp_loop_rounds 1 ?_
  rw [rounds_succ]
  go_wp2
  go_ret
  exact ⟨rfl, (Below.refl _ _).alloc (Nat.le_refl _) _⟩
end Go.Proofs.YtflnlenkgbphpaaGreatDoor

namespace Go.Proofs.YtflnlenkgbphpaaGreatDoor
open Go.RowKit Go.Extern.Stop Go.Stop Go.Extern

theorem ErrT.below {w w' : World} {N : Nat} (h : ErrT w) (hb : Below N w w') (hN : w.heap.size ≤ N) : ErrT w' := by
  have hlt : 0 < w.heap.size := World.block_lt_of_cell? w _ h
  exact (hb.cell (p := ⟨0, 0, none⟩) (Nat.lt_of_lt_of_le hlt hN)).trans h
theorem ErrT.low {w w' : World} {N : Nat} (h : ErrT w) (hb : Below N w w') (hN : 0 < N) : ErrT w' :=
  (hb.cell (p := ⟨0, 0, none⟩) hN).trans h
set_option maxRecDepth 100000 in
set_option maxHeartbeats 4000000 in
theorem as_hit (e t : Addr) (old : Value) (w : World) (hg : ErrT w) (ht0 : w.cell? t = some old) (hf0 : w.frozen? t = false) :
    Calls Tryz.prog 66 #[.iface 77 (.pointer (some e)), .iface 124 (.pointer (some t))] w
      fun ev w' => ev = .returned (.bool true) ∧ ∃ w1, Below w.heap.size w w1 ∧ w' = w1.setCell t (.pointer (some e)) := by
  have h6 := @run_callFunc_extern Tryz.prog 92 _ (fun args => ReflectliteValue.unpack (args.getD 0 (.tuple #[]))) Tryz.func92 (by kernel_rfl) (by kernel_rfl) (by kernel_rfl) (by kernel_rfl)
  have h7 := @run_callFunc_extern Tryz.prog 93 _ (ReflectliteValue.methodAny (ReflectliteValue.valueError "reflectlite.Value.Type" 0) (fun t _ _ _ => ReflectliteType.toType t)) Tryz.func93 (by kernel_rfl) (by kernel_rfl) (by kernel_rfl) (by kernel_rfl)
  have h8 := @run_callFunc_extern Tryz.prog 94 _ (ReflectliteValue.method (ReflectliteValue.valueError "reflectlite.Value.IsNil" 0) ReflectliteValue.isNil) Tryz.func94 (by kernel_rfl) (by kernel_rfl) (by kernel_rfl) (by kernel_rfl)
  have h27 := @run_callFunc_extern Tryz.prog 211 _ (ReflectliteType.abiMethod fun t => do pure (.int .u8 (← Rtype.kind t))) Tryz.func211 (by kernel_rfl) (by kernel_rfl) (by kernel_rfl) (by kernel_rfl)
  have h37 := @run_callFunc_extern Tryz.prog 224 _ (ReflectliteType.method ReflectliteType.elem) Tryz.func224 (by kernel_rfl) (by kernel_rfl) (by kernel_rfl) (by kernel_rfl)
  have h38 := @run_callFunc_extern Tryz.prog 225 _ (ReflectliteType.relation "Implements" ReflectliteType.implements_) Tryz.func225 (by kernel_rfl) (by kernel_rfl) (by kernel_rfl) (by kernel_rfl)
  have f6 := valueOfPP
  have f7 := typePP
  have mK := methodKind
  have mE := methodElem
  have mI := methodImplements
  have k27 := kindPP
  have k25 := kindP
  have e27 := elemPP
  have i25 := implementsP
  have htl : t.block < w.heap.size := by
    rcases Nat.lt_or_ge t.block w.heap.size with h | h
    · exact h
    · simp [World.cell?, Array.getElem?_eq_none h] at ht0
  obtain ⟨wa, hwa⟩ : ∃ wa, wa = (w.alloc (.cells #[.pointer (some t)] 124)).alloc (.cells #[.pointer (some ⟨4, 124, none⟩), .pointer (some ⟨w.heap.size, 0, none⟩), .int .u64 150] 169) := ⟨_, rfl⟩
  have hba : Below w.heap.size w wa := by rw [hwa]; exact ((Below.refl _ w).alloc (Nat.le_refl _) _).alloc (by simp) _
  have n8 := isNilPP ⟨w.heap.size, 0, none⟩ t wa (by rw [hwa]; simp)
  have hg2 : wa.cell? ⟨0, 0, none⟩ = some (.iface 211 (.agg #[.pointer (some ⟨4, 27, none⟩)])) := hg.below hba (Nat.le_refl _)
  have HI := Lib.hid (asIn_hit e t ⟨w.heap.size, 0, none⟩ old wa (by rw [hwa]; simp) ((hba.cell htl).trans ht0) ((hba.frozen htl).trans hf0))
  have HB := Lib.hid hba
  subst hwa
  clear hba
  go_enter Tryz.func66, Tryz.ntmps66
  go_wp2_with fail
  refine HI.out.mono ?_
  rintro ev w2 ⟨rfl, rfl⟩
  go_wp2_with fail
  go_ret
  exact ⟨rfl, _, (HB.out.alloc HB.out.size _).alloc (HB.out.alloc HB.out.size _).size _, rfl⟩
set_option maxRecDepth 100000 in
set_option maxHeartbeats 4000000 in
theorem as_miss (n : Int) (t : Addr) (w : World) (hg : ErrT w) :
    Calls Tryz.prog 66 #[.iface 70 (.int .i64 n), .iface 124 (.pointer (some t))] w
      fun ev w' => ev = .returned (.bool false) ∧ Below w.heap.size w w' := by
  have h6 := @run_callFunc_extern Tryz.prog 92 _ (fun args => ReflectliteValue.unpack (args.getD 0 (.tuple #[]))) Tryz.func92 (by kernel_rfl) (by kernel_rfl) (by kernel_rfl) (by kernel_rfl)
  have h7 := @run_callFunc_extern Tryz.prog 93 _ (ReflectliteValue.methodAny (ReflectliteValue.valueError "reflectlite.Value.Type" 0) (fun t _ _ _ => ReflectliteType.toType t)) Tryz.func93 (by kernel_rfl) (by kernel_rfl) (by kernel_rfl) (by kernel_rfl)
  have h8 := @run_callFunc_extern Tryz.prog 94 _ (ReflectliteValue.method (ReflectliteValue.valueError "reflectlite.Value.IsNil" 0) ReflectliteValue.isNil) Tryz.func94 (by kernel_rfl) (by kernel_rfl) (by kernel_rfl) (by kernel_rfl)
  have h27 := @run_callFunc_extern Tryz.prog 211 _ (ReflectliteType.abiMethod fun t => do pure (.int .u8 (← Rtype.kind t))) Tryz.func211 (by kernel_rfl) (by kernel_rfl) (by kernel_rfl) (by kernel_rfl)
  have h37 := @run_callFunc_extern Tryz.prog 224 _ (ReflectliteType.method ReflectliteType.elem) Tryz.func224 (by kernel_rfl) (by kernel_rfl) (by kernel_rfl) (by kernel_rfl)
  have h38 := @run_callFunc_extern Tryz.prog 225 _ (ReflectliteType.relation "Implements" ReflectliteType.implements_) Tryz.func225 (by kernel_rfl) (by kernel_rfl) (by kernel_rfl) (by kernel_rfl)
  have f6 := valueOfPP
  have f7 := typePP
  have mK := methodKind
  have mE := methodElem
  have mI := methodImplements
  have k27 := kindPP
  have k25 := kindP
  have e27 := elemPP
  have i25 := implementsP
  obtain ⟨wa, hwa⟩ : ∃ wa, wa = (w.alloc (.cells #[.pointer (some t)] 124)).alloc (.cells #[.pointer (some ⟨4, 124, none⟩), .pointer (some ⟨w.heap.size, 0, none⟩), .int .u64 150] 169) := ⟨_, rfl⟩
  have hba : Below w.heap.size w wa := by rw [hwa]; exact ((Below.refl _ w).alloc (Nat.le_refl _) _).alloc (by simp) _
  have n8 := isNilPP ⟨w.heap.size, 0, none⟩ t wa (by rw [hwa]; simp)
  have hg2 : wa.cell? ⟨0, 0, none⟩ = some (.iface 211 (.agg #[.pointer (some ⟨4, 27, none⟩)])) := hg.below hba (Nat.le_refl _)
  have HI := Lib.hid (asIn_miss n t ⟨w.heap.size, 0, none⟩ wa)
  have HB := Lib.hid hba
  subst hwa
  clear hba
  go_enter Tryz.func66, Tryz.ntmps66
  go_wp2_with fail
  refine HI.out.mono ?_
  rintro ev w2 ⟨rfl, b2⟩
  go_wp2_with fail
  go_ret
  exact ⟨rfl, HB.out.trans (b2.mono HB.out.size)⟩
end Go.Proofs.YtflnlenkgbphpaaGreatDoor

namespace Go.Proofs.YtflnlenkgbphpaaGreatDoor
open Go.RowKit Go.Shelf
attribute [local go_sem] Oper.semAt_some

/-- A batch that can be read. -/
def EdV (w : World) (v : Value) (eds : List Ed) : Prop :=
  ∃ A cap, v = .slice A eds.length cap ∧ eds.length ≤ cap ∧ ∀ (i : Nat) (ed : Ed), eds[i]? = some ed → ∃ b off fv, A = some ⟨b, off, none⟩ ∧ b < w.heap.size ∧ w.cell? ⟨b, off + i * 3, none⟩ = some (.int .i64 ed.kind) ∧ w.cell? ⟨b, off + i * 3 + 1, none⟩ = some (.int .i64 ed.id) ∧ w.cell? ⟨b, off + i * 3 + 1 + 1, none⟩ = some fv ∧ FldR w fv ed.fields
theorem EdV.below {w w' : World} {v : Value} {eds : List Ed} {N : Nat} (h : EdV w v eds) (hb : Below N w w') (hN : w.heap.size ≤ N) : EdV w' v eds := by
  obtain ⟨A, cap, e, hle, hc⟩ := h
  refine ⟨A, cap, e, hle, fun i ed hi => ?_⟩
  obtain ⟨b, off, fv, e1, hbb, c0, c1, c2, hf⟩ := hc i ed hi
  have hbN : b < N := by omega
  exact ⟨b, off, fv, e1, Nat.lt_of_lt_of_le hbb hb.size, (hb.cell (p := ⟨b, off + i * 3, none⟩) hbN).trans c0, (hb.cell (p := ⟨b, off + i * 3 + 1, none⟩) hbN).trans c1, (hb.cell (p := ⟨b, off + i * 3 + 1 + 1, none⟩) hbN).trans c2, hf.below hb hN⟩
theorem EdsIn.edv {w : World} {v : Value} {eds : List Ed} (h : EdsIn w v eds) : EdV w v eds := by
  obtain ⟨_, A, cap, e, hle, hc⟩ := h
  refine ⟨A, cap, e, hle, fun i ed hi => ?_⟩
  obtain ⟨b, off, fv, e1, hbb, c0, c1, c2, hf⟩ := hc i ed hi
  exact ⟨b, off, fv, e1, hbb, c0, c1, c2, hf.flds, hf.nil⟩
/-- Fields of a size that is walked. -/
def Fines (eds : List Ed) : Prop := ∀ ed ∈ eds, Fine7 ed.fields
theorem Light.fines {eds : List Ed} (h : Light eds) : Fines eds := fun _ he => h.fine he
theorem ErrZ.mono {lo lo' : Nat} {w : World} {u : Value} {a : Int} {n : Nat} (h : ErrZ lo w u a n) (hl : lo' ≤ lo) : ErrZ lo' w u a n := by
  obtain ⟨h1, h2⟩ := h
  refine ⟨h1, ?_⟩
  rcases h2 with h2 | ⟨k, h3, h4⟩
  · exact .inl h2
  · exact .inr ⟨k, h3.mono hl, h4⟩
theorem ErrZ.fault {lo : Nat} {w : World} {u : Value} {k n : Nat} (h : FaultAt lo w u k n) (hn : n ≠ 0) (h11 : n ≤ 11) : ErrZ lo w u (k : Nat) n := ⟨h11, .inr ⟨k, h, rfl, hn⟩⟩
set_option maxRecDepth 100000 in
set_option maxHeartbeats 4000000 in
theorem fault_any {lo : Nat} (k n : Nat) (a : Int) (u : Value) (w : World) (h : ErrZ lo w u a n) (hn : n ≠ 0) (hg : ErrT w) :
    Calls Tryz.prog 39 #[.int .i64 (k : Nat), u] w fun e w' => ∃ u', e = .returned u' ∧ Below w.heap.size w w' ∧ FaultAt w.heap.size w' u' k n := by
  obtain ⟨_, h⟩ := h
  obtain ⟨wa, hwa⟩ : ∃ wa, wa = w.alloc (.cells #[.pointer none] 77) := ⟨_, rfl⟩
  have hba : Below w.heap.size w wa := by rw [hwa]; exact (Below.refl _ w).alloc (Nat.le_refl _) _
  have hga : ErrT wa := hg.below hba (Nat.le_refl _)
  have ht : wa.cell? ⟨w.heap.size, 0, none⟩ = some (.pointer none) := by rw [hwa]; simp
  have hf : wa.frozen? ⟨w.heap.size, 0, none⟩ = false := by rw [hwa]; simp
  have hz : wa.heap.size = w.heap.size + 1 := by rw [hwa]; simp
  rcases h with ⟨rfl, _⟩ | ⟨k', ⟨q, _, rfl, hq⟩, _, _⟩
  · rw [errV_pos n (by omega)]
    have HM := Lib.hid (as_miss (n : Int) ⟨w.heap.size, 0, none⟩ wa hga)
    have HBA := Lib.hid hba
    have FIN : Hid (∀ W, Below wa.heap.size wa W → FaultAt w.heap.size (W.alloc (.cells #[.int .i64 (k : Nat), .iface 70 (.int .i64 (n : Nat))] 80)) (.iface 77 (.pointer (some ⟨W.heap.size, 0, none⟩))) k n) := by
      intro W hW
      rw [← errV_pos n (by omega)]
      exact FaultAt.new W k n _ _ rfl (by have := hW.size; omega)
    clear hba hga ht hf
    subst hwa
    go_enter Tryz.func39, Tryz.ntmps39
    go_wp2_with fail
    refine HM.out.mono ?_
    rintro e w2 ⟨rfl, b2⟩
    have F2 := FIN.out w2 b2
    have B2 : Below w.heap.size w w2 := HBA.out.trans (b2.mono HBA.out.size)
    go_wp2_with fail
    go_ret
    exact ⟨_, rfl, B2.alloc B2.size _, F2⟩
  · have hql := hq.lt
    have HM := Lib.hid (as_hit ⟨q, 0, none⟩ ⟨w.heap.size, 0, none⟩ (.pointer none) wa hga ht hf)
    have HBA := Lib.hid hba
    have HQ : Hid (∀ w1, Below wa.heap.size wa w1 → (w1.setCell ⟨w.heap.size, 0, none⟩ (.pointer (some ⟨q, 0, none⟩))).cell? ⟨w.heap.size, 0, none⟩ = some (.pointer (some ⟨q, 0, none⟩)) ∧ (w1.setCell ⟨w.heap.size, 0, none⟩ (.pointer (some ⟨q, 0, none⟩))).cell? ⟨q, 1, none⟩ = some (.iface 70 (.int .i64 (n : Nat))) ∧ Below w.heap.size w (w1.setCell ⟨w.heap.size, 0, none⟩ (.pointer (some ⟨q, 0, none⟩)))) := by
      intro w1 b1
      have hb : Below w.heap.size w w1 := hba.trans (b1.mono hba.size)
      have c1 : Cells w1 w.heap.size 77 #[.pointer none] := cells_kept (by rw [hwa]; exact Cells.new _ _ _) b1 (by omega)
      have c1' := c1.set 0 (.pointer (some ⟨q, 0, none⟩))
      have cq : Cells w1 q 80 #[.int .i64 k', errV n] := cells_kept hq hb hql
      have cq' : Cells (w1.setCell ⟨w.heap.size, 0, none⟩ (.pointer (some ⟨q, 0, none⟩))) q 80 #[.int .i64 k', errV n] := cq.other (p := ⟨w.heap.size, 0, none⟩) (by show q ≠ w.heap.size; omega) _
      refine ⟨?_, ?_, hb.setCell (p := ⟨w.heap.size, 0, none⟩) (Nat.le_refl _) _⟩
      · rw [c1'.cell 0]; rfl
      · rw [← errV_pos n (by omega), cq'.cell 1]; rfl
    have FIN : Hid (∀ W : World, w.heap.size ≤ W.heap.size → FaultAt w.heap.size (W.alloc (.cells #[.int .i64 (k : Nat), .iface 70 (.int .i64 (n : Nat))] 80)) (.iface 77 (.pointer (some ⟨W.heap.size, 0, none⟩))) k n) := by
      intro W hW
      rw [← errV_pos n (by omega)]
      exact FaultAt.new W k n _ _ rfl hW
    clear hba hga ht hf hq
    subst hwa
    go_enter Tryz.func39, Tryz.ntmps39
    go_wp2_with fail
    refine HM.out.mono ?_
    rintro e w2 ⟨rfl, w1, b1, hw2⟩
    obtain ⟨c1, c2, hb⟩ := HQ.out w1 b1
    rw [← hw2] at c1 c2 hb
    have F2 := FIN.out w2 hb.size
    clear hw2 HQ b1 HM
    go_wp2_with fail
    go_ret
    exact ⟨_, rfl, hb.alloc hb.size _, F2⟩
set_option maxRecDepth 100000 in
set_option maxHeartbeats 4000000 in
theorem chkE_any (ed : Ed) (fv : Value) (w : World) (h : Flds w fv ed.fields) (hf : Fine7 ed.fields) :
    Calls Tryz.prog 38 #[.agg #[.int .i64 ed.kind, .int .i64 ed.id, fv]] w fun e w' => ∃ u a, e = .returned u ∧ Below w.heap.size w w' ∧ ErrZ w.heap.size w' u a (goodE ed) := by
  obtain ⟨fa, fc, rfl, _, _⟩ := _root_.id h
  obtain ⟨wa, hwa⟩ : ∃ wa, wa = w.alloc (.cells #[.int .i64 ed.kind, .int .i64 ed.id, .slice fa ed.fields.length fc] 33) := ⟨_, rfl⟩
  have hba : Below w.heap.size w wa := by rw [hwa]; exact (Below.refl _ w).alloc (Nat.le_refl _) _
  have HC := Lib.hid (chk_any ed.fields (.slice fa ed.fields.length fc) wa (h.below hba (Nat.le_refl _)) (by have := hf.len; omega) (fun f hm => by have := hf.each f hm; omega))
  have HB := Lib.hid hba
  have GE := Lib.hid (show goodE ed = if ed.kind = 1 ∨ ed.kind = 3 then chkN ed.fields else if ed.kind = 2 ∧ ed.fields.length = 0 then 0 else 2 from rfl)
  have FIN : Hid (∀ W u, ErrZ wa.heap.size W u (chkAt ed.fields) (chkN ed.fields) → goodE ed = chkN ed.fields → ∃ a, ErrZ w.heap.size W u a (goodE ed)) := by
    intro W u hz hg
    rw [hg]
    exact ⟨_, hz.mono hba.size⟩
  have HZ : Hid (∀ W u, ChkV wa.heap.size W u ed.fields → ErrZ wa.heap.size W u (chkAt ed.fields) (chkN ed.fields)) := fun W u h => ErrZ.of h
  have E0 : Hid (∀ W, goodE ed = 0 → ErrZ w.heap.size W .nilIface (-9) (goodE ed)) := fun W h => by rw [h]; exact ErrZ.none _ _
  have E2 : Hid (∀ W, goodE ed = 2 → ErrZ w.heap.size W (.iface 70 (.int .i64 2)) (-9) (goodE ed)) := fun W h => by rw [h]; exact ErrZ.err _ _ 2 (by decide)
  have hlz : ((ed.fields.length : Int) == 0) = decide (ed.fields.length = 0) := by
    rw [Bool.eq_iff_iff]; simp
  clear hba h
  subst hwa
  generalize hgg : goodE ed = ge at *
  generalize chkN ed.fields = cn at *
  generalize chkAt ed.fields = ca at *
  generalize ed.fields.length = fl at *
  generalize ed.kind = kk at *
  generalize ed.id = ii at *
  clear hgg
  by_cases h1 : kk = 1
  · subst h1
    have hg : ge = cn := by rw [GE.out, if_pos (.inl rfl)]
    go_enter Tryz.func38, Tryz.ntmps38
    go_wp2_with fail
    refine HC.out.mono ?_
    rintro e w2 ⟨u, rfl, b2, hu⟩
    obtain ⟨a, F2⟩ := FIN.out w2 u (HZ.out w2 u hu) hg
    go_wp2_with fail
    go_ret
    first | exact ⟨_, rfl, HB.out.trans (b2.mono HB.out.size), a, F2⟩ | exact ⟨_, a, rfl, HB.out.trans (b2.mono HB.out.size), F2⟩
  · by_cases h3 : kk = 3
    · subst h3
      have hg : ge = cn := by rw [GE.out, if_pos (.inr rfl)]
      go_enter Tryz.func38, Tryz.ntmps38
      go_wp2_with fail
      refine HC.out.mono ?_
      rintro e w2 ⟨u, rfl, b2, hu⟩
      obtain ⟨a, F2⟩ := FIN.out w2 u (HZ.out w2 u hu) hg
      go_wp2_with fail
      go_ret
      first | exact ⟨_, rfl, HB.out.trans (b2.mono HB.out.size), a, F2⟩ | exact ⟨_, a, rfl, HB.out.trans (b2.mono HB.out.size), F2⟩
    · have q1 : (kk == 1) = false := by simpa using h1
      have q3 : (kk == 3) = false := by simpa using h3
      by_cases h2 : kk = 2
      · subst h2
        by_cases h0 : fl = 0
        · have hg : ge = 0 := by rw [GE.out, if_neg (by omega), if_pos ⟨rfl, h0⟩]
          have F := E0.out (w.alloc (.cells #[.int .i64 2, .int .i64 ii, .slice fa fl fc] 33)) hg
          clear hg GE E0 E2 FIN HZ
          subst h0
          go_enter Tryz.func38, Tryz.ntmps38
          go_wp2_with fail
          go_ret
          first | exact ⟨_, rfl, HB.out, _, F⟩ | exact ⟨_, _, rfl, HB.out, F⟩
        · have hg : ge = 2 := by rw [GE.out, if_neg (by omega), if_neg (by intro h; exact h0 h.2)]
          have F := E2.out (w.alloc (.cells #[.int .i64 2, .int .i64 ii, .slice fa fl fc] 33)) hg
          clear hg GE E0 E2 FIN HZ
          rw [decide_eq_false h0] at hlz
          go_enter Tryz.func38, Tryz.ntmps38
          go_wp2_with fail
          go_ret
          first | exact ⟨_, rfl, HB.out, _, F⟩ | exact ⟨_, _, rfl, HB.out, F⟩
      · have q2 : (kk == 2) = false := by simpa using h2
        have hg : ge = 2 := by rw [GE.out, if_neg (by omega), if_neg (by intro h; exact h2 h.1)]
        have F := E2.out (w.alloc (.cells #[.int .i64 kk, .int .i64 ii, .slice fa fl fc] 33)) hg
        clear hg GE E0 E2 FIN HZ
        go_enter Tryz.func38, Tryz.ntmps38
        go_wp2_with fail
        go_ret
        first | exact ⟨_, rfl, HB.out, _, F⟩ | exact ⟨_, _, rfl, HB.out, F⟩
set_option maxRecDepth 100000 in
set_option maxHeartbeats 4000000 in
/-- Check: nil, or the first edit that isn't good. -/
theorem checkB_any (eds : List Ed) (v : Value) (w : World) (h : EdV w v eds) (hl : eds.length ≤ 1000000) (hf : Fines eds) (hg : ErrT w) :
    Calls Tryz.prog 11 #[v] w fun e w' => ∃ u, e = .returned u ∧ Below w.heap.size w w' ∧ ErrZ w.heap.size w' u (chkB eds).1 (chkB eds).2 := by
  obtain ⟨A, cap, rfl, hle, hc⟩ := h
  have PC := Lib.hid hc
  have HF := Lib.hid hf
  have HG := Lib.hid hg
  clear hc hf hg
  by_cases h0 : eds.length = 0
  · have e0 : chkB eds = (-9, 1) := by unfold chkB; rw [if_pos (by omega)]
    rw [e0, h0]
    have F := ErrZ.err w.heap.size w 1 (by decide)
    rw [show errV 1 = .iface 70 (.int .i64 1) from rfl] at F
    go_enter Tryz.func11, Tryz.ntmps11
    go_wp2_with fail
    go_ret
    exact ⟨_, rfl, Below.refl _ _, F⟩
  have q0 : ((eds.length : Int) == 0) = false := by simp; intro h; exact h0 (by rw [h]; rfl)
  by_cases h40 : 40 < eds.length
  · have e0 : chkB eds = (-9, 1) := by unfold chkB; rw [if_pos (by omega)]
    rw [e0]
    have F := ErrZ.err w.heap.size w 1 (by decide)
    rw [show errV 1 = .iface 70 (.int .i64 1) from rfl] at F
    go_enter Tryz.func11, Tryz.ntmps11
    go_wp2_with fail
    go_ret
    exact ⟨_, rfl, Below.refl _ _, F⟩
  have e1 : chkB eds = chkOn 0 eds := by unfold chkB; rw [if_neg (by omega)]
  rw [e1]
  go_enter Tryz.func11, Tryz.ntmps11
  go_wp2_with fail
  go_loopw [17] (fun i wr => ∃ k : Nat, k ≤ eds.length ∧ i = .int .i64 k ∧ (∀ x ∈ eds.take k, goodE x = 0) ∧ Below w.heap.size w wr) (fun i _ => eds.length - (intOf i).toNat)
  case atStart => exact ⟨0, Nat.zero_le _, rfl, (fun x hx => by simp at hx), Below.refl _ _⟩
  case round =>
    obtain ⟨k, hk, rfl, hsm, hb⟩ := hrel
    by_cases hlt : k < eds.length
    · obtain ⟨ed, hed⟩ : ∃ ed, eds[k]? = some ed := ⟨_, List.getElem?_eq_getElem hlt⟩
      obtain ⟨b, off, fv, rfl, hbb, c0, c1, c2, hfl⟩ := PC.out k ed hed
      obtain ⟨fa, fc, rfl, _, _⟩ := _root_.id hfl.1
      replace c0 := (hb.cell (p := ⟨b, off + k * 3, none⟩) hbb).trans c0
      replace c1 := (hb.cell (p := ⟨b, off + k * 3 + 1, none⟩) hbb).trans c1
      replace c2 := (hb.cell (p := ⟨b, off + k * 3 + 1 + 1, none⟩) hbb).trans c2
      obtain ⟨wa, hwa⟩ : ∃ wa, wa = wr.alloc (.cells #[.int .i64 ed.kind, .int .i64 ed.id, .slice fa ed.fields.length fc] 33) := ⟨_, rfl⟩
      have hba : Below w.heap.size w wa := by rw [hwa]; exact hb.alloc hb.size _
      have CK := Lib.hid (chkE_any ed (.slice fa ed.fields.length fc) wa (hfl.1.below hba (Nat.le_refl _)) (HF.out ed (List.mem_of_getElem? hed)))
      have SM : Hid (goodE ed = 0 → ∀ x ∈ eds.take (k + 1), goodE x = 0) := fun hz x hx => by
        rw [take_snoc hed] at hx
        rcases List.mem_append.1 hx with hx | hx
        · exact hsm x hx
        · rw [List.mem_singleton.1 hx]; exact hz
      have AT : Hid (goodE ed ≠ 0 → chkOn 0 eds = (((k : Nat) : Int), goodE ed)) := fun hz => by rw [chkOn_at eds 0 k ed hsm hed hz, Nat.zero_add]
      have HBA := Lib.hid hba
      have hle11 := goodE_le ed
      clear hed hsm hfl hba
      generalize goodE ed = ge at *
      subst hwa
      go_wp2_with fail
      refine CK.out.mono ?_
      rintro e w2 ⟨u, a, rfl, b2, hz⟩
      have B2 := Lib.hid (HBA.out.trans (b2.mono HBA.out.size))
      by_cases hg0 : ge = 0
      · subst hg0
        obtain ⟨_, ⟨rfl, _⟩ | ⟨_, _, _, hx⟩⟩ := hz
        · have SM1 := Lib.hid (SM.out rfl)
          clear SM AT CK
          rw [show errV 0 = .nilIface from rfl]
          go_wp2_with fail
          go_roundw
          case rel => exact ⟨k + 1, hlt, by go_num, SM1.out, B2.out⟩
          case measure => simp [intOf]; omega
        · exact absurd rfl hx
      · have FA := Lib.hid (fault_any k ge a u w2 hz hg0 (HG.out.below B2.out (Nat.le_refl _)))
        have AT1 := AT.out hg0
        have hform : (∃ z, u = .iface 70 (.int .i64 z)) ∨ ∃ q, u = .iface 77 (.pointer (some ⟨q, 0, none⟩)) := by
          obtain ⟨_, ⟨rfl, _⟩ | ⟨_, ⟨q, _, rfl, _⟩, _, _⟩⟩ := hz
          · rw [errV_pos ge (by omega)]; exact .inl ⟨_, rfl⟩
          · exact .inr ⟨q, rfl⟩
        clear hz SM AT CK
        rcases hform with ⟨z, rfl⟩ | ⟨q, rfl⟩
        all_goals
          go_wp2_with fail
          refine FA.out.mono ?_
          rintro e w3 ⟨u', rfl, b3, hfa⟩
          have Z3 : Hid (ErrZ w.heap.size w3 u' (chkOn 0 eds).1 (chkOn 0 eds).2) := by
            show ErrZ _ _ _ _ _
            rw [AT1]; exact ErrZ.fault (hfa.mono B2.out.size) hg0 hle11
          have B3 := Lib.hid (B2.out.trans (b3.mono B2.out.size))
          clear hfa b3
          go_wp2_with fail
          go_ret
          exact ⟨_, rfl, B3.out, Z3.out⟩
    · obtain rfl : k = eds.length := by omega
      rw [List.take_length] at hsm
      have HZ : ErrZ w.heap.size wr .nilIface (chkOn 0 eds).1 (chkOn 0 eds).2 := by rw [chkOn_all eds 0 hsm]; exact ErrZ.none w.heap.size wr
      clear PC hsm
      go_wp2_with fail
      go_ret
      exact ⟨_, rfl, hb, HZ⟩
end Go.Proofs.YtflnlenkgbphpaaGreatDoor

