/- Directories: names and their files as a list, and the maps that hold them. -/
import Derived.Test.YtdfjkcdmbbmipaaVA
namespace Go.Proofs.Ytdfjkcdmbbmipaa
open Go.RowKit Go.Maps

abbrev Dir := List (List UInt8 × Nat)
def dlit (x : List UInt8 × Nat) : Lit × DataW Unit := (.string x.1, .lit (.int .i64 (x.2 : Int)))
def dmapD (l : Dir) : DataW Unit := .map (l.map dlit)
def dins (x : List UInt8 × Nat) : Dir → Dir
  | [] => [x]
  | y :: r => if bytesBefore x.1 y.1 then x :: y :: r else y :: dins x r
def ddel (l : Dir) (k : List UInt8) : Dir := l.filter fun p => !(p.1 == k)
def dput (l : Dir) (k : List UInt8) (f : Nat) : Dir := dins (k, f) (ddel l k)
def dget (l : Dir) (k : List UInt8) : Option Nat := (l.find? fun p => p.1 == k).map (·.2)

theorem dmapD_del (l : Dir) (k : List UInt8) : (dmapD l).del (.string k) = dmapD (ddel l k) := by
  unfold dmapD DataW.del ddel
  simp only [List.filter_map]
  rfl
theorem dins_map (x : List UInt8 × Nat) : ∀ l : Dir, DataW.insert (dlit x) (l.map dlit) = (dins x l).map dlit
  | [] => rfl
  | y :: r => by
    simp only [List.map_cons, DataW.insert, dins]
    by_cases h : bytesBefore x.1 y.1 = true
    · rw [if_pos h, if_pos (show (dlit x).1.before (dlit y).1 = true from h)]; rfl
    · rw [if_neg h, if_neg (show ¬ (dlit x).1.before (dlit y).1 = true from h), List.map_cons, dins_map x r]
theorem dmapD_put (l : Dir) (k : List UInt8) (f : Nat) : (dmapD l).put (.string k) (.lit (.int .i64 (f : Int))) = dmapD (dput l k f) := by
  unfold dmapD DataW.put dput ddel
  simp only [List.filter_map]
  exact congrArg DataW.map (dins_map (k, f) _)
theorem dmapD_has (l : Dir) (k : List UInt8) : Maps.has (dmapD l) (.string k) = (dget l k).isSome := by
  unfold dmapD dget
  rw [Maps.has_eq, List.any_map, Option.isSome_map, List.isSome_find?]
  rfl
theorem dmapD_at (l : Dir) (k : List UInt8) (z : DataW Unit) : (dmapD l).atKey (.string k) z = match dget l k with | some f => .lit (.int .i64 (f : Int)) | none => z := by
  unfold dmapD dget DataW.atKey
  simp only [List.find?_map]
  have e : ((fun p : Lit × DataW Unit => p.1.sameKey (Lit.string k)) ∘ dlit) = fun p : List UInt8 × Nat => p.1 == k := rfl
  rw [e]
  cases h : l.find? (fun p => p.1 == k) with
  | none => rfl
  | some p => rfl
theorem dput_length (l : Dir) (k : List UInt8) (f : Nat) : (dput l k f).length ≤ l.length + 1 := by
  have h1 : ∀ (x : List UInt8 × Nat) (l : Dir), (dins x l).length = l.length + 1 := by
    intro x l
    induction l with
    | nil => rfl
    | cons y r ih => unfold dins; split <;> simp [ih]
  unfold dput ddel
  rw [h1]
  have := List.length_filter_le (fun p : List UInt8 × Nat => !(p.1 == k)) l
  omega

theorem keyT : Keyed Try.prog 9 := string_keyed Try.underlying9
theorem zeroI (w : World) : (zeroValue 3).run Try.prog w = .ok (.int .i64 0) w := by kernel_rfl

theorem mapSome (b : Nat) (w : World) : (binOp .eql 70 (.map (some b)) (.map none)).run Try.prog w = .ok (.bool false) w := by kernel_rfl
theorem mapNil (w : World) : (binOp .eql 70 (.map none) (.map none)).run Try.prog w = .ok (.bool true) w := by kernel_rfl
/-- A value of the maps' type, of at most n entries, that reads as l. -/
def MapAt (W : World) (n : Nat) (v : Value) (l : Dir) : Prop :=
  (v = .map none ∧ l = []) ∨ ∃ b, v = .map (some b) ∧ W.ownsMap Try.prog 9 (plainElem Try.prog 3) b n (dmapD l)
def mapBlock : Value → Option Nat
  | .map b => b
  | _ => none
theorem MapAt.look {W : World} {n : Nat} {v : Value} {l : Dir} (h : MapAt W n v l) (s : ByteArray) (hs : s.size ≤ maxLen) :
    (Instr.lookup 70 v (.string s) true).run Try.prog W = .ok (.tuple #[.int .i64 ((dget l s.data.toList).getD 0 : Nat), .bool (dget l s.data.toList).isSome]) W := by
  rcases h with ⟨rfl, rfl⟩ | ⟨b, rfl, ho⟩
  · exact Maps.look_nil (w := W) true keyT Try.underlying70 (zeroI W) (Go.WideMaps.keyOf_string_mk Try.underlying9 hs)
  · obtain ⟨v, ps, hrun, hat⟩ := ho.look_ok keyT Try.underlying70 (zeroI W) (plainElem_int (H := Unit) Try.underlying3 (a := 0) (by decide)) (Go.WideMaps.keyOf_string_mk Try.underlying9 hs)
    obtain ⟨c, rfl, hc, _⟩ := plainElem_int_inv Try.underlying3 hat
    rw [dmapD_has] at hrun
    rw [hrun]
    rw [dmapD_at] at hc
    have := congrArg Prod.fst hc
    cases hq : dget l s.data.toList with
    | none => rw [hq] at this; simp at this; rw [← this]; rfl
    | some f => rw [hq] at this; simp at this; rw [← this]; rfl
theorem MapAt.drewN {W : World} {n : Nat} {v : Value} {l : Dir} (h : MapAt W n v l) (k : Nat) : MapAt (W.drewN k) n v l := h
theorem MapAt.mono {W : World} {n m : Nat} {v : Value} {l : Dir} (h : MapAt W n v l) (hm : n ≤ m) : MapAt W m v l := by
  rcases h with h | ⟨b, rfl, ho⟩
  · exact .inl h
  · exact .inr ⟨b, rfl, ho.mono hm⟩
theorem MapAt.lt {W : World} {n : Nat} {v : Value} {l : Dir} (h : MapAt W n v l) : ∀ b, mapBlock v = some b → b < W.heap.size := by
  rcases h with ⟨rfl, _⟩ | ⟨b, rfl, ho⟩
  · intro b hb; cases hb
  · intro c hc; cases hc; exact ho.lt
theorem MapAt.same {W W' : World} {n : Nat} {v : Value} {l : Dir} (h : MapAt W n v l) (hs : ∀ b, mapBlock v = some b → W'.heap[b]? = W.heap[b]?) : MapAt W' n v l := by
  rcases h with h | ⟨b, rfl, es, clock, hb, r⟩
  · exact .inl h
  · exact .inr ⟨b, rfl, es, clock, (hs b rfl).trans hb, r⟩
theorem MapAt.only {W W' : World} {n : Nat} {v : Value} {l : Dir} {S : Nat → Prop} (h : MapAt W n v l) (g : Only S W W') (hs : ∀ b, mapBlock v = some b → ¬ S b) : MapAt W' n v l :=
  h.same fun b hb => g.same b (h.lt b hb) (hs b hb)
theorem MapAt.below {W W' : World} {n B : Nat} {v : Value} {l : Dir} (h : MapAt W n v l) (g : Below B W W') (hB : W.heap.size ≤ B) : MapAt W' n v l :=
  h.same fun b hb => g.block b (Nat.lt_of_lt_of_le (h.lt b hb) hB)
end Go.Proofs.Ytdfjkcdmbbmipaa
