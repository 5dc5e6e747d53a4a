/- Texts put together: IC, FL, ID, IE, IG, IH. -/
import Derived.OwnWalk
import Derived.Laws.AppendOwn
import Derived.Laws.OwnMore
import Derived.Lib.SmallJoins
import Derived.Deep.RegionLaw
import Derived.Deep.DeepCutAuto
import Derived.Lib.SlKeysI
import Derived.Laws.IdiomRangeMap
import Derived.Test.YtiebbgbcojgeoaaSI
import Derived.Test.YtiebbgbcojgeoaaBap1
set_option linter.unusedVariables false
namespace Go.Proofs.Ytiebbgbcojgeoaa
open Go.RowKit Go.Maps

theorem SetM.store {w : World} {b n : Nat} {f : Int → Bool} (h : SetM w b n f) {t e : TypeId} (ht : Try.prog.underlying t = some (.map 3 e)) (hn : n < maxLen) (id : Int) (hw : (Lit.int .i64 id).wf = true) :
    ∃ w', (Instr.mapUpdate t (.map (some b)) (.int .i64 id) (.agg #[])).run Try.prog w = .ok () w' ∧ SetM w' b (n + 1) (fun k => if k = id then true else f k) ∧ Only (· = b) w w' ∧ w'.heap.size = w.heap.size := by
  obtain ⟨D, ho, h1⟩ := h
  have hm := ho.isMap
  obtain ⟨w', hrun, ho', ht'⟩ := ho.store keyI ht hn (Maps.keyOf_int_mk Try.underlying3 hw) (unitElem_mk (H := Unit))
  refine ⟨w', hrun, ⟨_, ho', fun k => ?_⟩, (Only.refl _ w).grown ht'.grown (fun k hk => .inl (by cases hk; rfl)), ?_⟩
  · dsimp only
    by_cases q : k = id
    · subst q
      rw [Maps.has_put_same hm (litI hw), if_pos rfl]
    · rw [Maps.has_put_other (fun e => q (by injection e)), if_neg q, h1]
  · obtain ⟨es, clock, es', clock', hb, rfl⟩ := ht'
    show (w.heap.setIfInBounds b (.map es' clock')).size = _
    exact Array.size_setIfInBounds
/-- A key in the index. -/
def KeyAt (w : World) (T : Nat → Tag) (lo n : Nat) (k : List UInt8) (c : Option Nat) (f : List UInt8 → Int → Nat) : Prop :=
  match c with
  | none => ∀ v i, f v i = 0
  | some b => ValAt w T lo k b n f ∧ ∃ v i, 0 < f v i
theorem KeyAt.mono {w : World} {T : Nat → Tag} {lo n m : Nat} {k : List UInt8} {c : Option Nat} {f : List UInt8 → Int → Nat} (h : KeyAt w T lo n k c f) (hm : n ≤ m) : KeyAt w T lo m k c f := by
  cases c with
  | none => exact h
  | some b => exact ⟨h.1.mono hm, h.2⟩
theorem KeyAt.turn {w w' : World} {T T' : Nat → Tag} {lo n : Nat} {k : List UInt8} {c : Option Nat} {f : List UInt8 → Int → Nat} {S : Nat → Prop} (h : KeyAt w T lo n k c f) (g : Only S w w') (ht : ∀ c, c < w.heap.size → T' c = T c) (hs : ∀ c, OfKey T k c → ¬ S c) : KeyAt w' T' lo n k c f := by
  cases c with
  | none => exact h
  | some b => exact ⟨h.1.turn g ht hs, h.2⟩
/-- The index's own blocks, and its numbers. -/
structure IdxB (w : World) (T : Nat → Tag) (lo x kb yb n : Nat) (ids : Int → Bool) : Prop where
  tx : T x = (3, [], [])
  tk : T kb = (4, [], [])
  ty : T yb = (5, [], [])
  lx : lo ≤ x
  lk : lo ≤ kb
  ly : lo ≤ yb
  lt : yb < w.heap.size
  cell : Cells w x 67 #[.map (some kb), .map (some yb)]
  known : SetM w kb n ids
/-- The index. -/
structure IdxAt (w : World) (T : Nat → Tag) (lo x kb yb n : Nat) (ids : Int → Bool) (F : List UInt8 → List UInt8 → Int → Nat) : Prop where
  base : IdxB w T lo x kb yb n ids
  keys : ∃ g, RefM w yb n g ∧ ∀ k, KeyAt w T lo n k (g k) (F k)
/-- The index while a key's values are written. -/
structure IdxOpen (w : World) (T : Nat → Tag) (lo x kb yb n : Nat) (ids : Int → Bool) (F : List UInt8 → List UInt8 → Int → Nat) (key : List UInt8) (b : Nat) : Prop where
  base : IdxB w T lo x kb yb n ids
  val : ValAt w T lo key b n (F key)
  keys : ∃ g, RefM w yb n g ∧ g key = some b ∧ ∀ k, k ≠ key → KeyAt w T lo n k (g k) (F k)
/-- The index's blocks. -/
def OfIdx (T : Nat → Tag) (c : Nat) : Prop := (T c).1 ≠ 0
theorem OfKey.idx {T : Nat → Tag} {k : List UInt8} {c : Nat} (h : OfKey T k c) : (T c).1 = 1 ∨ (T c).1 = 2 := by
  rcases h with h | ⟨v, h⟩ <;> rw [h]
  · exact .inl rfl
  · exact .inr rfl
theorem OfKey.of {T : Nat → Tag} {k : List UInt8} {c : Nat} (h : OfKey T k c) : OfIdx T c := by unfold OfIdx; rcases h.idx with q | q <;> rw [q] <;> decide
theorem OfKey.ne {T : Nat → Tag} {k k' : List UInt8} {c : Nat} (h : OfKey T k c) (h' : OfKey T k' c) : k = k' := by
  have e : (T c).2.1 = k := by rcases h with h | ⟨v, h⟩ <;> rw [h]
  have e' : (T c).2.1 = k' := by rcases h' with h | ⟨v, h⟩ <;> rw [h]
  exact e.symm.trans e'
theorem IdxB.turn {w w' : World} {T T' : Nat → Tag} {lo x kb yb n m : Nat} {ids : Int → Bool} {S : Nat → Prop} (h : IdxB w T lo x kb yb n ids) (g : Only S w w') (ht : ∀ c, c < w.heap.size → T' c = T c) (hs : ∀ c, (T c).1 = 3 ∨ (T c).1 = 4 → ¬ S c) (hm : n ≤ m) : IdxB w' T' lo x kb yb m ids := by
  have tx := h.tx; have tk := h.tk; have ty := h.ty
  exact ⟨(ht x h.cell.lt).trans tx, (ht kb h.known.lt).trans tk, (ht yb h.lt).trans ty, h.lx, h.lk, h.ly, Nat.lt_of_lt_of_le h.lt g.size, h.cell.only g (hs x (.inl (by rw [tx]))), (h.known.only g (hs kb (.inr (by rw [tk])))).mono hm⟩
theorem IdxAt.turn {w w' : World} {T T' : Nat → Tag} {lo x kb yb n : Nat} {ids : Int → Bool} {F : List UInt8 → List UInt8 → Int → Nat} {S : Nat → Prop} (h : IdxAt w T lo x kb yb n ids F) (g : Only S w w') (ht : ∀ c, c < w.heap.size → T' c = T c) (hs : ∀ c, OfIdx T c → ¬ S c) : IdxAt w' T' lo x kb yb n ids F := by
  obtain ⟨r, h1, h2⟩ := h.keys
  exact ⟨h.base.turn g ht (fun c hc => hs c (by unfold OfIdx; omega)) (Nat.le_refl _), r, h1.only g (hs yb (by unfold OfIdx; rw [h.base.ty]; decide)), fun k => (h2 k).turn g ht fun c hc => hs c hc.of⟩
theorem IdxAt.mono {w : World} {T : Nat → Tag} {lo x kb yb n m : Nat} {ids : Int → Bool} {F : List UInt8 → List UInt8 → Int → Nat} (h : IdxAt w T lo x kb yb n ids F) (hm : n ≤ m) : IdxAt w T lo x kb yb m ids F := by
  obtain ⟨r, h1, h2⟩ := h.keys
  exact ⟨h.base.turn (Only.refl (fun _ => False) w) (fun _ _ => rfl) (fun _ _ h => h) hm, r, h1.mono hm, fun k => (h2 k).mono hm⟩
theorem IdxOpen.turn {w w' : World} {T T' : Nat → Tag} {lo x kb yb n : Nat} {ids : Int → Bool} {F : List UInt8 → List UInt8 → Int → Nat} {key : List UInt8} {b : Nat} {S : Nat → Prop} (h : IdxOpen w T lo x kb yb n ids F key b) (g : Only S w w') (ht : ∀ c, c < w.heap.size → T' c = T c) (hs : ∀ c, OfIdx T c → ¬ S c) : IdxOpen w' T' lo x kb yb n ids F key b := by
  obtain ⟨r, h1, h2, h3⟩ := h.keys
  exact ⟨h.base.turn g ht (fun c hc => hs c (by unfold OfIdx; omega)) (Nat.le_refl _), h.val.turn g ht (fun c hc => hs c hc.of), r, h1.only g (hs yb (by unfold OfIdx; rw [h.base.ty]; decide)), h2, fun k hk => (h3 k hk).turn g ht fun c hc => hs c hc.of⟩
/-- A key that is there. -/
theorem IdxAt.open {w : World} {T : Nat → Tag} {lo x kb yb n : Nat} {ids : Int → Bool} {F : List UInt8 → List UInt8 → Int → Nat} (hb : IdxB w T lo x kb yb n ids) {g : List UInt8 → Option Nat} (h1 : RefM w yb n g) (h2 : ∀ k, KeyAt w T lo n k (g k) (F k)) {key : List UInt8} {b : Nat} (hg : g key = some b) : IdxOpen w T lo x kb yb n ids F key b := by
  have := h2 key
  rw [hg] at this
  exact ⟨hb, this.1, g, h1, hg, fun k _ => h2 k⟩
/-- A key that is put in, empty. -/
theorem IdxAt.opened {w w0 w' : World} {T : Nat → Tag} {lo x kb yb n : Nat} {ids : Int → Bool} {F : List UInt8 → List UInt8 → Int → Nat} (hb : IdxB w T lo x kb yb n ids) {g : List UInt8 → Option Nat} (h2 : ∀ k, KeyAt w T lo n k (g k) (F k)) (h1 : RefM w yb n g) (key : List UInt8) (hg : g key = none) (hw0 : w0 = w.alloc (.map #[] 0)) (hlo : lo ≤ w.heap.size)
    (p1 : RefM w' yb (n + 1) (fun k => if k = key then some w.heap.size else g k)) (p2 : Only (· = yb) w0 w') :
    ∃ T', (∀ c, c < w.heap.size → T' c = T c) ∧ IdxOpen w' T' lo x kb yb (n + 1) ids F key w.heap.size := by
  have hT : ∀ c, c < w.heap.size → (if c = w.heap.size then ((1, key, []) : Tag) else T c) = T c := fun c hc => if_neg (by omega)
  have o1 : Only (· = yb) w w' := by subst hw0; exact ((Only.refl _ w).alloc (.map #[] 0)).trans p2 (fun _ _ e => e)
  have hyb := h1.lt
  have hF : F key = fun _ _ => 0 := by
    have := h2 key; rw [hg] at this; funext v i; exact this v i
  refine ⟨fun c => if c = w.heap.size then (1, key, []) else T c, hT, hb.turn o1 hT (fun c hc e => by subst e; rw [hb.ty] at hc; revert hc; decide) (by omega), ⟨if_pos rfl, hlo, fun _ => none, ?_, fun v => ?_⟩, _, p1, if_pos rfl, fun k hk => ?_⟩
  · subst hw0; exact ((RefM.made w).only p2 (by omega)).mono (by omega)
  · show ∀ i, F key v i = 0
    rw [hF]; exact fun _ => rfl
  · rw [if_neg hk]
    exact ((h2 k).turn o1 hT (fun c hc e => by subst e; have := hc.idx; rw [hb.ty] at this; revert this; decide)).mono (by omega)
/-- What add leaves. -/
theorem IdxOpen.close {w w' : World} {T T' : Nat → Tag} {lo x kb yb n : Nat} {ids : Int → Bool} {F : List UInt8 → List UInt8 → Int → Nat} {key : List UInt8} {b : Nat} (h : IdxOpen w T lo x kb yb n ids F key b) (s : List UInt8) (id : Int) (ht : ∀ c, c < w.heap.size → T' c = T c) (hv : ValAt w' T' lo key b (n + 1) (upF (F key) s id)) (ho : Only (OfKey T key) w w') :
    IdxAt w' T' lo x kb yb (n + 1) ids (fun k => if k = key then upF (F k) s id else F k) := by
  obtain ⟨r, h1, h2, h3⟩ := h.keys
  refine ⟨h.base.turn ho ht (fun c hc e => by have := e.idx; omega) (by omega), r, (h1.only ho (fun e => by have := e.idx; rw [h.base.ty] at this; revert this; decide)).mono (by omega), fun k => ?_⟩
  by_cases hk : k = key
  · subst hk
    rw [h2]
    rw [if_pos rfl]
    exact ⟨hv, s, id, by simp [upF]⟩
  · rw [if_neg hk]
    exact ((h3 k hk).turn ho ht (fun c hc e => hk (hc.ne e))).mono (by omega)
def addFs (id : Int) (F : List UInt8 → List UInt8 → Int → Nat) (fs : List (List UInt8 × List UInt8)) : List UInt8 → List UInt8 → Int → Nat :=
  fs.foldl (fun F f k => if k = f.1 then upF (F k) f.2 id else F k) F
theorem addFs_snoc (id : Int) (F : List UInt8 → List UInt8 → Int → Nat) (fs : List (List UInt8 × List UInt8)) (j : Nat) (f : List UInt8 × List UInt8) (h : fs[j]? = some f) : addFs id F (fs.take (j + 1)) = fun k => if k = f.1 then upF (addFs id F (fs.take j) k) f.2 id else addFs id F (fs.take j) k := by
  unfold addFs
  rw [List.take_add_one, h, List.foldl_append]; rfl
theorem addFs_le (id : Int) : ∀ (fs : List (List UInt8 × List UInt8)) (F : List UInt8 → List UInt8 → Int → Nat) (k v : List UInt8) (i : Int), addFs id F fs k v i ≤ F k v i + fs.length
  | [], F, k, v, i => Nat.le_refl _
  | f :: r, F, k, v, i => by
    refine Nat.le_trans (addFs_le id r _ k v i) ?_
    have : (if k = f.1 then upF (F k) f.2 id else F k) v i ≤ F k v i + 1 := by
      split
      · unfold upF; split <;> omega
      · omega
    simp only [List.length_cons]; omega
end Go.Proofs.Ytiebbgbcojgeoaa

namespace Go.Proofs.Ytiebbgbcojgeoaa
open Go.RowKit

/-- A slice of fields, readable. -/
def Flds (w : World) (v : Value) (fs : List (List UInt8 × List UInt8)) : Prop :=
  ∃ A cap, v = .slice A fs.length cap ∧ fs.length ≤ cap ∧ ∀ (i : Nat) (f : List UInt8 × List UInt8), fs[i]? = some f → ∃ b off, A = some ⟨b, off, none⟩ ∧ b < w.heap.size ∧ w.cell? ⟨b, off + i * 2, none⟩ = some (.string (B f.1)) ∧ w.cell? ⟨b, off + i * 2 + 1, none⟩ = some (.string (B f.2))
theorem Flds.below {w w' : World} {v : Value} {fs : List (List UInt8 × List UInt8)} {n : Nat} (h : Flds w v fs) (hb : Below n w w') (hn : w.heap.size ≤ n) : Flds w' v fs := by
  obtain ⟨A, cap, hv, hle, hc⟩ := h
  refine ⟨A, cap, hv, hle, fun i s hs => ?_⟩
  obtain ⟨b, off, hA, hlt, c0, c1⟩ := hc i s hs
  exact ⟨b, off, hA, Nat.lt_of_lt_of_le hlt hb.size, (hb.cell (p := ⟨b, off + i * 2, none⟩) (Nat.lt_of_lt_of_le hlt hn)).trans c0, (hb.cell (p := ⟨b, off + i * 2 + 1, none⟩) (Nat.lt_of_lt_of_le hlt hn)).trans c1⟩
theorem Flds.one (w : World) (t : TypeId) (k v : List UInt8) : Flds (w.alloc (.cells #[.string (B k), .string (B v)] t)) (.slice (some ⟨w.heap.size, 0, none⟩) 1 1) [(k, v)] := by
  refine ⟨_, 1, rfl, Nat.le_refl _, fun i f h => ⟨w.heap.size, 0, rfl, by simp, ?_⟩⟩
  rw [World.cell?_alloc_at _ _ _ _ rfl, World.cell?_alloc_at _ _ _ _ rfl]
  match i, h with
  | 0, h => simp at h; subst h; exact ⟨rfl, rfl⟩
  | n + 1, h => simp at h
theorem Flds.two (w : World) (t : TypeId) (k v k' v' : List UInt8) : Flds (w.alloc (.cells #[.string (B k), .string (B v), .string (B k'), .string (B v')] t)) (.slice (some ⟨w.heap.size, 0, none⟩) 2 2) [(k, v), (k', v')] := by
  refine ⟨_, 2, rfl, Nat.le_refl _, fun i f h => ⟨w.heap.size, 0, rfl, by simp, ?_⟩⟩
  rw [World.cell?_alloc_at _ _ _ _ rfl, World.cell?_alloc_at _ _ _ _ rfl]
  match i, h with
  | 0, h => simp at h; subst h; exact ⟨rfl, rfl⟩
  | 1, h => simp at h; subst h; exact ⟨rfl, rfl⟩
  | n + 2, h => simp at h

def cellsF (fs : List (List UInt8 × List UInt8)) : List Value := fs.flatMap fun f => [.string (B f.1), .string (B f.2)]
theorem cellsF_len : ∀ fs, (cellsF fs).length = fs.length * 2
  | [] => rfl
  | f :: r => by
    have := cellsF_len r
    show (Value.string (B f.1) :: Value.string (B f.2) :: cellsF r).length = _
    simp only [List.length_cons, this]; omega
theorem cellsF_at : ∀ (fs : List (List UInt8 × List UInt8)) (i : Nat) (f : List UInt8 × List UInt8), fs[i]? = some f → (cellsF fs)[i * 2]? = some (.string (B f.1)) ∧ (cellsF fs)[i * 2 + 1]? = some (.string (B f.2))
  | [], i, f, h => by simp at h
  | a :: r, 0, f, h => by simp at h; subst h; exact ⟨rfl, rfl⟩
  | a :: r, i + 1, f, h => by
    have ih := cellsF_at r i f (by simpa using h)
    have e : cellsF (a :: r) = Value.string (B a.1) :: Value.string (B a.2) :: cellsF r := rfl
    rw [e, show (i + 1) * 2 = i * 2 + 1 + 1 by omega]
    simpa using ih
theorem infoFld : (Try.prog.info? 45).map (fun i => (i.zero, i.size, i.bytes)) = some (some (.agg #[.string ⟨#[]⟩, .string ⟨#[]⟩]), 2, 32) := by kernel_rfl
theorem flds_of_own {w : World} {base : Nat} {v : Value} {fs : List (List UInt8 × List UInt8)} (h : w.ownsRow base 45 2 v fs.length (cellsF fs)) : Flds w v fs := by
  rcases Joins.ownsRow_forms h with ⟨rfl, hn⟩ | ⟨g, cap, rfl⟩
  · have : fs = [] := by cases fs with | nil => rfl | cons _ _ => simp at hn
    subst this
    exact ⟨none, 0, rfl, Nat.le_refl _, fun i f h => by simp at h⟩
  · refine ⟨_, cap, rfl, (by rcases h.2 with ⟨q, _⟩ | ⟨g', cap', cur, q, _, _, q2, _⟩; cases q; cases q; exact q2), fun i f hf => ⟨g, 0, rfl, (World.ownsRow.lt h g rfl).2, ?_⟩⟩
    have hi : i < fs.length := by
      rcases Nat.lt_or_ge i fs.length with q | q
      · exact q
      · rw [List.getElem?_eq_none q] at hf; cases hf
    obtain ⟨a, b⟩ := cellsF_at fs i f hf
    rw [Nat.zero_add, World.ownsRow.cellAt h (i * 2) (by omega), World.ownsRow.cellAt h (i * 2 + 1) (by omega)]
    exact ⟨a, b⟩
end Go.Proofs.Ytiebbgbcojgeoaa

namespace Go.Proofs.Ytiebbgbcojgeoaa
open Go.RowKit Go.Maps

set_option maxRecDepth 100000 in
set_option maxHeartbeats 2000000 in
theorem know_any {w : World} {T : Nat → Tag} {lo x kb yb n : Nat} {ids : Int → Bool} {F : List UInt8 → List UInt8 → Int → Nat} (h : IdxAt w T lo x kb yb n ids F) (id : Int) (hw : (Lit.int .i64 id).wf = true) (v : Value) (fs : List (List UInt8 × List UInt8)) (hF : ∀ W, Only (OfIdx T) w W → Flds W v fs) (hn : n + 2 * fs.length ≤ 900000) (h0 : ∀ k v, F k v id = 0)
    (hf : ∀ f ∈ fs, f.1.length ≤ maxLen ∧ f.2.length ≤ maxLen) (hlo : lo ≤ w.heap.size) :
    Calls Try.prog 30 #[.pointer (some ⟨x, 0, none⟩), .int .i64 id, v] w fun e w' => e = .returned (.tuple #[]) ∧
      ∃ T', (∀ c, c < w.heap.size → T' c = T c) ∧ IdxAt w' T' lo x kb yb (n + 1 + 2 * fs.length) (fun i => if i = id then true else ids i) (addFs id F fs) ∧ Only (OfIdx T) w w' := by
  obtain ⟨A, cap, rfl, hle, _⟩ := hF w (Only.refl _ _)
  have c0 : w.cell? ⟨x, 0, none⟩ = some (.map (some kb)) := h.base.cell.cell 0
  obtain ⟨w1, hrun, p1, p2, p3⟩ := h.base.known.store Try.underlying64 (by unfold maxLen; omega) id hw
  have hmm := @run_makeMap Try.prog
  have e1 : ∀ c w, (binOp BinOp.eql 73 (.map (some c)) (.map none)).run Try.prog w = .ok (.bool false) w := fun c w => Go.run_eql_map_nil w _ _ _ _ Try.underlying73
  have e2 : ∀ w, (binOp BinOp.eql 73 (.map none) (.map none)).run Try.prog w = .ok (.bool true) w := fun w => Go.run_eql_map_nil w _ _ _ _ Try.underlying73
  have H := Lib.hid h
  have HF := Lib.hid hF
  have HP := Lib.hid (And.intro p1 p2)
  clear h hF p1 p2
  go_enter Try.func30, Try.ntmps30
  go_wp2_with fail
  go_loopw [16] (fun i wr => ∃ (k : Nat) (T' : Nat → Tag), k ≤ fs.length ∧ i = .int .i64 k ∧ (∀ c, c < w.heap.size → T' c = T c) ∧ IdxAt wr T' lo x kb yb (n + 1 + 2 * k) (fun i => if i = id then true else ids i) (addFs id F (fs.take k)) ∧ Only (OfIdx T) w wr) (fun i _ => fs.length - (intOf i).toNat)
  case atStart =>
    obtain ⟨hb, g, h1, h2⟩ := H.out
    obtain ⟨p1, p2⟩ := HP.out
    have hne : ∀ c, (T c).1 ≠ 4 → c ≠ kb := fun c hc e => hc (by rw [e, hb.tk])
    have hx : x ≠ kb := hne x (by rw [hb.tx]; decide)
    refine ⟨0, T, Nat.zero_le _, rfl, fun _ _ => rfl, ⟨⟨hb.tx, hb.tk, hb.ty, hb.lx, hb.lk, hb.ly, by have := hb.lt; omega, hb.cell.only p2 hx, p1⟩, g, (h1.only p2 (hne yb (by rw [hb.ty]; decide))).mono (by omega), fun k => ((h2 k).turn p2 (fun _ _ => rfl) (fun c hc => hne c (by have := hc.idx; omega))).mono (by omega)⟩, p2.mono fun r _ e => by subst e; unfold OfIdx; rw [hb.tk]; decide⟩
  case round =>
    obtain ⟨k, T', hk, rfl, ht, hi, ho⟩ := hrel
    by_cases hlt : k < fs.length
    · obtain ⟨f, hfk⟩ : ∃ f, fs[k]? = some f := ⟨_, List.getElem?_eq_getElem hlt⟩
      obtain ⟨b, off, rfl, hb, d0, d1⟩ := (by have := HF.out wr ho; obtain ⟨A', cap', e, _, q⟩ := this; injection e with e1 e2 e3; subst e1; exact q k f hfk : ∃ b off, A = some ⟨b, off, none⟩ ∧ b < wr.heap.size ∧ wr.cell? ⟨b, off + k * 2, none⟩ = some (.string (B f.1)) ∧ wr.cell? ⟨b, off + k * 2 + 1, none⟩ = some (.string (B f.2)))
      obtain ⟨wa, hwa⟩ : ∃ wa, wa = wr.alloc (.cells #[.string (B f.1), .string (B f.2)] 45) := ⟨_, rfl⟩
      have oa : Only (fun _ => False) wr wa.drew := by rw [hwa]; exact ((Only.refl _ wr).alloc _).drew
      have FA : Cells wa.drew wr.heap.size 45 #[.string (B f.1), .string (B f.2)] := by rw [hwa]; exact (Cells.new wr _ _).drew
      obtain ⟨hbA, g, h1, h2⟩ := hi.turn oa (fun _ _ => rfl) (fun _ _ h => h)
      have x1 : wa.drew.cell? ⟨x, 1, none⟩ = some (.map (some yb)) := hbA.cell.cell 1
      have f0 : wa.drew.cell? ⟨wr.heap.size, 0, none⟩ = some (.string (B f.1)) := FA.cell 0
      have hmem := List.mem_of_getElem? hfk
      have hs1 : (B f.1).size ≤ maxLen := by rw [B_size]; exact (hf f hmem).1
      have lk := h1.look Try.underlying65 (show (zeroValue 73).run Try.prog wa.drew = .ok (.map none) wa.drew by kernel_rfl) (B f.1) hs1
      rw [B_data] at lk
      have HG := Lib.hid (And.intro hbA (And.intro h1 h2))
      have HI := Lib.hid hi
      have HO := Lib.hid ho
      have HFA := Lib.hid FA
      have HWA := Lib.hid hwa
      clear hbA h1 h2 hi ho FA oa hwa
      have DD := Lib.hid (show Only (fun _ => False) wa.drew wa.drew.drew from (Only.refl _ _).drew)
      have hsw : wa.drew.drew.heap.size = wa.heap.size := rfl
      have x2 : wa.cell? ⟨x, 1, none⟩ = some (.map (some yb)) := x1
      have f2 : wa.cell? ⟨wr.heap.size, 0, none⟩ = some (.string (B f.1)) := f0
      have f3 : wa.cell? ⟨wr.heap.size, 1, none⟩ = some (.string (B f.2)) := HFA.out.cell 1
      have HS := Lib.hid (addFs_snoc id F fs k f hfk)
      have HC : Hid (addFs id F (fs.take k) f.1 (B f.2).data.toList id ≤ 1000000) := by
        have := addFs_le id (fs.take k) F f.1 (B f.2).data.toList id; rw [h0, List.length_take] at this; show _ ≤ _; omega
      have HSZ : Hid (lo ≤ wr.heap.size ∧ wr.heap.size + 1 = wa.heap.size) := ⟨by have := HO.out.size; omega, by rw [HWA.out]; simp⟩
      have hs2 : (B f.2).size ≤ maxLen := by rw [B_size]; exact (hf f hmem).2
      cases hg : g f.1 with
      | none =>
        rw [hg] at lk
        obtain ⟨w2, hrun2, q1, q2, q3⟩ := RefM.store (w := (wa.alloc (.map #[] 0)).drew.drew) (((HG.out.2.1.only DD.out (fun h => h)).same (show (wa.alloc (.map #[] 0)).drew.drew.heap[yb]? = wa.drew.drew.heap[yb]? from Below.heap_alloc wa.drew.drew (.map #[] 0) yb HG.out.1.lt))) Try.underlying65 (by unfold maxLen; omega) (B f.1) hs1 wa.heap.size
        have x4 : (wa.alloc (.map #[] 0)).cell? ⟨x, 1, none⟩ = some (.map (some yb)) := (HG.out.1.cell.alloc (.map #[] 0)).cell 1
        have f4 : (wa.alloc (.map #[] 0)).cell? ⟨wr.heap.size, 0, none⟩ = some (.string (B f.1)) := (HFA.out.alloc (.map #[] 0)).cell 0
        rw [B_data] at q1
        obtain ⟨T1, ht1, op⟩ := IdxAt.opened (w := wa.drew.drew) (HG.out.1.turn DD.out (fun _ _ => rfl) (fun _ _ h => h) (Nat.le_refl _)) (fun k => (HG.out.2.2 k).turn DD.out (fun _ _ => rfl) (fun _ _ h => h)) (HG.out.2.1.only DD.out (fun h => h)) f.1 hg (rfl : (wa.alloc (.map #[] 0)).drew.drew = wa.drew.drew.alloc (.map #[] 0)) (by have := HSZ.out; rw [hsw]; omega) q1 q2
        have D2 := Lib.hid (show Only (fun _ => False) w2 w2.drew from (Only.refl _ _).drew)
        have OP := Lib.hid (op.turn D2.out (fun _ _ => rfl) (fun _ _ h => h))
        have O2 := Lib.hid (show Only (· = yb) wa.drew w2 from ((((Only.refl (· = yb) wa.drew).alloc (.map #[] 0)).drew).trans q2 (fun _ _ e => e)))
        have FB := HFA.out.only O2.out (fun e => by have := HI.out.base.lt; omega)
        have ADD := Lib.hid (add_any OP.out.val (B f.2) hs2 id hw (by omega) HC.out (by have := HSZ.out; have := O2.out.size; show lo ≤ w2.heap.size; have : wa.drew.heap.size = wa.heap.size := rfl; omega))
        have y1 : w2.cell? ⟨x, 1, none⟩ = some (.map (some yb)) := op.base.cell.cell 1
        have y2 : w2.cell? ⟨wr.heap.size, 0, none⟩ = some (.string (B f.1)) := FB.cell 0
        have y3 : w2.cell? ⟨wr.heap.size, 1, none⟩ = some (.string (B f.2)) := FB.cell 1
        have lk2 : (Instr.lookup 65 (.map (some yb)) (.string (B f.1)) false).run Try.prog w2.drew = .ok (.map (some wa.heap.size)) w2.drew := by
          obtain ⟨g2, r1, r2, _⟩ := OP.out.keys
          have := r1.look Try.underlying65 (show (zeroValue 73).run Try.prog w2.drew = .ok (.map none) w2.drew by kernel_rfl) (B f.1) hs1
          rw [B_data, r2] at this
          exact this
        have HT1 := Lib.hid ht1
        have FIN : Hid (∀ w5 T2, (∀ c, c < w2.drew.heap.size → T2 c = T1 c) → ValAt w5 T2 lo f.1 wa.drew.drew.heap.size (n + 1 + 2 * k + 1 + 1) (upF (addFs id F (fs.take k) f.1) (B f.2).data.toList id) → Only (OfKey T1 f.1) w2.drew w5 →
            (∀ c, c < w.heap.size → T2 c = T c) ∧ IdxAt w5 T2 lo x kb yb (n + 1 + 2 * (k + 1)) (fun i => if i = id then true else ids i) (addFs id F (fs.take (k + 1))) ∧ Only (OfIdx T) w w5) := fun w5 T2 ht2 hv hof => by
          have s1 := HO.out.size
          have s2 := HSZ.out
          have s3 := O2.out.size
          have s4 : wa.drew.heap.size = wa.heap.size := rfl
          have s5 : w2.drew.heap.size = w2.heap.size := rfl
          have s6 : wa.drew.drew.heap.size = wa.heap.size := rfl
          have t1 : ∀ c, c < wr.heap.size → T1 c = T' c := fun c hc => HT1.out c (by omega)
          refine ⟨fun c hc => by rw [ht2 c (by omega), t1 c (by omega)]; exact ht c hc, ?_, ?_⟩
          · rw [HS.out]
            have := OP.out.close (B f.2).data.toList id ht2 hv hof
            rw [B_data] at this
            exact this.mono (by omega)
          · have q1 : Only (OfIdx T') wr w2.drew := ((((Only.refl (OfIdx T') wr).alloc (.cells #[.string (B f.1), .string (B f.2)] 45)).drew).trans (by rw [← HWA.out]; exact O2.out) (fun r _ e => by subst e; unfold OfIdx; rw [HI.out.base.ty]; decide)).drew
            have q2 := q1.trans hof fun r hr e => by have := e.of; unfold OfIdx at this ⊢; rw [t1 r hr] at this; exact this
            exact HO.out.trans q2 fun r hr e => by unfold OfIdx at e ⊢; rw [ht r hr] at e; exact e
        clear q1 q2 q3 op FB ht1
        go_wp2_with fail
        rw [← HWA.out]
        go_region
        go_upto_region 5 with fail
        go_cut [34] (fun c wx => c = .map (some wa.heap.size) ∧ wx = w2)
        case first =>
          go_region
          all_goals (try go_wp2_with fail)
          all_goals go_meet
          all_goals exact ⟨rfl, rfl⟩
        case rest =>
          obtain ⟨rfl, rfl⟩ := hcut
          go_wp2_with fail
          go_region_law (go_simp; go_at_call 45; refine ADD.out.mono ?_; rintro e w5 ⟨rfl, T2, ht2, hv, hof⟩)
          all_goals go_wp2_with fail
          all_goals
            obtain ⟨j1, j2, j3⟩ := FIN.out w5 T2 ht2 hv hof
            exact ⟨⟨k + 1, T2, hlt, by go_num, j1, j2, j3⟩, by simp [intOf]; omega⟩
      | some c =>
        rw [hg] at lk
        have OP := Lib.hid ((IdxAt.open HG.out.1 HG.out.2.1 HG.out.2.2 hg).turn DD.out (fun _ _ => rfl) (fun _ _ h => h))
        have ADD := Lib.hid (add_any OP.out.val (B f.2) hs2 id hw (by omega) HC.out (by have := HSZ.out; rw [hsw]; omega))
        have lk2 : (Instr.lookup 65 (.map (some yb)) (.string (B f.1)) false).run Try.prog wa.drew.drew = .ok (.map (some c)) wa.drew.drew := by
          obtain ⟨g2, r1, r2, _⟩ := OP.out.keys
          have := r1.look Try.underlying65 (show (zeroValue 73).run Try.prog wa.drew.drew = .ok (.map none) wa.drew.drew by kernel_rfl) (B f.1) hs1
          rw [B_data, r2] at this
          exact this
        have FIN : Hid (∀ w5 T2, (∀ c, c < wa.drew.drew.heap.size → T2 c = T' c) → ValAt w5 T2 lo f.1 c (n + 1 + 2 * k + 1) (upF (addFs id F (fs.take k) f.1) (B f.2).data.toList id) → Only (OfKey T' f.1) wa.drew.drew w5 →
            (∀ c, c < w.heap.size → T2 c = T c) ∧ IdxAt w5 T2 lo x kb yb (n + 1 + 2 * (k + 1)) (fun i => if i = id then true else ids i) (addFs id F (fs.take (k + 1))) ∧ Only (OfIdx T) w w5) := fun w5 T2 ht2 hv hof => by
          have s1 := HO.out.size
          have s2 := HSZ.out
          have s6 : wa.drew.drew.heap.size = wa.heap.size := rfl
          refine ⟨fun c hc => by rw [ht2 c (by omega)]; exact ht c hc, ?_, ?_⟩
          · rw [HS.out]
            have := OP.out.close (B f.2).data.toList id ht2 hv hof
            rw [B_data] at this
            exact this.mono (by omega)
          · have q1 : Only (OfIdx T') wr wa.drew.drew := by rw [HWA.out]; exact (((Only.refl (OfIdx T') wr).alloc (.cells #[.string (B f.1), .string (B f.2)] 45)).drew).drew
            have q2 := q1.trans hof fun r hr e => e.of
            exact HO.out.trans q2 fun r hr e => by unfold OfIdx at e ⊢; rw [ht r hr] at e; exact e
        go_wp2_with fail
        rw [← HWA.out]
        go_region
        go_wp2_with fail
        go_region_law (go_simp; go_at_call 45; refine ADD.out.mono ?_; rintro e w5 ⟨rfl, T2, ht2, hv, hof⟩)
        all_goals go_wp2_with fail
        all_goals
          obtain ⟨j1, j2, j3⟩ := FIN.out w5 T2 ht2 hv hof
          exact ⟨⟨k + 1, T2, hlt, by go_num, j1, j2, j3⟩, by simp [intOf]; omega⟩
    · obtain rfl : k = fs.length := by omega
      rw [List.take_length] at hi
      have HI := Lib.hid hi
      clear hi
      go_wp2_with fail
      go_end0
      exact ⟨rfl, T', ht, HI.out, ho⟩
end Go.Proofs.Ytiebbgbcojgeoaa

namespace Go.Proofs.Ytiebbgbcojgeoaa
open Go.RowKit Go.Maps

theorem SetM.look {w : World} {b n : Nat} {f : Int → Bool} (h : SetM w b n f) {t e : TypeId} (ht : Try.prog.underlying t = some (.map 3 e)) (hz : (zeroValue e).run Try.prog w = .ok (.agg #[]) w) (id : Int) (hw : (Lit.int .i64 id).wf = true) :
    (Instr.lookup t (.map (some b)) (.int .i64 id) true).run Try.prog w = .ok (.tuple #[.agg #[], .bool (f id)]) w := by
  obtain ⟨D, ho, h1⟩ := h
  obtain ⟨v, ps, hrun, hat⟩ := ho.look_ok keyI ht hz (unitElem_mk (H := Unit)) (Maps.keyOf_int_mk Try.underlying3 hw)
  obtain ⟨rfl, _⟩ := unitElem_inv hat
  rw [hrun, h1]
set_option maxRecDepth 100000 in
set_option maxHeartbeats 1000000 in
theorem new_idx (w : World) (T : Nat → Tag) (lo : Nat) (hlo : lo ≤ w.heap.size) :
    Calls Try.prog 7 #[] w fun e w' => e = .returned (.pointer (some ⟨w.heap.size + 2, 0, none⟩)) ∧
      ∃ T', (∀ c, c < w.heap.size → T' c = T c) ∧ IdxAt w' T' lo (w.heap.size + 2) w.heap.size (w.heap.size + 1) 0 (fun _ => false) (fun _ _ _ => 0) ∧ Only (fun _ => False) w w' := by
  have hmm := @run_makeMap Try.prog
  go_enter Try.func7, Try.ntmps7
  go_wp2_with fail
  go_ret
  refine ⟨by simp, fun c => if c < w.heap.size then T c else if c = w.heap.size then (4, [], []) else if c = w.heap.size + 1 then (5, [], []) else (3, [], []), fun c hc => if_pos hc, ⟨⟨?_, ?_, ?_, by omega, hlo, by omega, by simp, ?_, ?_⟩, fun _ => none, ?_, fun k => (show ∀ (v : List UInt8) (i : Int), (fun _ _ => 0 : List UInt8 → Int → Nat) v i = 0 from fun _ _ => rfl)⟩, (((Only.refl _ w).alloc _).alloc _).alloc _⟩
  · simp; intro h; omega
  · simp
  · simp; intro h; omega
  · have := Cells.new ((w.alloc (.map #[] 0)).alloc (.map #[] 0)) 67 #[.map (some w.heap.size), .map (some (w.heap.size + 1))]
    simpa using this
  · refine (SetM.made w).same ?_
    exact (Below.heap_alloc _ _ _ (by simp; omega)).trans (Below.heap_alloc _ _ _ (by simp))
  · have := RefM.made (w.alloc (.map #[] 0))
    rw [show (w.alloc (.map #[] 0)).heap.size = w.heap.size + 1 by simp] at this
    exact this.same (Below.heap_alloc _ _ _ (by simp))
set_option maxRecDepth 100000 in
set_option maxHeartbeats 1000000 in
theorem drop_out {w : World} {T : Nat → Tag} {lo x kb yb n : Nat} {ids : Int → Bool} {F : List UInt8 → List UInt8 → Int → Nat} (h : IdxAt w T lo x kb yb n ids F) (id : Int) (hw : (Lit.int .i64 id).wf = true) (hid : ids id = false) :
    Calls Try.prog 9 #[.pointer (some ⟨x, 0, none⟩), .int .i64 id] w fun e w' => e = .returned (.bool false) ∧ Only (fun _ => False) w w' := by
  have c0 : w.cell? ⟨x, 0, none⟩ = some (.map (some kb)) := h.base.cell.cell 0
  have lk := h.base.known.look Try.underlying64 (by kernel_rfl) id hw
  rw [hid] at lk
  go_enter Try.func9, Try.ntmps9
  go_wp2_with fail
  go_ret
  exact ⟨rfl, (Only.refl _ w).alloc _⟩
set_option maxRecDepth 100000 in
set_option maxHeartbeats 1000000 in
theorem valuesOf_any {w : World} {T : Nat → Tag} {lo x kb yb n : Nat} {ids : Int → Bool} {F : List UInt8 → List UInt8 → Int → Nat} (h : IdxAt w T lo x kb yb n ids F) (k : ByteArray) (hk : k.size ≤ maxLen) :
    Calls Try.prog 36 #[.pointer (some ⟨x, 0, none⟩), .string k] w fun e w' => ∃ c, e = .returned (.map c) ∧ w' = w ∧ KeyAt w T lo n k.data.toList c (F k.data.toList) := by
  have c1 : w.cell? ⟨x, 1, none⟩ = some (.map (some yb)) := h.base.cell.cell 1
  obtain ⟨g, h1, h2⟩ := h.keys
  have lk := h1.look Try.underlying65 (by kernel_rfl) k hk
  go_enter Try.func36, Try.ntmps36
  go_wp2_with fail
  go_ret
  exact ⟨_, rfl, rfl, h2 _⟩
end Go.Proofs.Ytiebbgbcojgeoaa

namespace Go.Proofs.Ytiebbgbcojgeoaa
open Go.RowKit Go.Maps

theorem lookV_nil (s : ByteArray) (w : World) : (Instr.lookup 73 (.map none) (.string s) false).run Try.prog w = .ok (.map none) w := by
  first
    | kernel_rfl
    | (simp [Instr.lookup, run_underlying Try.underlying73]; done)
theorem KeyAt.look {w : World} {T : Nat → Tag} {lo n : Nat} {k : List UInt8} {c : Option Nat} {f : List UInt8 → Int → Nat} (h : KeyAt w T lo n k c f) (s : ByteArray) (hs : s.size ≤ maxLen) :
    ∃ d, (Instr.lookup 73 (.map c) (.string s) false).run Try.prog w = .ok (.map d) w ∧ HoldAt w T lo k s.data.toList n d (f s.data.toList) := by
  cases c with
  | none => exact ⟨none, lookV_nil s w, fun i => h _ i⟩
  | some b =>
    obtain ⟨⟨_, _, g, h1, h2⟩, _⟩ := h
    exact ⟨g s.data.toList, h1.look Try.underlying73 (by kernel_rfl) s hs, h2 _⟩
theorem has_i64 {w : World} {b n : Nat} {f : Int → Nat} (h : CntM w b n f) : ∃ D : DataW Unit, w.ownsMap Try.prog 3 (plainElem Try.prog 3) b n D ∧ (∀ k, has D (.int .i64 k) = true ↔ 0 < f k) ∧ ∀ k, 0 < f k → ∀ z, D.atKey (.int .i64 k) z = .lit (.int .i64 (f k : Int)) := h
set_option maxRecDepth 100000 in
set_option maxHeartbeats 2000000 in
/-- Count: the sum of what each holder has. -/
theorem idxCount {w : World} {T : Nat → Tag} {lo x kb yb n : Nat} {ids : Int → Bool} {F : List UInt8 → List UInt8 → Int → Nat} (h : IdxAt w T lo x kb yb n ids F) (k s : ByteArray) (hk : k.size ≤ maxLen) (hs : s.size ≤ maxLen) (hT : ∀ ss : List Int, ss.Nodup → (ss.map (F k.data.toList s.data.toList)).sum ≤ 1000000) :
    Calls Try.prog 24 #[.pointer (some ⟨x, 0, none⟩), .string k, .string s] w fun e w' => ∃ ss : List Int, e = .returned (.int .i64 ((ss.map (F k.data.toList s.data.toList)).sum : Nat)) ∧ ss.Nodup ∧ (∀ i, i ∈ ss ↔ 0 < F k.data.toList s.data.toList i) ∧ Only (fun _ => False) w w' := by
  have VO := Lib.hid (valuesOf_any h k hk)
  clear h
  go_enter Try.func24, Try.ntmps24
  go_wp2_with fail
  refine VO.out.mono ?_
  rintro e w' ⟨c, rfl, rfl, hkey⟩
  obtain ⟨d, lk, hh⟩ := hkey.look s hs
  obtain ⟨f, hf⟩ : ∃ f, f = F k.data.toList s.data.toList := ⟨_, rfl⟩
  rw [← hf] at hh hT
  have HF := Lib.hid hf
  clear hf
  cases d with
  | none =>
    have hrg := run_range_nilMap (P := Try.prog) w' 95 3 3 Try.underlying95
    have hnx : ∀ ty, (Instr.next (.pointer (some ⟨w'.heap.size, 0, none⟩)) false ty).run Try.prog (w'.alloc (.mapIter none 0 #[] 0)) = _ := fun ty => run_next_nilMap w' ty 0 0 #[]
    go_wp2_with fail
    refine wp_loop_rounds 1 ?_
    rw [rounds_succ]
    go_wp2_with fail
    go_ret
    rw [← HF.out]
    exact ⟨[], rfl, List.nodup_nil, fun i => ⟨fun e => (by cases e), fun e => by have := hh i; omega⟩, (Only.refl _ _).alloc _⟩
  | some b =>
    obtain ⟨_, _, hc, _⟩ := hh
    obtain ⟨D, ho, h1, h2⟩ := has_i64 hc
    have hbl := ho.lt
    go_wp2_with (at_range; refine wpList_range_own _ rfl _ 95 rfl 3 3 keyI Try.underlying95 _ b n _ rfl ho ?_; intro w0 hrg0 hg0 hs0)
    go_frame
    go_loopw [7] (fun cv wr => ∃ (left : Lit → Bool) (cnt : Nat) (ss : List Int), cv = .int .i64 ((ss.map f).sum : Nat) ∧ CollectedI D left ss ∧ wr.ranges Try.prog 3 (plainElem Try.prog 3) b w'.heap.size n D left cnt ∧ w'.grownBy wr none) (fun _ wr => wr.rangeLeft b w'.heap.size)
    case atStart => exact ⟨_, _, [], rfl, CollectedI.start D, hrg0, hg0⟩
    case round =>
      obtain ⟨left, cnt, ss, rfl, hcol, hrg, hgw⟩ := hrel
      go_wp2_with (at_next; refine wpList_next_ranges_ii _ rfl _ rfl 3 3 .i64 .i64 keyI Try.underlying3 Try.underlying3 b w'.heap.size n _ _ _ rfl hrg ?_ ?_)
      · intro _ hl0
        have HC := Lib.hid hcol
        have HL := Lib.hid hl0
        clear hcol hl0
        go_wp2_with fail
        go_ret
        rw [← HF.out]
        exact ⟨ss, rfl, HC.out.1, fun i => by rw [HC.out.2 i, h1 i]; exact ⟨fun e => e.1, fun e => ⟨e, HL.out _⟩⟩, (Only.refl _ _).grown hgw (fun k hk => by cases hk)⟩
      · intro y c w1 cnt1 hwx hwc hlx hat hrg1 hlt hg1 hs1 hen
        have hgw1 := hgw.andThen hg1 (fun j hj => by cases hj; exact Or.inl (Nat.le_refl _))
        have hy : 0 < f y := (h1 y).1 (has_true_of_atKey hat)
        obtain rfl : c = (f y : Int) := lit_int ((hat (.lit (.int .i64 0))).symm.trans (h2 y hy _))
        have hst := hcol.step hlx hat
        have hsum := hT _ hst.1
        have hsum2 : ((ss ++ [y]).map f).sum = (ss.map f).sum + f y := by simp
        rw [hsum2] at hsum
        have HST := Lib.hid hst
        have HS2 := Lib.hid hsum2
        clear hcol hst hsum2 hat
        go_wp2_with fail
        go_roundw
        case rel => exact ⟨_, cnt1, ss ++ [y], by rw [HS2.out]; simp, HST.out, hrg1, hgw1⟩
        case measure => rw [hrg1.left_eq, hrg.left_eq]; exact hlt
end Go.Proofs.Ytiebbgbcojgeoaa

namespace Go.Proofs.Ytiebbgbcojgeoaa
open Go.RowKit Go.Maps Go.Sort Go.Shelf

theorem strKeys_mem {w : World} {b n : Nat} {R : Value → Option (DataW Unit × List MemPlace)} {D : DataW Unit} (h : w.ownsMap Try.prog 9 R b n D) : (strKeys D).Nodup ∧ ∀ x, x ∈ strKeys D ↔ has D (.string x) = true := by
  obtain ⟨es, hD, hp, _⟩ := h.entries keyS
  obtain ⟨es', hD', hko⟩ := h.keysOf
  obtain rfl : es = es' := by rw [hD] at hD'; simpa using hD'
  subst hD
  have hk : ∀ p ∈ es, ∃ x, p.1 = .string x := fun p hp => by obtain ⟨v, hv⟩ := hko p hp; obtain ⟨x, _, hx, _⟩ := Maps.keyOf_str Try.underlying9 hv; exact ⟨x, hx⟩
  refine ⟨?_, fun x => ?_⟩
  · show (es.map fun p => strOf p.1).Nodup
    refine List.pairwise_map.2 (hp.imp_of_mem fun {p q} hp' hq' hne e => hne ?_)
    obtain ⟨a, ha⟩ := hk p hp'
    obtain ⟨b, hb⟩ := hk q hq'
    rw [ha, hb] at e ⊢
    exact congrArg _ e
  · rw [has_eq, List.any_eq_true]
    show x ∈ (es.map fun p => strOf p.1) ↔ _
    rw [List.mem_map]
    constructor
    · rintro ⟨p, hp', rfl⟩
      obtain ⟨a, ha⟩ := hk p hp'
      exact ⟨p, hp', by rw [ha]; simp [Lit.sameKey, strOf]⟩
    · rintro ⟨p, hp', hs⟩
      obtain ⟨a, ha⟩ := hk p hp'
      rw [ha] at hs
      exact ⟨p, hp', by rw [ha]; simpa [Lit.sameKey, strOf] using hs⟩
theorem intKeys_mem {w : World} {b n : Nat} {R : Value → Option (DataW Unit × List MemPlace)} {D : DataW Unit} (h : w.ownsMap Try.prog 3 R b n D) : (intKeys D).Nodup ∧ ∀ x, x ∈ intKeys D ↔ has D (.int .i64 x) = true := by
  obtain ⟨es, hD, hp, _⟩ := h.entries keyI
  obtain ⟨es', hD', hko⟩ := h.keysOf
  obtain rfl : es = es' := by rw [hD] at hD'; simpa using hD'
  subst hD
  have hk : ∀ p ∈ es, ∃ x, p.1 = .int .i64 x := fun p hp => by obtain ⟨v, hv⟩ := hko p hp; obtain ⟨x, _, hx, _⟩ := Maps.keyOf_i64 Try.underlying3 hv; exact ⟨x, hx⟩
  refine ⟨?_, fun x => ?_⟩
  · show (es.map fun p => Go.intOf p.1).Nodup
    refine List.pairwise_map.2 (hp.imp_of_mem fun {p q} hp' hq' hne e => hne ?_)
    obtain ⟨a, ha⟩ := hk p hp'
    obtain ⟨b, hb⟩ := hk q hq'
    rw [ha, hb] at e ⊢
    exact congrArg _ e
  · rw [has_eq, List.any_eq_true]
    show x ∈ (es.map fun p => Go.intOf p.1) ↔ _
    rw [List.mem_map]
    constructor
    · rintro ⟨p, hp', rfl⟩
      obtain ⟨a, ha⟩ := hk p hp'
      exact ⟨p, hp', by rw [ha]; simp [Lit.sameKey, Go.intOf]⟩
    · rintro ⟨p, hp', hs⟩
      obtain ⟨a, ha⟩ := hk p hp'
      rw [ha] at hs
      exact ⟨p, hp', by rw [ha]; simpa [Lit.sameKey, Go.intOf] using hs⟩
/-- slices.Sort, at any world. -/
theorem sortsS (m : Nat) : AnyZ.SortsIn Try.prog Try.sortedS_ren Fence.wide m :=
  ⟨fun blk off cap ss W hH hblk hsz => callsIn_wide.2 (AnyM.slices_Sort_string Try.sortS blk off cap ss W hH hblk hsz), fun p cap W => callsIn_wide.2 (AnyM.slices_Sort_string_none Try.sortS p cap W)⟩
theorem sortsI (m : Nat) : AnyZI.SortsIn Try.prog Try.sortedI_ren Fence.wide m :=
  ⟨fun blk off cap ss W hH hblk hsz => callsIn_wide.2 (AnyM.slices_Sort_int Try.sortI blk off cap ss W hH hblk hsz), fun p cap W => callsIn_wide.2 (AnyM.slices_Sort_int_none Try.sortI p cap W)⟩
/-- maps.Keys of a key's values: one new block. -/
theorem keysV_call (mb : Option Nat) (W : World) : CallsIn Fence.wide 5 Try.prog 44 #[.map mb] W fun e w' => e = .returned (.func (.func 58) #[] #[.pointer (some ⟨W.heap.size, 0, none⟩)]) ∧ w' = W.alloc (.cells #[.map mb] 73) :=
  AnyZ.keys_in Try.keysV Fence.wide 5 trivial rfl mb W
theorem keysH_call (mb : Option Nat) (W : World) : CallsIn Fence.wide 5 Try.prog 40 #[.map mb] W fun e w' => e = .returned (.func (.func 54) #[] #[.pointer (some ⟨W.heap.size, 0, none⟩)]) ∧ w' = W.alloc (.cells #[.map mb] 95) :=
  AnyZI.keys_in Try.keysH Fence.wide 5 trivial rfl mb W
/-- What a sorted answer is: its elements rising, in a new array; nil where there is none. -/
def AnsS (w w' : World) (v : Value) (ss : List (List UInt8)) : Prop :=
  w'.ownsRow w.heap.size 9 1 v ss.length ((ss.mergeSort (fun x y => decide (x ≤ y))).map encStr) ∧ (v = .slice none 0 0 ↔ ss = []) ∧ Below w.heap.size w w'
def AnsI (w w' : World) (v : Value) (ss : List Int) : Prop :=
  w'.ownsRow w.heap.size 3 1 v ss.length ((ss.mergeSort (fun x y => decide (x ≤ y))).map encZ) ∧ (v = .slice none 0 0 ↔ ss = []) ∧ Below w.heap.size w w'
set_option maxHeartbeats 1000000 in
theorem sortedV (b nn : Nat) (D0 : DataW Unit) (R : Value → Option (DataW Unit × List MemPlace)) (w : World) (hown : w.ownsMap Try.prog 9 R b nn D0) (hmax : Maps.size D0 ≤ 10000000) :
    CallsIn Fence.wide 5 Try.prog 42 #[.func (.func 58) #[] #[.pointer (some ⟨w.heap.size, 0, none⟩)]] (w.alloc (.cells #[.map (some b)] 73)) fun e w' => ∃ (v : Value) (ss : List (List UInt8)), e = .returned v ∧ ss.Perm (strKeys D0) ∧ AnsS w w' v ss := by
  have hbl := hown.lt
  have hseq : SeqGives Fence.wide 2 Try.prog 58 #[.pointer (some ⟨w.heap.size, 0, none⟩)] encStr (fun ss => ss.Perm (strKeys D0)) (Maps.size D0) (w.alloc (.cells #[.map (some b)] 73)) :=
    AnyZ.keys_gives (ρ := Try.keysV_ren) { Try.keysV with } Fence.wide _ trivial rfl (by omega) w.heap.size b nn D0 _ (by simp) (by simp) (by
      obtain ⟨es, clock, hb, Ft, hs, hD⟩ := hown
      exact ⟨es, clock, (Below.heap_alloc _ _ b hbl).trans hb, Ft, hs, hD⟩)
  refine (AnyZ.sorted_in Try.sortedS Fence.wide 5 trivial trivial trivial trivial rfl (by omega) (sortsS _) (enters_of Try.func56 (by kernel_rfl) rfl) 58 #[.pointer (some ⟨w.heap.size, 0, none⟩)] trivial (enters_of Try.func58 (by kernel_rfl) rfl) _ _ (by unfold maxLen; omega) (by omega) _ hseq).mono ?_
  rintro e w' ⟨v, ss, rfl, hS, hrow, hnil, hb⟩
  exact ⟨v, ss, rfl, hS, ownsRow_base_a hrow (by simp), hnil, ((Below.refl _ w).alloc (Nat.le_refl _) _).trans (hb.mono (by simp))⟩
set_option maxHeartbeats 1000000 in
theorem sortedV_nil (w : World) :
    CallsIn Fence.wide 5 Try.prog 42 #[.func (.func 58) #[] #[.pointer (some ⟨w.heap.size, 0, none⟩)]] (w.alloc (.cells #[.map none] 73)) fun e w' => e = .returned (.slice none 0 0) ∧ Below w.heap.size w w' := by
  have hseq : SeqGives Fence.wide 2 Try.prog 58 #[.pointer (some ⟨w.heap.size, 0, none⟩)] encStr (fun ss : List (List UInt8) => ss = []) 0 (w.alloc (.cells #[.map none] 73)) :=
    AnyZ.keys_gives_nil (ρ := Try.keysV_ren) { Try.keysV with } Fence.wide _ trivial rfl w.heap.size _ (by simp) (by simp)
  refine (AnyZ.sorted_in Try.sortedS Fence.wide 5 trivial trivial trivial trivial rfl (by omega) (sortsS _) (enters_of Try.func56 (by kernel_rfl) rfl) 58 #[.pointer (some ⟨w.heap.size, 0, none⟩)] trivial (enters_of Try.func58 (by kernel_rfl) rfl) _ 0 (Nat.zero_le _) (by omega) _ hseq).mono ?_
  rintro e w' ⟨v, ss, rfl, hS, hrow, hnil, hb⟩
  exact ⟨by rw [hnil.2 hS], ((Below.refl _ w).alloc (Nat.le_refl _) _).trans (hb.mono (by simp))⟩
set_option maxHeartbeats 1000000 in
theorem sortedH (b nn : Nat) (D0 : DataW Unit) (R : Value → Option (DataW Unit × List MemPlace)) (w : World) (hown : w.ownsMap Try.prog 3 R b nn D0) (hmax : Maps.size D0 ≤ 10000000) :
    CallsIn Fence.wide 5 Try.prog 39 #[.func (.func 54) #[] #[.pointer (some ⟨w.heap.size, 0, none⟩)]] (w.alloc (.cells #[.map (some b)] 95)) fun e w' => ∃ (v : Value) (ss : List Int), e = .returned v ∧ ss.Perm (intKeys D0) ∧ AnsI w w' v ss := by
  have hbl := hown.lt
  have hseq : SeqGives Fence.wide 2 Try.prog 54 #[.pointer (some ⟨w.heap.size, 0, none⟩)] encZ (fun ss => ss.Perm (intKeys D0)) (Maps.size D0) (w.alloc (.cells #[.map (some b)] 95)) :=
    AnyZI.keys_gives (ρ := Try.keysH_ren) { Try.keysH with } Fence.wide _ trivial rfl (by omega) w.heap.size b nn D0 _ (by simp) (by simp) (by
      obtain ⟨es, clock, hb, Ft, hs, hD⟩ := hown
      exact ⟨es, clock, (Below.heap_alloc _ _ b hbl).trans hb, Ft, hs, hD⟩)
  refine (AnyZI.sorted_in Try.sortedI Fence.wide 5 trivial trivial trivial trivial rfl (by omega) (sortsI _) (enters_of Try.func51 (by kernel_rfl) rfl) 54 #[.pointer (some ⟨w.heap.size, 0, none⟩)] trivial (enters_of Try.func54 (by kernel_rfl) rfl) _ _ (by unfold maxLen; omega) (by omega) _ hseq).mono ?_
  rintro e w' ⟨v, ss, rfl, hS, hrow, hnil, hb⟩
  exact ⟨v, ss, rfl, hS, ownsRow_base_a hrow (by simp), hnil, ((Below.refl _ w).alloc (Nat.le_refl _) _).trans (hb.mono (by simp))⟩
set_option maxHeartbeats 1000000 in
theorem sortedH_nil (w : World) :
    CallsIn Fence.wide 5 Try.prog 39 #[.func (.func 54) #[] #[.pointer (some ⟨w.heap.size, 0, none⟩)]] (w.alloc (.cells #[.map none] 95)) fun e w' => e = .returned (.slice none 0 0) ∧ Below w.heap.size w w' := by
  have hseq : SeqGives Fence.wide 2 Try.prog 54 #[.pointer (some ⟨w.heap.size, 0, none⟩)] encZ (fun ss : List Int => ss = []) 0 (w.alloc (.cells #[.map none] 95)) :=
    AnyZI.keys_gives_nil (ρ := Try.keysH_ren) { Try.keysH with } Fence.wide _ trivial rfl w.heap.size _ (by simp) (by simp)
  refine (AnyZI.sorted_in Try.sortedI Fence.wide 5 trivial trivial trivial trivial rfl (by omega) (sortsI _) (enters_of Try.func51 (by kernel_rfl) rfl) 54 #[.pointer (some ⟨w.heap.size, 0, none⟩)] trivial (enters_of Try.func54 (by kernel_rfl) rfl) _ 0 (Nat.zero_le _) (by omega) _ hseq).mono ?_
  rintro e w' ⟨v, ss, rfl, hS, hrow, hnil, hb⟩
  exact ⟨by rw [hnil.2 hS], ((Below.refl _ w).alloc (Nat.le_refl _) _).trans (hb.mono (by simp))⟩
end Go.Proofs.Ytiebbgbcojgeoaa

