/- Texts put together: PB, PC, PD, PE, WA, RF. -/
import Derived.BigRegion
import Derived.Deep.DeepCutAuto
import Derived.Test.YtfjklpgmnakcaaaGreatDoorChecked
import Derived.WalkKit
import Derived.ShutString
import Derived.Lib.Hide
import Derived.BigCall
import Derived.RegionTactic
import Derived.ChangeAlike
import Derived.Deep.QuietTactic
import Derived.BigQuiet
import Derived.Outline
import Derived.IntWalk
import Derived.RangeFuncNested
import Derived.RangeFuncBound
import Derived.RangeFuncCalls
import Derived.RangeFuncLeaves
import Derived.Test.YtfjklpgmnakcaaaGreatDoorBae1
import Derived.Test.YtfjklpgmnakcaaaGreatDoorBae2
set_option linter.unusedVariables false
set_option maxRecDepth 100000
set_option maxHeartbeats 16000000
namespace Go.Proofs.YtfjklpgmnakcaaaGreatDoor
open Go.RowKit
structure PV where
  v1 : Value
  v3 : Value
  v6 : Value
  fvs : List Value
def pCells (p : PS) (text : ByteArray) (v1 v3 v6 : Value) : Array Value := #[.int .i64 p.begin_, v1, .string text, v3, .int .i64 p.stanzas, .int .i64 p.at_, v6]
def itemCells (it : It) (v : Value) : List Value := [.int .i64 it.kind, .string (B it.raw), v]
def itemsCells : List It -> List Value -> List Value
  | it :: l, v :: vs => itemCells it v ++ itemsCells l vs
  | _, _ => []
theorem itemsCells_snoc : ∀ (l : List It) (vs : List Value) (it : It) (v : Value), vs.length = l.length -> itemsCells (l ++ [it]) (vs ++ [v]) = itemsCells l vs ++ itemCells it v
  | [], [], it, v, _ => by simp [itemsCells]
  | [], _ :: _, _, _, h => by simp at h
  | a :: l, [], it, v, h => by simp at h
  | a :: l, u :: vs, it, v, h => by
    have := itemsCells_snoc l vs it v (by simpa using h)
    simp only [List.cons_append, itemsCells, this, List.append_assoc]
theorem itemsCells_at : ∀ (l : List It) (vs : List Value) (i : Nat) (it : It) (v : Value), l[i]? = some it -> vs[i]? = some v -> (itemsCells l vs)[i * 3]? = some (.int .i64 it.kind) /\ (itemsCells l vs)[i * 3 + 1]? = some (.string (B it.raw)) /\ (itemsCells l vs)[i * 3 + 1 + 1]? = some v
  | [], _, i, it, v, h, _ => by simp at h
  | a :: l, [], i, it, v, _, h => by simp at h
  | a :: l, u :: vs, 0, it, v, h, h' => by simp at h h'; subst h h'; exact ⟨rfl, rfl, rfl⟩
  | a :: l, u :: vs, i + 1, it, v, h, h' => by
    obtain ⟨x, y, z⟩ := itemsCells_at l vs i it v (by simpa using h) (by simpa using h')
    have e : itemsCells (a :: l) (u :: vs) = .int .i64 a.kind :: .string (B a.raw) :: u :: itemsCells l vs := rfl
    have k : (i + 1) * 3 = i * 3 + 1 + 1 + 1 := by omega
    have k1 : i * 3 + 1 + 1 + 1 + 1 = (i * 3 + 1) + 1 + 1 + 1 := by omega
    have k2 : i * 3 + 1 + 1 + 1 + 1 + 1 = (i * 3 + 1 + 1) + 1 + 1 + 1 := by omega
    rw [e, k]
    refine ⟨?_, ?_, ?_⟩
    . rw [List.getElem?_cons_succ, List.getElem?_cons_succ, List.getElem?_cons_succ]; exact x
    . rw [k1, List.getElem?_cons_succ, List.getElem?_cons_succ, List.getElem?_cons_succ]; exact y
    rw [k2, List.getElem?_cons_succ, List.getElem?_cons_succ, List.getElem?_cons_succ]; exact z
theorem cellsF_snoc (l : List Fld) (f : Fld) : cellsF (l ++ [f]) = cellsF l ++ [.string (B f.1), .string (B f.2)] := by unfold cellsF; simp
def saidCells (l : List (List UInt8)) : List Value := l.map fun x => .string (B x)
structure ParserV (w : World) (T : Nat -> Nat) (R b : Nat) (text : ByteArray) (p : PS) (V : PV) : Prop where
  cells : Cells w b 134 (pCells p text V.v1 V.v3 V.v6)
  tp : T b = 1
  r1 : w.ownsRow 0 9 1 V.v1 p.said.length (saidCells p.said)
  t1 : tagged T V.v1.ownBlock 2
  r3 : w.ownsRow 0 80 3 V.v3 p.items.length (itemsCells p.items V.fvs)
  t3 : tagged T V.v3.ownBlock 3
  r6 : w.ownsRow 0 55 2 V.v6 p.fields.length (cellsF p.fields)
  t6 : tagged T V.v6.ownBlock 4
  nf : V.fvs.length = p.items.length
  rf : ∀ (i : Nat) (it : It) (v : Value), p.items[i]? = some it -> V.fvs[i]? = some v -> w.ownsRow 0 55 2 v it.fields.length (cellsF it.fields) /\ tagged T v.ownBlock 5
  low : ∀ k, T k ≠ 0 -> R <= k /\ k < w.heap.size
def ParserAt (w : World) (T : Nat -> Nat) (R b : Nat) (text : ByteArray) (p : PS) : Prop := ∃ V, ParserV w T R b text p V
structure PStep (w : World) (T : Nat -> Nat) (w' : World) (T' : Nat -> Nat) : Prop where
  only : Only (fun r => T r ≠ 0) w w'
  old : ∀ r, r < w.heap.size -> (T' r = 0 ↔ T r = 0)
theorem PStep.refl (w : World) (T : Nat -> Nat) : PStep w T w T := ⟨Only.refl _ _, fun _ _ => Iff.rfl⟩
theorem PStep.trans {w w1 w2 : World} {T T1 T2 : Nat -> Nat} (h : PStep w T w1 T1) (g : PStep w1 T1 w2 T2) : PStep w T w2 T2 :=
  ⟨h.only.trans g.only (fun r hr hn => fun e => hn ((h.old r hr).2 e)), fun r hr => (g.old r (Nat.lt_of_lt_of_le hr h.only.size)).trans (h.old r hr)⟩
theorem PStep.below {w w' : World} {T : Nat -> Nat} (h : Below w.heap.size w w') : PStep w T w' T := ⟨Only.of_below h (Nat.le_refl _), fun _ _ => Iff.rfl⟩
theorem PStep.drewN {w w' : World} {T T' : Nat -> Nat} (h : PStep w T w' T') (n : Nat) : PStep w T (w'.drewN n) T' := ⟨h.only.drewN n, h.old⟩
theorem ParserV.same {w w' : World} {T : Nat -> Nat} {R b : Nat} {text : ByteArray} {p : PS} {V : PV} (h : ParserV w T R b text p V) (hs : ∀ k, T k ≠ 0 -> w'.heap[k]? = w.heap[k]?) (hz : w.heap.size <= w'.heap.size) : ParserV w' T R b text p V := by
  have s : ∀ {o : Option Nat} {t : Nat}, tagged T o t -> t ≠ 0 -> ∀ k, o = some k -> w'.heap[k]? = w.heap[k]? := fun ht hne k hk => hs k (by rw [ht k hk]; exact hne)
  exact ⟨(hs b (by rw [h.tp]; decide)).trans h.cells, h.tp, row_same h.r1 (s h.t1 (by decide)), h.t1, row_same h.r3 (s h.t3 (by decide)), h.t3, row_same h.r6 (s h.t6 (by decide)), h.t6, h.nf,
    fun i it v h1 h2 => ⟨row_same (h.rf i it v h1 h2).1 (s (h.rf i it v h1 h2).2 (by decide)), (h.rf i it v h1 h2).2⟩, fun k hk => ⟨(h.low k hk).1, Nat.lt_of_lt_of_le (h.low k hk).2 hz⟩⟩
theorem ParserV.below {w w' : World} {T : Nat -> Nat} {R b : Nat} {text : ByteArray} {p : PS} {V : PV} (h : ParserV w T R b text p V) (hb : Below w.heap.size w w') : ParserV w' T R b text p V :=
  h.same (fun k hk => hb.block k (h.low k hk).2) hb.size
theorem ParserAt.below {w w' : World} {T : Nat -> Nat} {R b : Nat} {text : ByteArray} {p : PS} (h : ParserAt w T R b text p) (hb : Below w.heap.size w w') : ParserAt w' T R b text p := by
  obtain ⟨V, h⟩ := h; exact ⟨V, h.below hb⟩
theorem ParserV.lt {w : World} {T : Nat -> Nat} {R b : Nat} {text : ByteArray} {p : PS} {V : PV} (h : ParserV w T R b text p V) : b < w.heap.size := h.cells.lt
theorem ParserV.new (w : World) (text : ByteArray) (R : Nat) (hR : R <= w.heap.size) : ParserV (w.alloc (.cells #[.int .i64 0, .slice none 0 0, .string text, .slice none 0 0, .int .i64 0, .int .i64 0, .slice none 0 0] 134)) (fun k => if k = w.heap.size then 1 else 0) R w.heap.size text PS.new ⟨.slice none 0 0, .slice none 0 0, .slice none 0 0, []⟩ := by
  have tn : ∀ t, tagged (fun k => if k = w.heap.size then 1 else 0) (Value.slice none 0 0).ownBlock t := fun t k h => by cases h
  have rn : ∀ e size, (w.alloc (.cells #[.int .i64 0, .slice none 0 0, .string text, .slice none 0 0, .int .i64 0, .int .i64 0, .slice none 0 0] 134)).ownsRow 0 e size (.slice none 0 0) 0 [] := fun e size => ⟨by simp, .inl ⟨rfl, rfl⟩⟩
  refine ⟨Cells.new _ _ _, if_pos rfl, rn _ _, tn 2, rn _ _, tn 3, rn _ _, tn 4, rfl, (fun i it v h _ => by cases h), fun k hk => ?_⟩
  have : k = w.heap.size := by
    rcases Nat.decEq k w.heap.size with h | h
    . rw [if_neg h] at hk; exact absurd rfl hk
    exact h
  subst this
  exact ⟨hR, by simp⟩
theorem own_slice {w : World} {base : Nat} {e : TypeId} {size : Nat} {v : Value} {n : Nat} {xs : List Value} (h : w.ownsRow base e size v n xs) : ∃ a cap, v = .slice a n cap /\ n <= cap := by
  rcases h.2 with ⟨rfl, rfl⟩ | ⟨g, cap, cur, rfl, _, _, hle, _⟩
  . exact ⟨none, 0, rfl, Nat.le_refl _⟩
  exact ⟨_, cap, rfl, hle⟩
theorem under_any {w : World} {T : Nat -> Nat} {R b : Nat} {text : ByteArray} {p : PS} {V : PV} (h : ParserV w T R b text p V) :
    Calls Tryz.prog 81 #[.pointer (some ⟨b, 0, none⟩)] w fun e w' => e = .returned (.bool (!p.said.isEmpty)) /\ w = w' := by
  obtain ⟨a, cap, e1, hc⟩ := own_slice h.r1
  have c1 : w.cell? ⟨b, 1, none⟩ = some (.slice a p.said.length cap) := by rw [<- e1]; exact h.cells.cell 1
  have hl := h.lt
  have hb : (!p.said.isEmpty) = decide (0 < p.said.length) := by cases p.said <;> simp
  rw [hb]
  clear h
  go_enter Tryz.func81, Tryz.ntmps81
  go_wp2
  go_ret
  exact ⟨rfl, rfl⟩
theorem full_any {w : World} {T : Nat -> Nat} {R b : Nat} {text : ByteArray} {p : PS} {V : PV} (h : ParserV w T R b text p V) :
    Calls Tryz.prog 86 #[.pointer (some ⟨b, 0, none⟩)] w fun e w' => e = .returned (.bool (fullP p)) /\ w = w' := by
  obtain ⟨a, cap, e1, hc⟩ := own_slice h.r6
  have c1 : w.cell? ⟨b, 6, none⟩ = some (.slice a p.fields.length cap) := by rw [<- e1]; exact h.cells.cell 6
  have c2 : w.cell? ⟨b, 4, none⟩ = some (.int .i64 p.stanzas) := h.cells.cell 4
  have hl := h.lt
  unfold fullP
  clear h
  by_cases h0 : p.fields.length = 0
  . rw [if_pos h0]
    rw [h0] at c1
    have e2 : (p.stanzas == 400) = ((p.stanzas : Int) == 400) := by rw [Bool.eq_iff_iff]; simp; omega
    rw [e2]
    go_enter Tryz.func86, Tryz.ntmps86
    go_wp2
    go_ret
    exact ⟨rfl, rfl⟩
  rw [if_neg h0]
  have e2 : (p.fields.length == 40) = ((p.fields.length : Int) == 40) := by rw [Bool.eq_iff_iff]; simp; omega
  have e3 : ((p.fields.length : Int) == 0) = false := beq_eq_false_iff_ne.2 (by omega)
  rw [e2]
  go_enter Tryz.func86, Tryz.ntmps86
  go_wp2
  go_ret
  exact ⟨rfl, rfl⟩
end Go.Proofs.YtfjklpgmnakcaaaGreatDoor
namespace Go.Proofs.YtfjklpgmnakcaaaGreatDoor
open Go.RowKit
theorem saidCells_snoc (l : List (List UInt8)) (x : List UInt8) : saidCells (l ++ [x]) = saidCells l ++ [.string (B x)] := by unfold saidCells; simp
theorem infoStr0 : (Tryz.prog.info? 9).map (fun i => (i.zero, i.size, i.bytes)) = some (some (.string ⟨#[]⟩), 1, 16) := by kernel_rfl
theorem retag_both {w w' : World} {T : Nat -> Nat} {R : Nat} {a o : Option Nat} {t : Nat} (low : ∀ k, T k ≠ 0 -> R <= k /\ k < w.heap.size) (hs : w.heap.size <= w'.heap.size) (hR : R <= w.heap.size) (h : sameOr w.heap.size w'.heap.size a o) (ha : tagged T a t) (ht : t ≠ 0) :
    ∀ k, retag T w.heap.size o t k ≠ 0 -> R <= k /\ k < w'.heap.size := by
  intro k hk
  unfold retag at hk
  split at hk
  . rename_i hn
    rcases h with h | ⟨j, h, _, h2⟩
    . have := low k (by rw [ha k (by rw [<- h]; exact hn.2)]; exact ht); omega
    have := hn.2; rw [h] at this; cases this; omega
  have := low k hk; omega
theorem ParserV.said {w w' : World} {T : Nat -> Nat} {R b : Nat} {text : ByteArray} {p p' : PS} {V : PV} (h : ParserV w T R b text p V) (hR : R <= w.heap.size) (v1' : Value)
    (hc : Cells w' b 134 (pCells p' text v1' V.v3 V.v6)) (hr : w'.ownsRow 0 9 1 v1' p'.said.length (saidCells p'.said)) (hk : sameOr w.heap.size w'.heap.size V.v1.ownBlock v1'.ownBlock)
    (ho : Only (fun r => r = b \/ some r = V.v1.ownBlock) w w') (e1 : p'.items = p.items) (e2 : p'.fields = p.fields) :
    ∃ T', ParserV w' T' R b text p' { V with v1 := v1' } /\ PStep w T w' T' := by
  have hs : ∀ k, T k ≠ 0 -> T k ≠ 1 -> T k ≠ 2 -> w'.heap[k]? = w.heap[k]? := fun k h0 h1 h2 => ho.same k (h.low k h0).2 (by
    rintro (e | e)
    . exact h1 (by rw [e]; exact h.tp)
    exact h2 (h.t1 k e.symm))
  have s : ∀ {o : Option Nat} {t : Nat}, tagged T o t -> 3 <= t -> ∀ k, o = some k -> w'.heap[k]? = w.heap[k]? := fun ht hne k hk => hs k (by rw [ht k hk]; omega) (by rw [ht k hk]; omega) (by rw [ht k hk]; omega)
  have lo : ∀ {o : Option Nat} {t : Nat}, tagged T o t -> t ≠ 0 -> ∀ k, o = some k -> k < w.heap.size := fun ht hne k hk => (h.low k (by rw [ht k hk]; exact hne)).2
  refine ⟨retag T w.heap.size v1'.ownBlock 2, ⟨hc, by rw [retag_old h.lt]; exact h.tp, hr, retag_same hk h.t1, ?_, retag_other h.t3 (lo h.t3 (by decide)), ?_, retag_other h.t6 (lo h.t6 (by decide)), by rw [e1]; exact h.nf, fun i it v h1 h2 => ?_, retag_both h.low ho.size hR hk h.t1 (by decide)⟩,
    ⟨ho.mono fun r hr' e => ?_, fun r hr' => by rw [retag_old hr']⟩⟩
  . rw [e1]; exact row_same h.r3 (s h.t3 (by decide))
  . rw [e2]; exact row_same h.r6 (s h.t6 (by decide))
  . obtain ⟨a, c⟩ := h.rf i it v (by rw [<- e1]; exact h1) h2
    exact ⟨row_same a (s c (by decide)), retag_other c (lo c (by decide))⟩
  rcases e with e | e
  . rw [e, h.tp]; decide
  rw [h.t1 r e.symm]; decide
def startP (p : PS) (x : Ln) : PS := { p with begin_ := x.no, said := [x.text] }
theorem start_any {w : World} {T : Nat -> Nat} {R b : Nat} {text : ByteArray} {p : PS} {V : PV} (h : ParserV w T R b text p V) (hR : R <= w.heap.size) (x : Ln) :
    Calls Tryz.prog 83 #[.pointer (some ⟨b, 0, none⟩), .agg #[.int .i64 x.no, .int .i64 x.at_, .string (B x.text), .bool x.ended]] w fun e w' => e = .returned (.tuple #[]) /\ ∃ T', ParserAt w' T' R b text (startP p x) /\ PStep w T w' T' := by
  have hl := h.lt
  have hcell := h.cells
  have k0 : w.cell? ⟨b, 0, none⟩ = some (.int .i64 p.begin_) := hcell.cell 0
  have k1 : w.cell? ⟨b, 1, none⟩ = some V.v1 := hcell.cell 1
  have kf0 := hcell.frozen 0
  have kf1 := hcell.frozen 1
  have HF := Lib.hid (fun w' v1' hc hr hk ho => ParserV.said (p' := startP p x) h hR (w' := w') v1' hc hr hk ho rfl rfl)
  have HC := Lib.hid hcell
  clear h hcell
  go_enter Tryz.func83, Tryz.ntmps83
  go_wp2
  go_region
  all_goals
    go_wp2
    go_end0
    refine ⟨rfl, ?_⟩
    refine Exists.elim (HF.out _ (.slice (some ⟨w.heap.size + 1, 0, none⟩) 1 1) ?c ?r ?k ?o) fun T' g => ⟨T', ⟨_, g.1⟩, g.2⟩
    case c =>
      have hc := ((((HC.out.set 0 (.int .i64 x.no)).set 1 (.slice (some ⟨w.heap.size + 1, 0, none⟩) 1 1)).alloc (.cells #[.int .i64 x.no, .int .i64 x.at_, .string (B x.text), .bool x.ended] 139)).alloc (.cells #[.string (B x.text)] 9)).drew
      simpa [pCells, startP] using hc
    case r =>
      have hz : (((w.setCell ⟨b, 0, none⟩ (.int .i64 x.no)).setCell ⟨b, 1, none⟩ (.slice (some ⟨w.heap.size + 1, 0, none⟩) 1 1)).alloc (.cells #[.int .i64 x.no, .int .i64 x.at_, .string (B x.text), .bool x.ended] 139)).heap.size = w.heap.size + 1 := by simp [World.setCell]
      have := World.ownsRow_lit (base := 0) (((w.setCell ⟨b, 0, none⟩ (.int .i64 x.no)).setCell ⟨b, 1, none⟩ (.slice (some ⟨w.heap.size + 1, 0, none⟩) 1 1)).alloc (.cells #[.int .i64 x.no, .int .i64 x.at_, .string (B x.text), .bool x.ended] 139)) (e := 9) (size := 1) #[.string (B x.text)] 1 (Nat.zero_le _) (by decide) rfl
      rw [hz] at this
      exact row_same this fun _ _ => rfl
    case k => exact .inr ⟨w.heap.size + 1, rfl, by omega, by simp [World.setCell, World.drew]⟩
    case o => exact ((((Only.refl _ w).setCell (p := ⟨b, 0, none⟩) (.inl (.inl rfl)) _).setCell (p := ⟨b, 1, none⟩) (.inl (.inl rfl)) _).alloc _).alloc _ |>.drew
theorem rowBlock_ne {w : World} {T : Nat -> Nat} {b : Nat} {v : Value} {t : Nat} (hb : T b = 1) (ht : tagged T v.ownBlock t) (h : t ≠ 1) : v.ownBlock ≠ some b := fun e => h (by rw [<- ht b e, hb])
def goOnP (p : PS) (x : Ln) : PS := { p with said := p.said ++ [x.text] }
theorem goOn_any {w : World} {T : Nat -> Nat} {R b : Nat} {text : ByteArray} {p : PS} {V : PV} (h : ParserV w T R b text p V) (hR : R <= w.heap.size) (x : Ln) (hn : p.said.length <= 1000000) :
    Calls Tryz.prog 82 #[.pointer (some ⟨b, 0, none⟩), .agg #[.int .i64 x.no, .int .i64 x.at_, .string (B x.text), .bool x.ended]] w fun e w' => e = .returned (.tuple #[]) /\ ∃ T', ParserAt w' T' R b text (goOnP p x) /\ PStep w T w' T' := by
  obtain ⟨i0, hi, hz0, hz1, hz2⟩ := info_parts infoStr0
  have hl := h.lt
  have k1 : w.cell? ⟨b, 1, none⟩ = some V.v1 := h.cells.cell 1
  have HF := Lib.hid (fun w' v1' hc hr hk ho => ParserV.said (p' := goOnP p x) h hR (w' := w') v1' hc hr hk ho rfl rfl)
  have HC := Lib.hid h.cells
  have HO := Lib.hid h.r1
  have HE := Lib.hid (rowBlock_ne (w := w) h.tp h.t1 (by decide))
  clear h
  go_enter Tryz.func82, Tryz.ntmps82
  go_wp2
  go_region_law ((refine step_append_own rfl (.tmp 8) (.tmp 11) 130 rfl 9 i0 _ 1 16 Tryz.underlying130 hi hz0 hz1 hz2 rfl (by decide) V.v1 p.said.length (saidCells p.said) (by simp [Act.eval]) (by exact ((HO.out.alloc _).alloc _).drew) ⟨w.heap.size + 1, 0, none⟩ 1 1 [.string (B x.text)] (by simp [Act.eval]) rfl (by have := cells_new_add (w.alloc (.cells #[.int .i64 x.no, .int .i64 x.at_, .string (B x.text), .bool x.ended] 139)) 9 [.string (B x.text)]; rw [World.size_alloc] at this; exact this) (by intro u hu; simp at hu; subst hu; rfl) (by unfold maxLen; omega) (by omega) ?_); intro v' w' ho hgr hbk; obtain ⟨⟨g', cap', rfl⟩, hg', hbx, hk, hon⟩ := appended HC.out HO.out HE.out ((((Below.refl _ w).alloc (Nat.le_refl _) _).alloc (by simp) _).drew) ho hgr hbk; have k1' : w'.cell? ⟨b, 1, none⟩ = some V.v1 := hg'.cell 1; have kf1' := hg'.frozen 1)
  all_goals
    go_wp2
    go_end0
    have hvg : (Value.slice (some ⟨g', 0, none⟩) (p.said.length + 1) cap').ownBlock ≠ some b := by
      intro e
      rcases hk with h | ⟨k, h, h2, _⟩
      . exact HE.out (h.symm.trans e)
      rw [h] at e; cases e; omega
    refine ⟨rfl, Exists.elim (HF.out _ (.slice (some ⟨g', 0, none⟩) (p.said.length + 1) cap') ?k1 ?k2 ?k3 ?k4) fun T' g => ⟨T', ⟨_, g.1⟩, g.2⟩⟩
    case k1 =>
      have hc := hg'.set 1 (.slice (some ⟨g', 0, none⟩) (p.said.length + 1) cap')
      simpa [pCells, goOnP] using hc
    case k2 =>
      have hr := row_cell (p := ⟨b, 1, none⟩) ho hvg (.slice (some ⟨g', 0, none⟩) (p.said.length + 1) cap')
      have e1 : (goOnP p x).said.length = p.said.length + 1 := by simp [goOnP]
      have e2 : saidCells (goOnP p x).said = saidCells p.said ++ [.string (B x.text)] := saidCells_snoc _ _
      rw [e1, e2]
      exact hr
    case k3 => unfold sameOr; simpa [World.setCell] using hk
    case k4 => exact (hon.mono (fun r _ h => .inr h)).setCell (p := ⟨b, 1, none⟩) (.inl (.inl rfl)) _
end Go.Proofs.YtfjklpgmnakcaaaGreatDoor
namespace Go.Proofs.YtfjklpgmnakcaaaGreatDoor
open Go.RowKit
theorem infoItem : (Tryz.prog.info? 80).map (fun i => (i.zero, i.size, i.bytes)) = some (some (.agg #[.int .i64 0, .string ⟨#[]⟩, .slice none 0 0]), 3, 48) := by kernel_rfl
theorem cut_text (text : ByteArray) (a e : Nat) : text.extract a e = B ((text.data.toList.take e).drop a) := by
  have h := Lib.extract_data text a e
  have h2 : (text.data.toList.take e).drop a = (text.data.toList.drop a).take (e - a) := by rw [List.drop_take]
  rw [h2, <- h, B_of]
def moved (T : Nat -> Nat) (a c : Nat) : Nat -> Nat := fun k => if T k = a then c else T k
theorem moved_other {T : Nat -> Nat} {a c : Nat} {o : Option Nat} {t : Nat} (h : tagged T o t) (ht : t ≠ a) : tagged (moved T a c) o t := by
  intro k hk; unfold moved; rw [if_neg (by rw [h k hk]; exact ht)]; exact h k hk
theorem moved_it {T : Nat -> Nat} {a c : Nat} {o : Option Nat} (h : tagged T o a) : tagged (moved T a c) o c := by
  intro k hk; unfold moved; rw [if_pos (h k hk)]
theorem moved_zero {T : Nat -> Nat} {a c : Nat} (ha : a ≠ 0) (hc : c ≠ 0) (k : Nat) : moved T a c k = 0 ↔ T k = 0 := by
  unfold moved
  split
  . rename_i h; rw [h]; exact ⟨fun e => absurd e hc, fun e => absurd e ha⟩
  exact Iff.rfl
theorem ParserV.item {w w' : World} {T : Nat -> Nat} {R b : Nat} {text : ByteArray} {p p' : PS} {V : PV} (h : ParserV w T R b text p V) (hR : R <= w.heap.size) (v3' : Value) (it : It)
    (hc : Cells w' b 134 (pCells p' text V.v1 v3' (.slice none 0 0))) (hr : w'.ownsRow 0 80 3 v3' (p.items.length + 1) (itemsCells p.items V.fvs ++ itemCells it V.v6)) (hk : sameOr w.heap.size w'.heap.size V.v3.ownBlock v3'.ownBlock)
    (ho : Only (fun r => r = b \/ some r = V.v3.ownBlock) w w') (e1 : p'.items = p.items ++ [it]) (e2 : p'.fields = []) (e3 : p'.said = p.said) (e4 : it.fields = p.fields) :
    ∃ T', ParserV w' T' R b text p' { V with v3 := v3', v6 := .slice none 0 0, fvs := V.fvs ++ [V.v6] } /\ PStep w T w' T' := by
  have hs : ∀ k, T k ≠ 0 -> T k ≠ 1 -> T k ≠ 3 -> w'.heap[k]? = w.heap[k]? := fun k h0 h1 h2 => ho.same k (h.low k h0).2 (by
    rintro (e | e)
    . exact h1 (by rw [e]; exact h.tp)
    exact h2 (h.t3 k e.symm))
  have s : ∀ {o : Option Nat} {t : Nat}, tagged T o t -> t ≠ 0 -> t ≠ 1 -> t ≠ 3 -> ∀ k, o = some k -> w'.heap[k]? = w.heap[k]? := fun ht h0 h1 h3 k hk => hs k (by rw [ht k hk]; exact h0) (by rw [ht k hk]; exact h1) (by rw [ht k hk]; exact h3)
  have lo : ∀ {o : Option Nat} {t : Nat}, tagged T o t -> t ≠ 0 -> ∀ k, o = some k -> k < w.heap.size := fun ht hne k hk => (h.low k (by rw [ht k hk]; exact hne)).2
  have lowM : ∀ k, moved T 4 5 k ≠ 0 -> R <= k /\ k < w.heap.size := fun k hk => h.low k (fun e => hk ((moved_zero (by decide) (by decide) k).2 e))
  refine ⟨retag (moved T 4 5) w.heap.size v3'.ownBlock 3, ⟨hc, ?_, ?_, ?_, ?_, ?_, ?_, ?_, ?_, ?_, ?_⟩, ⟨ho.mono fun r hr' e => ?_, fun r hr' => by rw [retag_old hr']; exact moved_zero (by decide) (by decide) r⟩⟩
  . rw [retag_old h.lt]; unfold moved; rw [h.tp]; rfl
  . rw [e3]; exact row_same h.r1 (s h.t1 (by decide) (by decide) (by decide))
  . exact retag_other (moved_other h.t1 (by decide)) (lo h.t1 (by decide))
  . rw [e1, List.length_append, itemsCells_snoc _ _ _ _ h.nf]; exact hr
  . exact retag_same hk (moved_other h.t3 (by decide))
  . rw [e2]; exact ⟨by simp [cellsF], .inl ⟨rfl, rfl⟩⟩
  . exact fun k hk => by cases hk
  . rw [e1, List.length_append, List.length_append, h.nf]; rfl
  . intro i it' v h1 h2
    rw [e1] at h1
    dsimp only at h2
    rcases Nat.lt_or_ge i p.items.length with q | q
    . rw [List.getElem?_append_left q] at h1
      rw [List.getElem?_append_left (by rw [h.nf]; exact q)] at h2
      obtain ⟨a, c⟩ := h.rf i it' v h1 h2
      exact ⟨row_same a (s c (by decide) (by decide) (by decide)), retag_other (moved_other c (by decide)) (lo c (by decide))⟩
    rw [List.getElem?_append_right q] at h1
    rw [List.getElem?_append_right (by rw [h.nf]; exact q), h.nf] at h2
    have hz : i - p.items.length = 0 := by
      rcases Nat.eq_zero_or_pos (i - p.items.length) with z | z
      . exact z
      rw [List.getElem?_eq_none (by simp; omega)] at h1; cases h1
    rw [hz] at h1 h2
    cases h1; cases h2
    rw [e4]
    exact ⟨row_same h.r6 (s h.t6 (by decide) (by decide) (by decide)), retag_other (moved_it h.t6) (lo h.t6 (by decide))⟩
  . exact retag_both lowM ho.size hR hk (moved_other h.t3 (by decide)) (by decide)
  rcases e with e | e
  . rw [e, h.tp]; decide
  rw [h.t3 r e.symm]; decide
theorem endItem_any {w : World} {T : Nat -> Nat} {R b : Nat} {text : ByteArray} {p : PS} {V : PV} (h : ParserV w T R b text p V) (hR : R <= w.heap.size) (kind e : Nat) (h1 : p.at_ <= e) (h2 : e <= text.size) (h3 : text.size <= 1000000) (hn : p.items.length <= 1000000) :
    Calls Tryz.prog 84 #[.pointer (some ⟨b, 0, none⟩), .int .i64 kind, .int .i64 e] w fun e' w' => e' = .returned (.tuple #[]) /\ ∃ T', ParserAt w' T' R b text (endItemP text.data.toList p kind e) /\ PStep w T w' T' := by
  obtain ⟨i0, hi, hz0, hz1, hz2⟩ := info_parts infoItem
  obtain ⟨a6, c6, e6, _⟩ := own_slice h.r6
  have hl := h.lt
  have HF := Lib.hid (fun w' v3' hc hr hk ho => ParserV.item (p' := endItemP text.data.toList p kind e) h hR (w' := w') v3' ⟨kind, (text.data.toList.take e).drop p.at_, p.fields⟩ hc hr hk ho rfl rfl rfl rfl)
  have HC := Lib.hid h.cells
  have HO := Lib.hid h.r3
  have HE := Lib.hid (rowBlock_ne (w := w) h.tp h.t3 (by decide))
  have HT := Lib.hid (cut_text text p.at_ e)
  have q3 : w.cell? ⟨b, 3, none⟩ = some V.v3 := h.cells.cell 3
  have q2 : w.cell? ⟨b, 2, none⟩ = some (.string text) := h.cells.cell 2
  have q5 : w.cell? ⟨b, 5, none⟩ = some (.int .i64 p.at_) := h.cells.cell 5
  have q6 : w.cell? ⟨b, 6, none⟩ = some (.slice a6 p.fields.length c6) := by rw [<- e6]; exact h.cells.cell 6
  clear h
  go_enter Tryz.func84, Tryz.ntmps84
  go_wp2
  go_cut [] (fun wx => ∃ g' cap', Cells wx b 134 (pCells p text V.v1 (.slice (some ⟨g', 0, none⟩) (p.items.length + 1) cap') V.v6) /\
    wx.ownsRow 0 80 3 (.slice (some ⟨g', 0, none⟩) (p.items.length + 1) cap') (p.items.length + 1) (itemsCells p.items V.fvs ++ [.int .i64 kind, .string (text.extract p.at_ e), .slice a6 p.fields.length c6]) /\
    sameOr w.heap.size wx.heap.size V.v3.ownBlock (Value.slice (some ⟨g', 0, none⟩) (p.items.length + 1) cap').ownBlock /\ g' ≠ b /\ Only (fun r => r = b \/ some r = V.v3.ownBlock) w wx)
  case first =>
    go_region_law ((refine step_append_own rfl (.tmp 10) (.tmp 27) 95 rfl 80 i0 _ 3 48 Tryz.underlying95 hi hz0 hz1 hz2 rfl (by decide) V.v3 p.items.length (itemsCells p.items V.fvs) (by simp [Act.eval]) (by exact (HO.out.alloc _).drew) ⟨w.heap.size, 0, none⟩ 1 1 [.int .i64 kind, .string (text.extract p.at_ e), .slice a6 p.fields.length c6] (by simp [Act.eval]) rfl (cells_new_add w 80 [.int .i64 kind, .string (text.extract p.at_ e), .slice a6 p.fields.length c6]) (by intro u hu; simp at hu; rcases hu with rfl | rfl | rfl <;> rfl) (by unfold maxLen; omega) (by omega) ?_); intro v' w' ho hgr hbk; obtain ⟨⟨g', cap', rfl⟩, hg', hbx, hk, hon⟩ := appended HC.out HO.out HE.out (((Below.refl _ w).alloc (Nat.le_refl _) _).drew) ho hgr hbk; have k3' : w'.cell? ⟨b, 3, none⟩ = some V.v3 := hg'.cell 3; have kf3' := hg'.frozen 3)
    all_goals
      go_wp2
      go_meet
      have hvg : g' ≠ b := by
        intro e
        rcases hk with h | ⟨k, h, h2, _⟩
        . exact HE.out (h.symm.trans (by rw [e]; rfl))
        have hh : g' = k := Option.some.inj (show some g' = some k from h)
        omega
      refine ⟨g', cap', ?_, row_cell (p := ⟨b, 3, none⟩) ho (fun e => hvg (by cases e; rfl)) _, ?_, hvg, (hon.mono (fun r _ h => .inr h)).setCell (p := ⟨b, 3, none⟩) (.inl (.inl rfl)) _⟩
      . simpa [pCells] using hg'.set 3 (.slice (some ⟨g', 0, none⟩) (p.items.length + 1) cap')
      unfold sameOr; simpa [World.setCell] using hk
  case rest =>
  obtain ⟨g', cap', hc, hr, hk, hvg, ho⟩ := hcut
  have k5 : wc.cell? ⟨b, 5, none⟩ = some (.int .i64 p.at_) := hc.cell 5
  have kf5 := hc.frozen 5
  have k6 : wc.cell? ⟨b, 6, none⟩ = some (.slice a6 p.fields.length c6) := by rw [<- e6]; exact hc.cell 6
  have kf6 := hc.frozen 6
  go_wp2
  go_end0
  refine ⟨rfl, Exists.elim (HF.out _ (.slice (some ⟨g', 0, none⟩) (p.items.length + 1) cap') ?k1 ?k2 ?k3 ?k4) fun T' g => ⟨T', ⟨_, g.1⟩, g.2⟩⟩
  case k1 =>
    have := (hc.set 5 (.int .i64 e)).set 6 (.slice none 0 0)
    simpa [pCells, endItemP] using this
  case k2 =>
    have e9 : itemCells ⟨kind, (text.data.toList.take e).drop p.at_, p.fields⟩ V.v6 = [.int .i64 kind, .string (text.extract p.at_ e), .slice a6 p.fields.length c6] := by
      unfold itemCells; rw [HT.out, e6]
    rw [e9]
    exact row_cell (p := ⟨b, 6, none⟩) (row_cell (p := ⟨b, 5, none⟩) hr (fun e => hvg (by cases e; rfl)) _) (fun e => hvg (by cases e; rfl)) _
  case k3 => unfold sameOr at hk ⊢; simpa [World.setCell] using hk
  case k4 => exact (ho.setCell (p := ⟨b, 5, none⟩) (.inl (.inl rfl)) _).setCell (p := ⟨b, 6, none⟩) (.inl (.inl rfl)) _
end Go.Proofs.YtfjklpgmnakcaaaGreatDoor
namespace Go.Proofs.YtfjklpgmnakcaaaGreatDoor
open Go.RowKit
theorem endBlock_any {w : World} {T : Nat -> Nat} {R b : Nat} {text : ByteArray} {p : PS} (h : ParserAt w T R b text p) (hR : R <= w.heap.size) (e : Nat) (h1 : p.at_ <= e) (h2 : e <= text.size) (h3 : text.size <= 1000000) (hn : p.items.length <= 1000000) (hs : p.stanzas <= 1000000) :
    Calls Tryz.prog 59 #[.pointer (some ⟨b, 0, none⟩), .int .i64 e] w fun e' w' => e' = .returned (.tuple #[]) /\ ∃ T', ParserAt w' T' R b text (endBlockP text.data.toList p e) /\ PStep w T w' T' := by
  obtain ⟨V, h⟩ := h
  obtain ⟨a6, c6, e6, _⟩ := own_slice h.r6
  have hl := h.lt
  have q5 : w.cell? ⟨b, 5, none⟩ = some (.int .i64 p.at_) := h.cells.cell 5
  have q6 : w.cell? ⟨b, 6, none⟩ = some (.slice a6 p.fields.length c6) := by rw [<- e6]; exact h.cells.cell 6
  unfold endBlockP
  by_cases he : p.at_ = e
  . rw [if_pos he]
    have g : ParserAt w T R b text p := ⟨V, h⟩
    have x1 : ((p.at_ : Int) == (e : Int)) = true := by rw [he]; simp
    clear h
    go_enter Tryz.func59, Tryz.ntmps59
    go_wp2
    refine bodyPost_ret (results_none rfl _ _ _) rfl ?_
    exact ⟨rfl, T, g, PStep.refl _ _⟩
  rw [if_neg he]
  have x1 : ((p.at_ : Int) == (e : Int)) = false := beq_eq_false_iff_ne.2 (by omega)
  by_cases hf : p.fields.length = 0
  . rw [if_pos hf]
    have x2 : ((p.fields.length : Int) == 0) = true := by rw [hf]; rfl
    have EI := Lib.hid (endItem_any h hR 2 e h1 h2 h3 hn)
    clear h
    go_enter Tryz.func59, Tryz.ntmps59
    go_wp2_with fail
    refine EI.out.mono ?_
    rintro e' w1 ⟨rfl, T1, g1, s1⟩
    go_wp2
    go_end0
    exact ⟨rfl, T1, g1, s1⟩
  rw [if_neg hf]
  have x2 : ((p.fields.length : Int) == 0) = false := beq_eq_false_iff_ne.2 (by omega)
  have EI := Lib.hid (endItem_any h hR 3 e h1 h2 h3 hn)
  clear h
  go_enter Tryz.func59, Tryz.ntmps59
  go_wp2_with fail
  refine EI.out.mono ?_
  rintro e' w1 ⟨rfl, T1, ⟨V1, g1⟩, s1⟩
  have hl1 := g1.lt
  have k4 : w1.cell? ⟨b, 4, none⟩ = some (.int .i64 p.stanzas) := g1.cells.cell 4
  have kf4 := g1.cells.frozen 4
  have n1 : IntKind.i64.wrap ((p.stanzas : Int) + 1) = (p.stanzas : Int) + 1 := IntWalk.i64_in _ (by omega)
  go_wp2
  go_end0
  refine ⟨rfl, T1, ⟨V1, ?_⟩, s1.trans ⟨((Only.refl _ _).setCell (p := ⟨b, 4, none⟩) (.inl (by rw [g1.tp]; decide)) _), fun _ _ => Iff.rfl⟩⟩
  have hc : Cells (w1.setCell ⟨b, 4, none⟩ (.int .i64 ((p.stanzas : Int) + 1))) b 134 (pCells { endItemP text.data.toList p 3 e with stanzas := p.stanzas + 1 } text V1.v1 V1.v3 V1.v6) := by
    have := g1.cells.set 4 (.int .i64 ((p.stanzas : Int) + 1))
    simpa [pCells] using this
  have ne : ∀ {o : Option Nat} {t : Nat}, tagged T1 o t -> t ≠ 1 -> o ≠ some b := fun ht h1 e => h1 (by rw [<- ht b e, g1.tp])
  exact ⟨hc, g1.tp, row_cell g1.r1 (ne g1.t1 (by decide)) _, g1.t1, row_cell g1.r3 (ne g1.t3 (by decide)) _, g1.t3, row_cell g1.r6 (ne g1.t6 (by decide)) _, g1.t6, g1.nf,
    fun i it v a c => ⟨row_cell (g1.rf i it v a c).1 (ne (g1.rf i it v a c).2 (by decide)) _, (g1.rf i it v a c).2⟩, fun k hk => by simpa [World.setCell] using g1.low k hk⟩
end Go.Proofs.YtfjklpgmnakcaaaGreatDoor
namespace Go.Proofs.YtfjklpgmnakcaaaGreatDoor
open Go.RowKit
theorem indexByte_cases (l : List UInt8) (c : UInt8) : (Lib.indexByte l c = -1 /\ c ∉ l) \/ (Lib.indexByte l c = ((l.takeWhile (· != c)).length : Int) /\ c ∈ l) := by
  induction l with
  | nil => left; exact ⟨rfl, by simp⟩
  | cons a t ih =>
  unfold Lib.indexByte
  by_cases h : a = c
  . subst h; right; simp
  have hb : (a == c) = false := by simp [h]
  rcases ih with ⟨h1, h2⟩ | ⟨h1, h2⟩
  . left; rw [h1]; simp [h, h2, Ne.symm h]
  right; rw [h1]; simp [h, h2]
theorem cut0_no (s : ByteArray) (c : UInt8) (w : World) (h : c ∉ s.data.toList) :
    Calls Tryz.prog 120 #[.string s, .string ⟨#[c]⟩] w fun e w' => e = .returned (.tuple #[.string s, .string ⟨#[]⟩, .bool false]) /\ ∃ n, w' = w.drewN n := by
  have e0 : Lib.indexByte s.data.toList c = -1 := by
    rcases indexByte_cases s.data.toList c with ⟨a, _⟩ | ⟨_, a⟩
    . exact a
    exact absurd a h
  go_enter Tryz.func120, Tryz.ntmps120
  go_wp2_with (go_at_call 136; refine (Tryz.stringslite_Index_one s c _).mono ?_; rw [e0]; rintro e w' ⟨rfl, rfl⟩)
  go_ret3
  exact ⟨rfl, 0, rfl⟩
theorem cut0_yes (s : ByteArray) (c : UInt8) (w : World) (hs : s.size <= maxLen) (h : c ∈ s.data.toList) :
    Calls Tryz.prog 120 #[.string s, .string ⟨#[c]⟩] w fun e w' => e = .returned (.tuple #[.string (s.extract 0 (s.data.toList.takeWhile (· != c)).length), .string (s.extract ((s.data.toList.takeWhile (· != c)).length + 1) s.size), .bool true]) /\ ∃ n, w' = w.drewN n := by
  have e0 : Lib.indexByte s.data.toList c = ((s.data.toList.takeWhile (· != c)).length : Int) := by
    rcases indexByte_cases s.data.toList c with ⟨_, a⟩ | ⟨a, _⟩
    . exact absurd h a
    exact a
  have hlt : (s.data.toList.takeWhile (· != c)).length < s.size := by
    rw [Lib.size_eq]
    rcases Nat.lt_or_ge (s.data.toList.takeWhile (· != c)).length s.data.toList.length with h1 | h1
    . exact h1
    exfalso
    have h2 : s.data.toList.takeWhile (· != c) = s.data.toList := List.IsPrefix.eq_of_length_le (List.takeWhile_prefix _) h1
    have h3 := List.all_eq_true.1 (List.all_takeWhile (p := fun (x : UInt8) => x != c) (l := s.data.toList)) c (by rw [h2]; exact h)
    simp at h3
  unfold maxLen at hs
  generalize (s.data.toList.takeWhile (· != c)).length = i at *
  have h1 : IntKind.i64.wrap ((i : Int) + 1) = (i : Int) + 1 := IntWalk.i64_in _ (by omega)
  go_enter Tryz.func120, Tryz.ntmps120
  go_wp2_with (go_at_call 136; refine (Tryz.stringslite_Index_one s c _).mono ?_; rw [e0]; rintro e w' ⟨rfl, rfl⟩)
  go_quiet (fail)
  go_wp2
  go_ret3
  exact ⟨rfl, _, rfl⟩
theorem cut_no (s : ByteArray) (c : UInt8) (w : World) (h : c ∉ s.data.toList) :
    Calls Tryz.prog 102 #[.string s, .string ⟨#[c]⟩] w fun e w' => e = .returned (.tuple #[.string s, .string ⟨#[]⟩, .bool false]) /\ ∃ n, w' = w.drewN n := by
  go_enter Tryz.func102, Tryz.ntmps102
  go_wp2_with (go_at_call 120; refine (cut0_no s c _ h).mono ?_; rintro e w' ⟨rfl, n, rfl⟩)
  go_ret3
  exact ⟨rfl, _, rfl⟩
theorem cut_yes (s : ByteArray) (c : UInt8) (w : World) (hs : s.size <= maxLen) (h : c ∈ s.data.toList) :
    Calls Tryz.prog 102 #[.string s, .string ⟨#[c]⟩] w fun e w' => e = .returned (.tuple #[.string (s.extract 0 (s.data.toList.takeWhile (· != c)).length), .string (s.extract ((s.data.toList.takeWhile (· != c)).length + 1) s.size), .bool true]) /\ ∃ n, w' = w.drewN n := by
  go_enter Tryz.func102, Tryz.ntmps102
  go_wp2_with (go_at_call 120; refine (cut0_yes s c _ hs h).mono ?_; rintro e w' ⟨rfl, n, rfl⟩)
  go_ret3
  exact ⟨rfl, _, rfl⟩
def lineV (x : Ln) : Array Value := #[.int .i64 x.no, .int .i64 x.at_, .string ⟨x.text.toArray⟩, .bool x.ended]
def endS (b : Bool) : ByteArray := if b then ⟨#[10]⟩ else ⟨#[]⟩
theorem end_any (a b : Int) (t : ByteArray) (x : Bool) (w : World) :
    Calls Tryz.prog 103 #[.agg #[.int .i64 a, .int .i64 b, .string t, .bool x]] w fun e w' => e = .returned (.string (endS x)) /\ w' = w.alloc (.cells #[.int .i64 a, .int .i64 b, .string t, .bool x] 139) := by
  cases x
  all_goals
    go_enter Tryz.func103, Tryz.ntmps103
    go_wp2
    go_ret
    exact ⟨rfl, rfl⟩
end Go.Proofs.YtfjklpgmnakcaaaGreatDoor
namespace Go.Proofs.YtfjklpgmnakcaaaGreatDoor
open Go.RowKit
structure Stay (B k : Nat) (W W' : World) : Prop where
  size : W.heap.size <= W'.heap.size
  same : ∀ r, B <= r -> r < B + k -> W'.heap[r]? = W.heap[r]?
theorem Stay.refl (B k : Nat) (W : World) : Stay B k W W := ⟨Nat.le_refl _, fun _ _ _ => rfl⟩
theorem Stay.trans {B k : Nat} {X Y Z : World} (h : Stay B k X Y) (g : Stay B k Y Z) : Stay B k X Z :=
  ⟨Nat.le_trans h.size g.size, fun r a b => (g.same r a b).trans (h.same r a b)⟩
theorem Stay.alloc {B k : Nat} {X Y : World} (h : Stay B k X Y) (hs : B + k <= Y.heap.size) (o : Obj) : Stay B k X (Y.alloc o) :=
  h.trans ⟨by simp, fun r _ b => Below.heap_alloc _ _ _ (by omega)⟩
theorem Stay.setCell {B k : Nat} {X Y : World} (h : Stay B k X Y) {p : Addr} (hp : p.block < B \/ B + k <= p.block) (u : Value) : Stay B k X (Y.setCell p u) :=
  h.trans ⟨by simp [World.setCell], fun r a b => Below.heap_setCell _ _ _ _ (by omega)⟩
structure Turned (B k : Nat) (W W' : World) : Prop where
  os : W'.os = W.os
  tape : W'.tape = W.tape
  output : W'.output = W.output
  size : W.heap.size <= W'.heap.size
  same : ∀ r, r < W.heap.size -> r < B \/ B + k <= r -> W'.heap[r]? = W.heap[r]?
theorem Turned.refl (B k : Nat) (W : World) : Turned B k W W := ⟨rfl, rfl, rfl, Nat.le_refl _, fun _ _ _ => rfl⟩
theorem Turned.trans {B k : Nat} {X Y Z : World} (h : Turned B k X Y) (g : Turned B k Y Z) : Turned B k X Z :=
  ⟨g.os.trans h.os, g.tape.trans h.tape, g.output.trans h.output, Nat.le_trans h.size g.size, fun r a b => (g.same r (Nat.lt_of_lt_of_le a h.size) b).trans (h.same r a b)⟩
theorem Turned.grown {B k : Nat} {X Y Z : World} (h : Turned B k X Y) {row : Option Nat} (hg : Y.grownBy Z row) (hr : ∀ r, row = some r -> B <= r /\ r < B + k) : Turned B k X Z :=
  h.trans ⟨hg.os, hg.tape, hg.output, hg.size, fun r a b => hg.block r a (fun e => by have := hr r e.symm; omega)⟩
theorem Turned.alloc {B k : Nat} {X Y : World} (h : Turned B k X Y) (o : Obj) : Turned B k X (Y.alloc o) :=
  h.grown (World.grownBy_alloc Y o none) (fun r e => by cases e)
theorem Turned.putObj {B k : Nat} {X Y : World} (h : Turned B k X Y) {l : Nat} (o : Obj) (a : B <= l) (b : l < B + k) : Turned B k X (Y.putObj l o) :=
  h.grown (grownBy_putObj' Y l o) (fun r e => by cases e; exact ⟨a, b⟩)
theorem Turned.sub {B k B' k' : Nat} {X Y : World} (h : Turned B' k' X Y) (a : B <= B') (b : B' + k' <= B + k) : Turned B k X Y :=
  ⟨h.os, h.tape, h.output, h.size, fun r c d => h.same r c (by omega)⟩
theorem Turned.below {B k n : Nat} {X Y : World} (h : Turned B k X Y) (hn : n <= B) (hs : n <= X.heap.size) : Below n X Y :=
  ⟨h.os, h.tape, h.output, h.size, fun r a => h.same r (by omega) (by omega)⟩
theorem Turned.box {B k b : Nat} {X Y : World} {t : TypeId} {v : Value} (h : Turned B k X Y) (hv : Boxed X b t v) (hb : b < B \/ B + k <= b) : Boxed Y b t v :=
  (h.same b (Array.getElem?_eq_some_iff.1 (show X.heap[b]? = _ from hv)).1 hb).trans hv
theorem Turned.row {B k : Nat} {X Y : World} {base : Nat} {e : TypeId} {size : Nat} {v : Value} {n : Nat} {xs : List Value} (h : Turned B k X Y) (hr : X.ownsRow base e size v n xs)
    (hb : ∀ b, v.ownBlock = some b -> b < B \/ B + k <= b) : Y.ownsRow base e size v n xs := by
  refine ⟨hr.1, ?_⟩
  rcases hr.2 with hn | ⟨g, cap, cur, rfl, hbase, hg, rest⟩
  . exact .inl hn
  exact .inr ⟨g, cap, cur, rfl, hbase, (h.same g (Array.getElem?_eq_some_iff.1 hg).1 (hb g rfl)).trans hg, rest⟩
def Abide {β : Type} (B k : Nat) (J : β -> World -> Prop) : Prop := ∀ s W W', J s W -> Turned B k W W' -> J s W'
theorem Abide.alloc {β : Type} {B k : Nat} {J : β -> World -> Prop} (h : Abide B k J) {s : β} {W : World} (o : Obj) (hs : J s W) : J s (W.alloc o) :=
  h s W _ hs ((Turned.refl _ _ _).alloc o)
theorem Abide.putObj {β : Type} {B k : Nat} {J : β -> World -> Prop} (h : Abide B k J) {s : β} {W : World} {l : Nat} (o : Obj) (hs : J s W) (a : B <= l) (b : l < B + k) : J s (W.putObj l o) :=
  h s W _ hs ((Turned.refl _ _ _).putObj o a b)
theorem Abide.and {β : Type} {B k : Nat} {I J : β -> World -> Prop} (h : Abide B k I) (g : Abide B k J) : Abide B k (fun s W => I s W /\ J s W) :=
  fun s W W' hs ht => ⟨h s W W' hs.1 ht, g s W W' hs.2 ht⟩
theorem Abide.pure {β : Type} (B k : Nat) (p : β -> Prop) : Abide B k (fun s (_ : World) => p s) := fun _ _ _ hs _ => hs
theorem Abide.below {β : Type} {B k n : Nat} {w : World} (hn : n <= w.heap.size) (hB : n <= B) : Abide B k (fun (_ : β) W => Below n w W) :=
  fun _ _ _ hs ht => hs.trans (ht.below hB (Nat.le_trans hn hs.size))
theorem Abide.box {β : Type} {B k b : Nat} {t : TypeId} (hb : b < B \/ B + k <= b) (f : β -> Value) : Abide B k (fun s W => Boxed W b t (f s)) :=
  fun _ _ _ hs ht => ht.box hs hb
def Hands {α : Type} (P : Program) (g : Nat) (lb : Array Value) (encs : α -> Array Value) (k : Nat) (xs : List α) (w : World) : Prop :=
  ∀ (l : Nat) (J Jx : List α -> World -> Prop) (W : World), Below w.heap.size w W -> Abide W.heap.size k J ->
    (∀ pre x post W1, xs = pre ++ x :: post -> W.heap.size + k <= W1.heap.size -> J pre W1 -> YieldAt Fence.wide 7 P l (encs x) W1 fun e W' =>
      (e = .returned (.bool true) /\ J (pre ++ [x]) W' /\ Stay W.heap.size k W1 W') \/ (e = .returned (.bool false) /\ Jx (pre ++ [x]) W')) ->
    J [] W ->
    CallsIn Fence.wide 8 P g (#[.func (.yield l) #[] #[]] ++ lb) W fun e W' => (∃ v, e = .returned v) /\ (J xs W' \/ ∃ pre, pre <+: xs /\ Jx pre W')
def left {α : Type} (B k : Nat) (I : List α -> World -> Prop) (Ix : Code -> List α -> World -> Prop) (xs : List α) (W : World) : Exit -> Act -> World -> Prop
  | .normal, _, W' => Stay B k W W' /\ I xs W'
  | .ret, _, W' => Stay B k W W' /\ Ix .ret xs W'
  | .exit id, _, W' => Stay B k W W' /\ Ix (.exit id) xs W'
  | .goto t, _, W' => Stay B k W W' /\ Ix (.goto t) xs W'
  | .panic _, _, _ => False
  | .outgrown, _, _ => False
def assigned (B k : Nat) (M : Act -> World -> Prop) (W : World) : Exit -> Act -> World -> Prop :=
  Exit.then (fun a' W' => Stay B k W W' /\ M a' W') (fun _ _ _ => False)
variable {P : Program}
theorem wp_ranged {α : Type} {g : Operand} {ps : Array Tmp} {assign body : Code} {Q : Exit -> Act -> World -> Prop} {a : Act} {w : World}
    {gf : Nat} {lb : Array Value} (hg : a.eval g = .func (.func gf) #[] lb) (eg : ∀ args w, (callFunc gf args).run P w = .ok (.enter gf args) w)
    {encs : α -> Array Value} {k : Nat} {xs : List α} (hseq : Hands P gf lb encs k xs w) (hps : ∀ x, (encs x).size = ps.size)
    (I : List α -> World -> Prop) (Ix : Code -> List α -> World -> Prop) (hI : Abide w.heap.size (k + 2) I) (hIx : ∀ c, Abide w.heap.size 2 (Ix c)) (h0 : I [] w)
    (M : List α -> α -> Act -> World -> Prop) (hM : ∀ pre x a', Abide w.heap.size 2 (fun (_ : Unit) W => M pre x a' W))
    (hassign : ∀ (l : Nat) (pre : List α) (x : α) (post : List α) (W : World), xs = pre ++ x :: post -> w.heap.size + (k + 2) <= W.heap.size -> I pre W ->
      assign.wpIn (Fence.wide.inRound l) 7 P (assigned w.heap.size (k + 2) (M pre x) W) { tmps := (ps.zip (encs x)).foldl (fun t (p, v) => t.setIfInBounds p v) a.tmps, defers := [] } W)
    (hbody : ∀ (l : Nat) (pre : List α) (x : α) (post : List α) (a' : Act) (W : World), xs = pre ++ x :: post -> w.heap.size + (k + 2) <= W.heap.size -> M pre x a' W ->
      body.wpIn (Fence.wide.inRound l) 7 P (left w.heap.size (k + 2) I Ix (pre ++ [x]) W) a' W)
    (hdone : ∀ (W : World), I xs W -> W.heap[w.heap.size]? = some (.deferred (some [])) -> Q .normal { a with defers := { target := .collected w.heap.size, args := #[] } :: a.defers } W)
    (hstop : ∀ (c : Code) (pre : List α) (W : World), pre <+: xs -> Ix c pre W -> W.heap[w.heap.size]? = some (.deferred (some [])) -> c.wpIn Fence.wide 9 P Q { a with defers := { target := .collected w.heap.size, args := #[] } :: a.defers } W) :
    (Code.rangeFunc g ps assign body).wpIn Fence.wide 9 P Q a w := by
  refine wpIn_rangeFunc fun fn _ => ?_
  show ∃ l mark w₁ d w₁' f args w₂, (Instr.enterLoop fn a.tmps ps assign body none).run P w = .ok (l, mark) w₁ /\ _
  obtain ⟨rec, hrec⟩ : ∃ rec : LoopState -> Option Code -> Loop, rec = fun st pe => { state := st, pending := pe, fn, tmps := a.tmps, params := ps, assign, body, defers := w.heap.size } := ⟨_, rfl⟩
  obtain ⟨W1, hW1⟩ : ∃ W1, (w.alloc (.deferred (some []))).alloc (.loop (rec .ready none)) = W1 := ⟨_, rfl⟩
  have hz1 : W1.heap.size = w.heap.size + 2 := by rw [<- hW1]; simp
  have hL1 : W1.heap[w.heap.size + 1]? = some (.loop (rec .ready none)) := by
    rw [<- hW1]; have := World.alloc_heap_new (w.alloc (.deferred (some []))) (.loop (rec .ready none)); rwa [World.size_alloc] at this
  have hK1 : W1.heap[w.heap.size]? = some (.deferred (some [])) := by
    rw [<- hW1]; exact (Below.heap_alloc _ _ _ (by simp)).trans (World.alloc_heap_new w _)
  have hI1 : I [] W1 := by rw [<- hW1]; exact hI.alloc _ (hI.alloc _ h0)
  have hb1 : Below w.heap.size w W1 := by rw [<- hW1]; exact ((Below.refl _ w).alloc (Nat.le_refl _) _).alloc (by simp) _
  have two : ∀ {A B : World}, Turned W1.heap.size k A B -> ∀ q o, q < w.heap.size + 2 -> A.heap[q]? = some o -> B.heap[q]? = some o :=
    fun ht q o hq ho => (ht.same q (Array.getElem?_eq_some_iff.1 ho).1 (by omega)).trans ho
  refine ⟨w.heap.size + 1, [{ target := .collected w.heap.size, args := #[] }], W1, { target := .fn (.func gf) lb, args := #[.func (.yield (w.heap.size + 1)) #[] #[]] }, W1, gf,
    #[.func (.yield (w.heap.size + 1)) #[] #[]] ++ lb, W1, ?_, ?_, fun _ _ => trivial, ?_, (fun h => by cases h), ?_⟩
  . rw [<- hW1, hrec]; exact run_enterLoop_outer _ _ _ _ _
  . simp only [resolve, hg]
    simp [go_sem]
  . simp [invoke, go_sem, eg]
  refine (hseq (w.heap.size + 1)
    (fun pre W => I pre W /\ W.heap[w.heap.size + 1]? = some (.loop (rec .ready none)) /\ W.heap[w.heap.size]? = some (.deferred (some [])))
    (fun pre W => ∃ c, Ix c pre W /\ W.heap[w.heap.size + 1]? = some (.loop (rec .done (some c))) /\ W.heap[w.heap.size]? = some (.deferred (some [])))
    W1 hb1
    (fun s A B hs ht => ⟨hI s A B hs.1 (ht.sub (by omega) (by omega)), two ht _ _ (by omega) hs.2.1, two ht _ _ (by omega) hs.2.2⟩)
    ?_ ⟨hI1, hL1, hK1⟩).mono ?_
  . -- one round
    rintro pre x post W hx hsz ⟨hi, hl, hk⟩
    rw [hz1] at hsz
    have hy := run_yield (P := P) (args := encs x) hl (by rw [hrec]; exact hps x)
    rw [hrec] at hy
    refine ⟨fn, _, assign, body, hy, roundIn_of_wpIn trivial (wpIn_mono (hassign _ pre x post W hx (by omega) hi) ?_)⟩
    intro e a' Wa hp
    cases e with
    | normal =>
      obtain ⟨hs1, hm⟩ := hp
      have hla := (hs1.same (w.heap.size + 1) (by omega) (by omega)).trans hl
      have hka := (hs1.same w.heap.size (by omega) (by omega)).trans hk
      have hlt := (Array.getElem?_eq_some_iff.1 hla).1
      refine ⟨_, run_beginRound hla (by rw [hrec]), ?_⟩
      have hl2 : (Wa.putObj (w.heap.size + 1) (.loop { rec .ready none with state := .busy })).heap[w.heap.size + 1]? = some (.loop { rec .ready none with state := .busy }) := World.putObj_heap_same hlt
      have hk2 : (Wa.putObj (w.heap.size + 1) (.loop { rec .ready none with state := .busy })).heap[w.heap.size]? = some (.deferred (some [])) := (World.putObj_heap_other (by omega)).trans hka
      have hn2 : ∀ r, w.heap.size + 2 <= r -> (Wa.putObj (w.heap.size + 1) (.loop { rec .ready none with state := .busy })).heap[r]? = Wa.heap[r]? := fun r hr => World.putObj_heap_other (by omega)
      have hz2 : ∀ o, (Wa.putObj (w.heap.size + 1) o).heap.size = Wa.heap.size := fun o => by simp
      have hm2 := (hM pre x a').putObj (s := ()) (.loop { rec .ready none with state := .busy }) hm (l := w.heap.size + 1) (by omega) (by omega)
      have hsa := hs1.size
      refine wpIn_mono (hbody _ pre x post a' _ hx (by rw [hz2]; omega) hm2) ?_
      have fin : ∀ (jump : Option Code) (W3 : World), Stay w.heap.size (k + 2) (Wa.putObj (w.heap.size + 1) (.loop { rec .ready none with state := .busy })) W3 ->
          (Instr.endRound (w.heap.size + 1) jump).run P W3 = .ok (.bool jump.isNone) (W3.putObj (w.heap.size + 1) (.loop (rec (if jump.isNone then .ready else .done) jump))) /\
          (W3.putObj (w.heap.size + 1) (.loop (rec (if jump.isNone then .ready else .done) jump))).heap[w.heap.size + 1]? = some (.loop (rec (if jump.isNone then .ready else .done) jump)) /\
          (W3.putObj (w.heap.size + 1) (.loop (rec (if jump.isNone then .ready else .done) jump))).heap[w.heap.size]? = some (.deferred (some [])) := fun jump W3 hs3 => by
        have hl3 := (hs3.same (w.heap.size + 1) (by omega) (by omega)).trans hl2
        have hk3 := (hs3.same w.heap.size (by omega) (by omega)).trans hk2
        have := run_endRound (P := P) jump hl3
        rw [hrec] at this ⊢
        exact ⟨this, World.putObj_heap_same (Array.getElem?_eq_some_iff.1 hl3).1, (World.putObj_heap_other (by omega)).trans hk3⟩
      intro e a3 W3 hp
      cases e with
      | normal =>
        obtain ⟨hs3, hi3⟩ := hp
        obtain ⟨hr, hl4, hk4⟩ := fin none W3 hs3
        refine ⟨_, _, hr, .inl ⟨rfl, ⟨hI.putObj _ hi3 (by omega) (by omega), hl4, hk4⟩, ?_⟩⟩
        have hsz3 := hs3.size
        refine ⟨by simp only [World.putObj, Array.size_setIfInBounds] at hsz3 ⊢; omega, fun r a b => ?_⟩
        rw [hz1] at a b
        rw [World.putObj_heap_other (by omega), hs3.same r (by omega) (by omega), hn2 r a, hs1.same r (by omega) (by omega)]
      | ret =>
        obtain ⟨hs3, hi3⟩ := hp
        obtain ⟨hr, hl4, hk4⟩ := fin (some .ret) W3 hs3
        exact ⟨_, _, hr, .inr ⟨rfl, .ret, (hIx _).putObj _ hi3 (by omega) (by omega), hl4, hk4⟩⟩
      | exit id =>
        obtain ⟨hs3, hi3⟩ := hp
        obtain ⟨hr, hl4, hk4⟩ := fin (some (.exit id)) W3 hs3
        exact ⟨_, _, hr, .inr ⟨rfl, .exit id, (hIx _).putObj _ hi3 (by omega) (by omega), hl4, hk4⟩⟩
      | goto t =>
        obtain ⟨hs3, hi3⟩ := hp
        obtain ⟨hr, hl4, hk4⟩ := fin (some (.goto t)) W3 hs3
        exact ⟨_, _, hr, .inr ⟨rfl, .goto t, (hIx _).putObj _ hi3 (by omega) (by omega), hl4, hk4⟩⟩
      | panic ch => exact hp.elim
      | outgrown => exact hp.elim
    | ret => exact hp.elim
    | exit id => exact hp.elim
    | goto t => exact hp.elim
    | panic ch => exact hp.elim
    | outgrown => exact hp.elim
  -- behind the iterator
  rintro e W2 ⟨⟨v, rfl⟩, (⟨hi, hl, hk⟩ | ⟨pre, hpre, c, hi, hl, hk⟩)⟩
  . exact ⟨none, _, by have := run_endLoop (P := P) hl (by rw [hrec]; simp); rw [hrec] at this; exact this, hdone _ (hI.putObj _ hi (by omega) (by omega)) ((World.putObj_heap_other (by omega)).trans hk)⟩
  exact ⟨some c, _, by have := run_endLoop (P := P) hl (by rw [hrec]; simp); rw [hrec] at this; exact this, hstop c pre _ hpre ((hIx c).putObj _ hi (by omega) (by omega)) ((World.putObj_heap_other (by omega)).trans hk)⟩
end Go.Proofs.YtfjklpgmnakcaaaGreatDoor
