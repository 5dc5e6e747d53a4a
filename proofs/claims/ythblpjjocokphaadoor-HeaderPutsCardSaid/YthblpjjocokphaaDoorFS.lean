/- A slice of texts, readable; errors by their numbers. -/
import Derived.Test.YthblpjjocokphaaDoorFM
import Derived.Test.YthblpjjocokphaaDoorChecked
import Derived.WalkKit
import Derived.ProofKit
import Derived.OpenShut
import Derived.Below
import Derived.Lib.Hide
import Derived.Lib.Strings
import Derived.Deep.QuietTactic
import Derived.BigQuiet
namespace Go.Proofs.YthblpjjocokphaaDoor
open Go.RowKit Go.WideShapes Go.ChangeAt Go.ChangeShapes

theorem drewN_below {B : Nat} {a w : World} (h : Below B a w) (n : Nat) : Below B a (w.drewN n) := ⟨h.os, h.tape, h.output, h.size, h.block⟩
def Strs (w : World) (v : Value) (ss : List ByteArray) : Prop :=
  ∃ A cap, v = .slice A ss.length cap ∧ ss.length ≤ cap ∧ ∀ (i : Nat) (s : ByteArray), ss[i]? = some s → ∃ b off, A = some ⟨b, off, none⟩ ∧ b < w.heap.size ∧ w.cell? ⟨b, off + i, none⟩ = some (.string s)
theorem Strs.below {w w' : World} {v : Value} {ss : List ByteArray} {n : Nat} (h : Strs w v ss) (hb : Below n w w') (hn : w.heap.size ≤ n) : Strs w' v ss := by
  obtain ⟨A, cap, hv, hle, hc⟩ := h
  refine ⟨A, cap, hv, hle, fun i s hs => ?_⟩
  obtain ⟨b, off, hA, hlt, hcell⟩ := hc i s hs
  exact ⟨b, off, hA, Nat.lt_of_lt_of_le hlt hb.size, (hb.cell (p := ⟨b, off + i, none⟩) (Nat.lt_of_lt_of_le hlt hn)).trans hcell⟩
theorem Strs.alloc {w : World} {v : Value} {ss : List ByteArray} (h : Strs w v ss) (o : Obj) : Strs (w.alloc o) v ss :=
  h.below ((Below.refl w.heap.size w).alloc (Nat.le_refl _) o) (Nat.le_refl _)
theorem Strs.none (w : World) (c : Nat) : Strs w (.slice none 0 c) [] := ⟨_, c, rfl, Nat.zero_le _, fun i s h => by simp at h⟩
theorem Strs.one (w : World) (t : TypeId) (a : ByteArray) : Strs (w.alloc (.cells #[.string a] t)) (.slice (some ⟨w.heap.size, 0, .none⟩) 1 1) [a] := by
  refine ⟨_, 1, rfl, Nat.le_refl _, ?_⟩
  intro i s h
  refine ⟨w.heap.size, 0, rfl, by simp, ?_⟩
  rw [World.cell?_alloc_at _ _ _ _ rfl]
  match i, h with
  | 0, h => simp at h; subst h; rfl
  | n + 1, h => simp at h
theorem Strs.laid (w : World) (t : TypeId) (ss : List ByteArray) (c : Nat) (hle : ss.length ≤ c) : Strs (w.alloc (.cells (ss.map Value.string).toArray t)) (.slice (some ⟨w.heap.size, 0, .none⟩) ss.length c) ss := by
  refine ⟨_, c, rfl, hle, ?_⟩
  intro i s h
  refine ⟨w.heap.size, 0, rfl, by simp, ?_⟩
  rw [World.cell?_alloc_at _ _ _ _ rfl]
  simp [h]
structure StrsIn (w : World) (v : Value) (ss : List ByteArray) : Prop where
  strs : Strs w v ss
  len : ss.length ≤ maxLen
  each : ∀ (i : Nat) (s : ByteArray), ss[i]? = some s → s.size ≤ maxLen
theorem open_strs {P : Program} {H : Type} {enc : TypeId × Value → H} {W : World} {base : Nat} {held : Bool} {t e : TypeId} {v : Value} {d : DataW H} {p : List MemPlace} {r : Reach} {b0 : Nat}
    (ht : P.underlying t = some (.slice e)) (he : P.underlying e = some .string) (hc : P.cellsOf e = 1)
    (hv : Value.okWide P W r b0 t v) (h : DataW.Trod enc P W base (fun _ => true) held t v d p) : ∃ ss, StrsIn W v ss := by
  obtain ⟨a0, len, cap, rfl⟩ := okWide_slice ht hv
  obtain ⟨fuel, hf⟩ := h
  rcases open_strings ht he hc hf with ⟨hcs, _⟩ | ⟨a, len', cap', ss, hcs, _, hl, hm, hz, _, hcell, hws⟩
  · simp [Value.cells] at hcs
    obtain ⟨rfl, rfl, rfl⟩ := hcs
    exact ⟨[], ⟨⟨Option.none, 0, rfl, Nat.le_refl _, fun i s h => by simp at h⟩, by simp, fun i s h => by simp at h⟩⟩
  · simp [Value.cells] at hcs
    obtain ⟨rfl, rfl, rfl⟩ := hcs
    have hz' : ss.length = cap := by simpa using hz
    refine ⟨ss.take len, ⟨⟨some a, cap, by simp; omega, by simp; omega, fun i s h => ?_⟩, by simp; omega, fun i s h => hws s ?_⟩⟩
    · have hi : i < (ss.take len).length := by
        rcases Nat.lt_or_ge i (ss.take len).length with h' | h'
        · exact h'
        · rw [List.getElem?_eq_none h'] at h; cases h
      have hi' : i < ss.length := by simp at hi; omega
      have h0 := hcell 0 (by omega)
      obtain ⟨b, off, spot⟩ := a
      have hspot : spot = Option.none := by simpa [Addr.add] using World.cell?_spot h0
      subst hspot
      have hc := hcell i hi'
      rw [add_plain] at hc
      have hs : ss.getD i ByteArray.empty = s := by
        rw [List.getElem?_take] at h
        rw [if_pos (by simp at hi; omega)] at h
        simp [List.getD, h]
      rw [hs] at hc
      exact ⟨b, off, rfl, block_lt_of_cell hc, hc⟩
    · have := List.mem_of_getElem? h
      exact List.mem_of_mem_take this
theorem StrsIn.below {w w' : World} {v : Value} {ss : List ByteArray} {n : Nat} (h : StrsIn w v ss) (hb : Below n w w') (hn : w.heap.size ≤ n) : StrsIn w' v ss := ⟨h.strs.below hb hn, h.len, h.each⟩

/-- A text of bytes. -/
def B (l : List UInt8) : ByteArray := ⟨l.toArray⟩
theorem B_data (l : List UInt8) : (B l).data.toList = l := by simp [B]
theorem B_of (s : ByteArray) : B s.data.toList = s := by cases s; simp [B]
theorem B_size (l : List UInt8) : (B l).size = l.length := by simp [B, ByteArray.size]
theorem B_append (a b : List UInt8) : B a ++ B b = B (a ++ b) := by
  apply ByteArray.ext; simp [B]
theorem B_inj {a b : List UInt8} : B a = B b ↔ a = b := ⟨fun h => by have := congrArg (·.data.toList) h; simpa [B] using this, fun h => by rw [h]⟩
theorem of_B (s : ByteArray) : ∃ l, s = B l := ⟨s.data.toList, (B_of s).symm⟩
theorem Bs_of (ss : List ByteArray) : ∃ ls : List (List UInt8), ss = ls.map B := ⟨ss.map (·.data.toList), by rw [List.map_map]; conv => lhs; rw [← List.map_id ss]; ; exact List.map_congr_left fun s _ => (B_of s).symm⟩

/-- An error by its number; 0: none. -/
def errV (n : Nat) : Value := if n = 0 then .nilIface else .iface 30 (.int .i64 (n : Int))
theorem errV_0 : errV 0 = .nilIface := rfl
theorem errV_2 : errV 2 = .iface 30 (.int .i64 2) := rfl
theorem errV_5 : errV 5 = .iface 30 (.int .i64 5) := rfl
theorem errV_6 : errV 6 = .iface 30 (.int .i64 6) := rfl
theorem errV_pos (n : Nat) (h : 0 < n) : errV n = .iface 30 (.int .i64 (n : Int)) := by unfold errV; rw [if_neg (by omega)]
attribute [local go_sem] errV_0
theorem assertErr (n : Int) (w : World) : (Instr.typeAssert (.iface 30 (.int .i64 n)) 24 30 true).run Tryd.prog w = .ok (.tuple #[.int .i64 n, .bool true]) w := by kernel_rfl
attribute [local go_sem] assertErr
set_option maxRecDepth 100000 in
set_option maxHeartbeats 1000000 in
theorem num_any (n : Nat) (hn : n ≤ 1000) (w : World) : Calls Tryd.prog 16 #[errV n] w fun e w' => e = .returned (.int .i64 n) ∧ w = w' := by
  by_cases h0 : n = 0
  · subst h0
    go_enter Tryd.func16, Tryd.ntmps16
    go_wp2
    refine wp_loop_rounds 1 ?_
    rw [rounds_succ]
    go_wp2
    go_ret
    exact ⟨rfl, rfl⟩
  · rw [errV_pos n (by omega)]
    have hne : ((n : Int) != 0) = true := by simp; omega
    have hne2 : ((n : Int) == 0) = false := by simp; omega
    clear h0
    go_enter Tryd.func16, Tryd.ntmps16
    go_wp2
    refine wp_loop_rounds 1 ?_
    rw [rounds_succ]
    go_wp2
    go_ret
    exact ⟨rfl, rfl⟩
end Go.Proofs.YthblpjjocokphaaDoor
