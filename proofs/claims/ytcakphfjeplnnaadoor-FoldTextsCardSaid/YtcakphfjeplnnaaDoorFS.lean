/- A slice of texts, readable; errors by their numbers. -/
import Derived.Test.YtcakphfjeplnnaaDoorFM
import Derived.Test.YtcakphfjeplnnaaDoorChecked
import Derived.WalkKit
import Derived.ProofKit
import Derived.OpenShut
import Derived.Below
import Derived.Lib.Hide
import Derived.Lib.Strings
import Derived.Deep.QuietTactic
import Derived.BigQuiet
namespace Go.Proofs.YtcakphfjeplnnaaDoor
open Go.RowKit Go.WideShapes Go.ChangeAt Go.ChangeShapes

theorem drewN_below {B : Nat} {a w : World} (h : Below B a w) (n : Nat) : Below B a (w.drewN n) := ⟨h.os, h.tape, h.output, h.size, h.block⟩
def Strs (w : World) (v : Value) (ss : List ByteArray) : Prop :=
  ∃ A cap, v = .slice A ss.length cap ∧ ss.length ≤ cap ∧ ∀ (i : Nat) (s : ByteArray), ss[i]? = some s → ∃ b off, A = some ⟨b, off, none⟩ ∧ b < w.heap.size ∧ w.cell? ⟨b, off + i, none⟩ = some (.string s)
theorem Strs.below {w w' : World} {v : Value} {ss : List ByteArray} {n : Nat} (h : Strs w v ss) (hb : Below n w w') (hn : w.heap.size ≤ n) : Strs w' v ss := by
  obtain ⟨A, cap, hv, hle, hc⟩ := h
  refine ⟨A, cap, hv, hle, fun i s hs => ?_⟩
  obtain ⟨b, off, hA, hlt, hcell⟩ := hc i s hs
  exact ⟨b, off, hA, Nat.lt_of_lt_of_le hlt hb.size, (hb.cell (p := ⟨b, off + i, none⟩) (Nat.lt_of_lt_of_le hlt hn)).trans hcell⟩
theorem Strs.alloc {w : World} {v : Value} {ss : List ByteArray} (h : Strs w v ss) (o : Obj) : Strs (w.alloc o) v ss :=
  h.below ((Below.refl w.heap.size w).alloc (Nat.le_refl _) o) (Nat.le_refl _)
theorem Strs.none (w : World) (c : Nat) : Strs w (.slice none 0 c) [] := ⟨_, c, rfl, Nat.zero_le _, fun i s h => by simp at h⟩
theorem Strs.one (w : World) (t : TypeId) (a : ByteArray) : Strs (w.alloc (.cells #[.string a] t)) (.slice (some ⟨w.heap.size, 0, .none⟩) 1 1) [a] := by
  refine ⟨_, 1, rfl, Nat.le_refl _, ?_⟩
  intro i s h
  refine ⟨w.heap.size, 0, rfl, by simp, ?_⟩
  rw [World.cell?_alloc_at _ _ _ _ rfl]
  match i, h with
  | 0, h => simp at h; subst h; rfl
  | n + 1, h => simp at h
theorem Strs.laid (w : World) (t : TypeId) (ss : List ByteArray) (c : Nat) (hle : ss.length ≤ c) : Strs (w.alloc (.cells (ss.map Value.string).toArray t)) (.slice (some ⟨w.heap.size, 0, .none⟩) ss.length c) ss := by
  refine ⟨_, c, rfl, hle, ?_⟩
  intro i s h
  refine ⟨w.heap.size, 0, rfl, by simp, ?_⟩
  rw [World.cell?_alloc_at _ _ _ _ rfl]
  simp [h]
structure StrsIn (w : World) (v : Value) (ss : List ByteArray) : Prop where
  strs : Strs w v ss
  len : ss.length ≤ maxLen
  each : ∀ (i : Nat) (s : ByteArray), ss[i]? = some s → s.size ≤ maxLen
theorem open_strs {P : Program} {H : Type} {enc : TypeId × Value → H} {W : World} {base : Nat} {held : Bool} {t e : TypeId} {v : Value} {d : DataW H} {p : List MemPlace} {r : Reach} {b0 : Nat}
    (ht : P.underlying t = some (.slice e)) (he : P.underlying e = some .string) (hc : P.cellsOf e = 1)
    (hv : Value.okWide P W r b0 t v) (h : DataW.Trod enc P W base (fun _ => true) held t v d p) : ∃ ss, StrsIn W v ss := by
  obtain ⟨a0, len, cap, rfl⟩ := okWide_slice ht hv
  obtain ⟨fuel, hf⟩ := h
  rcases open_strings ht he hc hf with ⟨hcs, _⟩ | ⟨a, len', cap', ss, hcs, _, hl, hm, hz, _, hcell, hws⟩
  · simp [Value.cells] at hcs
    obtain ⟨rfl, rfl, rfl⟩ := hcs
    exact ⟨[], ⟨⟨Option.none, 0, rfl, Nat.le_refl _, fun i s h => by simp at h⟩, by simp, fun i s h => by simp at h⟩⟩
  · simp [Value.cells] at hcs
    obtain ⟨rfl, rfl, rfl⟩ := hcs
    have hz' : ss.length = cap := by simpa using hz
    refine ⟨ss.take len, ⟨⟨some a, cap, by simp; omega, by simp; omega, fun i s h => ?_⟩, by simp; omega, fun i s h => hws s ?_⟩⟩
    · have hi : i < (ss.take len).length := by
        rcases Nat.lt_or_ge i (ss.take len).length with h' | h'
        · exact h'
        · rw [List.getElem?_eq_none h'] at h; cases h
      have hi' : i < ss.length := by simp at hi; omega
      have h0 := hcell 0 (by omega)
      obtain ⟨b, off, spot⟩ := a
      have hspot : spot = Option.none := by simpa [Addr.add] using World.cell?_spot h0
      subst hspot
      have hc := hcell i hi'
      rw [add_plain] at hc
      have hs : ss.getD i ByteArray.empty = s := by
        rw [List.getElem?_take] at h
        rw [if_pos (by simp at hi; omega)] at h
        simp [List.getD, h]
      rw [hs] at hc
      exact ⟨b, off, rfl, block_lt_of_cell hc, hc⟩
    · have := List.mem_of_getElem? h
      exact List.mem_of_mem_take this
theorem StrsIn.below {w w' : World} {v : Value} {ss : List ByteArray} {n : Nat} (h : StrsIn w v ss) (hb : Below n w w') (hn : w.heap.size ≤ n) : StrsIn w' v ss := ⟨h.strs.below hb hn, h.len, h.each⟩

/-- A text of bytes. -/
def B (l : List UInt8) : ByteArray := ⟨l.toArray⟩
theorem B_data (l : List UInt8) : (B l).data.toList = l := by simp [B]
theorem B_of (s : ByteArray) : B s.data.toList = s := by cases s; simp [B]
theorem B_size (l : List UInt8) : (B l).size = l.length := by simp [B, ByteArray.size]
theorem B_append (a b : List UInt8) : B a ++ B b = B (a ++ b) := by
  apply ByteArray.ext; simp [B]
theorem B_inj {a b : List UInt8} : B a = B b ↔ a = b := ⟨fun h => by have := congrArg (·.data.toList) h; simpa [B] using this, fun h => by rw [h]⟩
theorem of_B (s : ByteArray) : ∃ l, s = B l := ⟨s.data.toList, (B_of s).symm⟩
theorem Bs_of (ss : List ByteArray) : ∃ ls : List (List UInt8), ss = ls.map B := ⟨ss.map (·.data.toList), by rw [List.map_map]; conv => lhs; rw [← List.map_id ss]; ; exact List.map_congr_left fun s _ => (B_of s).symm⟩

/-- An error by its number; 0: none. -/
def errV (n : Nat) : Value := if n = 0 then .nilIface else .iface 57 (.int .i64 (n : Int))
theorem errV_0 : errV 0 = .nilIface := rfl
theorem errV_2 : errV 2 = .iface 57 (.int .i64 2) := rfl
theorem errV_5 : errV 5 = .iface 57 (.int .i64 5) := rfl
theorem errV_6 : errV 6 = .iface 57 (.int .i64 6) := rfl
theorem errV_pos (n : Nat) (h : 0 < n) : errV n = .iface 57 (.int .i64 (n : Int)) := by unfold errV; rw [if_neg (by omega)]
attribute [local go_sem] errV_0
theorem assertErr (n : Int) (w : World) : (Instr.typeAssert (.iface 57 (.int .i64 n)) 27 57 true).run Tryd.prog w = .ok (.tuple #[.int .i64 n, .bool true]) w := by kernel_rfl
attribute [local go_sem] assertErr
set_option maxRecDepth 100000 in
set_option maxHeartbeats 1000000 in
theorem num_any (n : Nat) (hn : n ≤ 1000) (w : World) : Calls Tryd.prog 11 #[errV n] w fun e w' => e = .returned (.int .i64 n) ∧ w = w' := by
  by_cases h0 : n = 0
  · subst h0
    go_enter Tryd.func11, Tryd.ntmps11
    go_wp2
    refine wp_loop_rounds 1 ?_
    rw [rounds_succ]
    go_wp2
    go_ret
    exact ⟨rfl, rfl⟩
  · rw [errV_pos n (by omega)]
    have hne : ((n : Int) != 0) = true := by simp; omega
    have hne2 : ((n : Int) == 0) = false := by simp; omega
    clear h0
    go_enter Tryd.func11, Tryd.ntmps11
    go_wp2
    refine wp_loop_rounds 1 ?_
    rw [rounds_succ]
    go_wp2
    go_ret
    exact ⟨rfl, rfl⟩
set_option maxHeartbeats 2000000 in
theorem texts_any (v v' : Value) (ss zs : List ByteArray) (w : World) (h : Strs w v ss) (h' : Strs w v' zs) (hl : ss.length ≤ 1000000) (hl' : zs.length ≤ 1000000) :
    Calls Tryd.prog 14 #[v, v'] w fun e w' => e = .returned (.bool (decide (ss = zs))) ∧ Below w.heap.size w w' := by
  obtain ⟨A, cap, rfl, hle, hc⟩ := h
  obtain ⟨A', cap', rfl, hle', hc'⟩ := h'
  by_cases hne : ss.length = zs.length
  · go_enter Tryd.func14, Tryd.ntmps14
    go_wp2
    go_loopw [13] (fun i wr => ∃ k : Nat, k ≤ ss.length ∧ i = .int .i64 k ∧ (ss.take k = zs.take k) ∧ Below w.heap.size w wr) (fun i _ => ss.length - (intOf i).toNat)
    case atStart => exact ⟨0, Nat.zero_le _, rfl, rfl, Below.refl _ _⟩
    case round =>
      obtain ⟨k, hk, rfl, he, hbl⟩ := hrel
      by_cases hlt : k < ss.length
      · obtain ⟨x, e1⟩ : ∃ x, ss[k]? = some x := ⟨_, List.getElem?_eq_getElem hlt⟩
        obtain ⟨y, e2⟩ : ∃ y, zs[k]? = some y := ⟨_, List.getElem?_eq_getElem (by omega)⟩
        obtain ⟨b, off, rfl, hb, c1⟩ := hc k _ e1
        obtain ⟨b', off', rfl, hb', c2⟩ := hc' k _ e2
        replace c1 := (hbl.cell (p := ⟨b, off + k, none⟩) hb).trans c1
        replace c2 := (hbl.cell (p := ⟨b', off' + k, none⟩) hb').trans c2
        have E := Lib.hid he
        have T1 : Hid (ss.take (k + 1) = ss.take k ++ [x]) := by show _ = _; rw [List.take_add_one, e1]; rfl
        have T2 : Hid (zs.take (k + 1) = zs.take k ++ [y]) := by show _ = _; rw [List.take_add_one, e2]; rfl
        have F := Lib.hid (show x ≠ y → ss ≠ zs from fun hn hs => by subst hs; rw [e1] at e2; exact hn (Option.some.inj e2))
        have hz : k < zs.length := by omega
        clear hc hc' e1 e2 he
        by_cases hxy : x = y
        · subst hxy
          go_wp2_with (go_quiet (fail))
          go_roundw
          case rel => exact ⟨k + 1, hlt, by go_num, by rw [T1.out, T2.out, E.out], drewN_below hbl _⟩
          case measure => simp [intOf]; omega
        · have hx2 : ¬ x.toList = y.toList := fun e => hxy (by apply ByteArray.ext; apply Array.ext'; have := e; rw [Lib.toList_data, Lib.toList_data] at this; exact this)
          have F2 := Lib.hid (F.out hxy)
          clear F
          have hx3 : (x.toList == y.toList) = false := by simpa using hx2
          have hx4 : (x.toList != y.toList) = true := by simpa using hx2
          go_wp2_with (go_quiet (fail))
          go_ret
          exact ⟨by simp [F2.out], drewN_below hbl _⟩
      · obtain rfl : k = ss.length := by omega
        rw [List.take_of_length_le (Nat.le_refl _), List.take_of_length_le (by omega)] at he
        clear hc hc'
        go_wp2
        go_ret
        exact ⟨by simp [he], hbl⟩
  · have hn : ¬ ((ss.length : Int) = zs.length) := by omega
    have F := Lib.hid (show ss ≠ zs from fun hs => by subst hs; exact hne rfl)
    clear hc hc' hne
    go_enter Tryd.func14, Tryd.ntmps14
    go_wp2
    go_ret
    exact ⟨by simp [F.out], Below.refl _ _⟩
end Go.Proofs.YtcakphfjeplnnaaDoor
