/- Rows of rows side by side; fields that are written over. -/
import Derived.Test.YtngngamfceoklaaDoorPX
namespace Go.Proofs.YtngngamfceoklaaDoor
open Go.RowKit Go.Shelf

set_option maxRecDepth 100000 in
set_option maxHeartbeats 8000000 in
theorem rows_quiet (rs : List (List Fld)) (v v' : Value) (w : World) (h : Rws w v rs) (h' : Rws w v' rs) (hn : rs.length ≤ 1000000) (hf : ∀ r ∈ rs, r.length ≤ 1000000) :
    Calls Tryd.prog 16 #[v, v'] w fun e w' => e = .returned (.bool true) ∧ ∃ m, w' = w.drewN m := by
  obtain ⟨A, cap, rfl, hle, hc⟩ := h
  obtain ⟨A', cap', rfl, hle', hc'⟩ := h'
  have PC := Lib.hid hc
  have PC' := Lib.hid hc'
  have HF := Lib.hid hf
  clear hc hc' hf
  go_enter Tryd.func16, Tryd.ntmps16
  go_wp2_with fail
  go_loopw [13] (fun i wr => ∃ k : Nat, k ≤ rs.length ∧ i = .int .i64 k ∧ ∃ m, wr = w.drewN m) (fun i _ => rs.length - (intOf i).toNat)
  case atStart => exact ⟨0, Nat.zero_le _, rfl, 0, rfl⟩
  case round =>
    obtain ⟨k, hk, rfl, nd, hwr⟩ := hrel
    by_cases hlt : k < rs.length
    · obtain ⟨r, hr⟩ : ∃ r, rs[k]? = some r := ⟨_, List.getElem?_eq_getElem hlt⟩
      obtain ⟨b, off, fv, rfl, hbb, c0, hfl⟩ := PC.out k r hr
      obtain ⟨b', off', fv', rfl, hbb', c0', hfl'⟩ := PC'.out k r hr
      have hm := HF.out r (List.mem_of_getElem? hr)
      have FQ0 : ∀ n, Calls Tryd.prog 25 #[fv, fv'] (wr.drewN n) fun e w' => e = .returned (.bool true) ∧ ∃ m, w' = (wr.drewN n).drewN m := by
        intro n
        rw [hwr]
        exact fields_quiet r fv fv' ((w.drewN nd).drewN n) ((hfl.drewN nd).drewN n) ((hfl'.drewN nd).drewN n) hm
      have FQ := Lib.hid FQ0
      replace c0 : wr.cell? ⟨b, off + k, none⟩ = some fv := by rw [hwr]; exact c0
      replace c0' : wr.cell? ⟨b', off' + k, none⟩ = some fv' := by rw [hwr]; exact c0'
      have HW := Lib.hid hwr
      clear hr PC PC' hwr hfl hfl' HF FQ0
      go_wp2_with (go_quiet ((go_at_call 25; exact Calls.quiet_of (FQ.out _))))
      go_roundw
      case rel => exact ⟨k + 1, hlt, by go_num, _, by rw [HW.out]; exact World.drewN_drewN _ _ _⟩
      case measure => simp [intOf]; omega
    · obtain rfl : k = rs.length := by omega
      clear PC PC'
      go_wp2_with fail
      go_ret
      exact ⟨rfl, nd, by first | rfl | exact hwr⟩
/-- A slice of fields that may be written over. -/
def Mine (w : World) (lo : Nat) (v : Value) (n : Nat) : Prop :=
  n = 0 ∧ (∃ A c, v = .slice A 0 c) ∨ ∃ g cap cur, v = .slice (some ⟨g, 0, none⟩) n cap ∧ n ≤ cap ∧ lo ≤ g ∧ w.heap[g]? = some (.cells cur 73 (0, 0)) ∧ n * 2 ≤ cur.size
/-- Fields from lo on may have turned. -/
structure Spoilt (lo : Nat) (w w' : World) : Prop where
  os : w'.os = w.os
  tape : w'.tape = w.tape
  output : w'.output = w.output
  size : w'.heap.size = w.heap.size
  same : ∀ (r : Nat) o, w.heap[r]? = some o → w'.heap[r]? = some o ∨ (lo ≤ r ∧ ∃ cur cur', o = .cells cur 73 (0, 0) ∧ w'.heap[r]? = some (.cells cur' 73 (0, 0)) ∧ cur'.size = cur.size)
theorem Spoilt.refl (lo : Nat) (w : World) : Spoilt lo w w := ⟨rfl, rfl, rfl, rfl, fun _ _ h => .inl h⟩
theorem Spoilt.trans {lo : Nat} {a b c : World} (h : Spoilt lo a b) (g : Spoilt lo b c) : Spoilt lo a c := by
  refine ⟨g.os.trans h.os, g.tape.trans h.tape, g.output.trans h.output, g.size.trans h.size, fun r o ho => ?_⟩
  rcases h.same r o ho with h1 | ⟨h1, cur, cur', rfl, h2, h3⟩
  · exact g.same r o h1
  · rcases g.same r _ h2 with g1 | ⟨_, c1, c2, g1, g2, g3⟩
    · exact .inr ⟨h1, cur, cur', rfl, g1, h3⟩
    · injection g1 with g1
      subst g1
      exact .inr ⟨h1, cur, c2, rfl, g2, g3.trans h3⟩
theorem Spoilt.set {lo g : Nat} {w : World} {cur : Array Value} (h : w.heap[g]? = some (.cells cur 73 (0, 0))) (hg : lo ≤ g) (i : Nat) (u : Value) : Spoilt lo w (w.setCell ⟨g, i, none⟩ u) := by
  refine ⟨rfl, rfl, rfl, by simp [World.setCell], fun r o ho => ?_⟩
  by_cases e : r = g
  · subst e
    rw [h] at ho
    cases ho
    exact .inr ⟨hg, cur, cur.setIfInBounds i u, rfl, Cells.set (t := 73) h i u, by simp⟩
  · exact .inl ((Below.heap_setCell _ _ _ _ e).trans ho)
theorem Spoilt.below {lo : Nat} {w w' : World} (h : Spoilt lo w w') (hl : lo ≤ w.heap.size) : Below lo w w' := by
  refine ⟨h.os, h.tape, h.output, Nat.le_of_eq h.size.symm, fun r hr => ?_⟩
  rcases h.same r _ (Array.getElem?_eq_getElem (by omega)) with e | ⟨e, _⟩
  · rw [e]; exact (Array.getElem?_eq_getElem (by omega)).symm
  · omega
theorem Mine.spoilt {lo n : Nat} {w w' : World} {v : Value} (h : Mine w lo v n) (hs : Spoilt lo w w') : Mine w' lo v n := by
  rcases h with h | ⟨g, cap, cur, e, h0, h1, h2, h3⟩
  · exact .inl h
  · rcases hs.same g _ h2 with k | ⟨_, c1, c2, k1, k2, k3⟩
    · exact .inr ⟨g, cap, cur, e, h0, h1, k, h3⟩
    · injection k1 with k1
      subst k1
      exact .inr ⟨g, cap, c2, e, h0, h1, k2, by omega⟩
theorem mine_of_own {lo n : Nat} {w : World} {v : Value} {xs : List Value} (h : w.ownsRow lo 73 2 v n xs) : Mine w lo v n := by
  rcases h.2 with ⟨rfl, hn⟩ | ⟨g, cap, cur, rfl, hb, hc, hle, _, hs, _⟩
  · exact .inl ⟨hn, none, 0, rfl⟩
  · exact .inr ⟨g, cap, cur, rfl, hle, hb, hc, by rw [hs]; exact Nat.mul_le_mul_right 2 hle⟩
set_option maxRecDepth 100000 in
set_option maxHeartbeats 4000000 in
theorem spoil_any (n lo : Nat) (v : Value) (w : World) (h : Mine w lo v n) (hn : n ≤ 1000000) :
    Calls Tryd.prog 23 #[v] w fun e w' => e = .returned (.tuple #[]) ∧ Spoilt lo w w' := by
  have HM := Lib.hid h
  rcases h with ⟨rfl, A, c, rfl⟩ | ⟨g, cap, cur, rfl, hle, _, _, _⟩
  · go_enter Tryd.func23, Tryd.ntmps23
    go_wp2_with fail
    refine wp_loop_rounds 1 ?_
    rw [rounds_succ]
    go_wp2_with fail
    go_end0
    exact ⟨rfl, Spoilt.refl _ _⟩
  · go_enter Tryd.func23, Tryd.ntmps23
    go_wp2_with fail
    go_loopw [5] (fun i wr => ∃ k : Nat, k ≤ n ∧ i = .int .i64 k ∧ Spoilt lo w wr) (fun i _ => n - (intOf i).toNat)
    case atStart => exact ⟨0, Nat.zero_le _, rfl, Spoilt.refl _ _⟩
    case round =>
      obtain ⟨k, hk, rfl, hs⟩ := hrel
      by_cases hlt : k < n
      · rcases HM.out.spoilt hs with ⟨h0, _⟩ | ⟨g', cap', cur', e, h0, h1, h2, h3⟩
        · omega
        · cases e
          have hC : Cells wr g 73 cur' := h2
          obtain ⟨x0, hx0⟩ : ∃ x, cur'[k * 2]? = some x := ⟨_, Array.getElem?_eq_getElem (by omega)⟩
          obtain ⟨x1, hx1⟩ : ∃ x, cur'[k * 2 + 1]? = some x := ⟨_, Array.getElem?_eq_getElem (by omega)⟩
          have c0 : wr.cell? ⟨g, k * 2, none⟩ = some x0 := (hC.cell _).trans hx0
          have c1 : wr.cell? ⟨g, k * 2 + 1, none⟩ = some x1 := (hC.cell _).trans hx1
          have f0 := hC.frozen (k * 2)
          have f1 := hC.frozen (k * 2 + 1)
          have HC := Lib.hid hC
          have HS := Lib.hid hs
          clear HM hs h2 hC hx0 hx1
          go_wp2_with fail
          go_roundw
          case rel =>
            refine ⟨k + 1, hlt, by go_num, HS.out.trans ((Spoilt.set HC.out h1 (k * 2) _).trans (Spoilt.set (HC.out.set (k * 2) _) h1 (k * 2 + 1) _))⟩
          case measure => simp [intOf]; omega
      · obtain rfl : k = n := by omega
        clear HM
        go_wp2_with fail
        go_end0
        exact ⟨rfl, hs⟩
end Go.Proofs.YtngngamfceoklaaDoor
