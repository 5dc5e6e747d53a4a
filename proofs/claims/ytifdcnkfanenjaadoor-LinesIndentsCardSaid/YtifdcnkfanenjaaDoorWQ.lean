/- Indent by definition. -/
import Derived.Test.YtifdcnkfanenjaaDoorWP
namespace Go.Proofs.YtifdcnkfanenjaaDoor
open Go.RowKit Go.Shelf

theorem mkText (a b : List UInt8) (j : ByteArray) : (⟨a.toArray⟩ : ByteArray) ++ j ++ ⟨b.toArray⟩ = ⟨(a ++ j.data.toList ++ b).toArray⟩ := by
  rw [← mkAppend, ← mkAppend, Lib.mk_data j]
theorem go_idx (pre : List Ln) (x : Ln) : Value.int .i64 ((pre.length : Int) + 1) = Value.int .i64 ((pre ++ [x]).length : Nat) := by rw [List.length_append]; rfl
theorem bytes_le (l : List UInt8) : ∀ x ∈ linesOf l, x.bytes.length ≤ l.length := by
  intro x hx
  have e := linesOf_join l
  obtain ⟨a, b, hab⟩ := List.append_of_mem hx
  rw [hab, List.flatMap_append, List.flatMap_cons] at e
  have := congrArg List.length e
  simp only [List.length_append] at this
  omega
theorem rowCells {W : World} {base g cap : Nat} {xs pre post : List Ln} {x : Ln} (h : W.ownsRow base 30 4 (.slice (some ⟨g, 0, none⟩) xs.length cap) xs.length (cellsOf xs)) (hx : xs = pre ++ x :: post) :
    W.cell? ⟨g, pre.length * 4, none⟩ = some (.int .i64 x.no) ∧ W.cell? ⟨g, pre.length * 4 + 1, none⟩ = some (.int .i64 x.at_) ∧ W.cell? ⟨g, pre.length * 4 + 1 + 1, none⟩ = some (.string ⟨x.text.toArray⟩) ∧ W.cell? ⟨g, pre.length * 4 + 1 + 1 + 1, none⟩ = some (.bool x.ended) := by
  have hrow : ∀ j u, j < 4 → (lineV x).toList[j]? = some u → W.cell? ⟨g, pre.length * 4 + j, none⟩ = some u := fun j u hj hu => by
    have := h.cells (g := g) rfl (pre.length * 4 + j) u (by rw [hx, cellsOf_at _ _ _ _ hj]; exact hu)
    have hadd : (⟨g, 0, none⟩ : Addr).add (pre.length * 4 + j) = ⟨g, pre.length * 4 + j, none⟩ := by unfold Addr.add; split <;> simp_all
    rwa [hadd] at this
  exact ⟨hrow 0 _ (by omega) rfl, hrow 1 _ (by omega) rfl, hrow 2 _ (by omega) rfl, hrow 3 _ (by omega) rfl⟩

set_option maxRecDepth 100000 in
set_option maxHeartbeats 4000000 in
theorem refIndent_any (s j : ByteArray) (hs : s.size ≤ 1000000) (hj : j.size ≤ 1000000) (w : World) :
    Calls Tryd.prog 23 #[.string s, .string j] w fun e w' => e = .returned (.string ⟨(indL j.data.toList (linesOf s.data.toList)).toArray⟩) ∧ Below w.heap.size w w' := by
  obtain ⟨xs, hxs⟩ : ∃ xs, linesOf s.data.toList = xs := ⟨_, rfl⟩
  have hll := linesOf_length s.data.toList
  rw [← Lib.size_eq] at hll
  have hpos := bytes_le s.data.toList
  rw [← Lib.size_eq] at hpos
  rw [hxs] at hll hpos ⊢
  have HPOS := Lib.hid hpos
  have HXS := Lib.hid hxs
  clear hxs hpos
  go_enter Tryd.func23, Tryd.ntmps23
  go_wp2_with fail
  refine (refSplit_any s hs w).mono ?_
  rintro e w2 ⟨v, rfl, hown, a2⟩
  rw [HXS.out] at hown
  obtain ⟨ao, cap, rfl⟩ := rowForm hown
  go_wp2_with fail
  go_loopw [5, 11] (fun o i wr => ∃ (pre post : List Ln), xs = pre ++ post ∧ o = .string ⟨(indL j.data.toList pre).toArray⟩ ∧ i = .int .i64 (pre.length : Nat) ∧ wr.ownsRow w.heap.size 30 4 (.slice ao xs.length cap) xs.length (cellsOf xs) ∧ Below w.heap.size w wr)
    (fun _ i _ => xs.length - (intOf i).toNat)
  case atStart => exact ⟨[], xs, rfl, rfl, rfl, hown, a2⟩
  case round =>
    obtain ⟨pre, post, hx, rfl, rfl, hw, hb⟩ := hrel
    cases post with
    | nil =>
      have e : pre.length = xs.length := by rw [hx]; simp
      have HX := Lib.hid hx
      clear hx
      go_wp2
      go_ret
      refine ⟨?_, hb⟩
      rw [HX.out, List.append_nil]
      rfl
    | cons x post =>
      have hlt : pre.length < xs.length := by rw [hx]; simp
      obtain ⟨g, rfl⟩ : ∃ g, ao = some ⟨g, 0, none⟩ := by
        rcases hw.2 with ⟨_, h0⟩ | ⟨g, cap, cur, hv, _⟩
        · omega
        · exact ⟨g, by cases hv; rfl⟩
      obtain ⟨r0, r1, r2, r3⟩ := rowCells hw hx
      have hlen : (indL j.data.toList (pre ++ [x])).length ≤ 1000000 * (2 * 1000000) := by
        refine indL_len _ 1000000 1000000 _ (fun y hy => Nat.le_trans (HPOS.out y ?_) hs) ?_ (by rw [← Lib.size_eq]; exact hj)
        · rw [hx]
          rcases List.mem_append.1 hy with h | h
          · exact List.mem_append_left _ h
          · rw [List.mem_singleton.1 h]; simp
        · simp; omega
      rw [indL_snoc] at hlen
      simp only [List.length_append, ← Lib.size_eq] at hlen
      have hen : (endS x.ended).size ≤ 1 := by unfold endS; cases x.ended <;> decide
      have hjn : (indL j.data.toList pre).length + j.size + x.text.length + 1 ≤ 2000000000001 := by omega
      clear hlen hen
      have HX := Lib.hid hx
      clear hx
      have HS := Lib.hid (indL_snoc j.data.toList pre x)
      have hmt := mkText (indL j.data.toList pre) x.text j
      have HMT := Lib.hid hmt
      clear hmt
      cases he : x.ended
      · rw [he] at r3
        have hn : indL j.data.toList (pre ++ [x]) = indL j.data.toList pre ++ j.data.toList ++ x.text := by rw [HS.out, he]; simp [endS]
        have HN := Lib.hid hn
        clear hn
        go_wp2
        go_roundw
        case rel =>
          refine ⟨pre ++ [x], post, HX.out.trans (by simp), ?_, go_idx pre x, hw.alloc _, hb.alloc hb.size _⟩
          rw [HMT.out, HN.out]
        case measure => simp [intOf] <;> omega
      · rw [he] at r3
        have hn : indL j.data.toList (pre ++ [x]) = (indL j.data.toList pre ++ j.data.toList ++ x.text) ++ [10] := by rw [HS.out, he]; simp [endS]
        have HN := Lib.hid hn
        clear hn
        go_wp2
        go_roundw
        case rel =>
          refine ⟨pre ++ [x], post, HX.out.trans (by simp), ?_, go_idx pre x, hw.alloc _, hb.alloc hb.size _⟩
          rw [HMT.out, HN.out]
          exact congrArg Value.string (mkAppend _ [10])
        case measure => simp [intOf] <;> omega
end Go.Proofs.YtifdcnkfanenjaaDoor
