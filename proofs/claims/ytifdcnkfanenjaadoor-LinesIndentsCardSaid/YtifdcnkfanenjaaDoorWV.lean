/- The law of what is indented and dedented. -/
import Derived.Test.YtifdcnkfanenjaaDoorWR
namespace Go.Proofs.YtifdcnkfanenjaaDoor
open Go.RowKit Go.Shelf

theorem indent_none (s : ByteArray) (hs : s.size ≤ 100000) (w : World) :
    Calls Tryd.prog 22 #[.string s, .slice none 0 0] w fun e w' => e = .returned (.string s) ∧ Below w.heap.size w w' := by
  refine (indent_any s hs _ [] (by simp) w ?_).mono ?_
  · refine (Tryd.strings_Join_none none 0 ⟨#[]⟩ w).mono ?_
    rintro e w' ⟨rfl, rfl⟩
    exact ⟨rfl, Below.refl _ _⟩
  · rintro e w' ⟨rfl, hb⟩
    refine ⟨?_, hb⟩
    have e1 : indL [] (linesOf s.data.toList) = s.data.toList := by
      have : (fun x : Ln => ([] : List UInt8) ++ x.bytes) = Ln.bytes := rfl
      unfold indL
      rw [this, linesOf_join]
    rw [e1]
theorem indent_two (s a b : ByteArray) (hs : s.size ≤ 100000) (hab : (a ++ b).size ≤ 100000) (bk : Nat) (w : World) (h0 : w.cell? ⟨bk, 0, none⟩ = some (.string a)) (h1 : w.cell? ⟨bk, 1, none⟩ = some (.string b)) (hbk : bk < w.heap.size) :
    Calls Tryd.prog 22 #[.string s, .slice (some ⟨bk, 0, none⟩) 2 2] w fun e w' => e = .returned (.string ⟨(indL (a ++ b).data.toList (linesOf s.data.toList)).toArray⟩) ∧ Below w.heap.size w w' := by
  refine indent_any s hs _ _ (by rw [← Lib.size_eq]; exact hab) w ?_
  have hj : Lib.join ([a, b].map (·.data.toList)) (⟨#[]⟩ : ByteArray).data.toList = (a ++ b).data.toList := by
    rw [ByteArray.data_append, Array.toList_append]
    simp [Lib.join]
  have := Tryd.strings_Join bk 0 2 [a, b] ⟨#[]⟩ w (fun j x hx => by
    match j, hx with
    | 0, hx => cases hx; exact h0
    | 1, hx => cases hx; exact h1) hbk (by simp) (by simp) (by rw [hj, ← Lib.size_eq]; omega)
  rw [hj] at this
  exact this

set_option maxRecDepth 100000 in
set_option maxHeartbeats 4000000 in
theorem indentsLaw (s a b : ByteArray) (w : World) (hs : s.size ≤ maxLen) (ha : a.size ≤ maxLen) (hb : b.size ≤ maxLen) :
    Calls Tryd.prog 7 #[.string s, .string a, .string b] w fun e w' => e = .returned (.bool true) ∧ Below w.heap.size w w' := by
  unfold maxLen at hs ha hb
  by_cases c1 : 1000 < s.size ∨ 100 < a.size ∨ 100 < b.size
  · go_enter Tryd.func7, Tryd.ntmps7
    go_wp2_with (go_at_call 8; refine (alive_any _).mono ?_)
    rintro e w1 ⟨rfl, a1⟩
    rcases c1 with c1 | c1 | c1
    · go_wp2
      go_ret
      exact ⟨rfl, a1⟩
    · by_cases c2 : 1000 < s.size
      · go_wp2
        go_ret
        exact ⟨rfl, a1⟩
      · go_wp2
        go_ret
        exact ⟨rfl, a1⟩
    · by_cases c2 : 1000 < s.size
      · go_wp2
        go_ret
        exact ⟨rfl, a1⟩
      · by_cases c3 : 100 < a.size
        · go_wp2
          go_ret
          exact ⟨rfl, a1⟩
        · go_wp2
          go_ret
          exact ⟨rfl, a1⟩
  obtain ⟨d1, d2, d3⟩ : s.size ≤ 1000 ∧ a.size ≤ 100 ∧ b.size ≤ 100 := ⟨by omega, by omega, by omega⟩
  clear c1 hs ha hb
  have dab : (a ++ b).size ≤ 200 := by rw [ByteArray.size_append]; omega
  have hin : (indL (a ++ b).data.toList (linesOf s.data.toList)).length ≤ 1000 * (2 * 1000) := by
    have hpos := bytes_le s.data.toList
    have hll := linesOf_length s.data.toList
    rw [← Lib.size_eq] at hpos hll
    exact indL_len _ 1000 1000 _ (fun x hx => Nat.le_trans (hpos x hx) d1) (by omega) (by rw [← Lib.size_eq]; omega)
  have dsum : a.size + b.size ≤ 200 := by omega
  have two := indent_two s a b (by omega) (by omega)
  obtain ⟨ab, hab⟩ : ∃ ab, a ++ b = ab := ⟨_, rfl⟩
  rw [hab] at hin dab two
  have TWO := Lib.hid two
  have HIN := Lib.hid hin
  clear hin two
  go_enter Tryd.func7, Tryd.ntmps7
  go_wp2_with (go_at_call 8; refine (alive_any _).mono ?_)
  rintro e w1 ⟨rfl, a1⟩
  go_wp2_with fail
  refine (dedent_any s a (by omega) _).mono ?_
  rintro e w2 ⟨rfl, a2⟩
  have b2 := a1.trans (a2.mono a1.size)
  clear a2
  obtain ⟨D, hD⟩ : ∃ D, dd a.data.toList ((linesOf s.data.toList).map sees) = D := ⟨_, rfl⟩
  have q1 := refDedent_any s a (by omega) (by omega) w2
  rw [hD] at q1 ⊢
  have Q1 := Lib.hid q1
  clear q1 hD
  go_wp2_with fail
  refine Q1.out.mono ?_
  rintro e w3 ⟨rfl, a3⟩
  have b3 := b2.trans (a3.mono b2.size)
  clear a3 Q1
  have g0 : (w3.alloc (.cells #[.string a, .string b] 9)).cell? ⟨w3.heap.size, 0, none⟩ = some (.string a) := (Cells.new w3 9 #[.string a, .string b]).cell 0
  have g1 : (w3.alloc (.cells #[.string a, .string b] 9)).cell? ⟨w3.heap.size, 1, none⟩ = some (.string b) := (Cells.new w3 9 #[.string a, .string b]).cell 1
  have Q2 := Lib.hid (TWO.out w3.heap.size _ g0 g1 (by simp))
  have Q3 := Lib.hid (fun W => refIndent_any s ab (by omega) (by omega) W)
  have Q4 := Lib.hid (fun W => indent_none s (by omega) W)
  clear g0 g1
  obtain ⟨I, hI⟩ : ∃ I, indL ab.data.toList (linesOf s.data.toList) = I := ⟨_, rfl⟩
  have HI := Lib.hid hI
  have hsz : (⟨I.toArray⟩ : ByteArray).size ≤ 1000000000 := by
    have : (⟨I.toArray⟩ : ByteArray).size = I.length := rfl
    have := HIN.out
    rw [hI] at this
    omega
  have Q5 := Lib.hid (fun W => dedent_any ⟨I.toArray⟩ ab hsz W)
  clear hI hsz
  go_wp2_with fail
  refine Q2.out.mono ?_
  rintro e w4 ⟨rfl, a4⟩
  rw [HI.out]
  have b4 := (b3.alloc b3.size _).trans (a4.mono (by have := b3.size; simp; omega))
  clear a4 Q2
  go_wp2_with fail
  refine (Q3.out _).mono ?_
  rintro e w5 ⟨rfl, a5⟩
  rw [HI.out]
  have b5 := b4.trans (a5.mono b4.size)
  clear a5 Q3
  go_wp2_with fail
  refine (Q4.out _).mono ?_
  rintro e w6 ⟨rfl, a6⟩
  have b6 := b5.trans (a6.mono b5.size)
  clear a6 Q4
  have NN := Lib.hid (Lib.size_eq ab)
  go_wp2_with fail
  go_loop [73] (fun i => ∃ k : Nat, k ≤ ab.size ∧ i = .int .i64 k ∧ ∀ j, j < k → ab.data.toList[j]? ≠ some 10) (fun i => ab.size - (intOf i).toNat)
  case atStart => exact ⟨0, Nat.zero_le _, rfl, fun j hj => absurd hj (Nat.not_lt_zero j)⟩
  case round =>
    obtain ⟨k, hk, rfl, hno⟩ := hrel
    by_cases hlt : k < ab.size
    · have e : ab.data.toList[k]? = some ab[k] := by
        rw [List.getElem?_eq_getElem (by rw [← Lib.size_eq]; exact hlt)]; rfl
      have E := Lib.hid e
      have NO := Lib.hid hno
      clear e hno
      have q2 := byte_eq (c := ab[k]) (d := 10) 10 rfl
      cases h5 : (ab[k] == 10) with
      | true =>
        rw [h5] at q2
        go_wp2
        go_ret
        exact ⟨rfl, b6⟩
      | false =>
        rw [h5] at q2
        go_wp2
        go_round
        case rel =>
          refine ⟨k + 1, hlt, by go_num, fun j hj => ?_⟩
          by_cases hjk : j = k
          · subst hjk; rw [E.out]; simpa using h5
          · exact NO.out j (by omega)
        case measure => simp [intOf]; omega
    · have hk2 : k = ab.size := by omega
      have hd : dd ab.data.toList ((linesOf I).map sees) = (s.data.toList, true) := by
        rw [← HI.out]
        refine dd_ahead ab.data.toList (fun hm => ?_) s.data.toList
        obtain ⟨j, hj, e⟩ := List.getElem_of_mem hm
        refine hno j (by rw [hk2, NN.out]; exact hj) ?_
        rw [List.getElem?_eq_getElem hj, e]
      have Q6 : Hid (∀ W, Calls Tryd.prog 20 #[.string ⟨I.toArray⟩, .string ab] W fun e w' => e = .returned (.tuple #[.string s, .bool true]) ∧ Below W.heap.size W w') := by
        refine Lib.hid (fun W => ?_)
        have q := Q5.out W
        rw [hd] at q
        have eS : (⟨s.data.toList.toArray⟩ : ByteArray) = s := Lib.mk_data s
        simp only [eS] at q
        exact q
      subst hk2
      clear Q5 hd hno
      go_wp2_with fail
      refine (Q6.out _).mono ?_
      rintro e w7 ⟨rfl, a7⟩
      have b7 := b6.trans (a7.mono b6.size)
      clear a7 Q6
      go_wp2
      go_ret
      exact ⟨rfl, b7⟩
end Go.Proofs.YtifdcnkfanenjaaDoor
