/- What stands between line ends, by definition. -/
import Derived.Test.YtcakphfjeplnnaaDoorFO
namespace Go.Proofs.YtcakphfjeplnnaaDoor
open Go.RowKit Go.Shelf

theorem OwnS.grow {w5 : World} {base g' cap' : Nat} {ls : List ByteArray} {y : ByteArray} {n : Nat} (h : w5.ownsRow base 9 1 (.slice (some ⟨g', 0, none⟩) (n + 1) cap') (n + 1) (ls.map Value.string ++ [Value.string y])) (hl : ls.length = n) : OwnS w5 base (.slice (some ⟨g', 0, none⟩) (n + 1) cap') (ls ++ [y]) := by
  unfold OwnS
  rw [List.length_append, List.map_append, hl]; exact h
theorem OwnS.form {w : World} {base : Nat} {v : Value} {ls : List ByteArray} (h : OwnS w base v ls) (hn : 0 < ls.length) : ∃ g cap, v = .slice (some ⟨g, 0, none⟩) ls.length cap ∧ base ≤ g ∧ g < w.heap.size := by
  obtain ⟨g, cap, e⟩ := Joins.ownsRow_form h hn
  have := World.ownsRow.lt h g (by rw [e]; rfl)
  exact ⟨g, cap, e, this⟩
theorem OwnS.cell {w : World} {base g cap n : Nat} {ls : List ByteArray} (h : OwnS w base (.slice (some ⟨g, 0, none⟩) n cap) ls) (hn : ls.length = n) (j : Nat) (x : ByteArray) (hx : ls[j]? = some x) : w.cell? ⟨g, j, none⟩ = some (.string x) := by
  subst hn
  have hj : j < ls.length := by
    rcases Nat.lt_or_ge j ls.length with q | q
    · exact q
    · rw [List.getElem?_eq_none q] at hx; cases hx
  rw [World.ownsRow.cellAt h j (by omega), List.getElem?_map, hx]; rfl

set_option maxRecDepth 100000 in
set_option maxHeartbeats 4000000 in
theorem refParts_any (l : List UInt8) (hl : l.length ≤ 1000000) (w : World) :
    Calls Tryd.prog 34 #[.string (B l)] w fun e w' => ∃ v, e = .returned v ∧ OwnS w' w.heap.size v ((partsL l).map B) ∧ Below w.heap.size w w' := by
  obtain ⟨i0, hi, hz0, hz1, hz2⟩ := info_parts infoStr
  have hsz := B_size l
  have hd := B_data l
  generalize B l = s at *
  have HD := Lib.hid hd
  go_enter Tryd.func34, Tryd.ntmps34
  go_wp2_with fail
  go_loopw [3, 4] (fun v i wr => ∃ k : Nat, k ≤ s.size ∧ i = .int .i64 k ∧ OwnS wr w.heap.size v ((partsL (l.take k)).map B) ∧ (partsL (l.take k)).length ≤ k + 1 ∧ Below w.heap.size w wr) (fun _ i _ => s.size - (intOf i).toNat)
  case atStart => exact ⟨0, Nat.zero_le _, rfl, OwnS.one w _ (Nat.le_refl _) _, by simp [partsL], (Below.refl _ _).alloc (Nat.le_refl _) _⟩
  case round =>
    obtain ⟨k, hk, rfl, hown, hlen, hb⟩ := hrel
    by_cases hlt : k < s.size
    · have e : l[k]? = some s[k] := by
        rw [← HD.out, List.getElem?_eq_getElem (by rw [← Lib.size_eq]; exact hlt)]; rfl
      have htk : l.take (k + 1) = l.take k ++ [s[k]] := by rw [List.take_add_one, e]; rfl
      have hex : s.extract k (k + 1) = B [s[k]] := by
        rw [← B_of (s.extract k (k + 1)), Lib.extract_data, HD.out]
        congr 1
        rw [show k + 1 - k = 1 by omega]
        have : (l.drop k)[0]? = some s[k] := by rw [List.getElem?_drop]; exact e
        cases hdl : l.drop k with
        | nil => rw [hdl] at this; simp at this
        | cons a b => rw [hdl] at this; simp at this; subst this; rfl
      have q2 := byte_eq (c := s[k]) (d := 10) 10 rfl
      have hs3 := hb.size
      have hn0 : 0 < ((partsL (l.take k)).map B).length := by rw [List.length_map]; exact List.length_pos_iff.2 (partsL_ne _)
      cases h5 : (s[k] == 10) with
      | true =>
        rw [h5] at q2
        have h10 : s[k] = 10 := by simpa using h5
        have T1 : Hid ((partsL (l.take (k + 1))).map B = (partsL (l.take k)).map B ++ [⟨#[]⟩]) := by
          show _ = _
          rw [htk, h10, partsL_snoc_nl, List.map_append]; rfl
        have T2 : Hid ((partsL (l.take (k + 1))).length = ((partsL (l.take k)).map B).length + 1) := by
          show _ = _
          rw [htk, h10, partsL_snoc_nl, List.length_append, List.length_map]; rfl
        rw [← List.length_map (f := B)] at hlen
        clear htk hex h10 e h5 hd
        generalize (partsL (l.take k)).map B = ls at *
        obtain ⟨g, cap, rfl, hg1, hg2⟩ := hown.form hn0
        have HC := Lib.hid (strCell wr ⟨#[]⟩ 9)
        have hown4 : wr.ownsRow w.heap.size 9 1 (.slice (some ⟨g, 0, none⟩) ls.length cap) ls.length (ls.map Value.string) := hown
        obtain ⟨n, hn⟩ : ∃ n, ls.length = n := ⟨_, rfl⟩
        rw [hn] at hown4 hlen hn0
        have HN := Lib.hid hn
        simp only [hn]
        clear hown hn
        go_wp2_with (at_builtin; refine wpList_append_own _ rfl _ _ 25 rfl w.heap.size 9 i0 _ 1 16 Tryd.underlying25 hi hz0 hz1 hz2 rfl (by decide) _ _ _ rfl (hown4.alloc _) ⟨wr.heap.size, 0, none⟩ 1 1 _ rfl rfl HC.out ?c2 ?c3 ?c4 ?c5 ?_)
        case c2 => intro u hu; simp at hu; subst hu; rfl
        case c3 => unfold maxLen; omega
        case c4 => omega
        case c5 => simp; omega
        intro v' w5 hown' hgrow _
        obtain ⟨g', cap', rfl⟩ := ownsRow_succ hown'
        have hb5 : Below w.heap.size w w5 := (hb.alloc (by omega) _).grown hgrow (by simp; omega) (fun j ej => (hown4.lt j ej).1)
        have hown6 := OwnS.grow (ls := ls) (y := ⟨#[]⟩) hown' HN.out
        rw [← T1.out] at hown6
        go_wp2_with fail
        go_roundw
        case rel => exact ⟨k + 1, hlt, by go_num, hown6, by rw [T2.out, HN.out]; omega, hb5⟩
        case measure => simp [intOf]; omega
      | false =>
        rw [h5] at q2
        have h10 : s[k] ≠ 10 := by simpa using h5
        obtain ⟨pre, p, p1, p2⟩ := partsL_snoc (l.take k) s[k] h10
        have hm : ((partsL (l.take k)).map B).length = pre.length + 1 := by rw [p1]; simp
        rw [p1, List.length_append] at hlen
        simp only [List.length_singleton] at hlen
        obtain ⟨g, cap, rfl, hg1, hg2⟩ := hown.form hn0
        rw [hm] at hown ⊢
        have hcell := hown.cell hm pre.length (B p) (by rw [p1, List.map_append, List.getElem?_append_right (by simp)]; simp)
        have hown4 : wr.ownsRow w.heap.size 9 1 (.slice (some ⟨g, 0, none⟩) (pre.length + 1) cap) (pre.length + 1) ((pre.map B).map Value.string ++ [.string (B p)]) := by
          have := hown
          unfold OwnS at this
          rw [hm, p1] at this
          simpa using this
        have hfz := hown4.frozenAt pre.length
        have hst := hown4.stored pre.length (.string (B p ++ B [s[k]]))
        rw [List.set_append_right _ _ (by simp)] at hst
        simp only [List.length_map, Nat.sub_self, List.set_cons_zero, B_append] at hst
        have T1 : Hid ((partsL (l.take (k + 1))).map B = pre.map B ++ [B (p ++ [s[k]])]) := by
          show _ = _
          rw [htk, p2, List.map_append]; rfl
        have T2 : Hid ((partsL (l.take (k + 1))).length = pre.length + 1) := by
          show _ = _
          rw [htk, p2, List.length_append]; rfl
        obtain ⟨hst1, hst2⟩ := hst
        have hown6 := OwnS.grow (ls := pre.map B) (y := B (p ++ [s[k]])) hst1 (by simp)
        rw [← T1.out] at hown6
        have hb6 := hb.setCell (p := ⟨g, pre.length, none⟩) hg1 (.string (B (p ++ [s[k]])))
        have HB1 := Lib.hid hown6
        have HB2 := Lib.hid hb6
        have hpre : pre.length ≤ 1000000 := by omega
        have hwr : IntKind.i64.wrap (pre.length : Int) = pre.length := IntWalk.i64_in _ (by omega)
        have hlt2 : (pre.length : Int) < (pre.length : Int) + 1 := by omega
        have hwk : IntKind.i64.wrap ((k : Int) + 1) = (k : Int) + 1 := IntWalk.i64_in _ (by omega)
        have hk1 : (k : Int) + 1 ≤ (l.length : Int) := by omega
        have hk2 : (k : Int) ≤ (k : Int) + 1 := by omega
        have hk3 : (k : Int) + 1 ≤ (s.size : Int) := by omega
        have hba := B_append p [s[k]]
        have z1 := B_size p
        have z2 := B_size [s[k]]
        have hpl : p.length ≤ 1000000 := by
          have := (parts_le (l.take k)); rw [p1] at this; simp at this; omega
        simp only [List.length_singleton] at z2
        rw [← hex] at hba z2
        clear hown hown4 hst1 hst2 hown6 hb6 p1 p2 htk e hd hm h10 hex
        have hcat : ¬ 9223372036854775807 < p.length + 1 := by omega
        generalize B (p ++ [s[k]]) = np at *
        generalize B p = bp at *
        go_wp2_with fail
        refine wp_region_still_tail 17 (by kernel_rfl) (by kernel_rfl) ?_
        simp only [List.take_succ_cons, List.take_zero, List.drop_succ_cons, List.drop_zero]
        repeat still_step
        refine wpStill_nil ?_
        change wpList _ _ _ _ _ wr.drew
        go_wp2_with fail
        go_roundw
        case rel => exact ⟨k + 1, hlt, by go_num, HB1.out, by rw [T2.out]; omega, HB2.out.drew⟩
        case measure => simp [intOf]; omega
    · obtain rfl : k = s.size := by omega
      rw [List.take_of_length_le (by omega)] at hown
      go_wp2_with fail
      go_ret
      exact ⟨_, rfl, hown, hb⟩
end Go.Proofs.YtcakphfjeplnnaaDoor
