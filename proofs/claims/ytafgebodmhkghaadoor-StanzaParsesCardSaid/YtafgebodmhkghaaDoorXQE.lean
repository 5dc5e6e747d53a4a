/- The document's parse in memory: said, wrong. -/
import Derived.Test.YtafgebodmhkghaaDoorXQD
set_option linter.unusedVariables false
namespace Go.Proofs.YtafgebodmhkghaaDoor
open Go.RowKit Go.Shelf

theorem more_drop {xs : List Ln} {k : Nat} {x : Ln} (h : xs[k]? = some x) : more (xs.drop k) = if kindL x.text = 3 then x.text :: more (xs.drop (k + 1)) else [] := by
  have hlt : k < xs.length := by
    rcases Nat.lt_or_ge k xs.length with q | q
    · exact q
    · rw [List.getElem?_eq_none q] at h; cases h
  have e := List.drop_eq_getElem_cons hlt
  rw [List.getElem?_eq_getElem hlt] at h
  rw [Option.some.inj h] at e
  rw [e]; rfl
theorem strCellB (W : World) (x : List UInt8) : ∀ (j : Nat) u, [Value.string (B x)][j]? = some u → (W.alloc (.cells #[.string (B x)] 9)).cell? ((⟨W.heap.size, 0, none⟩ : Addr).add j) = some u := cells_new_add W _ [.string (B x)]
set_option maxRecDepth 100000 in
set_option maxHeartbeats 4000000 in
theorem rsaid_any (xs : List Ln) (lv kv : Value) (i : Nat) (x : Ln) (w : World) (hL : LnsR w lv xs) (hK : KdsR w kv xs) (hx : xs[i]? = some x) (hn : xs.length ≤ 100000) :
    Calls Tryd.prog 47 #[lv, kv, .int .i64 i] w fun e w' => ∃ v, e = .returned v ∧ OwnS w' w.heap.size v ((x.text :: more (xs.drop (i + 1))).map B) ∧ Below w.heap.size w w' := by
  obtain ⟨i0, hi, hz0, hz1, hz2⟩ := info_parts infoStr
  have hlt0 : i < xs.length := by
    rcases Nat.lt_or_ge i xs.length with q | q
    · exact q
    · rw [List.getElem?_eq_none q] at hx; cases hx
  obtain ⟨A, cap, rfl, hle, hc⟩ := hL
  obtain ⟨A', cap', rfl, hle', hc'⟩ := hK
  have HC := Lib.hid hc
  have HC' := Lib.hid hc'
  obtain ⟨b, off, rfl, hbb, c0, _⟩ := hc i x hx
  clear hc hc'
  have own1 : OwnS (w.alloc (.cells #[.string (B x.text)] 9)) w.heap.size (.slice (some ⟨w.heap.size, 0, none⟩) 1 1) [B x.text] := OwnS.one w _ (Nat.le_refl _) _
  go_enter Tryd.func47, Tryd.ntmps47
  go_wp2_with fail
  go_loopw [7, 8] (fun u j wr => ∃ (k : Nat) (ls : List (List UInt8)), i < k ∧ k ≤ xs.length ∧ j = .int .i64 k ∧ OwnS wr w.heap.size u ((x.text :: ls).map B) ∧ ls.length ≤ k ∧ ls ++ more (xs.drop k) = more (xs.drop (i + 1)) ∧ Below w.heap.size w wr) (fun _ j _ => xs.length - (intOf j).toNat)
  case atStart => exact ⟨i + 1, [], by omega, by omega, by go_num, own1, by simp, rfl, (Below.refl _ _).alloc (Nat.le_refl _) _⟩
  case round =>
    obtain ⟨k, ls, hik, hk, rfl, hown, hll, hls, hb⟩ := hrel
    have hzb := hb.size
    by_cases hlt : k < xs.length
    · obtain ⟨y, hy⟩ : ∃ y, xs[k]? = some y := ⟨_, List.getElem?_eq_getElem hlt⟩
      obtain ⟨b1, off1, e, hb1, d0, _⟩ := HC.out k y hy
      cases e
      obtain ⟨b2, off2, rfl, hb2, d1⟩ := HC'.out k y hy
      replace d0 := (hb.cell (p := ⟨b, off + k * 4 + 1 + 1, none⟩) hb1).trans d0
      replace d1 := (hb.cell (p := ⟨b2, off2 + k, none⟩) hb2).trans d1
      rw [more_drop hy] at hls
      by_cases h3 : kindL y.text = 3
      · rw [if_pos h3] at hls
        rw [h3] at d1
        have hown' : wr.ownsRow w.heap.size 9 1 u7 ((x.text :: ls).map B).length (((x.text :: ls).map B).map Value.string) := hown
        have hlen : ((x.text :: ls).map B).length = ls.length + 1 := by simp
        rw [hlen] at hown'
        have HV := Lib.hid (strCellB wr y.text)
        have HLS := Lib.hid hls
        clear hown hy hls HC HC' c0
        go_wp2_with (at_builtin; refine wpList_append_own _ rfl _ _ 63 rfl w.heap.size 9 i0 _ 1 16 Tryd.underlying63 hi hz0 hz1 hz2 rfl (by decide) _ _ _ rfl (hown'.alloc _) ⟨wr.heap.size, 0, none⟩ 1 1 _ rfl rfl HV.out ?c2 ?c3 ?c4 ?c5 ?_)
        case c2 => intro u hu; simp at hu; subst hu; rfl
        case c3 => unfold maxLen; omega
        case c4 => omega
        case c5 => simp; omega
        intro v' w3 hown3 hgrow _
        obtain ⟨g', cap3, rfl⟩ := ownsRow_succ hown3
        have hb3 : Below w.heap.size w w3 := (hb.alloc (by omega) _).grown hgrow (by simp; omega) (fun j ej => (hown'.lt j ej).1)
        go_wp2_with fail
        go_roundw
        case rel =>
          refine ⟨k + 1, ls ++ [y.text], by omega, hlt, by go_num, ?_, by simp; omega, by rw [List.append_assoc]; exact HLS.out, hb3⟩
          unfold OwnS
          have e2 : ((x.text :: (ls ++ [y.text])).map B).length = ls.length + 1 + 1 := by simp
          have e3 : ((x.text :: (ls ++ [y.text])).map B).map Value.string = ((x.text :: ls).map B).map Value.string ++ [.string (B y.text)] := by simp
          rw [e2, e3, show ((x.text :: ls).map B).map Value.string ++ [.string (B y.text)] = Value.string (B x.text) :: (List.map (Value.string ∘ B) ls ++ [Value.string (B y.text)]) by simp]; exact hown3
        case measure => simp [intOf]; omega
      · rw [if_neg h3, List.append_nil] at hls
        have d2 : (((kindL y.text : Nat) : Int) == 3) = false := beq_eq_false_iff_ne.2 (by omega)
        have HO := Lib.hid hown
        have HLS := Lib.hid hls
        clear hown hy HC HC' c0 hls
        go_wp2_with fail
        go_ret
        exact ⟨_, rfl, by rw [← HLS.out]; exact HO.out, hb⟩
    · obtain rfl : k = xs.length := by omega
      rw [List.drop_of_length_le (Nat.le_refl _)] at hls
      have HLS := Lib.hid (show ls = more (xs.drop (i + 1)) by rw [← hls]; show ls = ls ++ []; simp)
      have HO := Lib.hid hown
      clear hown HC HC' c0 hls
      go_wp2_with fail
      go_ret
      exact ⟨_, rfl, by rw [← HLS.out]; exact HO.out, hb⟩
end Go.Proofs.YtafgebodmhkghaaDoor
