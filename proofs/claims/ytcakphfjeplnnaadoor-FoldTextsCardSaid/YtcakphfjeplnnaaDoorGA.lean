/- FoldUnfolds over what came in; the law FoldKinds. -/
import Derived.Test.YtcakphfjeplnnaaDoorFZ
namespace Go.Proofs.YtcakphfjeplnnaaDoor
open Go.RowKit Go.Shelf

set_option maxRecDepth 100000 in
theorem unfoldsCall {H : Type} {enc : TypeId × Value → H} (v : Value) (d : DataW H) (p : List MemPlace) (W : World) {b0 : Nat} (hval : Value.okWide Tryd.prog W .any b0 25 v) {base : Nat} {held : Bool} (h : DataW.Trod enc Tryd.prog W base (fun _ => true) held 25 v d p) :
    Calls Tryd.prog 5 #[v] W fun e w' => e = .returned (.bool true) ∧ Below W.heap.size W w' := by
  obtain ⟨ss, hs⟩ := open_strs Tryd.underlying25 Tryd.underlying9 (by kernel_rfl) hval h
  obtain ⟨ls, rfl⟩ := Bs_of ss
  exact unfoldsLaw ls v W hs (nil_in Tryd.underlying25 h)

attribute [local go_sem] errV_0
theorem foldN_two {k v : List UInt8} (h : checkN k v = 0) : foldN [(k, v), (k, v)] = 0 := by
  show (if checkN k v = 0 then foldN [(k, v)] else checkN k v) = 0
  rw [if_pos h, foldN_one, h]
theorem foldT_two {k v : List UInt8} (h : checkN k v = 0) : foldT [(k, v), (k, v)] = textL (linesL k v) ++ textL (linesL k v) := by
  unfold foldT; rw [foldN_two h, if_pos rfl]; unfold foldG; simp
theorem nth_kind {k v : List UInt8} (hk : goodKey k = true) (i : Nat) (x : List UInt8) (h : (linesL k v)[i]? = some x) : (i = 0 → kindL x = 4 ∧ before x = k) ∧ (0 < i → kindL x = 3) ∧ x.length ≤ k.length + 3 * v.length + 8 := by
  have hls := lines_sum k v
  have hl := le_sum _ x (List.mem_of_getElem? h)
  refine ⟨?_, ?_, by omega⟩
  · rintro rfl
    unfold linesL at h
    simp at h
    subst h
    exact ⟨first_kind hk (by have := head_clean v; simpa using this), (first_before hk).1⟩
  · intro hi
    obtain ⟨j, rfl⟩ : ∃ j, i = j + 1 := ⟨i - 1, by omega⟩
    unfold linesL at h
    rw [List.getElem?_cons_succ, List.getElem?_map] at h
    cases hp : (partsL v).tail[j]? with
    | none => rw [hp] at h; cases h
    | some p =>
      rw [hp] at h
      simp at h
      subst h
      exact further_kind (tail_clean v p (List.mem_of_getElem? hp))

set_option maxRecDepth 100000 in
set_option maxHeartbeats 8000000 in
theorem kindsLaw (k v : List UInt8) (w : World) :
    Calls Tryd.prog 6 #[fieldV k v] w fun e w' => e = .returned (.bool true) ∧ Below w.heap.size w w' := by
  have yv := B_size v
  have yk := B_size k
  have hcn := checkN_le k v
  unfold fieldV
  go_enter Tryd.func6, Tryd.ntmps6
  go_wp2_with fail
  refine (alive_any _).mono ?_
  rintro e w1 ⟨rfl, b1⟩
  have R1 := cells_kept (Cells.new w 23 #[.string (B k), .string (B v)]) b1 (by simp)
  have hb1 : Below w.heap.size w w1 := ((Below.refl _ _).alloc (Nat.le_refl _) _).trans (b1.mono (by simp))
  have hs1 := b1.size
  simp only [World.size_alloc] at hs1
  clear b1
  have d0 := R1.cell 0
  have d1 := R1.cell 1
  simp only [List.getElem?_toArray, List.getElem?_cons_zero, List.getElem?_cons_succ] at d0 d1
  by_cases h1 : 1000 < k.length
  · go_wp2_with fail
    go_ret
    exact ⟨rfl, hb1⟩
  by_cases h2 : 5000 < v.length
  · go_wp2_with fail
    go_ret
    exact ⟨rfl, hb1⟩
  by_cases h0 : checkN k v = 0
  · have LO := fun w => lines_own k v (by omega) (by omega) w h0
    obtain ⟨g1, g2⟩ := checkN_zero h0
    have hls := lines_sum k v
    have hln := linesL_len k v
    have NK := Lib.hid (nth_kind (v := v) g1)
    have FT2 := Lib.hid (foldT_two h0)
    have FN2 := Lib.hid (foldN_two h0)
    have TL := Lib.hid (textL_lines (linesL k v) (linesL_clean v g1))
    have htl := text_le h0
    unfold fieldV at LO
    have HD := Lib.hid (B_data v)
    clear h0 hcn
    generalize linesL k v = ls at *
    go_wp2_with fail
    refine (LO _).mono ?_
    rintro e w2 ⟨sv, base, rfl, hown, b2⟩
    obtain ⟨g, cap, rfl, hg1, hg2⟩ := hown.form (by rw [List.length_map]; omega)
    have PC := Lib.hid (fun (j : Nat) x (hx : ls[j]? = some x) => hown.cell rfl j (B x) (by rw [List.getElem?_map, hx]; rfl))
    rw [List.length_map] at *
    have R2 := cells_kept R1 b2 (by omega)
    have hb2 := hb1.trans (b2.mono hb1.size)
    have hs2 := b2.size
    clear b2 R1 hb1 d0 d1 LO hown
    have d0 := R2.cell 0
    have d1 := R2.cell 1
    simp only [List.getElem?_toArray, List.getElem?_cons_zero, List.getElem?_cons_succ] at d0 d1
    generalize hV : B v = V at *
    have HV := Lib.hid hV
    clear hV
    go_wp2_with fail
    go_loopw [5, 35] (fun s i wr => ∃ n : Nat, n ≤ v.length ∧ i = .int .i64 n ∧ s = .int .i64 ((v.take n).count 10 : Nat) ∧ (v.take n).count 10 ≤ n ∧ w2 = wr) (fun _ i _ => v.length - (intOf i).toNat)
    case atStart => exact ⟨0, Nat.zero_le _, rfl, rfl, by simp, rfl⟩
    case round =>
      obtain ⟨n, hn, rfl, rfl, hcl, rfl⟩ := hrel
      by_cases hlt : n < v.length
      · have hlV : n < V.size := by omega
        have e : v[n]? = some V[n] := by
          rw [← HD.out, List.getElem?_eq_getElem (by rw [← Lib.size_eq]; exact hlV)]; rfl
        have htk : v.take (n + 1) = v.take n ++ [V[n]] := by rw [List.take_add_one, e]; rfl
        have q2 := byte_eq (c := V[n]) (d := 10) 10 rfl
        have hct : (v.take (n + 1)).count 10 = (v.take n).count 10 + if V[n] == 10 then 1 else 0 := by
          rw [htk, List.count_append, List.count_singleton]
        have HT := Lib.hid hct
        clear e htk hct
        generalize (v.take n).count 10 = m at *
        cases h5 : (V[n] == 10) with
        | true =>
          rw [h5] at q2 HT
          go_wp2_with fail
          go_roundw
          case rel => exact ⟨n + 1, hlt, by go_num, by rw [HT.out]; go_num, by rw [HT.out]; simp; omega, trivial⟩
          case measure => simp [intOf]; omega
        | false =>
          rw [h5] at q2 HT
          go_wp2_with fail
          go_roundw
          case rel => exact ⟨n + 1, hlt, by go_num, by rw [HT.out]; simp, by rw [HT.out]; simp; omega, trivial⟩
          case measure => simp [intOf]; omega
      · obtain rfl : n = v.length := by omega
        rw [List.take_length] at hcl ⊢
        have hmz : (List.count 10 v : Nat) ≤ 1000 := by omega
        have hln2 : (ls.length : Int) = (List.count 10 v : Int) + 1 := by omega
        have hne : ((ls.length : Int) != (List.count 10 v : Int) + 1) = false := by simp; omega
        generalize hm : List.count 10 v = m at *
        clear hm hcl hlt
        go_wp2_with fail
        go_loopw [53] (fun i wr => ∃ n : Nat, n ≤ ls.length ∧ i = .int .i64 n ∧ Below w2.heap.size w2 wr) (fun i _ => ls.length - (intOf i).toNat)
        case atStart => exact ⟨0, Nat.zero_le _, rfl, Below.refl _ _⟩
        case round =>
          obtain ⟨n, hnl, rfl, hb⟩ := hrel
          have RR := cells_kept R2 hb (by omega)
          have c0 := RR.cell 0
          have c1 := RR.cell 1
          simp only [List.getElem?_toArray, List.getElem?_cons_zero, List.getElem?_cons_succ] at c0 c1
          have hsr := hb.size
          by_cases hlt : n < ls.length
          · obtain ⟨x, hx⟩ : ∃ x, ls[n]? = some x := ⟨_, List.getElem?_eq_getElem hlt⟩
            have hcx := (hb.cell (p := ⟨g, n, none⟩) hg2).trans (PC.out n x hx)
            obtain ⟨n1, n2, n3⟩ := NK.out n x hx
            have hxz := B_size x
            clear hx
            by_cases hn0 : n = 0
            · subst hn0
              obtain ⟨k4, kb⟩ := n1 rfl
              have CP := fun w => cut_pair (B x) (by unfold maxLen; omega) (by rw [B_data]; exact k4) w
              rw [pre_B, kb] at CP
              clear n1 n2 k4 kb
              generalize B k = K at *
              generalize B x = X at *
              go_wp2_with fail
              refine (CP _).mono ?_
              rintro e w4 ⟨rfl, b4⟩
              have RR4 := cells_kept RR b4 (by omega)
              have e0 := RR4.cell 0
              simp only [List.getElem?_toArray, List.getElem?_cons_zero] at e0
              have hb4 := hb.trans (b4.mono hsr)
              go_wp2_with fail
              go_roundw
              case rel => exact ⟨1, by omega, rfl, hb4⟩
              case measure => simp [intOf]; omega
            · have k3 := n2 (by omega)
              have KX := fun w => kind_any (B x) (by unfold maxLen; omega) w
              rw [B_data, k3] at KX
              have hnz : ((n : Int) == 0) = false := by rw [beq_eq_false_iff_ne]; omega
              clear n1 n2 k3 hn0
              generalize B k = K at *
              generalize B x = X at *
              go_wp2_with fail
              refine (KX _).mono ?_
              rintro e w4 ⟨rfl, b4⟩
              have hb4 := hb.trans (b4.mono hsr)
              go_wp2_with fail
              go_roundw
              case rel => exact ⟨n + 1, hlt, by go_num, hb4⟩
              case measure => simp [intOf]; omega
          · obtain rfl : n = ls.length := by omega
            have FF2 := fold_any [(k, v), (k, v)] _ _ (Flds.two wr 23 k v k v) (by simp) (by intro f hf; simp at hf; subst hf; exact ⟨by simp; omega, by simp; omega⟩)
            rw [FT2.out, FN2.out, HV.out, errV_0] at FF2
            have hbw := hb2.trans (hb.mono hb2.size)
            have CT := fun w => count_any (B (textL ls ++ textL ls)) w (by rw [B_size, List.length_append]; omega)
            rw [B_data, TL.out] at CT
            clear PC NK hlt hnl
            generalize B (textL ls ++ textL ls) = TT at *
            generalize B k = K at *
            go_wp2_with fail
            refine FF2.mono ?_
            rintro e w5 ⟨rfl, b5⟩
            have hb5 := (hbw.alloc hbw.size (.cells #[.string K, .string V, .string K, .string V] 23)).trans (b5.mono (by have := hbw.size; simp; omega))
            clear FF2 b5
            go_wp2_with fail
            refine (CT _).mono ?_
            rintro e w6 ⟨rfl, b6⟩
            have hb6 := hb5.trans (b6.mono hb5.size)
            go_wp2_with fail
            go_ret
            exact ⟨by simp, hb6⟩
  · have LB := fun w => lines_bad k v (by omega) (by omega) w h0
    rw [errV_pos _ (Nat.pos_of_ne_zero h0)] at LB
    unfold fieldV at LB
    generalize checkN k v = n at *
    generalize B k = K at *
    generalize B v = V at *
    clear h0 hcn
    go_wp2_with fail
    refine (LB _).mono ?_
    rintro e w2 ⟨rfl, b2⟩
    have hb2 := hb1.trans (b2.mono hb1.size)
    go_wp2_with fail
    go_ret
    exact ⟨rfl, hb2⟩
set_option maxRecDepth 100000 in
theorem kindsCall {H : Type} {enc : TypeId × Value → H} (v : Value) (d : DataW H) (p : List MemPlace) (W : World) {b0 : Nat} (hval : Value.okWide Tryd.prog W .any b0 23 v) {base : Nat} {sp : Nat → Bool} {held : Bool} (h : DataW.Trod enc Tryd.prog W base sp held 23 v d p) :
    Calls Tryd.prog 6 #[v] W fun e w' => e = .returned (.bool true) ∧ Below W.heap.size W w' := by
  obtain ⟨k, x, rfl⟩ := field_of v d p W hval h
  exact kindsLaw k x W
end Go.Proofs.YtcakphfjeplnnaaDoor
