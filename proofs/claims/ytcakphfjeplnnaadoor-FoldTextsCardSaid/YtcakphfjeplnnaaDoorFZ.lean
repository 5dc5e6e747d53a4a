/- The law FoldUnfolds. -/
import Derived.Test.YtcakphfjeplnnaaDoorFY
import Derived.Laws.AppendOwnNone
namespace Go.Proofs.YtcakphfjeplnnaaDoor
open Go.RowKit Go.Shelf

attribute [local go_sem] errV_0
def minSum (ls : List (List UInt8)) : Nat := (ls.map fun l => min l.length 9999).sum
theorem minSum_snoc (ls : List (List UInt8)) (x : List UInt8) : minSum (ls ++ [x]) = minSum ls + min x.length 9999 := by unfold minSum; simp
theorem minSum_small : ∀ (ls : List (List UInt8)), minSum ls ≤ 4000 → (∀ l ∈ ls, l.length ≤ 4000) ∧ (ls.map List.length).sum ≤ 4000
  | [], _ => ⟨by simp, by simp⟩
  | a :: r, h => by
    have e : minSum (a :: r) = min a.length 9999 + minSum r := rfl
    rw [e] at h
    obtain ⟨h1, h2⟩ := minSum_small r (by omega)
    have ha : a.length ≤ 4000 := by omega
    have hs : ∀ (q : List (List UInt8)), (q.map List.length).sum ≤ 4000 → minSum q = (q.map List.length).sum := by
      intro q
      induction q with
      | nil => intro _; rfl
      | cons b q ih =>
        intro hq
        simp only [List.map_cons, List.sum_cons] at hq ⊢
        have := ih (by omega)
        show min b.length 9999 + minSum q = _
        omega
    refine ⟨fun l hl => ?_, ?_⟩
    · rcases List.mem_cons.1 hl with rfl | hl
      · exact ha
      · exact h1 l hl
    · have := hs r h2
      simp only [List.map_cons, List.sum_cons]
      omega
theorem dropSp_le (l : List UInt8) : (dropSp l).length ≤ l.length := by unfold dropSp; split <;> simp
theorem dropDot_le (l : List UInt8) : (dropDot l).length ≤ l.length := by unfold dropDot; split <;> simp
theorem afterC_le (l : List UInt8) : (afterC l).length ≤ l.length := by unfold afterC; rw [List.length_drop]; omega
theorem tails_le : ∀ r : List (List UInt8), ((r.map fun l => dropDot l.tail).map List.length).sum ≤ (r.map List.length).sum
  | [] => by simp
  | a :: r => by
    have ih := tails_le r
    have h := dropDot_le a.tail
    have h2 : a.tail.length ≤ a.length := by simp
    simp only [List.map_cons, List.sum_cons] at ih ⊢
    omega
theorem saidV_le (ls : List (List UInt8)) : (saidV ls).length ≤ (ls.map List.length).sum + ls.length + 1 := by
  have h := joinNl_len (saidP ls)
  have hl : (saidP ls).length ≤ ls.length + 1 := by unfold saidP; cases ls <;> simp
  have hs : ((saidP ls).map List.length).sum ≤ (ls.map List.length).sum := by
    cases ls with
    | nil => decide
    | cons a r =>
      unfold saidP
      have h1 := tails_le r
      have h2 := dropSp_le (afterC a)
      have h3 := afterC_le a
      simp only [List.headD_cons, List.tail_cons, List.map_cons, List.sum_cons] at h1 ⊢
      omega
  unfold saidV
  omega
theorem own_none (w : World) (base : Nat) (hb : base ≤ w.heap.size) : OwnS (w.alloc (.cells #[] 9)) base (.slice (some ⟨w.heap.size, 0, none⟩) 0 0) [] :=
  World.ownsRow_lit w #[] 0 hb (by decide) rfl

set_option maxRecDepth 100000 in
set_option maxHeartbeats 8000000 in
theorem unfoldsLaw (ls : List (List UInt8)) (v : Value) (w : World) (hs : StrsIn w v (ls.map B)) (hnil : ∀ n c, v = .slice none n c → c = 0) :
    Calls Tryd.prog 5 #[v] w fun e w' => e = .returned (.bool true) ∧ Below w.heap.size w w' := by
  have hmax := hs.len
  have hst := hs.strs
  obtain ⟨A, cap, hv, hle, hc⟩ := hst
  have hcb := Lib.hid (cellB hc)
  have hea := Lib.hid hs.each
  rw [List.length_map] at hv hle hmax
  unfold maxLen at hmax
  subst hv
  have SI := Lib.hid hs.strs
  clear hs hc
  obtain ⟨i0, hi, hz0, hz1, hz2⟩ := info_parts infoStr
  go_enter Tryd.func5, Tryd.ntmps5
  go_wp2_with fail
  refine (alive_any _).mono ?_
  rintro e w1 ⟨rfl, b1⟩
  go_wp2_with fail
  go_loopw [3, 15] (fun s i wr => ∃ k : Nat, k ≤ ls.length ∧ k ≤ 61 ∧ i = .int .i64 k ∧ s = .int .i64 (minSum (ls.take k)) ∧ minSum (ls.take k) ≤ 4000 ∧ w1 = wr) (fun _ i _ => ls.length - (intOf i).toNat)
  case atStart => exact ⟨0, Nat.zero_le _, by decide, rfl, rfl, by simp [minSum], rfl⟩
  case round =>
    obtain ⟨k, hk, hk61, rfl, rfl, hms, rfl⟩ := hrel
    by_cases hlt : k < ls.length
    · obtain ⟨x, hx⟩ : ∃ x, ls[k]? = some x := ⟨_, List.getElem?_eq_getElem hlt⟩
      obtain ⟨b, off, rfl, hbb, hcell⟩ := hcb.out k x hx
      have hcx := (b1.cell (p := ⟨b, off + k, none⟩) hbb).trans hcell
      have hxz := B_size x
      have T1 : Hid (minSum (ls.take (k + 1)) = minSum (ls.take k) + min x.length 9999) := by
        show _ = _
        rw [List.take_add_one, hx]; exact minSum_snoc _ _
      have hxm : (B x).size ≤ 9223372036854775807 := hea.out k (B x) (by rw [List.getElem?_map, hx]; rfl)
      have hmc : ((min x.length 9999 : Nat) : Int) = min (x.length : Int) 9999 := by omega
      clear hx hcell
      generalize minSum (ls.take k) = m at *
      by_cases h60 : 60 < k
      · go_wp2_with fail
        go_ret
        exact ⟨rfl, b1⟩
      · by_cases hm4 : 4000 < m + min x.length 9999
        · go_wp2_with fail
          go_ret
          exact ⟨rfl, b1⟩
        · go_wp2_with fail
          go_roundw
          case rel => exact ⟨k + 1, hlt, by omega, by go_num, by rw [T1.out, Int.natCast_add, hmc], by rw [T1.out]; omega, trivial⟩
          case measure => simp [intOf]; omega
    · obtain rfl : k = ls.length := by omega
      rw [List.take_length] at hms
      obtain ⟨hl4, hsum⟩ := minSum_small ls hms
      have hl5 : ∀ l ∈ ls, l.length ≤ 100000 := fun l hl => by have := hl4 l hl; omega
      have hsv := saidV_le ls
      have hsv2 : (saidV ls).length ≤ 1000000 := by omega
      have UF := fun w' sv (h : Strs w' sv (ls.map B)) => unfold_any ls sv w' h hl5 (by omega) hsv2
      have RU := fun w' sv (h : Strs w' sv (ls.map B)) => refUnfold_any ls sv w' h hl5 (by omega) hsv2
      have PL := fun w' sv (h : Strs w' sv (ls.map B)) => plain_any ls sv w' h hl5 (by omega) hsv2
      have RP := fun w' sv (h : Strs w' sv (ls.map B)) => refPlain_any ls sv w' h hl5 (by omega) hsv2
      have TX := fun w' sv sv' (h : Strs w' sv (ls.map B)) (h' : Strs w' sv' (ls.map B)) => texts_any sv sv' _ _ w' h h' (by rw [List.length_map]; omega) (by rw [List.length_map]; omega)
      have hun : unfoldN ls ≤ 1000 := by unfold unfoldN; split; split; omega; omega; omega
      have NM := fun w => num_any (unfoldN ls) hun w
      simp only [decide_true] at TX
      clear hsv hsv2 hl4 hl5 hsum hms hun
      have b1s := b1.size
      have S1 := SI.out.below b1 (Nat.le_refl _)
      have hoN := own_none w1 w1.heap.size (Nat.le_refl _)
      unfold OwnS at hoN
      unfold fieldV at UF RU
      generalize errV (unfoldN ls) = ev at *
      generalize unfoldN ls = un at *
      generalize B (unfoldK ls) = KB at *
      generalize B (unfoldV ls) = VB at *
      have hb1 := b1
      clear b1
      cases A with
      | none =>
        have he : ls = [] := by
          cases ls with
          | nil => rfl
          | cons a r => obtain ⟨b, off, e, _⟩ := hcb.out 0 a rfl; cases e
        have hc0 := hnil _ _ rfl
        subst hc0
        subst he
        have S3 : Strs (w1.alloc (.cells #[] 9)) (.slice (some ⟨w1.heap.size, 0, none⟩) 0 0) (([] : List (List UInt8)).map B) := (own_none w1 w1.heap.size (Nat.le_refl _)).strs
        have hb3 := (Below.refl w1.heap.size w1).alloc (Nat.le_refl _) (.cells #[] 9)
        simp only [List.length_nil]
        go_wp2_with (at_builtin; refine wpList_append_own_none rfl _ _ 25 rfl w1.heap.size 9 i0 1 Tryd.underlying25 hi _ 0 [] rfl hoN rfl ?_)
        have SV3 := SI.out.below (hb1.trans (hb3.mono b1s)) (Nat.le_refl _)
        clear S1
        try go_wp2_with fail
        refine (UF _ _ S3).mono ?_
        rintro e w4 ⟨rfl, b4⟩
        have hb4 := (hb1.trans (hb3.mono b1s)).trans (b4.mono (by have := hb3.size; omega))
        have S4 := (S3.below b4 (Nat.le_refl _)).alloc (.cells #[.string KB, .string VB] 23)
        have T4 := (SV3.below b4 (Nat.le_refl _)).alloc (.cells #[.string KB, .string VB] 23)
        have hb4a := hb4.alloc hb4.size (.cells #[.string KB, .string VB] 23)
        have N4 := Cells.new w4 23 #[.string KB, .string VB]
        have SH := Lib.hid S4
        have TH := Lib.hid T4
        have NH := Lib.hid N4
        clear S3 SV3 b4 S4 T4 N4 UF
        go_wp2_with fail
        refine (RU _ _ TH.out).mono ?_
        rintro e w5 ⟨rfl, b5⟩
        have hb5 := hb4a.trans (b5.mono hb4a.size)
        have hs5 := b5.size
        simp only [World.size_alloc] at hs5
        have S5 := Lib.hid ((SH.out.below b5 (Nat.le_refl _)).alloc (.cells #[.string KB, .string VB] 23))
        have T5 := Lib.hid ((TH.out.below b5 (Nat.le_refl _)).alloc (.cells #[.string KB, .string VB] 23))
        have N5 := (cells_kept NH.out b5 (by simp)).alloc (.cells #[.string KB, .string VB] 23)
        have hb5a := hb5.alloc hb5.size (.cells #[.string KB, .string VB] 23)
        have d0 := N5.cell 0
        have d1 := N5.cell 1
        simp only [List.getElem?_toArray, List.getElem?_cons_zero, List.getElem?_cons_succ] at d0 d1
        clear SH TH NH b5 N5 RU
        go_wp2_with (first | (go_at_call 11; refine (NM _).mono ?_; rintro e w6 ⟨rfl, rfl⟩))
        refine (PL _ _ S5.out).mono ?_
        rintro e w7 ⟨rfl, b7⟩
        have S7 := S5.out.below b7 (Nat.le_refl _)
        have T7 := T5.out.below b7 (Nat.le_refl _)
        have hb7 := hb5a.trans (b7.mono hb5a.size)
        clear S5 T5 b7 d0 d1
        go_wp2_with fail
        refine (RP _ _ T7).mono ?_
        rintro e w8 ⟨rfl, b8⟩
        have S8 := S7.below b8 (Nat.le_refl _)
        have T8 := T7.below b8 (Nat.le_refl _)
        have hb8 := hb7.trans (b8.mono hb7.size)
        clear S7 T7 b8
        go_wp2_with fail
        refine (TX _ _ _ S8 T8).mono ?_
        rintro e w9 ⟨rfl, b9⟩
        go_wp2_with fail
        go_ret
        exact ⟨by simp, hb8.trans (b9.mono hb8.size)⟩
      | some ad =>
        have HC : Hid (∀ (j : Nat) u, ((ls.map B).map Value.string)[j]? = some u → (w1.alloc (.cells #[] 9)).cell? (ad.add j) = some u) := by
          show ∀ _, _
          intro j u hu
          rw [List.getElem?_map, List.getElem?_map] at hu
          cases hx : ls[j]? with
          | none => rw [hx] at hu; cases hu
          | some x =>
            rw [hx] at hu
            obtain ⟨b, off, e, hbb, hcell⟩ := hcb.out j x hx
            cases e
            rw [WideShapes.add_plain, World.cell?_alloc_old _ _ _ (Nat.ne_of_lt (show b < w1.heap.size by omega)), (hb1.cell (p := ⟨b, off + j, none⟩) hbb).trans hcell]
            exact hu
        go_wp2_with (at_builtin; refine wpList_append_own _ rfl _ _ 25 rfl w1.heap.size 9 i0 _ 1 16 Tryd.underlying25 hi hz0 hz1 hz2 rfl (by decide) _ 0 [] rfl hoN ad ls.length cap ((ls.map B).map Value.string) rfl (by simp) HC.out ?c2 ?c3 ?c4 ?c5 ?_)
        case c2 => intro u hu; simp at hu; obtain ⟨x, _, rfl⟩ := hu; rfl
        case c3 => unfold maxLen; omega
        case c4 => omega
        case c5 => simp
        intro v' w3 hown' hgrow _
        have hb3 : Below w1.heap.size w1 w3 := ((Below.refl w1.heap.size w1).alloc (Nat.le_refl _) _).grown hgrow (by simp) (fun j ej => (World.ownsRow.lt hoN j ej).1)
        have S3 : Strs w3 v' (ls.map B) := OwnS.strs (base := w1.heap.size) (by unfold OwnS; rw [List.length_map]; simpa using hown')
        have SV3 := SI.out.below (hb1.trans (hb3.mono b1s)) (Nat.le_refl _)
        clear S1
        try go_wp2_with fail
        refine (UF _ _ S3).mono ?_
        rintro e w4 ⟨rfl, b4⟩
        have hb4 := (hb1.trans (hb3.mono b1s)).trans (b4.mono (by have := hb3.size; omega))
        have S4 := (S3.below b4 (Nat.le_refl _)).alloc (.cells #[.string KB, .string VB] 23)
        have T4 := (SV3.below b4 (Nat.le_refl _)).alloc (.cells #[.string KB, .string VB] 23)
        have hb4a := hb4.alloc hb4.size (.cells #[.string KB, .string VB] 23)
        have N4 := Cells.new w4 23 #[.string KB, .string VB]
        have SH := Lib.hid S4
        have TH := Lib.hid T4
        have NH := Lib.hid N4
        clear S3 SV3 b4 S4 T4 N4 UF
        go_wp2_with fail
        refine (RU _ _ TH.out).mono ?_
        rintro e w5 ⟨rfl, b5⟩
        have hb5 := hb4a.trans (b5.mono hb4a.size)
        have hs5 := b5.size
        simp only [World.size_alloc] at hs5
        have S5 := Lib.hid ((SH.out.below b5 (Nat.le_refl _)).alloc (.cells #[.string KB, .string VB] 23))
        have T5 := Lib.hid ((TH.out.below b5 (Nat.le_refl _)).alloc (.cells #[.string KB, .string VB] 23))
        have N5 := (cells_kept NH.out b5 (by simp)).alloc (.cells #[.string KB, .string VB] 23)
        have hb5a := hb5.alloc hb5.size (.cells #[.string KB, .string VB] 23)
        have d0 := N5.cell 0
        have d1 := N5.cell 1
        simp only [List.getElem?_toArray, List.getElem?_cons_zero, List.getElem?_cons_succ] at d0 d1
        clear SH TH NH b5 N5 RU
        go_wp2_with (first | (go_at_call 11; refine (NM _).mono ?_; rintro e w6 ⟨rfl, rfl⟩))
        refine (PL _ _ S5.out).mono ?_
        rintro e w7 ⟨rfl, b7⟩
        have S7 := S5.out.below b7 (Nat.le_refl _)
        have T7 := T5.out.below b7 (Nat.le_refl _)
        have hb7 := hb5a.trans (b7.mono hb5a.size)
        clear S5 T5 b7 d0 d1
        go_wp2_with fail
        refine (RP _ _ T7).mono ?_
        rintro e w8 ⟨rfl, b8⟩
        have S8 := S7.below b8 (Nat.le_refl _)
        have T8 := T7.below b8 (Nat.le_refl _)
        have hb8 := hb7.trans (b8.mono hb7.size)
        clear S7 T7 b8
        go_wp2_with fail
        refine (TX _ _ _ S8 T8).mono ?_
        rintro e w9 ⟨rfl, b9⟩
        go_wp2_with fail
        go_ret
        exact ⟨by simp, hb8.trans (b9.mono hb8.size)⟩
theorem nil_in {P : Program} {H : Type} {enc : TypeId × Value → H} {W : World} {base : Nat} {held : Bool} {t e : TypeId} {v : Value} {d : DataW H} {p : List MemPlace}
    (ht : P.underlying t = some (.slice e)) (h : DataW.Trod enc P W base (fun _ => true) held t v d p) : ∀ n c, v = .slice none n c → c = 0 := by
  rintro n c rfl
  obtain ⟨fuel, hf⟩ := h
  rcases DataW.trod_slice ht hf with ⟨e, _⟩ | ⟨a, len, cap, elems, rest, n, _, e, _⟩
  · simp [Value.cells] at e; exact e.2
  · simp [Value.cells] at e
end Go.Proofs.YtcakphfjeplnnaaDoor
