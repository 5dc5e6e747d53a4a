/- The law FoldFolds. -/
import Derived.Test.YtcakphfjeplnnaaDoorFX
namespace Go.Proofs.YtcakphfjeplnnaaDoor
open Go.RowKit Go.Shelf

attribute [local go_sem] errV_0
theorem checkN_le (k v : List UInt8) : checkN k v ≤ 6 := by
  unfold checkN; split
  · split <;> decide
  · decide
set_option maxRecDepth 100000 in
set_option maxHeartbeats 4000000 in
theorem foldsLaw (k v : List UInt8) (w : World) :
    Calls Tryd.prog 3 #[fieldV k v] w fun e w' => e = .returned (.bool true) ∧ Below w.heap.size w w' := by
  have yv := B_size v
  have yk := B_size k
  have hcn := checkN_le k v
  unfold fieldV
  go_enter Tryd.func3, Tryd.ntmps3
  go_wp2_with fail
  refine (alive_any _).mono ?_
  rintro e w1 ⟨rfl, b1⟩
  have R1 := cells_kept (Cells.new w 23 #[.string (B k), .string (B v)]) b1 (by simp)
  have hb1 : Below w.heap.size w w1 := ((Below.refl _ _).alloc (Nat.le_refl _) _).trans (b1.mono (by simp))
  have hs1 := b1.size
  simp only [World.size_alloc] at hs1
  clear b1
  have d0 := R1.cell 0
  have d1 := R1.cell 1
  simp only [List.getElem?_toArray, List.getElem?_cons_zero, List.getElem?_cons_succ] at d0 d1
  by_cases h1 : 1000 < k.length
  · go_wp2_with fail
    go_ret
    exact ⟨rfl, hb1⟩
  by_cases h2 : 5000 < v.length
  · go_wp2_with fail
    go_ret
    exact ⟨rfl, hb1⟩
  by_cases h0 : checkN k v = 0
  · have LO := fun w => lines_good k v (by omega) (by omega) w h0
    have RC := fun w => refCheck_any k v (by omega) (by omega) w
    have CK := fun w => check_any k v (by omega) (by omega) w
    obtain ⟨g1, g2⟩ := checkN_zero h0
    obtain ⟨u1, u2, u3⟩ := lines_unfold g1 g2
    have hP := lines_plain g1 g2
    have hls := lines_sum k v
    have hll : ∀ l ∈ linesL k v, l.length ≤ 100000 := fun l hl => by have := le_sum _ l hl; omega
    have hsv : (saidV (linesL k v)).length ≤ 1000000 := by rw [lines_said g1]; omega
    have UF := fun w' sv (h : Strs w' sv ((linesL k v).map B)) => unfold_any (linesL k v) sv w' h hll (by omega) hsv
    have PL := fun w' sv (h : Strs w' sv ((linesL k v).map B)) => plain_any (linesL k v) sv w' h hll (by omega) hsv
    have RL := fun w' => refLines_any k v (by omega) (by omega) w'
    have TX := fun w' sv sv' (h : Strs w' sv ((linesL k v).map B)) (h' : Strs w' sv' ((linesL k v).map B)) => texts_any sv sv' _ _ w' h h' (by rw [List.length_map]; omega) (by rw [List.length_map]; omega)
    rw [u1, u2, u3] at UF
    rw [hP] at PL
    rw [h0] at RC CK
    have NM := fun w => num_any 0 (by decide) w
    rw [errV_0] at CK NM UF
    unfold fieldV at LO RC CK UF RL
    clear hP u1 u2 u3 hll hsv g1 g2 hls h0 hcn
    generalize (linesL k v).map B = ls at *
    simp only [decide_true] at TX
    generalize B k = K at *
    generalize B v = V at *
    go_wp2_with fail
    refine (LO _).mono ?_
    rintro e w2 ⟨sv, rfl, S2, b2⟩
    have R2 := cells_kept R1 b2 (by omega)
    have hb2 := hb1.trans (b2.mono hb1.size)
    have hs2 := b2.size
    clear b2 R1 hb1 d0 d1 LO
    have d0 := R2.cell 0
    have d1 := R2.cell 1
    simp only [List.getElem?_toArray, List.getElem?_cons_zero, List.getElem?_cons_succ] at d0 d1
    go_wp2_with fail
    refine (RC _).mono ?_
    rintro e w3 ⟨rfl, b3⟩
    have R3 := cells_kept R2 b3 (by omega)
    have hb3 := hb2.trans (b3.mono hb2.size)
    have S3 := S2.below b3 (Nat.le_refl _)
    have hs3 := b3.size
    clear b3 R2 hb2 d0 d1 S2 RC
    have d0 := R3.cell 0
    have d1 := R3.cell 1
    simp only [List.getElem?_toArray, List.getElem?_cons_zero, List.getElem?_cons_succ] at d0 d1
    go_wp2_with fail
    refine (CK _).mono ?_
    rintro e w4 ⟨rfl, b4⟩
    have R4 := cells_kept R3 b4 (by omega)
    have hb4 := hb3.trans (b4.mono hb3.size)
    have S4 := S3.below b4 (Nat.le_refl _)
    have hs4 := b4.size
    clear b4 R3 hb3 d0 d1 S3 CK
    go_wp2_with (first | (go_at_call 11; refine (NM _).mono ?_; rintro e w5 ⟨rfl, rfl⟩))
    refine (UF _ _ S4).mono ?_
    rintro e w5 ⟨rfl, b5⟩
    have R5 := (cells_kept R4 b5 (by omega)).alloc (.cells #[.string K, .string V] 23)
    have hb5 := hb4.trans (b5.mono hb4.size)
    have S5 := (S4.below b5 (Nat.le_refl _)).alloc (.cells #[.string K, .string V] 23)
    have hs5 := b5.size
    have hb6 := hb5.alloc hb5.size (.cells #[.string K, .string V] 23)
    clear b5 R4 hb4 S4 UF
    have d0 := R5.cell 0
    have d1 := R5.cell 1
    simp only [List.getElem?_toArray, List.getElem?_cons_zero, List.getElem?_cons_succ] at d0 d1
    have SH := Lib.hid S5
    have RH := Lib.hid R5
    clear S5 R5
    go_wp2_with fail
    refine (RL _).mono ?_
    rintro e w7 ⟨sv', base, rfl, hown, b7⟩
    have hb7 := hb6.trans (b7.mono hb6.size)
    have S7 := SH.out.below b7 (Nat.le_refl _)
    clear SH RH b7 d0 d1
    go_wp2_with fail
    refine (TX _ _ _ S7 hown.strs).mono ?_
    rintro e w8 ⟨rfl, b8⟩
    have hb8 := hb7.trans (b8.mono hb7.size)
    have S8 := S7.below b8 (Nat.le_refl _)
    go_wp2_with fail
    refine (PL _ _ S8).mono ?_
    rintro e w9 ⟨rfl, b9⟩
    go_wp2_with fail
    go_ret
    exact ⟨rfl, hb8.trans (b9.mono hb8.size)⟩
  · have LB := fun w => lines_bad k v (by omega) (by omega) w h0
    have RC := fun w => refCheck_any k v (by omega) (by omega) w
    have CK := fun w => check_any k v (by omega) (by omega) w
    have NM := fun w => num_any (checkN k v) (by omega) w
    unfold fieldV at *
    have hki : ((checkN k v : Int) != 0) = true := by simp; omega
    generalize errV (checkN k v) = ev at *
    generalize checkN k v = n at *
    generalize B k = K at *
    generalize B v = V at *
    clear h0 hcn
    go_wp2_with fail
    refine (LB _).mono ?_
    rintro e w2 ⟨rfl, b2⟩
    have R2 := cells_kept R1 b2 (by omega)
    have hb2 := hb1.trans (b2.mono hb1.size)
    have hs2 := b2.size
    clear b2 R1 hb1 d0 d1 LB
    have d0 := R2.cell 0
    have d1 := R2.cell 1
    simp only [List.getElem?_toArray, List.getElem?_cons_zero, List.getElem?_cons_succ] at d0 d1
    go_wp2_with fail
    refine (RC _).mono ?_
    rintro e w3 ⟨rfl, b3⟩
    have R3 := cells_kept R2 b3 (by omega)
    have hb3 := hb2.trans (b3.mono hb2.size)
    have hs3 := b3.size
    clear b3 R2 hb2 d0 d1 RC
    have d0 := R3.cell 0
    have d1 := R3.cell 1
    simp only [List.getElem?_toArray, List.getElem?_cons_zero, List.getElem?_cons_succ] at d0 d1
    go_wp2_with fail
    refine (CK _).mono ?_
    rintro e w4 ⟨rfl, b4⟩
    have hb4 := hb3.trans (b4.mono hb3.size)
    clear b4 R3 hb3 d0 d1 CK
    go_wp2_with (first | (go_at_call 11; refine (NM _).mono ?_; rintro e w5 ⟨rfl, rfl⟩))
    go_ret
    exact ⟨rfl, hb4⟩
set_option maxRecDepth 100000 in
theorem foldsCall {H : Type} {enc : TypeId × Value → H} (v : Value) (d : DataW H) (p : List MemPlace) (W : World) {b0 : Nat} (hval : Value.okWide Tryd.prog W .any b0 23 v) {base : Nat} {sp : Nat → Bool} {held : Bool} (h : DataW.Trod enc Tryd.prog W base sp held 23 v d p) :
    Calls Tryd.prog 3 #[v] W fun e w' => e = .returned (.bool true) ∧ Below W.heap.size W w' := by
  obtain ⟨k, x, rfl⟩ := field_of v d p W hval h
  exact foldsLaw k x W
end Go.Proofs.YtcakphfjeplnnaaDoor
