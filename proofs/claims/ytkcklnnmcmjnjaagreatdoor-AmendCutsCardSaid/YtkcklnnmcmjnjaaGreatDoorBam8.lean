/- Texts put together: PG. -/
import Derived.Test.YtkcklnnmcmjnjaaGreatDoorBam7
set_option linter.unusedVariables false
namespace Go.Proofs.YtkcklnnmcmjnjaaGreatDoor
open Go.RowKit Go.Shelf
attribute [local go_sem] errV_0 errV_2

/-- What a line comes to. -/
def Taken (w : World) (T : Nat → Nat) (R b : Nat) (text : ByteArray) (p : PS) (x : Ln) (e : Ending) (w' : World) : Prop :=
  match takeP text.data.toList p x with
  | .error (a, n) => ∃ v, e = .returned v ∧ FaultAt w.heap.size w' v a n ∧ Only (fun r => T r ≠ 0) w w'
  | .ok q => e = .returned .nilIface ∧ ∃ T', ParserAt w' T' R b text q ∧ PStep w T w' T'
theorem Taken.no {w : World} {T : Nat → Nat} {R b : Nat} {text : ByteArray} {p : PS} {x : Ln} {v : Value} {w' : World} {a n : Nat} (h : takeP text.data.toList p x = .error (a, n)) (h1 : FaultAt w.heap.size w' v a n) (h2 : Only (fun r => T r ≠ 0) w w') : Taken w T R b text p x (.returned v) w' := by
  unfold Taken; rw [h]; exact ⟨v, rfl, h1, h2⟩
theorem Taken.yes {w : World} {T T' : Nat → Nat} {R b : Nat} {text : ByteArray} {p q : PS} {x : Ln} {w' : World} (h : takeP text.data.toList p x = .ok q) (h1 : ParserAt w' T' R b text q) (h2 : PStep w T w' T') : Taken w T R b text p x (.returned .nilIface) w' := by
  unfold Taken; rw [h]; exact ⟨rfl, T', h1, h2⟩
theorem low_of {w : World} {T : Nat → Nat} {R b : Nat} {text : ByteArray} {p : PS} (h : ParserAt w T R b text p) : T w.heap.size = 0 := by
  obtain ⟨V, h⟩ := h
  rcases Nat.decEq (T w.heap.size) 0 with e | e
  · have := (h.low _ e).2; omega
  · exact e
theorem ParserAt.lt {w : World} {T : Nat → Nat} {R b : Nat} {text : ByteArray} {p : PS} (h : ParserAt w T R b text p) : b < w.heap.size := by obtain ⟨V, h⟩ := h; exact h.lt
theorem endField_any2 {w w1 : World} {T T1 : Nat → Nat} {R b : Nat} {text : ByteArray} {p q : PS} (h : ParserAt w1 T1 R b text q) (hs : PStep w T w1 T1) (hR : R ≤ w.heap.size) (hsum : (q.said.map List.length).sum + q.said.length ≤ 90000) (hf : q.fields.length ≤ 1000000) :
    Calls Tryz.prog 120 #[.pointer (some ⟨b, 0, none⟩)] w1 fun e w' =>
      if endFieldN q = 0 then e = .returned .nilIface ∧ ∃ T', ParserAt w' T' R b text (endFieldP q) ∧ PStep w T w' T' ∧ PStep w1 T1 w' T'
      else ∃ v, e = .returned v ∧ FaultAt w.heap.size w' v q.begin_ (endFieldN q) ∧ Only (fun r => T r ≠ 0) w w' ∧ v ≠ .nilIface ∧ ∃ a, v = .iface 86 (.pointer a) := by
  have hz := hs.only.size
  refine (endField_any h (Nat.le_trans hR hz) hsum hf).mono fun e w' g => ?_
  unfold EndField at g
  split
  · rename_i h0
    rw [if_pos h0] at g
    obtain ⟨g1, T', g2, g3⟩ := g
    exact ⟨g1, T', g2, hs.trans g3, g3⟩
  · rename_i h0
    rw [if_neg h0] at g
    obtain ⟨v, g1, g2, g3⟩ := g
    refine ⟨v, g1, g2.mono hz, hs.only.below g3 hz, ?_, ?_⟩
    · obtain ⟨q, _, e, _⟩ := g2; rw [e]; intro h; cases h
    · obtain ⟨q, _, e, _⟩ := g2; exact ⟨_, e⟩

set_option maxRecDepth 100000 in
set_option maxHeartbeats 4000000 in
theorem take_on {w : World} {T : Nat → Nat} {R b : Nat} {text : ByteArray} {p : PS} (h : ParserAt w T R b text p) (hR : R ≤ w.heap.size) (x : Ln) (hi : Inv p x.at_) (hx : x.at_ + x.text.length + 1 ≤ 70000) (hno : x.no ≤ x.at_) (hg : goesP p x = true) :
    Calls Tryz.prog 119 #[.pointer (some ⟨b, 0, none⟩), .agg #[.int .i64 x.no, .int .i64 x.at_, .string (B x.text), .bool x.ended]] w fun e w' => Taken w T R b text p x e w' := by
  have hk : kindL x.text = 3 := by unfold goesP at hg; simp at hg; exact hg.1
  have hu : (!p.said.isEmpty) = true := by unfold goesP at hg; simp at hg; simp [hg.2]
  have K : ∀ w, Calls Tryz.prog 157 #[.string (B x.text)] w fun e w' => e = .returned (.int .i64 3) ∧ Below w.heap.size w w' := fun w => by
    have := kind_any (B x.text) (by rw [B_size]; unfold maxLen; omega) w
    rw [B_data, hk] at this
    exact this
  have hl := h.lt
  have hb0 := PStep.below (T := T) ((Below.refl w.heap.size w).alloc (Nat.le_refl _) (.cells #[.int .i64 x.no, .int .i64 x.at_, .string (B x.text), .bool x.ended] 146))
  have c0 := Cells.new w 146 #[.int .i64 x.no, .int .i64 x.at_, .string (B x.text), .bool x.ended]
  have l0 := low_of h
  have hw : wentP p x = goOnP p x := by unfold wentP; rw [if_pos hg]; rfl
  have hwr : wrongP p x = !x.ended := by unfold wrongP; rw [hk, hg]; simp
  have hen : endsP p x = !x.ended := by unfold endsP; rw [hwr, hg]; simp
  have hb := hi.said
  have hsum : ((goOnP p x).said.map List.length).sum + (goOnP p x).said.length ≤ 90000 := by simp [goOnP]; omega
  have hff : (goOnP p x).fields.length ≤ 1000000 := by have := hi.fields; show p.fields.length ≤ _; omega
  have hn : p.said.length ≤ 1000000 := by omega
  have GO := Lib.hid (fun w1 (T1 : Nat → Nat) V1 (g : ParserV w1 T1 R b text p V1) hR1 => goOn_any g hR1 x hn)
  have EF := Lib.hid (fun w1 T1 (g : ParserAt w1 T1 R b text (goOnP p x)) (s : PStep w T w1 T1) => endField_any2 (p := p) g s hR hsum hff)
  have H := Lib.hid h
  have C0 := Lib.hid c0
  have HB0 := Lib.hid hb0
  cases hend : x.ended with
  | true =>
    rw [hend] at hwr hen
    simp only [Bool.not_true] at hwr hen
    have FIN := Lib.hid (fun T' w' h1 h2 => Taken.yes (w := w) (T := T) (T' := T') (R := R) (b := b) (text := text) (p := p) (q := goOnP p x) (x := x) (w' := w') (by unfold takeP; rw [hen, hwr]; simp [thenP, hen, putP, hk, hw]) h1 h2)
    rw [hend] at GO C0 HB0
    clear h c0 hb0 hi EF hsum hff hb
    go_enter Tryz.func119, Tryz.ntmps119
    go_wp2_with fail
    refine (K _).mono ?_
    rintro e w1 ⟨rfl, b1⟩
    have s1 := HB0.out.trans (PStep.below b1)
    have P1 : ParserAt w1 T R b text p := (H.out.below ((Below.refl _ _).alloc (Nat.le_refl _) _)).below b1
    have l1 := P1.lt
    obtain ⟨V1, P1⟩ := P1
    have C1 := cells_kept C0.out b1 (by simp)
    have hz1 := s1.only.size
    have hz1' : R ≤ w1.drew.heap.size := Nat.le_trans hR hz1
    clear b1 H C0 HB0
    go_wp2_with fail
    refine (under_any P1).mono ?_
    rw [hu]
    rintro e w2 ⟨rfl, rfl⟩
    have d0 : w1.cell? ⟨w.heap.size, 0, none⟩ = some (.int .i64 x.no) := C1.cell 0
    have d1 : w1.cell? ⟨w.heap.size, 1, none⟩ = some (.int .i64 x.at_) := C1.cell 1
    have d2 : w1.cell? ⟨w.heap.size, 2, none⟩ = some (.string (B x.text)) := C1.cell 2
    have d3 : w1.cell? ⟨w.heap.size, 3, none⟩ = some (.bool true) := C1.cell 3
    have lz := C1.lt
    have P1d : Hid (ParserV w1.drew T R b text p V1) := P1.same (fun _ _ => rfl) (Nat.le_refl _)
    have C1d : Hid (Cells w1.drew w.heap.size 146 _) := C1
    have S1 : Hid (PStep w T w1.drew T) := s1.drewN 1
    clear P1 C1 s1
    go_wp2
    go_region_with (go_at_call 159; refine (GO.out _ T V1 P1d.out hz1').mono ?_; rintro e w2 ⟨rfl, T2, g2, s2⟩; have C2 := C1d.out.only s2.only (fun e => e l0); have d3 : w2.cell? ⟨w.heap.size, 3, none⟩ = some (.bool true) := C2.cell 3)
    all_goals
      go_wp2
      go_ret
      exact FIN.out T2 _ g2 (S1.out.trans s2)
  | false =>
    rw [hend] at hwr hen
    simp only [Bool.not_false] at hwr hen
    rw [hend] at GO C0 HB0
    by_cases h0 : endFieldN (goOnP p x) = 0
    · have FIN := Lib.hid (fun v w' h1 h2 => Taken.no (w := w) (T := T) (R := R) (b := b) (text := text) (p := p) (x := x) (v := v) (w' := w') (a := x.no) (n := 2) (by unfold takeP; rw [hen, hwr, hw, h0]; simp) h1 h2)
      clear h c0 hb0 hi hsum hff hb
      go_enter Tryz.func119, Tryz.ntmps119
      go_wp2_with fail
      refine (K _).mono ?_
      rintro e w1 ⟨rfl, b1⟩
      have s1 := HB0.out.trans (PStep.below b1)
      have P1 : ParserAt w1 T R b text p := (H.out.below ((Below.refl _ _).alloc (Nat.le_refl _) _)).below b1
      have l1 := P1.lt
      obtain ⟨V1, P1⟩ := P1
      have C1 := cells_kept C0.out b1 (by simp)
      have hz1 := s1.only.size
      have hz1' : R ≤ w1.drew.heap.size := Nat.le_trans hR hz1
      clear b1 H C0 HB0
      go_wp2_with fail
      refine (under_any P1).mono ?_
      rw [hu]
      rintro e w2 ⟨rfl, rfl⟩
      have d0 : w1.cell? ⟨w.heap.size, 0, none⟩ = some (.int .i64 x.no) := C1.cell 0
      have d1 : w1.cell? ⟨w.heap.size, 1, none⟩ = some (.int .i64 x.at_) := C1.cell 1
      have d2 : w1.cell? ⟨w.heap.size, 2, none⟩ = some (.string (B x.text)) := C1.cell 2
      have d3 : w1.cell? ⟨w.heap.size, 3, none⟩ = some (.bool false) := C1.cell 3
      have lz := C1.lt
      have P1d : Hid (ParserV w1.drew T R b text p V1) := P1.same (fun _ _ => rfl) (Nat.le_refl _)
      have C1d : Hid (Cells w1.drew w.heap.size 146 _) := C1
      have S1 : Hid (PStep w T w1.drew T) := s1.drewN 1
      clear P1 C1 s1
      go_wp2
      go_region_with (go_at_call 159; refine (GO.out _ T V1 P1d.out hz1').mono ?_; rintro e w2 ⟨rfl, T2, g2, s2⟩; have C2 := C1d.out.only s2.only (fun e => e l0); have d3 : w2.cell? ⟨w.heap.size, 3, none⟩ = some (.bool false) := C2.cell 3)
      all_goals
        go_wp2_with fail
        refine (EF.out _ T2 g2 (S1.out.trans s2)).mono ?_
        rintro e w3 hE
        rw [if_pos h0] at hE
        obtain ⟨rfl, T3, g3, s3, s23⟩ := hE
        have C3 := C2.only s23.only (fun e => e ((s2.old _ lz).2 l0))
        have d0' : w3.cell? ⟨w.heap.size, 0, none⟩ = some (.int .i64 x.no) := C3.cell 0
        have lz3 := C3.lt
        go_wp2
        go_ret
        exact FIN.out _ _ (FaultAt.new _ _ 2 _ w3.heap.size rfl (by omega)) (s3.only.alloc _)
    · have FIN := Lib.hid (fun v w' h1 h2 => Taken.no (w := w) (T := T) (R := R) (b := b) (text := text) (p := p) (x := x) (v := v) (w' := w') (a := (goOnP p x).begin_) (n := endFieldN (goOnP p x)) (by unfold takeP; rw [hen, hw, if_pos ⟨rfl, h0⟩]) h1 h2)
      clear h c0 hb0 hi hsum hff hb
      go_enter Tryz.func119, Tryz.ntmps119
      go_wp2_with fail
      refine (K _).mono ?_
      rintro e w1 ⟨rfl, b1⟩
      have s1 := HB0.out.trans (PStep.below b1)
      have P1 : ParserAt w1 T R b text p := (H.out.below ((Below.refl _ _).alloc (Nat.le_refl _) _)).below b1
      have l1 := P1.lt
      obtain ⟨V1, P1⟩ := P1
      have C1 := cells_kept C0.out b1 (by simp)
      have hz1 := s1.only.size
      have hz1' : R ≤ w1.drew.heap.size := Nat.le_trans hR hz1
      clear b1 H C0 HB0
      go_wp2_with fail
      refine (under_any P1).mono ?_
      rw [hu]
      rintro e w2 ⟨rfl, rfl⟩
      have d0 : w1.cell? ⟨w.heap.size, 0, none⟩ = some (.int .i64 x.no) := C1.cell 0
      have d1 : w1.cell? ⟨w.heap.size, 1, none⟩ = some (.int .i64 x.at_) := C1.cell 1
      have d2 : w1.cell? ⟨w.heap.size, 2, none⟩ = some (.string (B x.text)) := C1.cell 2
      have d3 : w1.cell? ⟨w.heap.size, 3, none⟩ = some (.bool false) := C1.cell 3
      have lz := C1.lt
      have P1d : Hid (ParserV w1.drew T R b text p V1) := P1.same (fun _ _ => rfl) (Nat.le_refl _)
      have C1d : Hid (Cells w1.drew w.heap.size 146 _) := C1
      have S1 : Hid (PStep w T w1.drew T) := s1.drewN 1
      clear P1 C1 s1
      go_wp2
      go_region_with (go_at_call 159; refine (GO.out _ T V1 P1d.out hz1').mono ?_; rintro e w2 ⟨rfl, T2, g2, s2⟩; have C2 := C1d.out.only s2.only (fun e => e l0); have d3 : w2.cell? ⟨w.heap.size, 3, none⟩ = some (.bool false) := C2.cell 3)
      all_goals
        go_wp2_with fail
        refine (EF.out _ T2 g2 (S1.out.trans s2)).mono ?_
        rintro e w3 hE
        rw [if_neg h0] at hE
        obtain ⟨v, rfl, f3, o3, _, a3, rfl⟩ := hE
        go_wp2
        go_ret
        exact FIN.out _ _ f3 o3
end Go.Proofs.YtkcklnnmcmjnjaaGreatDoor

