/- Texts put together: PH, RH. -/
import Derived.Test.YtkcklnnmcmjnjaaGreatDoorBam5
import Derived.Test.YtkcklnnmcmjnjaaGreatDoorBam8
set_option linter.unusedVariables false
namespace Go.Proofs.YtkcklnnmcmjnjaaGreatDoor
open Go.RowKit Go.Shelf
attribute [local go_sem] errV_0 errV_2

set_option maxRecDepth 100000 in
set_option maxHeartbeats 4000000 in
theorem take_off1 {w : World} {T : Nat → Nat} {R b : Nat} {text : ByteArray} {p : PS} (h : ParserAt w T R b text p) (hR : R ≤ w.heap.size) (x : Ln) (hi : Inv p x.at_) (hx : x.at_ + x.bytes.length ≤ text.size) (ht : text.size ≤ 70000) (hno : x.no ≤ x.at_) (hg : goesP p x = false) (hk : kindL x.text = 1) :
    Calls Tryz.prog 119 #[.pointer (some ⟨b, 0, none⟩), .agg #[.int .i64 x.no, .int .i64 x.at_, .string (B x.text), .bool x.ended]] w fun e w' => Taken w T R b text p x e w' := by
  have hbl : x.text.length ≤ x.bytes.length := by unfold Ln.bytes; simp
  have K : ∀ w, Calls Tryz.prog 157 #[.string (B x.text)] w fun e w' => e = .returned (.int .i64 1) ∧ Below w.heap.size w w' := fun w => by
    have := kind_any (B x.text) (by rw [B_size]; unfold maxLen; omega) w
    rw [B_data, hk] at this
    exact this
  have hu : kindL x.text = 3 → (!p.said.isEmpty) = false := by
    intro h3; unfold goesP at hg; rw [h3] at hg; simpa using hg
  have hl := h.lt
  have l0 := low_of h
  have H := Lib.hid h
  have C0 := Lib.hid (Cells.new w 146 #[.int .i64 x.no, .int .i64 x.at_, .string (B x.text), .bool x.ended])
  have HB0 := Lib.hid (PStep.below (T := T) ((Below.refl w.heap.size w).alloc (Nat.le_refl _) (.cells #[.int .i64 x.no, .int .i64 x.at_, .string (B x.text), .bool x.ended] 146)))
  have hw : wentP p x = p := by unfold wentP; rw [hg]; rfl
  have hen : endsP p x = true := by unfold endsP; rw [hg]; simp
  have hth : thenP p x = endFieldP p := by unfold thenP; rw [hen, if_pos rfl, hw]
  have hb := hi.said
  have hff : p.fields.length ≤ 1000000 := by have := hi.fields; omega
  have EF := Lib.hid (fun w1 T1 (g : ParserAt w1 T1 R b text p) (s : PStep w T w1 T1) => endField_any2 (p := p) g s hR (by omega) hff)
  clear h
  by_cases h0 : endFieldN p = 0
  · have NO := Lib.hid (fun (hwr : wrongP p x = true) v w' h1 h2 => Taken.no (w := w) (T := T) (R := R) (b := b) (text := text) (p := p) (x := x) (v := v) (w' := w') (a := x.no) (n := 2) (by unfold takeP; rw [hen, hwr, hw, h0]; simp) h1 h2)
    have YES := Lib.hid (fun (hwr : wrongP p x = false) T' w' h1 h2 => Taken.yes (w := w) (T := T) (T' := T') (R := R) (b := b) (text := text) (p := p) (q := putP text.data.toList (endFieldP p) x) (x := x) (w' := w') (by unfold takeP; rw [hen, hwr, hw, h0, hth]; simp) h1 h2)
    cases hend : x.ended
    case false =>
      rw [hend] at C0 HB0
      have hwr : wrongP p x = true := by unfold wrongP; rw [hk, hg, hend]; rfl
      have FIN := Lib.hid (NO.out hwr)
      clear YES NO
      clear hi hb hff hx
      go_enter Tryz.func119, Tryz.ntmps119
      go_wp2_with fail
      refine (K _).mono ?_
      rintro e w1 ⟨rfl, b1⟩
      have s1 := HB0.out.trans (PStep.below b1)
      have P1 : ParserAt w1 T R b text p := (H.out.below ((Below.refl _ _).alloc (Nat.le_refl _) _)).below b1
      have l1 := P1.lt
      have C1 := cells_kept C0.out b1 (by simp)
      have hz1 := s1.only.size
      have d0 : w1.cell? ⟨w.heap.size, 0, none⟩ = some (.int .i64 x.no) := C1.cell 0
      have d1 : w1.cell? ⟨w.heap.size, 1, none⟩ = some (.int .i64 x.at_) := C1.cell 1
      have d2 : w1.cell? ⟨w.heap.size, 2, none⟩ = some (.string (B x.text)) := C1.cell 2
      have d3 : w1.cell? ⟨w.heap.size, 3, none⟩ = some (.bool false) := C1.cell 3
      have lz := C1.lt
      clear b1 H C0 HB0
      go_wp2_with fail
      refine (EF.out _ T P1 s1).mono ?_
      rintro e w3 hE
      rw [if_pos h0] at hE
      obtain ⟨rfl, T3, g3, s3, s13⟩ := hE
      have C3 := C1.only s13.only (fun e => e (l0))
      have d0' : w3.cell? ⟨w.heap.size, 0, none⟩ = some (.int .i64 x.no) := C3.cell 0
      have d1' : w3.cell? ⟨w.heap.size, 1, none⟩ = some (.int .i64 x.at_) := C3.cell 1
      have d2' : w3.cell? ⟨w.heap.size, 2, none⟩ = some (.string (B x.text)) := C3.cell 2
      have lz3 := C3.lt
      have l3 := g3.lt
      go_wp2
      go_ret
      exact FIN.out _ _ (FaultAt.new _ _ 2 _ w3.heap.size rfl (by omega)) (s3.only.alloc _)
    case true =>
      rw [hend] at C0 HB0
      have hwr : wrongP p x = false := by unfold wrongP; rw [hk, hg, hend]; rfl
      have FIN := Lib.hid (YES.out hwr)
      clear YES NO
      have hbe : x.bytes.length = x.text.length + 1 := by unfold Ln.bytes; rw [hend]; simp
      have eP : putP text.data.toList (endFieldP p) x = endItemP text.data.toList (endBlockP text.data.toList (endFieldP p) x.at_) 1 (x.at_ + x.text.length + 1) := by unfold putP; rw [hk]; rfl
      rw [eP] at FIN
      have hi2 := hi.endField
      have hi3 := hi2.endBlock text.data.toList x.at_ hi2.at_ (Nat.le_refl _)
      have a3 := endBlock_at text.data.toList (endFieldP p) x.at_ hi2.at_
      have n1 : IntKind.i64.wrap ((x.at_ : Int) + (x.text.length : Int)) = (x.at_ : Int) + (x.text.length : Int) := IntWalk.i64_in _ (by omega)
      have n2 : IntKind.i64.wrap ((x.at_ : Int) + (x.text.length : Int) + 1) = (x.at_ : Int) + (x.text.length : Int) + 1 := IntWalk.i64_in _ (by omega)
      have zB := B_size x.text
      have HB := Lib.hid (fun w3 T3 (g : ParserAt w3 T3 R b text (endFieldP p)) hR3 => endBlock_any g hR3 x.at_ hi2.at_ (by omega) (by omega) (by have := hi2.items; have := hi2.at_; omega) (by have := hi2.stanzas; have := hi2.at_; omega))
      have HI := Lib.hid (fun w3 T3 V3 (g : ParserV w3 T3 R b text (endBlockP text.data.toList (endFieldP p) x.at_) V3) hR3 => endItem_any g hR3 1 (x.at_ + x.text.length + 1) (by omega) (by omega) (by omega) (by have := hi3.items; omega))
      clear hi hb hff hi3 hi2 a3
      go_enter Tryz.func119, Tryz.ntmps119
      go_wp2_with fail
      refine (K _).mono ?_
      rintro e w1 ⟨rfl, b1⟩
      have s1 := HB0.out.trans (PStep.below b1)
      have P1 : ParserAt w1 T R b text p := (H.out.below ((Below.refl _ _).alloc (Nat.le_refl _) _)).below b1
      have l1 := P1.lt
      have C1 := cells_kept C0.out b1 (by simp)
      have hz1 := s1.only.size
      have d0 : w1.cell? ⟨w.heap.size, 0, none⟩ = some (.int .i64 x.no) := C1.cell 0
      have d1 : w1.cell? ⟨w.heap.size, 1, none⟩ = some (.int .i64 x.at_) := C1.cell 1
      have d2 : w1.cell? ⟨w.heap.size, 2, none⟩ = some (.string (B x.text)) := C1.cell 2
      have d3 : w1.cell? ⟨w.heap.size, 3, none⟩ = some (.bool true) := C1.cell 3
      have lz := C1.lt
      clear b1 H C0 HB0
      go_wp2_with fail
      refine (EF.out _ T P1 s1).mono ?_
      rintro e w3 hE
      rw [if_pos h0] at hE
      obtain ⟨rfl, T3, g3, s3, s13⟩ := hE
      have C3 := C1.only s13.only (fun e => e (l0))
      have d0' : w3.cell? ⟨w.heap.size, 0, none⟩ = some (.int .i64 x.no) := C3.cell 0
      have d1' : w3.cell? ⟨w.heap.size, 1, none⟩ = some (.int .i64 x.at_) := C3.cell 1
      have d2' : w3.cell? ⟨w.heap.size, 2, none⟩ = some (.string (B x.text)) := C3.cell 2
      have lz3 := C3.lt
      have l3 := g3.lt
      have hz3 : R ≤ w3.heap.size := Nat.le_trans hR s3.only.size
      go_wp2_with fail
      refine (HB.out _ T3 g3 hz3).mono ?_
      rintro e w4 ⟨rfl, T4, g4, s4⟩
      have C4 := C3.only s4.only (fun e => e ((s13.old _ lz).2 l0))
      have e1' : w4.cell? ⟨w.heap.size, 1, none⟩ = some (.int .i64 x.at_) := C4.cell 1
      have e2' : w4.cell? ⟨w.heap.size, 2, none⟩ = some (.string (B x.text)) := C4.cell 2
      have lz4 := C4.lt
      have hz4 : R ≤ w4.heap.size := Nat.le_trans hz3 s4.only.size
      have l4 := g4.lt
      obtain ⟨V4, g4⟩ := g4
      go_wp2_with fail
      rw [show Value.int .i64 ((x.at_ : Int) + (x.text.length : Int) + 1) = Value.int .i64 ((x.at_ + x.text.length + 1 : Nat) : Int) from rfl]
      refine (HI.out _ T4 V4 g4 hz4).mono ?_
      rintro e w5 ⟨rfl, T5, g5, s5⟩
      go_wp2
      go_ret
      exact FIN.out T5 _ g5 ((s3.trans s4).trans s5)
  · have FIN := Lib.hid (fun v w' h1 h2 => Taken.no (w := w) (T := T) (R := R) (b := b) (text := text) (p := p) (x := x) (v := v) (w' := w') (a := p.begin_) (n := endFieldN p) (by unfold takeP; rw [hen, hw, if_pos ⟨rfl, h0⟩]) h1 h2)
    clear hi hb hff hx
    cases hend : x.ended
    case false =>
      rw [hend] at C0 HB0
      go_enter Tryz.func119, Tryz.ntmps119
      go_wp2_with fail
      refine (K _).mono ?_
      rintro e w1 ⟨rfl, b1⟩
      have s1 := HB0.out.trans (PStep.below b1)
      have P1 : ParserAt w1 T R b text p := (H.out.below ((Below.refl _ _).alloc (Nat.le_refl _) _)).below b1
      have l1 := P1.lt
      have C1 := cells_kept C0.out b1 (by simp)
      have hz1 := s1.only.size
      have d0 : w1.cell? ⟨w.heap.size, 0, none⟩ = some (.int .i64 x.no) := C1.cell 0
      have d1 : w1.cell? ⟨w.heap.size, 1, none⟩ = some (.int .i64 x.at_) := C1.cell 1
      have d2 : w1.cell? ⟨w.heap.size, 2, none⟩ = some (.string (B x.text)) := C1.cell 2
      have d3 : w1.cell? ⟨w.heap.size, 3, none⟩ = some (.bool false) := C1.cell 3
      have lz := C1.lt
      clear b1 H C0 HB0
      go_wp2_with fail
      refine (EF.out _ T P1 s1).mono ?_
      rintro e w3 hE
      rw [if_neg h0] at hE
      obtain ⟨v, rfl, f3, o3, _, a3, rfl⟩ := hE
      go_wp2
      go_ret
      exact FIN.out _ _ f3 o3
    case true =>
      rw [hend] at C0 HB0
      go_enter Tryz.func119, Tryz.ntmps119
      go_wp2_with fail
      refine (K _).mono ?_
      rintro e w1 ⟨rfl, b1⟩
      have s1 := HB0.out.trans (PStep.below b1)
      have P1 : ParserAt w1 T R b text p := (H.out.below ((Below.refl _ _).alloc (Nat.le_refl _) _)).below b1
      have l1 := P1.lt
      have C1 := cells_kept C0.out b1 (by simp)
      have hz1 := s1.only.size
      have d0 : w1.cell? ⟨w.heap.size, 0, none⟩ = some (.int .i64 x.no) := C1.cell 0
      have d1 : w1.cell? ⟨w.heap.size, 1, none⟩ = some (.int .i64 x.at_) := C1.cell 1
      have d2 : w1.cell? ⟨w.heap.size, 2, none⟩ = some (.string (B x.text)) := C1.cell 2
      have d3 : w1.cell? ⟨w.heap.size, 3, none⟩ = some (.bool true) := C1.cell 3
      have lz := C1.lt
      clear b1 H C0 HB0
      go_wp2_with fail
      refine (EF.out _ T P1 s1).mono ?_
      rintro e w3 hE
      rw [if_neg h0] at hE
      obtain ⟨v, rfl, f3, o3, _, a3, rfl⟩ := hE
      go_wp2
      go_ret
      exact FIN.out _ _ f3 o3
set_option maxRecDepth 100000 in
set_option maxHeartbeats 4000000 in
theorem take_off2 {w : World} {T : Nat → Nat} {R b : Nat} {text : ByteArray} {p : PS} (h : ParserAt w T R b text p) (hR : R ≤ w.heap.size) (x : Ln) (hi : Inv p x.at_) (hx : x.at_ + x.bytes.length ≤ text.size) (ht : text.size ≤ 70000) (hno : x.no ≤ x.at_) (hg : goesP p x = false) (hk : kindL x.text = 2) :
    Calls Tryz.prog 119 #[.pointer (some ⟨b, 0, none⟩), .agg #[.int .i64 x.no, .int .i64 x.at_, .string (B x.text), .bool x.ended]] w fun e w' => Taken w T R b text p x e w' := by
  have hbl : x.text.length ≤ x.bytes.length := by unfold Ln.bytes; simp
  have K : ∀ w, Calls Tryz.prog 157 #[.string (B x.text)] w fun e w' => e = .returned (.int .i64 2) ∧ Below w.heap.size w w' := fun w => by
    have := kind_any (B x.text) (by rw [B_size]; unfold maxLen; omega) w
    rw [B_data, hk] at this
    exact this
  have hu : kindL x.text = 3 → (!p.said.isEmpty) = false := by
    intro h3; unfold goesP at hg; rw [h3] at hg; simpa using hg
  have hl := h.lt
  have l0 := low_of h
  have H := Lib.hid h
  have C0 := Lib.hid (Cells.new w 146 #[.int .i64 x.no, .int .i64 x.at_, .string (B x.text), .bool x.ended])
  have HB0 := Lib.hid (PStep.below (T := T) ((Below.refl w.heap.size w).alloc (Nat.le_refl _) (.cells #[.int .i64 x.no, .int .i64 x.at_, .string (B x.text), .bool x.ended] 146)))
  have hw : wentP p x = p := by unfold wentP; rw [hg]; rfl
  have hen : endsP p x = true := by unfold endsP; rw [hg]; simp
  have hth : thenP p x = endFieldP p := by unfold thenP; rw [hen, if_pos rfl, hw]
  have hb := hi.said
  have hff : p.fields.length ≤ 1000000 := by have := hi.fields; omega
  have EF := Lib.hid (fun w1 T1 (g : ParserAt w1 T1 R b text p) (s : PStep w T w1 T1) => endField_any2 (p := p) g s hR (by omega) hff)
  clear h
  by_cases h0 : endFieldN p = 0
  · have NO := Lib.hid (fun (hwr : wrongP p x = true) v w' h1 h2 => Taken.no (w := w) (T := T) (R := R) (b := b) (text := text) (p := p) (x := x) (v := v) (w' := w') (a := x.no) (n := 2) (by unfold takeP; rw [hen, hwr, hw, h0]; simp) h1 h2)
    have YES := Lib.hid (fun (hwr : wrongP p x = false) T' w' h1 h2 => Taken.yes (w := w) (T := T) (T' := T') (R := R) (b := b) (text := text) (p := p) (q := putP text.data.toList (endFieldP p) x) (x := x) (w' := w') (by unfold takeP; rw [hen, hwr, hw, h0, hth]; simp) h1 h2)
    cases hend : x.ended
    case false =>
      rw [hend] at C0 HB0
      have hwr : wrongP p x = true := by unfold wrongP; rw [hk, hg, hend]; rfl
      have FIN := Lib.hid (NO.out hwr)
      clear YES NO
      clear hi hb hff hx
      go_enter Tryz.func119, Tryz.ntmps119
      go_wp2_with fail
      refine (K _).mono ?_
      rintro e w1 ⟨rfl, b1⟩
      have s1 := HB0.out.trans (PStep.below b1)
      have P1 : ParserAt w1 T R b text p := (H.out.below ((Below.refl _ _).alloc (Nat.le_refl _) _)).below b1
      have l1 := P1.lt
      have C1 := cells_kept C0.out b1 (by simp)
      have hz1 := s1.only.size
      have d0 : w1.cell? ⟨w.heap.size, 0, none⟩ = some (.int .i64 x.no) := C1.cell 0
      have d1 : w1.cell? ⟨w.heap.size, 1, none⟩ = some (.int .i64 x.at_) := C1.cell 1
      have d2 : w1.cell? ⟨w.heap.size, 2, none⟩ = some (.string (B x.text)) := C1.cell 2
      have d3 : w1.cell? ⟨w.heap.size, 3, none⟩ = some (.bool false) := C1.cell 3
      have lz := C1.lt
      clear b1 H C0 HB0
      go_wp2_with fail
      refine (EF.out _ T P1 s1).mono ?_
      rintro e w3 hE
      rw [if_pos h0] at hE
      obtain ⟨rfl, T3, g3, s3, s13⟩ := hE
      have C3 := C1.only s13.only (fun e => e (l0))
      have d0' : w3.cell? ⟨w.heap.size, 0, none⟩ = some (.int .i64 x.no) := C3.cell 0
      have d1' : w3.cell? ⟨w.heap.size, 1, none⟩ = some (.int .i64 x.at_) := C3.cell 1
      have d2' : w3.cell? ⟨w.heap.size, 2, none⟩ = some (.string (B x.text)) := C3.cell 2
      have lz3 := C3.lt
      have l3 := g3.lt
      go_wp2
      go_ret
      exact FIN.out _ _ (FaultAt.new _ _ 2 _ w3.heap.size rfl (by omega)) (s3.only.alloc _)
    case true =>
      rw [hend] at C0 HB0
      have hwr : wrongP p x = false := by unfold wrongP; rw [hk, hg, hend]; rfl
      have FIN := Lib.hid (YES.out hwr)
      clear YES NO
      have hbe : x.bytes.length = x.text.length + 1 := by unfold Ln.bytes; rw [hend]; simp
      have eP : putP text.data.toList (endFieldP p) x = endFieldP p := by unfold putP; rw [hk]; rfl
      rw [eP] at FIN
      clear hi hb hff hx
      go_enter Tryz.func119, Tryz.ntmps119
      go_wp2_with fail
      refine (K _).mono ?_
      rintro e w1 ⟨rfl, b1⟩
      have s1 := HB0.out.trans (PStep.below b1)
      have P1 : ParserAt w1 T R b text p := (H.out.below ((Below.refl _ _).alloc (Nat.le_refl _) _)).below b1
      have l1 := P1.lt
      have C1 := cells_kept C0.out b1 (by simp)
      have hz1 := s1.only.size
      have d0 : w1.cell? ⟨w.heap.size, 0, none⟩ = some (.int .i64 x.no) := C1.cell 0
      have d1 : w1.cell? ⟨w.heap.size, 1, none⟩ = some (.int .i64 x.at_) := C1.cell 1
      have d2 : w1.cell? ⟨w.heap.size, 2, none⟩ = some (.string (B x.text)) := C1.cell 2
      have d3 : w1.cell? ⟨w.heap.size, 3, none⟩ = some (.bool true) := C1.cell 3
      have lz := C1.lt
      clear b1 H C0 HB0
      go_wp2_with fail
      refine (EF.out _ T P1 s1).mono ?_
      rintro e w3 hE
      rw [if_pos h0] at hE
      obtain ⟨rfl, T3, g3, s3, s13⟩ := hE
      have C3 := C1.only s13.only (fun e => e (l0))
      have d0' : w3.cell? ⟨w.heap.size, 0, none⟩ = some (.int .i64 x.no) := C3.cell 0
      have d1' : w3.cell? ⟨w.heap.size, 1, none⟩ = some (.int .i64 x.at_) := C3.cell 1
      have d2' : w3.cell? ⟨w.heap.size, 2, none⟩ = some (.string (B x.text)) := C3.cell 2
      have lz3 := C3.lt
      have l3 := g3.lt
      go_wp2
      go_ret
      exact FIN.out _ _ g3 s3
  · have FIN := Lib.hid (fun v w' h1 h2 => Taken.no (w := w) (T := T) (R := R) (b := b) (text := text) (p := p) (x := x) (v := v) (w' := w') (a := p.begin_) (n := endFieldN p) (by unfold takeP; rw [hen, hw, if_pos ⟨rfl, h0⟩]) h1 h2)
    clear hi hb hff hx
    cases hend : x.ended
    case false =>
      rw [hend] at C0 HB0
      go_enter Tryz.func119, Tryz.ntmps119
      go_wp2_with fail
      refine (K _).mono ?_
      rintro e w1 ⟨rfl, b1⟩
      have s1 := HB0.out.trans (PStep.below b1)
      have P1 : ParserAt w1 T R b text p := (H.out.below ((Below.refl _ _).alloc (Nat.le_refl _) _)).below b1
      have l1 := P1.lt
      have C1 := cells_kept C0.out b1 (by simp)
      have hz1 := s1.only.size
      have d0 : w1.cell? ⟨w.heap.size, 0, none⟩ = some (.int .i64 x.no) := C1.cell 0
      have d1 : w1.cell? ⟨w.heap.size, 1, none⟩ = some (.int .i64 x.at_) := C1.cell 1
      have d2 : w1.cell? ⟨w.heap.size, 2, none⟩ = some (.string (B x.text)) := C1.cell 2
      have d3 : w1.cell? ⟨w.heap.size, 3, none⟩ = some (.bool false) := C1.cell 3
      have lz := C1.lt
      clear b1 H C0 HB0
      go_wp2_with fail
      refine (EF.out _ T P1 s1).mono ?_
      rintro e w3 hE
      rw [if_neg h0] at hE
      obtain ⟨v, rfl, f3, o3, _, a3, rfl⟩ := hE
      go_wp2
      go_ret
      exact FIN.out _ _ f3 o3
    case true =>
      rw [hend] at C0 HB0
      go_enter Tryz.func119, Tryz.ntmps119
      go_wp2_with fail
      refine (K _).mono ?_
      rintro e w1 ⟨rfl, b1⟩
      have s1 := HB0.out.trans (PStep.below b1)
      have P1 : ParserAt w1 T R b text p := (H.out.below ((Below.refl _ _).alloc (Nat.le_refl _) _)).below b1
      have l1 := P1.lt
      have C1 := cells_kept C0.out b1 (by simp)
      have hz1 := s1.only.size
      have d0 : w1.cell? ⟨w.heap.size, 0, none⟩ = some (.int .i64 x.no) := C1.cell 0
      have d1 : w1.cell? ⟨w.heap.size, 1, none⟩ = some (.int .i64 x.at_) := C1.cell 1
      have d2 : w1.cell? ⟨w.heap.size, 2, none⟩ = some (.string (B x.text)) := C1.cell 2
      have d3 : w1.cell? ⟨w.heap.size, 3, none⟩ = some (.bool true) := C1.cell 3
      have lz := C1.lt
      clear b1 H C0 HB0
      go_wp2_with fail
      refine (EF.out _ T P1 s1).mono ?_
      rintro e w3 hE
      rw [if_neg h0] at hE
      obtain ⟨v, rfl, f3, o3, _, a3, rfl⟩ := hE
      go_wp2
      go_ret
      exact FIN.out _ _ f3 o3
set_option maxRecDepth 100000 in
set_option maxHeartbeats 4000000 in
theorem take_off3 {w : World} {T : Nat → Nat} {R b : Nat} {text : ByteArray} {p : PS} (h : ParserAt w T R b text p) (hR : R ≤ w.heap.size) (x : Ln) (hi : Inv p x.at_) (hx : x.at_ + x.bytes.length ≤ text.size) (ht : text.size ≤ 70000) (hno : x.no ≤ x.at_) (hg : goesP p x = false) (hk : kindL x.text = 3) :
    Calls Tryz.prog 119 #[.pointer (some ⟨b, 0, none⟩), .agg #[.int .i64 x.no, .int .i64 x.at_, .string (B x.text), .bool x.ended]] w fun e w' => Taken w T R b text p x e w' := by
  have hbl : x.text.length ≤ x.bytes.length := by unfold Ln.bytes; simp
  have K : ∀ w, Calls Tryz.prog 157 #[.string (B x.text)] w fun e w' => e = .returned (.int .i64 3) ∧ Below w.heap.size w w' := fun w => by
    have := kind_any (B x.text) (by rw [B_size]; unfold maxLen; omega) w
    rw [B_data, hk] at this
    exact this
  have hu : kindL x.text = 3 → (!p.said.isEmpty) = false := by
    intro h3; unfold goesP at hg; rw [h3] at hg; simpa using hg
  have hl := h.lt
  have l0 := low_of h
  have H := Lib.hid h
  have C0 := Lib.hid (Cells.new w 146 #[.int .i64 x.no, .int .i64 x.at_, .string (B x.text), .bool x.ended])
  have HB0 := Lib.hid (PStep.below (T := T) ((Below.refl w.heap.size w).alloc (Nat.le_refl _) (.cells #[.int .i64 x.no, .int .i64 x.at_, .string (B x.text), .bool x.ended] 146)))
  have hw : wentP p x = p := by unfold wentP; rw [hg]; rfl
  have hen : endsP p x = true := by unfold endsP; rw [hg]; simp
  have hth : thenP p x = endFieldP p := by unfold thenP; rw [hen, if_pos rfl, hw]
  have hb := hi.said
  have hff : p.fields.length ≤ 1000000 := by have := hi.fields; omega
  have EF := Lib.hid (fun w1 T1 (g : ParserAt w1 T1 R b text p) (s : PStep w T w1 T1) => endField_any2 (p := p) g s hR (by omega) hff)
  clear h
  by_cases h0 : endFieldN p = 0
  · have NO := Lib.hid (fun (hwr : wrongP p x = true) v w' h1 h2 => Taken.no (w := w) (T := T) (R := R) (b := b) (text := text) (p := p) (x := x) (v := v) (w' := w') (a := x.no) (n := 2) (by unfold takeP; rw [hen, hwr, hw, h0]; simp) h1 h2)
    have YES := Lib.hid (fun (hwr : wrongP p x = false) T' w' h1 h2 => Taken.yes (w := w) (T := T) (T' := T') (R := R) (b := b) (text := text) (p := p) (q := putP text.data.toList (endFieldP p) x) (x := x) (w' := w') (by unfold takeP; rw [hen, hwr, hw, h0, hth]; simp) h1 h2)
    cases hend : x.ended
    case false =>
      rw [hend] at C0 HB0
      have hwr : wrongP p x = true := by unfold wrongP; rw [hk, hg, hend]; rfl
      have FIN := Lib.hid (NO.out hwr)
      clear YES NO
      clear hi hb hff hx
      go_enter Tryz.func119, Tryz.ntmps119
      go_wp2_with fail
      refine (K _).mono ?_
      rintro e w1 ⟨rfl, b1⟩
      have s1 := HB0.out.trans (PStep.below b1)
      have P1 : ParserAt w1 T R b text p := (H.out.below ((Below.refl _ _).alloc (Nat.le_refl _) _)).below b1
      have l1 := P1.lt
      have C1 := cells_kept C0.out b1 (by simp)
      have hz1 := s1.only.size
      have d0 : w1.cell? ⟨w.heap.size, 0, none⟩ = some (.int .i64 x.no) := C1.cell 0
      have d1 : w1.cell? ⟨w.heap.size, 1, none⟩ = some (.int .i64 x.at_) := C1.cell 1
      have d2 : w1.cell? ⟨w.heap.size, 2, none⟩ = some (.string (B x.text)) := C1.cell 2
      have d3 : w1.cell? ⟨w.heap.size, 3, none⟩ = some (.bool false) := C1.cell 3
      have lz := C1.lt
      clear b1 H C0 HB0
      go_wp2_with fail
      obtain ⟨V1, PV1⟩ := P1
      refine (under_any PV1).mono ?_
      rw [hu hk]
      rintro e w2 ⟨rfl, rfl⟩
      replace P1 : ParserAt w1 T R b text p := ⟨V1, PV1⟩
      clear PV1
      go_wp2_with fail
      refine (EF.out _ T P1 s1).mono ?_
      rintro e w3 hE
      rw [if_pos h0] at hE
      obtain ⟨rfl, T3, g3, s3, s13⟩ := hE
      have C3 := C1.only s13.only (fun e => e (l0))
      have d0' : w3.cell? ⟨w.heap.size, 0, none⟩ = some (.int .i64 x.no) := C3.cell 0
      have d1' : w3.cell? ⟨w.heap.size, 1, none⟩ = some (.int .i64 x.at_) := C3.cell 1
      have d2' : w3.cell? ⟨w.heap.size, 2, none⟩ = some (.string (B x.text)) := C3.cell 2
      have lz3 := C3.lt
      have l3 := g3.lt
      go_wp2
      go_ret
      exact FIN.out _ _ (FaultAt.new _ _ 2 _ w3.heap.size rfl (by omega)) (s3.only.alloc _)
    case true =>
      rw [hend] at C0 HB0
      have hwr : wrongP p x = true := by unfold wrongP; rw [hk, hg, hend]; rfl
      have FIN := Lib.hid (NO.out hwr)
      clear YES NO
      clear hi hb hff hx
      go_enter Tryz.func119, Tryz.ntmps119
      go_wp2_with fail
      refine (K _).mono ?_
      rintro e w1 ⟨rfl, b1⟩
      have s1 := HB0.out.trans (PStep.below b1)
      have P1 : ParserAt w1 T R b text p := (H.out.below ((Below.refl _ _).alloc (Nat.le_refl _) _)).below b1
      have l1 := P1.lt
      have C1 := cells_kept C0.out b1 (by simp)
      have hz1 := s1.only.size
      have d0 : w1.cell? ⟨w.heap.size, 0, none⟩ = some (.int .i64 x.no) := C1.cell 0
      have d1 : w1.cell? ⟨w.heap.size, 1, none⟩ = some (.int .i64 x.at_) := C1.cell 1
      have d2 : w1.cell? ⟨w.heap.size, 2, none⟩ = some (.string (B x.text)) := C1.cell 2
      have d3 : w1.cell? ⟨w.heap.size, 3, none⟩ = some (.bool true) := C1.cell 3
      have lz := C1.lt
      clear b1 H C0 HB0
      go_wp2_with fail
      obtain ⟨V1, PV1⟩ := P1
      refine (under_any PV1).mono ?_
      rw [hu hk]
      rintro e w2 ⟨rfl, rfl⟩
      replace P1 : ParserAt w1 T R b text p := ⟨V1, PV1⟩
      clear PV1
      go_wp2_with fail
      refine (EF.out _ T P1 s1).mono ?_
      rintro e w3 hE
      rw [if_pos h0] at hE
      obtain ⟨rfl, T3, g3, s3, s13⟩ := hE
      have C3 := C1.only s13.only (fun e => e (l0))
      have d0' : w3.cell? ⟨w.heap.size, 0, none⟩ = some (.int .i64 x.no) := C3.cell 0
      have d1' : w3.cell? ⟨w.heap.size, 1, none⟩ = some (.int .i64 x.at_) := C3.cell 1
      have d2' : w3.cell? ⟨w.heap.size, 2, none⟩ = some (.string (B x.text)) := C3.cell 2
      have lz3 := C3.lt
      have l3 := g3.lt
      go_wp2
      go_ret
      exact FIN.out _ _ (FaultAt.new _ _ 2 _ w3.heap.size rfl (by omega)) (s3.only.alloc _)
  · have FIN := Lib.hid (fun v w' h1 h2 => Taken.no (w := w) (T := T) (R := R) (b := b) (text := text) (p := p) (x := x) (v := v) (w' := w') (a := p.begin_) (n := endFieldN p) (by unfold takeP; rw [hen, hw, if_pos ⟨rfl, h0⟩]) h1 h2)
    clear hi hb hff hx
    cases hend : x.ended
    case false =>
      rw [hend] at C0 HB0
      go_enter Tryz.func119, Tryz.ntmps119
      go_wp2_with fail
      refine (K _).mono ?_
      rintro e w1 ⟨rfl, b1⟩
      have s1 := HB0.out.trans (PStep.below b1)
      have P1 : ParserAt w1 T R b text p := (H.out.below ((Below.refl _ _).alloc (Nat.le_refl _) _)).below b1
      have l1 := P1.lt
      have C1 := cells_kept C0.out b1 (by simp)
      have hz1 := s1.only.size
      have d0 : w1.cell? ⟨w.heap.size, 0, none⟩ = some (.int .i64 x.no) := C1.cell 0
      have d1 : w1.cell? ⟨w.heap.size, 1, none⟩ = some (.int .i64 x.at_) := C1.cell 1
      have d2 : w1.cell? ⟨w.heap.size, 2, none⟩ = some (.string (B x.text)) := C1.cell 2
      have d3 : w1.cell? ⟨w.heap.size, 3, none⟩ = some (.bool false) := C1.cell 3
      have lz := C1.lt
      clear b1 H C0 HB0
      go_wp2_with fail
      obtain ⟨V1, PV1⟩ := P1
      refine (under_any PV1).mono ?_
      rw [hu hk]
      rintro e w2 ⟨rfl, rfl⟩
      replace P1 : ParserAt w1 T R b text p := ⟨V1, PV1⟩
      clear PV1
      go_wp2_with fail
      refine (EF.out _ T P1 s1).mono ?_
      rintro e w3 hE
      rw [if_neg h0] at hE
      obtain ⟨v, rfl, f3, o3, _, a3, rfl⟩ := hE
      go_wp2
      go_ret
      exact FIN.out _ _ f3 o3
    case true =>
      rw [hend] at C0 HB0
      go_enter Tryz.func119, Tryz.ntmps119
      go_wp2_with fail
      refine (K _).mono ?_
      rintro e w1 ⟨rfl, b1⟩
      have s1 := HB0.out.trans (PStep.below b1)
      have P1 : ParserAt w1 T R b text p := (H.out.below ((Below.refl _ _).alloc (Nat.le_refl _) _)).below b1
      have l1 := P1.lt
      have C1 := cells_kept C0.out b1 (by simp)
      have hz1 := s1.only.size
      have d0 : w1.cell? ⟨w.heap.size, 0, none⟩ = some (.int .i64 x.no) := C1.cell 0
      have d1 : w1.cell? ⟨w.heap.size, 1, none⟩ = some (.int .i64 x.at_) := C1.cell 1
      have d2 : w1.cell? ⟨w.heap.size, 2, none⟩ = some (.string (B x.text)) := C1.cell 2
      have d3 : w1.cell? ⟨w.heap.size, 3, none⟩ = some (.bool true) := C1.cell 3
      have lz := C1.lt
      clear b1 H C0 HB0
      go_wp2_with fail
      obtain ⟨V1, PV1⟩ := P1
      refine (under_any PV1).mono ?_
      rw [hu hk]
      rintro e w2 ⟨rfl, rfl⟩
      replace P1 : ParserAt w1 T R b text p := ⟨V1, PV1⟩
      clear PV1
      go_wp2_with fail
      refine (EF.out _ T P1 s1).mono ?_
      rintro e w3 hE
      rw [if_neg h0] at hE
      obtain ⟨v, rfl, f3, o3, _, a3, rfl⟩ := hE
      go_wp2
      go_ret
      exact FIN.out _ _ f3 o3
set_option maxRecDepth 100000 in
set_option maxHeartbeats 4000000 in
theorem take_off4 {w : World} {T : Nat → Nat} {R b : Nat} {text : ByteArray} {p : PS} (h : ParserAt w T R b text p) (hR : R ≤ w.heap.size) (x : Ln) (hi : Inv p x.at_) (hx : x.at_ + x.bytes.length ≤ text.size) (ht : text.size ≤ 70000) (hno : x.no ≤ x.at_) (hg : goesP p x = false) (hk : kindL x.text = 4) :
    Calls Tryz.prog 119 #[.pointer (some ⟨b, 0, none⟩), .agg #[.int .i64 x.no, .int .i64 x.at_, .string (B x.text), .bool x.ended]] w fun e w' => Taken w T R b text p x e w' := by
  have hbl : x.text.length ≤ x.bytes.length := by unfold Ln.bytes; simp
  have K : ∀ w, Calls Tryz.prog 157 #[.string (B x.text)] w fun e w' => e = .returned (.int .i64 4) ∧ Below w.heap.size w w' := fun w => by
    have := kind_any (B x.text) (by rw [B_size]; unfold maxLen; omega) w
    rw [B_data, hk] at this
    exact this
  have hu : kindL x.text = 3 → (!p.said.isEmpty) = false := by
    intro h3; unfold goesP at hg; rw [h3] at hg; simpa using hg
  have hl := h.lt
  have l0 := low_of h
  have H := Lib.hid h
  have C0 := Lib.hid (Cells.new w 146 #[.int .i64 x.no, .int .i64 x.at_, .string (B x.text), .bool x.ended])
  have HB0 := Lib.hid (PStep.below (T := T) ((Below.refl w.heap.size w).alloc (Nat.le_refl _) (.cells #[.int .i64 x.no, .int .i64 x.at_, .string (B x.text), .bool x.ended] 146)))
  have hw : wentP p x = p := by unfold wentP; rw [hg]; rfl
  have hen : endsP p x = true := by unfold endsP; rw [hg]; simp
  have hth : thenP p x = endFieldP p := by unfold thenP; rw [hen, if_pos rfl, hw]
  have hb := hi.said
  have hff : p.fields.length ≤ 1000000 := by have := hi.fields; omega
  have EF := Lib.hid (fun w1 T1 (g : ParserAt w1 T1 R b text p) (s : PStep w T w1 T1) => endField_any2 (p := p) g s hR (by omega) hff)
  clear h
  by_cases h0 : endFieldN p = 0
  · have NO := Lib.hid (fun (hwr : wrongP p x = true) v w' h1 h2 => Taken.no (w := w) (T := T) (R := R) (b := b) (text := text) (p := p) (x := x) (v := v) (w' := w') (a := x.no) (n := 2) (by unfold takeP; rw [hen, hwr, hw, h0]; simp) h1 h2)
    have YES := Lib.hid (fun (hwr : wrongP p x = false) T' w' h1 h2 => Taken.yes (w := w) (T := T) (T' := T') (R := R) (b := b) (text := text) (p := p) (q := putP text.data.toList (endFieldP p) x) (x := x) (w' := w') (by unfold takeP; rw [hen, hwr, hw, h0, hth]; simp) h1 h2)
    cases hend : x.ended
    case false =>
      rw [hend] at C0 HB0
      have hwr : wrongP p x = true := by unfold wrongP; rw [hk, hg, hend]; rfl
      have FIN := Lib.hid (NO.out hwr)
      clear YES NO
      clear hi hb hff hx
      go_enter Tryz.func119, Tryz.ntmps119
      go_wp2_with fail
      refine (K _).mono ?_
      rintro e w1 ⟨rfl, b1⟩
      have s1 := HB0.out.trans (PStep.below b1)
      have P1 : ParserAt w1 T R b text p := (H.out.below ((Below.refl _ _).alloc (Nat.le_refl _) _)).below b1
      have l1 := P1.lt
      have C1 := cells_kept C0.out b1 (by simp)
      have hz1 := s1.only.size
      have d0 : w1.cell? ⟨w.heap.size, 0, none⟩ = some (.int .i64 x.no) := C1.cell 0
      have d1 : w1.cell? ⟨w.heap.size, 1, none⟩ = some (.int .i64 x.at_) := C1.cell 1
      have d2 : w1.cell? ⟨w.heap.size, 2, none⟩ = some (.string (B x.text)) := C1.cell 2
      have d3 : w1.cell? ⟨w.heap.size, 3, none⟩ = some (.bool false) := C1.cell 3
      have lz := C1.lt
      clear b1 H C0 HB0
      go_wp2_with fail
      refine (EF.out _ T P1 s1).mono ?_
      rintro e w3 hE
      rw [if_pos h0] at hE
      obtain ⟨rfl, T3, g3, s3, s13⟩ := hE
      have C3 := C1.only s13.only (fun e => e (l0))
      have d0' : w3.cell? ⟨w.heap.size, 0, none⟩ = some (.int .i64 x.no) := C3.cell 0
      have d1' : w3.cell? ⟨w.heap.size, 1, none⟩ = some (.int .i64 x.at_) := C3.cell 1
      have d2' : w3.cell? ⟨w.heap.size, 2, none⟩ = some (.string (B x.text)) := C3.cell 2
      have lz3 := C3.lt
      have l3 := g3.lt
      go_wp2
      go_ret
      exact FIN.out _ _ (FaultAt.new _ _ 2 _ w3.heap.size rfl (by omega)) (s3.only.alloc _)
    case true =>
      rw [hend] at C0 HB0
      have hwr : wrongP p x = false := by unfold wrongP; rw [hk, hg, hend]; rfl
      have FIN := Lib.hid (YES.out hwr)
      clear YES NO
      have hbe : x.bytes.length = x.text.length + 1 := by unfold Ln.bytes; rw [hend]; simp
      have eP : putP text.data.toList (endFieldP p) x = startP (endFieldP p) x := by unfold putP startP; rw [hk, if_pos rfl]
      rw [eP] at FIN
      have HS := Lib.hid (fun w3 T3 V3 (g : ParserV w3 T3 R b text (endFieldP p) V3) hR3 => start_any g hR3 x)
      rw [hend] at HS
      clear hi hb hff hx
      go_enter Tryz.func119, Tryz.ntmps119
      go_wp2_with fail
      refine (K _).mono ?_
      rintro e w1 ⟨rfl, b1⟩
      have s1 := HB0.out.trans (PStep.below b1)
      have P1 : ParserAt w1 T R b text p := (H.out.below ((Below.refl _ _).alloc (Nat.le_refl _) _)).below b1
      have l1 := P1.lt
      have C1 := cells_kept C0.out b1 (by simp)
      have hz1 := s1.only.size
      have d0 : w1.cell? ⟨w.heap.size, 0, none⟩ = some (.int .i64 x.no) := C1.cell 0
      have d1 : w1.cell? ⟨w.heap.size, 1, none⟩ = some (.int .i64 x.at_) := C1.cell 1
      have d2 : w1.cell? ⟨w.heap.size, 2, none⟩ = some (.string (B x.text)) := C1.cell 2
      have d3 : w1.cell? ⟨w.heap.size, 3, none⟩ = some (.bool true) := C1.cell 3
      have lz := C1.lt
      clear b1 H C0 HB0
      go_wp2_with fail
      refine (EF.out _ T P1 s1).mono ?_
      rintro e w3 hE
      rw [if_pos h0] at hE
      obtain ⟨rfl, T3, g3, s3, s13⟩ := hE
      have C3 := C1.only s13.only (fun e => e (l0))
      have d0' : w3.cell? ⟨w.heap.size, 0, none⟩ = some (.int .i64 x.no) := C3.cell 0
      have d1' : w3.cell? ⟨w.heap.size, 1, none⟩ = some (.int .i64 x.at_) := C3.cell 1
      have d2' : w3.cell? ⟨w.heap.size, 2, none⟩ = some (.string (B x.text)) := C3.cell 2
      have lz3 := C3.lt
      have l3 := g3.lt
      have d3' : w3.cell? ⟨w.heap.size, 3, none⟩ = some (.bool true) := C3.cell 3
      obtain ⟨V3, g3⟩ := g3
      have P3d : Hid (ParserV w3.drew T3 R b text (endFieldP p) V3) := g3.same (fun _ _ => rfl) (Nat.le_refl _)
      have S3 : Hid (PStep w T w3.drew T3) := s3.drewN 1
      have hz3 : R ≤ w3.drew.heap.size := Nat.le_trans hR s3.only.size
      clear g3 s3 s13
      go_wp2
      go_region_with (go_at_call 160; refine (HS.out _ T3 V3 P3d.out hz3).mono ?_; rintro e w4 ⟨rfl, T4, g4, s4⟩)
      all_goals
        go_wp2
        go_ret
        exact FIN.out T4 _ g4 (S3.out.trans s4)
  · have FIN := Lib.hid (fun v w' h1 h2 => Taken.no (w := w) (T := T) (R := R) (b := b) (text := text) (p := p) (x := x) (v := v) (w' := w') (a := p.begin_) (n := endFieldN p) (by unfold takeP; rw [hen, hw, if_pos ⟨rfl, h0⟩]) h1 h2)
    clear hi hb hff hx
    cases hend : x.ended
    case false =>
      rw [hend] at C0 HB0
      go_enter Tryz.func119, Tryz.ntmps119
      go_wp2_with fail
      refine (K _).mono ?_
      rintro e w1 ⟨rfl, b1⟩
      have s1 := HB0.out.trans (PStep.below b1)
      have P1 : ParserAt w1 T R b text p := (H.out.below ((Below.refl _ _).alloc (Nat.le_refl _) _)).below b1
      have l1 := P1.lt
      have C1 := cells_kept C0.out b1 (by simp)
      have hz1 := s1.only.size
      have d0 : w1.cell? ⟨w.heap.size, 0, none⟩ = some (.int .i64 x.no) := C1.cell 0
      have d1 : w1.cell? ⟨w.heap.size, 1, none⟩ = some (.int .i64 x.at_) := C1.cell 1
      have d2 : w1.cell? ⟨w.heap.size, 2, none⟩ = some (.string (B x.text)) := C1.cell 2
      have d3 : w1.cell? ⟨w.heap.size, 3, none⟩ = some (.bool false) := C1.cell 3
      have lz := C1.lt
      clear b1 H C0 HB0
      go_wp2_with fail
      refine (EF.out _ T P1 s1).mono ?_
      rintro e w3 hE
      rw [if_neg h0] at hE
      obtain ⟨v, rfl, f3, o3, _, a3, rfl⟩ := hE
      go_wp2
      go_ret
      exact FIN.out _ _ f3 o3
    case true =>
      rw [hend] at C0 HB0
      go_enter Tryz.func119, Tryz.ntmps119
      go_wp2_with fail
      refine (K _).mono ?_
      rintro e w1 ⟨rfl, b1⟩
      have s1 := HB0.out.trans (PStep.below b1)
      have P1 : ParserAt w1 T R b text p := (H.out.below ((Below.refl _ _).alloc (Nat.le_refl _) _)).below b1
      have l1 := P1.lt
      have C1 := cells_kept C0.out b1 (by simp)
      have hz1 := s1.only.size
      have d0 : w1.cell? ⟨w.heap.size, 0, none⟩ = some (.int .i64 x.no) := C1.cell 0
      have d1 : w1.cell? ⟨w.heap.size, 1, none⟩ = some (.int .i64 x.at_) := C1.cell 1
      have d2 : w1.cell? ⟨w.heap.size, 2, none⟩ = some (.string (B x.text)) := C1.cell 2
      have d3 : w1.cell? ⟨w.heap.size, 3, none⟩ = some (.bool true) := C1.cell 3
      have lz := C1.lt
      clear b1 H C0 HB0
      go_wp2_with fail
      refine (EF.out _ T P1 s1).mono ?_
      rintro e w3 hE
      rw [if_neg h0] at hE
      obtain ⟨v, rfl, f3, o3, _, a3, rfl⟩ := hE
      go_wp2
      go_ret
      exact FIN.out _ _ f3 o3
set_option maxRecDepth 100000 in
set_option maxHeartbeats 4000000 in
theorem take_off5 {w : World} {T : Nat → Nat} {R b : Nat} {text : ByteArray} {p : PS} (h : ParserAt w T R b text p) (hR : R ≤ w.heap.size) (x : Ln) (hi : Inv p x.at_) (hx : x.at_ + x.bytes.length ≤ text.size) (ht : text.size ≤ 70000) (hno : x.no ≤ x.at_) (hg : goesP p x = false) (hk : kindL x.text = 5) :
    Calls Tryz.prog 119 #[.pointer (some ⟨b, 0, none⟩), .agg #[.int .i64 x.no, .int .i64 x.at_, .string (B x.text), .bool x.ended]] w fun e w' => Taken w T R b text p x e w' := by
  have hbl : x.text.length ≤ x.bytes.length := by unfold Ln.bytes; simp
  have K : ∀ w, Calls Tryz.prog 157 #[.string (B x.text)] w fun e w' => e = .returned (.int .i64 5) ∧ Below w.heap.size w w' := fun w => by
    have := kind_any (B x.text) (by rw [B_size]; unfold maxLen; omega) w
    rw [B_data, hk] at this
    exact this
  have hu : kindL x.text = 3 → (!p.said.isEmpty) = false := by
    intro h3; unfold goesP at hg; rw [h3] at hg; simpa using hg
  have hl := h.lt
  have l0 := low_of h
  have H := Lib.hid h
  have C0 := Lib.hid (Cells.new w 146 #[.int .i64 x.no, .int .i64 x.at_, .string (B x.text), .bool x.ended])
  have HB0 := Lib.hid (PStep.below (T := T) ((Below.refl w.heap.size w).alloc (Nat.le_refl _) (.cells #[.int .i64 x.no, .int .i64 x.at_, .string (B x.text), .bool x.ended] 146)))
  have hw : wentP p x = p := by unfold wentP; rw [hg]; rfl
  have hen : endsP p x = true := by unfold endsP; rw [hg]; simp
  have hth : thenP p x = endFieldP p := by unfold thenP; rw [hen, if_pos rfl, hw]
  have hb := hi.said
  have hff : p.fields.length ≤ 1000000 := by have := hi.fields; omega
  have EF := Lib.hid (fun w1 T1 (g : ParserAt w1 T1 R b text p) (s : PStep w T w1 T1) => endField_any2 (p := p) g s hR (by omega) hff)
  clear h
  by_cases h0 : endFieldN p = 0
  · have NO := Lib.hid (fun (hwr : wrongP p x = true) v w' h1 h2 => Taken.no (w := w) (T := T) (R := R) (b := b) (text := text) (p := p) (x := x) (v := v) (w' := w') (a := x.no) (n := 2) (by unfold takeP; rw [hen, hwr, hw, h0]; simp) h1 h2)
    have YES := Lib.hid (fun (hwr : wrongP p x = false) T' w' h1 h2 => Taken.yes (w := w) (T := T) (T' := T') (R := R) (b := b) (text := text) (p := p) (q := putP text.data.toList (endFieldP p) x) (x := x) (w' := w') (by unfold takeP; rw [hen, hwr, hw, h0, hth]; simp) h1 h2)
    cases hend : x.ended
    case false =>
      rw [hend] at C0 HB0
      have hwr : wrongP p x = true := by unfold wrongP; rw [hk, hg, hend]; rfl
      have FIN := Lib.hid (NO.out hwr)
      clear YES NO
      clear hi hb hff hx
      go_enter Tryz.func119, Tryz.ntmps119
      go_wp2_with fail
      refine (K _).mono ?_
      rintro e w1 ⟨rfl, b1⟩
      have s1 := HB0.out.trans (PStep.below b1)
      have P1 : ParserAt w1 T R b text p := (H.out.below ((Below.refl _ _).alloc (Nat.le_refl _) _)).below b1
      have l1 := P1.lt
      have C1 := cells_kept C0.out b1 (by simp)
      have hz1 := s1.only.size
      have d0 : w1.cell? ⟨w.heap.size, 0, none⟩ = some (.int .i64 x.no) := C1.cell 0
      have d1 : w1.cell? ⟨w.heap.size, 1, none⟩ = some (.int .i64 x.at_) := C1.cell 1
      have d2 : w1.cell? ⟨w.heap.size, 2, none⟩ = some (.string (B x.text)) := C1.cell 2
      have d3 : w1.cell? ⟨w.heap.size, 3, none⟩ = some (.bool false) := C1.cell 3
      have lz := C1.lt
      clear b1 H C0 HB0
      go_wp2_with fail
      refine (EF.out _ T P1 s1).mono ?_
      rintro e w3 hE
      rw [if_pos h0] at hE
      obtain ⟨rfl, T3, g3, s3, s13⟩ := hE
      have C3 := C1.only s13.only (fun e => e (l0))
      have d0' : w3.cell? ⟨w.heap.size, 0, none⟩ = some (.int .i64 x.no) := C3.cell 0
      have d1' : w3.cell? ⟨w.heap.size, 1, none⟩ = some (.int .i64 x.at_) := C3.cell 1
      have d2' : w3.cell? ⟨w.heap.size, 2, none⟩ = some (.string (B x.text)) := C3.cell 2
      have lz3 := C3.lt
      have l3 := g3.lt
      go_wp2
      go_ret
      exact FIN.out _ _ (FaultAt.new _ _ 2 _ w3.heap.size rfl (by omega)) (s3.only.alloc _)
    case true =>
      rw [hend] at C0 HB0
      have hwr : wrongP p x = true := by unfold wrongP; rw [hk, hg, hend]; rfl
      have FIN := Lib.hid (NO.out hwr)
      clear YES NO
      clear hi hb hff hx
      go_enter Tryz.func119, Tryz.ntmps119
      go_wp2_with fail
      refine (K _).mono ?_
      rintro e w1 ⟨rfl, b1⟩
      have s1 := HB0.out.trans (PStep.below b1)
      have P1 : ParserAt w1 T R b text p := (H.out.below ((Below.refl _ _).alloc (Nat.le_refl _) _)).below b1
      have l1 := P1.lt
      have C1 := cells_kept C0.out b1 (by simp)
      have hz1 := s1.only.size
      have d0 : w1.cell? ⟨w.heap.size, 0, none⟩ = some (.int .i64 x.no) := C1.cell 0
      have d1 : w1.cell? ⟨w.heap.size, 1, none⟩ = some (.int .i64 x.at_) := C1.cell 1
      have d2 : w1.cell? ⟨w.heap.size, 2, none⟩ = some (.string (B x.text)) := C1.cell 2
      have d3 : w1.cell? ⟨w.heap.size, 3, none⟩ = some (.bool true) := C1.cell 3
      have lz := C1.lt
      clear b1 H C0 HB0
      go_wp2_with fail
      refine (EF.out _ T P1 s1).mono ?_
      rintro e w3 hE
      rw [if_pos h0] at hE
      obtain ⟨rfl, T3, g3, s3, s13⟩ := hE
      have C3 := C1.only s13.only (fun e => e (l0))
      have d0' : w3.cell? ⟨w.heap.size, 0, none⟩ = some (.int .i64 x.no) := C3.cell 0
      have d1' : w3.cell? ⟨w.heap.size, 1, none⟩ = some (.int .i64 x.at_) := C3.cell 1
      have d2' : w3.cell? ⟨w.heap.size, 2, none⟩ = some (.string (B x.text)) := C3.cell 2
      have lz3 := C3.lt
      have l3 := g3.lt
      go_wp2
      go_ret
      exact FIN.out _ _ (FaultAt.new _ _ 2 _ w3.heap.size rfl (by omega)) (s3.only.alloc _)
  · have FIN := Lib.hid (fun v w' h1 h2 => Taken.no (w := w) (T := T) (R := R) (b := b) (text := text) (p := p) (x := x) (v := v) (w' := w') (a := p.begin_) (n := endFieldN p) (by unfold takeP; rw [hen, hw, if_pos ⟨rfl, h0⟩]) h1 h2)
    clear hi hb hff hx
    cases hend : x.ended
    case false =>
      rw [hend] at C0 HB0
      go_enter Tryz.func119, Tryz.ntmps119
      go_wp2_with fail
      refine (K _).mono ?_
      rintro e w1 ⟨rfl, b1⟩
      have s1 := HB0.out.trans (PStep.below b1)
      have P1 : ParserAt w1 T R b text p := (H.out.below ((Below.refl _ _).alloc (Nat.le_refl _) _)).below b1
      have l1 := P1.lt
      have C1 := cells_kept C0.out b1 (by simp)
      have hz1 := s1.only.size
      have d0 : w1.cell? ⟨w.heap.size, 0, none⟩ = some (.int .i64 x.no) := C1.cell 0
      have d1 : w1.cell? ⟨w.heap.size, 1, none⟩ = some (.int .i64 x.at_) := C1.cell 1
      have d2 : w1.cell? ⟨w.heap.size, 2, none⟩ = some (.string (B x.text)) := C1.cell 2
      have d3 : w1.cell? ⟨w.heap.size, 3, none⟩ = some (.bool false) := C1.cell 3
      have lz := C1.lt
      clear b1 H C0 HB0
      go_wp2_with fail
      refine (EF.out _ T P1 s1).mono ?_
      rintro e w3 hE
      rw [if_neg h0] at hE
      obtain ⟨v, rfl, f3, o3, _, a3, rfl⟩ := hE
      go_wp2
      go_ret
      exact FIN.out _ _ f3 o3
    case true =>
      rw [hend] at C0 HB0
      go_enter Tryz.func119, Tryz.ntmps119
      go_wp2_with fail
      refine (K _).mono ?_
      rintro e w1 ⟨rfl, b1⟩
      have s1 := HB0.out.trans (PStep.below b1)
      have P1 : ParserAt w1 T R b text p := (H.out.below ((Below.refl _ _).alloc (Nat.le_refl _) _)).below b1
      have l1 := P1.lt
      have C1 := cells_kept C0.out b1 (by simp)
      have hz1 := s1.only.size
      have d0 : w1.cell? ⟨w.heap.size, 0, none⟩ = some (.int .i64 x.no) := C1.cell 0
      have d1 : w1.cell? ⟨w.heap.size, 1, none⟩ = some (.int .i64 x.at_) := C1.cell 1
      have d2 : w1.cell? ⟨w.heap.size, 2, none⟩ = some (.string (B x.text)) := C1.cell 2
      have d3 : w1.cell? ⟨w.heap.size, 3, none⟩ = some (.bool true) := C1.cell 3
      have lz := C1.lt
      clear b1 H C0 HB0
      go_wp2_with fail
      refine (EF.out _ T P1 s1).mono ?_
      rintro e w3 hE
      rw [if_neg h0] at hE
      obtain ⟨v, rfl, f3, o3, _, a3, rfl⟩ := hE
      go_wp2
      go_ret
      exact FIN.out _ _ f3 o3
end Go.Proofs.YtkcklnnmcmjnjaaGreatDoor

namespace Go.Proofs.YtkcklnnmcmjnjaaGreatDoor
open Go.RowKit Go.Shelf
attribute [local go_sem] Oper.semAt_some

theorem under {W W' : World} {b n : Nat} {t : TypeId} {v : Value} (h : Boxed W b t v) (hb : Below n W W') (hn : b < n) : Boxed W' b t v := (hb.block b hn).trans h
theorem rowBase {W : World} {base base' : Nat} {e : TypeId} {size : Nat} {v : Value} {n : Nat} {xs : List Value} (h : W.ownsRow base e size v n xs) (hb : base' ≤ base) : W.ownsRow base' e size v n xs := by
  refine ⟨h.1, ?_⟩
  rcases h.2 with hn | ⟨g, cap, cur, hv, hg, rest⟩
  · exact .inl hn
  · exact .inr ⟨g, cap, cur, hv, Nat.le_trans hb hg, rest⟩
theorem rowForm {W : World} {base : Nat} {e : TypeId} {size : Nat} {v : Value} {n : Nat} {xs : List Value} (h : W.ownsRow base e size v n xs) : ∃ ao cap, v = .slice ao n cap := by
  rcases h.2 with ⟨rfl, rfl⟩ | ⟨g, cap, cur, rfl, _⟩
  · exact ⟨none, 0, rfl⟩
  · exact ⟨_, cap, rfl⟩
theorem boxNew3 (w : World) (o1 o2 : Obj) (t : TypeId) (v : Value) : Boxed (((w.alloc o1).alloc o2).alloc (.cells #[v] t)) (w.heap.size + 2) t v := by
  have := boxNew2 (w.alloc o1) o2 t v
  rwa [World.size_alloc] at this
theorem boxNew4 (w : World) (o1 o2 o3 : Obj) (t : TypeId) (v : Value) : Boxed ((((w.alloc o1).alloc o2).alloc o3).alloc (.cells #[v] t)) (w.heap.size + 3) t v := by
  have := boxNew3 (w.alloc o1) o2 o3 t v
  rwa [World.size_alloc] at this
theorem wp_rangedA {P : Program} {α : Type} {g : Operand} {ps : Array Tmp} {assign body : Code} {Q : Exit → Act → World → Prop} {a : Act} {w : World}
    {gf : Nat} {lb : Array Value} (hg : a.eval g = .func (.func gf) #[] lb) (eg : ∀ args w, (callFunc gf args).run P w = .ok (.enter gf args) w)
    {encs : α → Array Value} {k : Nat} {xs : List α} (hseq : Hands P gf lb encs k xs w) (hps : ∀ x, (encs x).size = ps.size)
    (I : List α → World → Prop) (Ix : Code → List α → World → Prop) (hI : Abide w.heap.size (k + 2) I) (hIx : ∀ c, Abide w.heap.size 2 (Ix c)) (h0 : I [] w)
    (M : Act → List α → α → Act → World → Prop) (hM : ∀ a pre x a', Abide w.heap.size 2 (fun (_ : Unit) W => M a pre x a' W))
    (hassign : ∀ (l : Nat) (pre : List α) (x : α) (post : List α) (W : World), xs = pre ++ x :: post → w.heap.size + (k + 2) ≤ W.heap.size → I pre W →
      assign.wpIn (Fence.wide.inRound l) 7 P (assigned w.heap.size (k + 2) (M a pre x) W) { tmps := (ps.zip (encs x)).foldl (fun t (p, v) => t.setIfInBounds p v) a.tmps, defers := [] } W)
    (hbody : ∀ (l : Nat) (pre : List α) (x : α) (post : List α) (a' : Act) (W : World), xs = pre ++ x :: post → w.heap.size + (k + 2) ≤ W.heap.size → M a pre x a' W →
      body.wpIn (Fence.wide.inRound l) 7 P (left w.heap.size (k + 2) I Ix (pre ++ [x]) W) a' W)
    (hdone : ∀ (W : World), I xs W → W.heap[w.heap.size]? = some (.deferred (some [])) → Q .normal { a with defers := { target := .collected w.heap.size, args := #[] } :: a.defers } W)
    (hstop : ∀ (c : Code) (pre : List α) (W : World), pre <+: xs → Ix c pre W → W.heap[w.heap.size]? = some (.deferred (some [])) → c.wpIn Fence.wide 9 P Q { a with defers := { target := .collected w.heap.size, args := #[] } :: a.defers } W) :
    (Code.rangeFunc g ps assign body).wpIn Fence.wide 9 P Q a w :=
  wp_ranged hg eg hseq hps I Ix hI hIx h0 (M a) (hM a) hassign hbody hdone hstop
theorem mkAppend (a b : List UInt8) : (⟨a.toArray⟩ : ByteArray) ++ ⟨b.toArray⟩ = ⟨(a ++ b).toArray⟩ := by
  rw [← Lib.mk_data ((⟨a.toArray⟩ : ByteArray) ++ ⟨b.toArray⟩), ByteArray.data_append, Array.toList_append]
theorem setOther {W : World} {b c : Nat} {t : TypeId} {v : Value} (h : Boxed W b t v) (hne : b ≠ c) (u : Value) : Boxed (W.setCell ⟨c, 0, none⟩ u) b t v := h.other hne u
end Go.Proofs.YtkcklnnmcmjnjaaGreatDoor

