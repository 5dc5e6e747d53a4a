/- Texts put together: PH, RH, PI, PJ, PK, FK, BU, FN, GB, PN, PW, PX, PY, GD, PZ, TF, FO, TB, TC. -/
import Derived.Shelf.Strings.BuilderK
import Derived.Lib.FrozenHead
import Derived.Laws.AppendOwnNone
import Derived.Deep.DeepCutAuto
import Derived.Test.YtiebbgbcojgeoaaGreatDoorBase2
set_option linter.unusedVariables false
/- A line is taken that doesn't go on with a field. (Written by gen_take.py.) -/
namespace Go.Proofs.YtiebbgbcojgeoaaGreatDoor
open Go.RowKit Go.Shelf
attribute [local go_sem] errV_0 errV_2

set_option maxRecDepth 100000 in
set_option maxHeartbeats 4000000 in
theorem take_off1 {w : World} {T : Nat → Nat} {R b : Nat} {text : ByteArray} {p : PS} (h : ParserAt w T R b text p) (hR : R ≤ w.heap.size) (x : Ln) (hi : Inv p x.at_) (hx : x.at_ + x.bytes.length ≤ text.size) (ht : text.size ≤ 70000) (hno : x.no ≤ x.at_) (hg : goesP p x = false) (hk : kindL x.text = 1) :
    Calls Tryz.prog 70 #[.pointer (some ⟨b, 0, none⟩), .agg #[.int .i64 x.no, .int .i64 x.at_, .string (B x.text), .bool x.ended]] w fun e w' => Taken w T R b text p x e w' := by
  have hbl : x.text.length ≤ x.bytes.length := by unfold Ln.bytes; simp
  have K : ∀ w, Calls Tryz.prog 106 #[.string (B x.text)] w fun e w' => e = .returned (.int .i64 1) ∧ Below w.heap.size w w' := fun w => by
    have := kind_any (B x.text) (by rw [B_size]; unfold maxLen; omega) w
    rw [B_data, hk] at this
    exact this
  have hu : kindL x.text = 3 → (!p.said.isEmpty) = false := by
    intro h3; unfold goesP at hg; rw [h3] at hg; simpa using hg
  have hl := h.lt
  have l0 := low_of h
  have H := Lib.hid h
  have C0 := Lib.hid (Cells.new w 138 #[.int .i64 x.no, .int .i64 x.at_, .string (B x.text), .bool x.ended])
  have HB0 := Lib.hid (PStep.below (T := T) ((Below.refl w.heap.size w).alloc (Nat.le_refl _) (.cells #[.int .i64 x.no, .int .i64 x.at_, .string (B x.text), .bool x.ended] 138)))
  have hw : wentP p x = p := by unfold wentP; rw [hg]; rfl
  have hen : endsP p x = true := by unfold endsP; rw [hg]; simp
  have hth : thenP p x = endFieldP p := by unfold thenP; rw [hen, if_pos rfl, hw]
  have hb := hi.said
  have hff : p.fields.length ≤ 1000000 := by have := hi.fields; omega
  have EF := Lib.hid (fun w1 T1 (g : ParserAt w1 T1 R b text p) (s : PStep w T w1 T1) => endField_any2 (p := p) g s hR (by omega) hff)
  clear h
  by_cases h0 : endFieldN p = 0
  · have NO := Lib.hid (fun (hwr : wrongP p x = true) v w' h1 h2 => Taken.no (w := w) (T := T) (R := R) (b := b) (text := text) (p := p) (x := x) (v := v) (w' := w') (a := x.no) (n := 2) (by unfold takeP; rw [hen, hwr, hw, h0]; simp) h1 h2)
    have YES := Lib.hid (fun (hwr : wrongP p x = false) T' w' h1 h2 => Taken.yes (w := w) (T := T) (T' := T') (R := R) (b := b) (text := text) (p := p) (q := putP text.data.toList (endFieldP p) x) (x := x) (w' := w') (by unfold takeP; rw [hen, hwr, hw, h0, hth]; simp) h1 h2)
    cases hend : x.ended
    case false =>
      rw [hend] at C0 HB0
      have hwr : wrongP p x = true := by unfold wrongP; rw [hk, hg, hend]; rfl
      have FIN := Lib.hid (NO.out hwr)
      clear YES NO
      clear hi hb hff hx
      go_enter Tryz.func70, Tryz.ntmps70
      go_wp2_with fail
      refine (K _).mono ?_
      rintro e w1 ⟨rfl, b1⟩
      have s1 := HB0.out.trans (PStep.below b1)
      have P1 : ParserAt w1 T R b text p := (H.out.below ((Below.refl _ _).alloc (Nat.le_refl _) _)).below b1
      have l1 := P1.lt
      have C1 := cells_kept C0.out b1 (by simp)
      have hz1 := s1.only.size
      have d0 : w1.cell? ⟨w.heap.size, 0, none⟩ = some (.int .i64 x.no) := C1.cell 0
      have d1 : w1.cell? ⟨w.heap.size, 1, none⟩ = some (.int .i64 x.at_) := C1.cell 1
      have d2 : w1.cell? ⟨w.heap.size, 2, none⟩ = some (.string (B x.text)) := C1.cell 2
      have d3 : w1.cell? ⟨w.heap.size, 3, none⟩ = some (.bool false) := C1.cell 3
      have lz := C1.lt
      clear b1 H C0 HB0
      go_wp2_with fail
      refine (EF.out _ T P1 s1).mono ?_
      rintro e w3 hE
      rw [if_pos h0] at hE
      obtain ⟨rfl, T3, g3, s3, s13⟩ := hE
      have C3 := C1.only s13.only (fun e => e (l0))
      have d0' : w3.cell? ⟨w.heap.size, 0, none⟩ = some (.int .i64 x.no) := C3.cell 0
      have d1' : w3.cell? ⟨w.heap.size, 1, none⟩ = some (.int .i64 x.at_) := C3.cell 1
      have d2' : w3.cell? ⟨w.heap.size, 2, none⟩ = some (.string (B x.text)) := C3.cell 2
      have lz3 := C3.lt
      have l3 := g3.lt
      go_wp2
      go_ret
      exact FIN.out _ _ (FaultAt.new _ _ 2 _ w3.heap.size rfl (by omega)) (s3.only.alloc _)
    case true =>
      rw [hend] at C0 HB0
      have hwr : wrongP p x = false := by unfold wrongP; rw [hk, hg, hend]; rfl
      have FIN := Lib.hid (YES.out hwr)
      clear YES NO
      have hbe : x.bytes.length = x.text.length + 1 := by unfold Ln.bytes; rw [hend]; simp
      have eP : putP text.data.toList (endFieldP p) x = endItemP text.data.toList (endBlockP text.data.toList (endFieldP p) x.at_) 1 (x.at_ + x.text.length + 1) := by unfold putP; rw [hk]; rfl
      rw [eP] at FIN
      have hi2 := hi.endField
      have hi3 := hi2.endBlock text.data.toList x.at_ hi2.at_ (Nat.le_refl _)
      have a3 := endBlock_at text.data.toList (endFieldP p) x.at_ hi2.at_
      have n1 : IntKind.i64.wrap ((x.at_ : Int) + (x.text.length : Int)) = (x.at_ : Int) + (x.text.length : Int) := IntWalk.i64_in _ (by omega)
      have n2 : IntKind.i64.wrap ((x.at_ : Int) + (x.text.length : Int) + 1) = (x.at_ : Int) + (x.text.length : Int) + 1 := IntWalk.i64_in _ (by omega)
      have zB := B_size x.text
      have HB := Lib.hid (fun w3 T3 (g : ParserAt w3 T3 R b text (endFieldP p)) hR3 => endBlock_any g hR3 x.at_ hi2.at_ (by omega) (by omega) (by have := hi2.items; have := hi2.at_; omega) (by have := hi2.stanzas; have := hi2.at_; omega))
      have HI := Lib.hid (fun w3 T3 V3 (g : ParserV w3 T3 R b text (endBlockP text.data.toList (endFieldP p) x.at_) V3) hR3 => endItem_any g hR3 1 (x.at_ + x.text.length + 1) (by omega) (by omega) (by omega) (by have := hi3.items; omega))
      clear hi hb hff hi3 hi2 a3
      go_enter Tryz.func70, Tryz.ntmps70
      go_wp2_with fail
      refine (K _).mono ?_
      rintro e w1 ⟨rfl, b1⟩
      have s1 := HB0.out.trans (PStep.below b1)
      have P1 : ParserAt w1 T R b text p := (H.out.below ((Below.refl _ _).alloc (Nat.le_refl _) _)).below b1
      have l1 := P1.lt
      have C1 := cells_kept C0.out b1 (by simp)
      have hz1 := s1.only.size
      have d0 : w1.cell? ⟨w.heap.size, 0, none⟩ = some (.int .i64 x.no) := C1.cell 0
      have d1 : w1.cell? ⟨w.heap.size, 1, none⟩ = some (.int .i64 x.at_) := C1.cell 1
      have d2 : w1.cell? ⟨w.heap.size, 2, none⟩ = some (.string (B x.text)) := C1.cell 2
      have d3 : w1.cell? ⟨w.heap.size, 3, none⟩ = some (.bool true) := C1.cell 3
      have lz := C1.lt
      clear b1 H C0 HB0
      go_wp2_with fail
      refine (EF.out _ T P1 s1).mono ?_
      rintro e w3 hE
      rw [if_pos h0] at hE
      obtain ⟨rfl, T3, g3, s3, s13⟩ := hE
      have C3 := C1.only s13.only (fun e => e (l0))
      have d0' : w3.cell? ⟨w.heap.size, 0, none⟩ = some (.int .i64 x.no) := C3.cell 0
      have d1' : w3.cell? ⟨w.heap.size, 1, none⟩ = some (.int .i64 x.at_) := C3.cell 1
      have d2' : w3.cell? ⟨w.heap.size, 2, none⟩ = some (.string (B x.text)) := C3.cell 2
      have lz3 := C3.lt
      have l3 := g3.lt
      have hz3 : R ≤ w3.heap.size := Nat.le_trans hR s3.only.size
      go_wp2_with fail
      refine (HB.out _ T3 g3 hz3).mono ?_
      rintro e w4 ⟨rfl, T4, g4, s4⟩
      have C4 := C3.only s4.only (fun e => e ((s13.old _ lz).2 l0))
      have e1' : w4.cell? ⟨w.heap.size, 1, none⟩ = some (.int .i64 x.at_) := C4.cell 1
      have e2' : w4.cell? ⟨w.heap.size, 2, none⟩ = some (.string (B x.text)) := C4.cell 2
      have lz4 := C4.lt
      have hz4 : R ≤ w4.heap.size := Nat.le_trans hz3 s4.only.size
      have l4 := g4.lt
      obtain ⟨V4, g4⟩ := g4
      go_wp2_with fail
      rw [show Value.int .i64 ((x.at_ : Int) + (x.text.length : Int) + 1) = Value.int .i64 ((x.at_ + x.text.length + 1 : Nat) : Int) from rfl]
      refine (HI.out _ T4 V4 g4 hz4).mono ?_
      rintro e w5 ⟨rfl, T5, g5, s5⟩
      go_wp2
      go_ret
      exact FIN.out T5 _ g5 ((s3.trans s4).trans s5)
  · have FIN := Lib.hid (fun v w' h1 h2 => Taken.no (w := w) (T := T) (R := R) (b := b) (text := text) (p := p) (x := x) (v := v) (w' := w') (a := p.begin_) (n := endFieldN p) (by unfold takeP; rw [hen, hw, if_pos ⟨rfl, h0⟩]) h1 h2)
    clear hi hb hff hx
    cases hend : x.ended
    case false =>
      rw [hend] at C0 HB0
      go_enter Tryz.func70, Tryz.ntmps70
      go_wp2_with fail
      refine (K _).mono ?_
      rintro e w1 ⟨rfl, b1⟩
      have s1 := HB0.out.trans (PStep.below b1)
      have P1 : ParserAt w1 T R b text p := (H.out.below ((Below.refl _ _).alloc (Nat.le_refl _) _)).below b1
      have l1 := P1.lt
      have C1 := cells_kept C0.out b1 (by simp)
      have hz1 := s1.only.size
      have d0 : w1.cell? ⟨w.heap.size, 0, none⟩ = some (.int .i64 x.no) := C1.cell 0
      have d1 : w1.cell? ⟨w.heap.size, 1, none⟩ = some (.int .i64 x.at_) := C1.cell 1
      have d2 : w1.cell? ⟨w.heap.size, 2, none⟩ = some (.string (B x.text)) := C1.cell 2
      have d3 : w1.cell? ⟨w.heap.size, 3, none⟩ = some (.bool false) := C1.cell 3
      have lz := C1.lt
      clear b1 H C0 HB0
      go_wp2_with fail
      refine (EF.out _ T P1 s1).mono ?_
      rintro e w3 hE
      rw [if_neg h0] at hE
      obtain ⟨v, rfl, f3, o3, _, a3, rfl⟩ := hE
      go_wp2
      go_ret
      exact FIN.out _ _ f3 o3
    case true =>
      rw [hend] at C0 HB0
      go_enter Tryz.func70, Tryz.ntmps70
      go_wp2_with fail
      refine (K _).mono ?_
      rintro e w1 ⟨rfl, b1⟩
      have s1 := HB0.out.trans (PStep.below b1)
      have P1 : ParserAt w1 T R b text p := (H.out.below ((Below.refl _ _).alloc (Nat.le_refl _) _)).below b1
      have l1 := P1.lt
      have C1 := cells_kept C0.out b1 (by simp)
      have hz1 := s1.only.size
      have d0 : w1.cell? ⟨w.heap.size, 0, none⟩ = some (.int .i64 x.no) := C1.cell 0
      have d1 : w1.cell? ⟨w.heap.size, 1, none⟩ = some (.int .i64 x.at_) := C1.cell 1
      have d2 : w1.cell? ⟨w.heap.size, 2, none⟩ = some (.string (B x.text)) := C1.cell 2
      have d3 : w1.cell? ⟨w.heap.size, 3, none⟩ = some (.bool true) := C1.cell 3
      have lz := C1.lt
      clear b1 H C0 HB0
      go_wp2_with fail
      refine (EF.out _ T P1 s1).mono ?_
      rintro e w3 hE
      rw [if_neg h0] at hE
      obtain ⟨v, rfl, f3, o3, _, a3, rfl⟩ := hE
      go_wp2
      go_ret
      exact FIN.out _ _ f3 o3
set_option maxRecDepth 100000 in
set_option maxHeartbeats 4000000 in
theorem take_off2 {w : World} {T : Nat → Nat} {R b : Nat} {text : ByteArray} {p : PS} (h : ParserAt w T R b text p) (hR : R ≤ w.heap.size) (x : Ln) (hi : Inv p x.at_) (hx : x.at_ + x.bytes.length ≤ text.size) (ht : text.size ≤ 70000) (hno : x.no ≤ x.at_) (hg : goesP p x = false) (hk : kindL x.text = 2) :
    Calls Tryz.prog 70 #[.pointer (some ⟨b, 0, none⟩), .agg #[.int .i64 x.no, .int .i64 x.at_, .string (B x.text), .bool x.ended]] w fun e w' => Taken w T R b text p x e w' := by
  have hbl : x.text.length ≤ x.bytes.length := by unfold Ln.bytes; simp
  have K : ∀ w, Calls Tryz.prog 106 #[.string (B x.text)] w fun e w' => e = .returned (.int .i64 2) ∧ Below w.heap.size w w' := fun w => by
    have := kind_any (B x.text) (by rw [B_size]; unfold maxLen; omega) w
    rw [B_data, hk] at this
    exact this
  have hu : kindL x.text = 3 → (!p.said.isEmpty) = false := by
    intro h3; unfold goesP at hg; rw [h3] at hg; simpa using hg
  have hl := h.lt
  have l0 := low_of h
  have H := Lib.hid h
  have C0 := Lib.hid (Cells.new w 138 #[.int .i64 x.no, .int .i64 x.at_, .string (B x.text), .bool x.ended])
  have HB0 := Lib.hid (PStep.below (T := T) ((Below.refl w.heap.size w).alloc (Nat.le_refl _) (.cells #[.int .i64 x.no, .int .i64 x.at_, .string (B x.text), .bool x.ended] 138)))
  have hw : wentP p x = p := by unfold wentP; rw [hg]; rfl
  have hen : endsP p x = true := by unfold endsP; rw [hg]; simp
  have hth : thenP p x = endFieldP p := by unfold thenP; rw [hen, if_pos rfl, hw]
  have hb := hi.said
  have hff : p.fields.length ≤ 1000000 := by have := hi.fields; omega
  have EF := Lib.hid (fun w1 T1 (g : ParserAt w1 T1 R b text p) (s : PStep w T w1 T1) => endField_any2 (p := p) g s hR (by omega) hff)
  clear h
  by_cases h0 : endFieldN p = 0
  · have NO := Lib.hid (fun (hwr : wrongP p x = true) v w' h1 h2 => Taken.no (w := w) (T := T) (R := R) (b := b) (text := text) (p := p) (x := x) (v := v) (w' := w') (a := x.no) (n := 2) (by unfold takeP; rw [hen, hwr, hw, h0]; simp) h1 h2)
    have YES := Lib.hid (fun (hwr : wrongP p x = false) T' w' h1 h2 => Taken.yes (w := w) (T := T) (T' := T') (R := R) (b := b) (text := text) (p := p) (q := putP text.data.toList (endFieldP p) x) (x := x) (w' := w') (by unfold takeP; rw [hen, hwr, hw, h0, hth]; simp) h1 h2)
    cases hend : x.ended
    case false =>
      rw [hend] at C0 HB0
      have hwr : wrongP p x = true := by unfold wrongP; rw [hk, hg, hend]; rfl
      have FIN := Lib.hid (NO.out hwr)
      clear YES NO
      clear hi hb hff hx
      go_enter Tryz.func70, Tryz.ntmps70
      go_wp2_with fail
      refine (K _).mono ?_
      rintro e w1 ⟨rfl, b1⟩
      have s1 := HB0.out.trans (PStep.below b1)
      have P1 : ParserAt w1 T R b text p := (H.out.below ((Below.refl _ _).alloc (Nat.le_refl _) _)).below b1
      have l1 := P1.lt
      have C1 := cells_kept C0.out b1 (by simp)
      have hz1 := s1.only.size
      have d0 : w1.cell? ⟨w.heap.size, 0, none⟩ = some (.int .i64 x.no) := C1.cell 0
      have d1 : w1.cell? ⟨w.heap.size, 1, none⟩ = some (.int .i64 x.at_) := C1.cell 1
      have d2 : w1.cell? ⟨w.heap.size, 2, none⟩ = some (.string (B x.text)) := C1.cell 2
      have d3 : w1.cell? ⟨w.heap.size, 3, none⟩ = some (.bool false) := C1.cell 3
      have lz := C1.lt
      clear b1 H C0 HB0
      go_wp2_with fail
      refine (EF.out _ T P1 s1).mono ?_
      rintro e w3 hE
      rw [if_pos h0] at hE
      obtain ⟨rfl, T3, g3, s3, s13⟩ := hE
      have C3 := C1.only s13.only (fun e => e (l0))
      have d0' : w3.cell? ⟨w.heap.size, 0, none⟩ = some (.int .i64 x.no) := C3.cell 0
      have d1' : w3.cell? ⟨w.heap.size, 1, none⟩ = some (.int .i64 x.at_) := C3.cell 1
      have d2' : w3.cell? ⟨w.heap.size, 2, none⟩ = some (.string (B x.text)) := C3.cell 2
      have lz3 := C3.lt
      have l3 := g3.lt
      go_wp2
      go_ret
      exact FIN.out _ _ (FaultAt.new _ _ 2 _ w3.heap.size rfl (by omega)) (s3.only.alloc _)
    case true =>
      rw [hend] at C0 HB0
      have hwr : wrongP p x = false := by unfold wrongP; rw [hk, hg, hend]; rfl
      have FIN := Lib.hid (YES.out hwr)
      clear YES NO
      have hbe : x.bytes.length = x.text.length + 1 := by unfold Ln.bytes; rw [hend]; simp
      have eP : putP text.data.toList (endFieldP p) x = endFieldP p := by unfold putP; rw [hk]; rfl
      rw [eP] at FIN
      clear hi hb hff hx
      go_enter Tryz.func70, Tryz.ntmps70
      go_wp2_with fail
      refine (K _).mono ?_
      rintro e w1 ⟨rfl, b1⟩
      have s1 := HB0.out.trans (PStep.below b1)
      have P1 : ParserAt w1 T R b text p := (H.out.below ((Below.refl _ _).alloc (Nat.le_refl _) _)).below b1
      have l1 := P1.lt
      have C1 := cells_kept C0.out b1 (by simp)
      have hz1 := s1.only.size
      have d0 : w1.cell? ⟨w.heap.size, 0, none⟩ = some (.int .i64 x.no) := C1.cell 0
      have d1 : w1.cell? ⟨w.heap.size, 1, none⟩ = some (.int .i64 x.at_) := C1.cell 1
      have d2 : w1.cell? ⟨w.heap.size, 2, none⟩ = some (.string (B x.text)) := C1.cell 2
      have d3 : w1.cell? ⟨w.heap.size, 3, none⟩ = some (.bool true) := C1.cell 3
      have lz := C1.lt
      clear b1 H C0 HB0
      go_wp2_with fail
      refine (EF.out _ T P1 s1).mono ?_
      rintro e w3 hE
      rw [if_pos h0] at hE
      obtain ⟨rfl, T3, g3, s3, s13⟩ := hE
      have C3 := C1.only s13.only (fun e => e (l0))
      have d0' : w3.cell? ⟨w.heap.size, 0, none⟩ = some (.int .i64 x.no) := C3.cell 0
      have d1' : w3.cell? ⟨w.heap.size, 1, none⟩ = some (.int .i64 x.at_) := C3.cell 1
      have d2' : w3.cell? ⟨w.heap.size, 2, none⟩ = some (.string (B x.text)) := C3.cell 2
      have lz3 := C3.lt
      have l3 := g3.lt
      go_wp2
      go_ret
      exact FIN.out _ _ g3 s3
  · have FIN := Lib.hid (fun v w' h1 h2 => Taken.no (w := w) (T := T) (R := R) (b := b) (text := text) (p := p) (x := x) (v := v) (w' := w') (a := p.begin_) (n := endFieldN p) (by unfold takeP; rw [hen, hw, if_pos ⟨rfl, h0⟩]) h1 h2)
    clear hi hb hff hx
    cases hend : x.ended
    case false =>
      rw [hend] at C0 HB0
      go_enter Tryz.func70, Tryz.ntmps70
      go_wp2_with fail
      refine (K _).mono ?_
      rintro e w1 ⟨rfl, b1⟩
      have s1 := HB0.out.trans (PStep.below b1)
      have P1 : ParserAt w1 T R b text p := (H.out.below ((Below.refl _ _).alloc (Nat.le_refl _) _)).below b1
      have l1 := P1.lt
      have C1 := cells_kept C0.out b1 (by simp)
      have hz1 := s1.only.size
      have d0 : w1.cell? ⟨w.heap.size, 0, none⟩ = some (.int .i64 x.no) := C1.cell 0
      have d1 : w1.cell? ⟨w.heap.size, 1, none⟩ = some (.int .i64 x.at_) := C1.cell 1
      have d2 : w1.cell? ⟨w.heap.size, 2, none⟩ = some (.string (B x.text)) := C1.cell 2
      have d3 : w1.cell? ⟨w.heap.size, 3, none⟩ = some (.bool false) := C1.cell 3
      have lz := C1.lt
      clear b1 H C0 HB0
      go_wp2_with fail
      refine (EF.out _ T P1 s1).mono ?_
      rintro e w3 hE
      rw [if_neg h0] at hE
      obtain ⟨v, rfl, f3, o3, _, a3, rfl⟩ := hE
      go_wp2
      go_ret
      exact FIN.out _ _ f3 o3
    case true =>
      rw [hend] at C0 HB0
      go_enter Tryz.func70, Tryz.ntmps70
      go_wp2_with fail
      refine (K _).mono ?_
      rintro e w1 ⟨rfl, b1⟩
      have s1 := HB0.out.trans (PStep.below b1)
      have P1 : ParserAt w1 T R b text p := (H.out.below ((Below.refl _ _).alloc (Nat.le_refl _) _)).below b1
      have l1 := P1.lt
      have C1 := cells_kept C0.out b1 (by simp)
      have hz1 := s1.only.size
      have d0 : w1.cell? ⟨w.heap.size, 0, none⟩ = some (.int .i64 x.no) := C1.cell 0
      have d1 : w1.cell? ⟨w.heap.size, 1, none⟩ = some (.int .i64 x.at_) := C1.cell 1
      have d2 : w1.cell? ⟨w.heap.size, 2, none⟩ = some (.string (B x.text)) := C1.cell 2
      have d3 : w1.cell? ⟨w.heap.size, 3, none⟩ = some (.bool true) := C1.cell 3
      have lz := C1.lt
      clear b1 H C0 HB0
      go_wp2_with fail
      refine (EF.out _ T P1 s1).mono ?_
      rintro e w3 hE
      rw [if_neg h0] at hE
      obtain ⟨v, rfl, f3, o3, _, a3, rfl⟩ := hE
      go_wp2
      go_ret
      exact FIN.out _ _ f3 o3
set_option maxRecDepth 100000 in
set_option maxHeartbeats 4000000 in
theorem take_off3 {w : World} {T : Nat → Nat} {R b : Nat} {text : ByteArray} {p : PS} (h : ParserAt w T R b text p) (hR : R ≤ w.heap.size) (x : Ln) (hi : Inv p x.at_) (hx : x.at_ + x.bytes.length ≤ text.size) (ht : text.size ≤ 70000) (hno : x.no ≤ x.at_) (hg : goesP p x = false) (hk : kindL x.text = 3) :
    Calls Tryz.prog 70 #[.pointer (some ⟨b, 0, none⟩), .agg #[.int .i64 x.no, .int .i64 x.at_, .string (B x.text), .bool x.ended]] w fun e w' => Taken w T R b text p x e w' := by
  have hbl : x.text.length ≤ x.bytes.length := by unfold Ln.bytes; simp
  have K : ∀ w, Calls Tryz.prog 106 #[.string (B x.text)] w fun e w' => e = .returned (.int .i64 3) ∧ Below w.heap.size w w' := fun w => by
    have := kind_any (B x.text) (by rw [B_size]; unfold maxLen; omega) w
    rw [B_data, hk] at this
    exact this
  have hu : kindL x.text = 3 → (!p.said.isEmpty) = false := by
    intro h3; unfold goesP at hg; rw [h3] at hg; simpa using hg
  have hl := h.lt
  have l0 := low_of h
  have H := Lib.hid h
  have C0 := Lib.hid (Cells.new w 138 #[.int .i64 x.no, .int .i64 x.at_, .string (B x.text), .bool x.ended])
  have HB0 := Lib.hid (PStep.below (T := T) ((Below.refl w.heap.size w).alloc (Nat.le_refl _) (.cells #[.int .i64 x.no, .int .i64 x.at_, .string (B x.text), .bool x.ended] 138)))
  have hw : wentP p x = p := by unfold wentP; rw [hg]; rfl
  have hen : endsP p x = true := by unfold endsP; rw [hg]; simp
  have hth : thenP p x = endFieldP p := by unfold thenP; rw [hen, if_pos rfl, hw]
  have hb := hi.said
  have hff : p.fields.length ≤ 1000000 := by have := hi.fields; omega
  have EF := Lib.hid (fun w1 T1 (g : ParserAt w1 T1 R b text p) (s : PStep w T w1 T1) => endField_any2 (p := p) g s hR (by omega) hff)
  clear h
  by_cases h0 : endFieldN p = 0
  · have NO := Lib.hid (fun (hwr : wrongP p x = true) v w' h1 h2 => Taken.no (w := w) (T := T) (R := R) (b := b) (text := text) (p := p) (x := x) (v := v) (w' := w') (a := x.no) (n := 2) (by unfold takeP; rw [hen, hwr, hw, h0]; simp) h1 h2)
    have YES := Lib.hid (fun (hwr : wrongP p x = false) T' w' h1 h2 => Taken.yes (w := w) (T := T) (T' := T') (R := R) (b := b) (text := text) (p := p) (q := putP text.data.toList (endFieldP p) x) (x := x) (w' := w') (by unfold takeP; rw [hen, hwr, hw, h0, hth]; simp) h1 h2)
    cases hend : x.ended
    case false =>
      rw [hend] at C0 HB0
      have hwr : wrongP p x = true := by unfold wrongP; rw [hk, hg, hend]; rfl
      have FIN := Lib.hid (NO.out hwr)
      clear YES NO
      clear hi hb hff hx
      go_enter Tryz.func70, Tryz.ntmps70
      go_wp2_with fail
      refine (K _).mono ?_
      rintro e w1 ⟨rfl, b1⟩
      have s1 := HB0.out.trans (PStep.below b1)
      have P1 : ParserAt w1 T R b text p := (H.out.below ((Below.refl _ _).alloc (Nat.le_refl _) _)).below b1
      have l1 := P1.lt
      have C1 := cells_kept C0.out b1 (by simp)
      have hz1 := s1.only.size
      have d0 : w1.cell? ⟨w.heap.size, 0, none⟩ = some (.int .i64 x.no) := C1.cell 0
      have d1 : w1.cell? ⟨w.heap.size, 1, none⟩ = some (.int .i64 x.at_) := C1.cell 1
      have d2 : w1.cell? ⟨w.heap.size, 2, none⟩ = some (.string (B x.text)) := C1.cell 2
      have d3 : w1.cell? ⟨w.heap.size, 3, none⟩ = some (.bool false) := C1.cell 3
      have lz := C1.lt
      clear b1 H C0 HB0
      go_wp2_with fail
      obtain ⟨V1, PV1⟩ := P1
      refine (under_any PV1).mono ?_
      rw [hu hk]
      rintro e w2 ⟨rfl, rfl⟩
      replace P1 : ParserAt w1 T R b text p := ⟨V1, PV1⟩
      clear PV1
      go_wp2_with fail
      refine (EF.out _ T P1 s1).mono ?_
      rintro e w3 hE
      rw [if_pos h0] at hE
      obtain ⟨rfl, T3, g3, s3, s13⟩ := hE
      have C3 := C1.only s13.only (fun e => e (l0))
      have d0' : w3.cell? ⟨w.heap.size, 0, none⟩ = some (.int .i64 x.no) := C3.cell 0
      have d1' : w3.cell? ⟨w.heap.size, 1, none⟩ = some (.int .i64 x.at_) := C3.cell 1
      have d2' : w3.cell? ⟨w.heap.size, 2, none⟩ = some (.string (B x.text)) := C3.cell 2
      have lz3 := C3.lt
      have l3 := g3.lt
      go_wp2
      go_ret
      exact FIN.out _ _ (FaultAt.new _ _ 2 _ w3.heap.size rfl (by omega)) (s3.only.alloc _)
    case true =>
      rw [hend] at C0 HB0
      have hwr : wrongP p x = true := by unfold wrongP; rw [hk, hg, hend]; rfl
      have FIN := Lib.hid (NO.out hwr)
      clear YES NO
      clear hi hb hff hx
      go_enter Tryz.func70, Tryz.ntmps70
      go_wp2_with fail
      refine (K _).mono ?_
      rintro e w1 ⟨rfl, b1⟩
      have s1 := HB0.out.trans (PStep.below b1)
      have P1 : ParserAt w1 T R b text p := (H.out.below ((Below.refl _ _).alloc (Nat.le_refl _) _)).below b1
      have l1 := P1.lt
      have C1 := cells_kept C0.out b1 (by simp)
      have hz1 := s1.only.size
      have d0 : w1.cell? ⟨w.heap.size, 0, none⟩ = some (.int .i64 x.no) := C1.cell 0
      have d1 : w1.cell? ⟨w.heap.size, 1, none⟩ = some (.int .i64 x.at_) := C1.cell 1
      have d2 : w1.cell? ⟨w.heap.size, 2, none⟩ = some (.string (B x.text)) := C1.cell 2
      have d3 : w1.cell? ⟨w.heap.size, 3, none⟩ = some (.bool true) := C1.cell 3
      have lz := C1.lt
      clear b1 H C0 HB0
      go_wp2_with fail
      obtain ⟨V1, PV1⟩ := P1
      refine (under_any PV1).mono ?_
      rw [hu hk]
      rintro e w2 ⟨rfl, rfl⟩
      replace P1 : ParserAt w1 T R b text p := ⟨V1, PV1⟩
      clear PV1
      go_wp2_with fail
      refine (EF.out _ T P1 s1).mono ?_
      rintro e w3 hE
      rw [if_pos h0] at hE
      obtain ⟨rfl, T3, g3, s3, s13⟩ := hE
      have C3 := C1.only s13.only (fun e => e (l0))
      have d0' : w3.cell? ⟨w.heap.size, 0, none⟩ = some (.int .i64 x.no) := C3.cell 0
      have d1' : w3.cell? ⟨w.heap.size, 1, none⟩ = some (.int .i64 x.at_) := C3.cell 1
      have d2' : w3.cell? ⟨w.heap.size, 2, none⟩ = some (.string (B x.text)) := C3.cell 2
      have lz3 := C3.lt
      have l3 := g3.lt
      go_wp2
      go_ret
      exact FIN.out _ _ (FaultAt.new _ _ 2 _ w3.heap.size rfl (by omega)) (s3.only.alloc _)
  · have FIN := Lib.hid (fun v w' h1 h2 => Taken.no (w := w) (T := T) (R := R) (b := b) (text := text) (p := p) (x := x) (v := v) (w' := w') (a := p.begin_) (n := endFieldN p) (by unfold takeP; rw [hen, hw, if_pos ⟨rfl, h0⟩]) h1 h2)
    clear hi hb hff hx
    cases hend : x.ended
    case false =>
      rw [hend] at C0 HB0
      go_enter Tryz.func70, Tryz.ntmps70
      go_wp2_with fail
      refine (K _).mono ?_
      rintro e w1 ⟨rfl, b1⟩
      have s1 := HB0.out.trans (PStep.below b1)
      have P1 : ParserAt w1 T R b text p := (H.out.below ((Below.refl _ _).alloc (Nat.le_refl _) _)).below b1
      have l1 := P1.lt
      have C1 := cells_kept C0.out b1 (by simp)
      have hz1 := s1.only.size
      have d0 : w1.cell? ⟨w.heap.size, 0, none⟩ = some (.int .i64 x.no) := C1.cell 0
      have d1 : w1.cell? ⟨w.heap.size, 1, none⟩ = some (.int .i64 x.at_) := C1.cell 1
      have d2 : w1.cell? ⟨w.heap.size, 2, none⟩ = some (.string (B x.text)) := C1.cell 2
      have d3 : w1.cell? ⟨w.heap.size, 3, none⟩ = some (.bool false) := C1.cell 3
      have lz := C1.lt
      clear b1 H C0 HB0
      go_wp2_with fail
      obtain ⟨V1, PV1⟩ := P1
      refine (under_any PV1).mono ?_
      rw [hu hk]
      rintro e w2 ⟨rfl, rfl⟩
      replace P1 : ParserAt w1 T R b text p := ⟨V1, PV1⟩
      clear PV1
      go_wp2_with fail
      refine (EF.out _ T P1 s1).mono ?_
      rintro e w3 hE
      rw [if_neg h0] at hE
      obtain ⟨v, rfl, f3, o3, _, a3, rfl⟩ := hE
      go_wp2
      go_ret
      exact FIN.out _ _ f3 o3
    case true =>
      rw [hend] at C0 HB0
      go_enter Tryz.func70, Tryz.ntmps70
      go_wp2_with fail
      refine (K _).mono ?_
      rintro e w1 ⟨rfl, b1⟩
      have s1 := HB0.out.trans (PStep.below b1)
      have P1 : ParserAt w1 T R b text p := (H.out.below ((Below.refl _ _).alloc (Nat.le_refl _) _)).below b1
      have l1 := P1.lt
      have C1 := cells_kept C0.out b1 (by simp)
      have hz1 := s1.only.size
      have d0 : w1.cell? ⟨w.heap.size, 0, none⟩ = some (.int .i64 x.no) := C1.cell 0
      have d1 : w1.cell? ⟨w.heap.size, 1, none⟩ = some (.int .i64 x.at_) := C1.cell 1
      have d2 : w1.cell? ⟨w.heap.size, 2, none⟩ = some (.string (B x.text)) := C1.cell 2
      have d3 : w1.cell? ⟨w.heap.size, 3, none⟩ = some (.bool true) := C1.cell 3
      have lz := C1.lt
      clear b1 H C0 HB0
      go_wp2_with fail
      obtain ⟨V1, PV1⟩ := P1
      refine (under_any PV1).mono ?_
      rw [hu hk]
      rintro e w2 ⟨rfl, rfl⟩
      replace P1 : ParserAt w1 T R b text p := ⟨V1, PV1⟩
      clear PV1
      go_wp2_with fail
      refine (EF.out _ T P1 s1).mono ?_
      rintro e w3 hE
      rw [if_neg h0] at hE
      obtain ⟨v, rfl, f3, o3, _, a3, rfl⟩ := hE
      go_wp2
      go_ret
      exact FIN.out _ _ f3 o3
set_option maxRecDepth 100000 in
set_option maxHeartbeats 4000000 in
theorem take_off4 {w : World} {T : Nat → Nat} {R b : Nat} {text : ByteArray} {p : PS} (h : ParserAt w T R b text p) (hR : R ≤ w.heap.size) (x : Ln) (hi : Inv p x.at_) (hx : x.at_ + x.bytes.length ≤ text.size) (ht : text.size ≤ 70000) (hno : x.no ≤ x.at_) (hg : goesP p x = false) (hk : kindL x.text = 4) :
    Calls Tryz.prog 70 #[.pointer (some ⟨b, 0, none⟩), .agg #[.int .i64 x.no, .int .i64 x.at_, .string (B x.text), .bool x.ended]] w fun e w' => Taken w T R b text p x e w' := by
  have hbl : x.text.length ≤ x.bytes.length := by unfold Ln.bytes; simp
  have K : ∀ w, Calls Tryz.prog 106 #[.string (B x.text)] w fun e w' => e = .returned (.int .i64 4) ∧ Below w.heap.size w w' := fun w => by
    have := kind_any (B x.text) (by rw [B_size]; unfold maxLen; omega) w
    rw [B_data, hk] at this
    exact this
  have hu : kindL x.text = 3 → (!p.said.isEmpty) = false := by
    intro h3; unfold goesP at hg; rw [h3] at hg; simpa using hg
  have hl := h.lt
  have l0 := low_of h
  have H := Lib.hid h
  have C0 := Lib.hid (Cells.new w 138 #[.int .i64 x.no, .int .i64 x.at_, .string (B x.text), .bool x.ended])
  have HB0 := Lib.hid (PStep.below (T := T) ((Below.refl w.heap.size w).alloc (Nat.le_refl _) (.cells #[.int .i64 x.no, .int .i64 x.at_, .string (B x.text), .bool x.ended] 138)))
  have hw : wentP p x = p := by unfold wentP; rw [hg]; rfl
  have hen : endsP p x = true := by unfold endsP; rw [hg]; simp
  have hth : thenP p x = endFieldP p := by unfold thenP; rw [hen, if_pos rfl, hw]
  have hb := hi.said
  have hff : p.fields.length ≤ 1000000 := by have := hi.fields; omega
  have EF := Lib.hid (fun w1 T1 (g : ParserAt w1 T1 R b text p) (s : PStep w T w1 T1) => endField_any2 (p := p) g s hR (by omega) hff)
  clear h
  by_cases h0 : endFieldN p = 0
  · have NO := Lib.hid (fun (hwr : wrongP p x = true) v w' h1 h2 => Taken.no (w := w) (T := T) (R := R) (b := b) (text := text) (p := p) (x := x) (v := v) (w' := w') (a := x.no) (n := 2) (by unfold takeP; rw [hen, hwr, hw, h0]; simp) h1 h2)
    have YES := Lib.hid (fun (hwr : wrongP p x = false) T' w' h1 h2 => Taken.yes (w := w) (T := T) (T' := T') (R := R) (b := b) (text := text) (p := p) (q := putP text.data.toList (endFieldP p) x) (x := x) (w' := w') (by unfold takeP; rw [hen, hwr, hw, h0, hth]; simp) h1 h2)
    cases hend : x.ended
    case false =>
      rw [hend] at C0 HB0
      have hwr : wrongP p x = true := by unfold wrongP; rw [hk, hg, hend]; rfl
      have FIN := Lib.hid (NO.out hwr)
      clear YES NO
      clear hi hb hff hx
      go_enter Tryz.func70, Tryz.ntmps70
      go_wp2_with fail
      refine (K _).mono ?_
      rintro e w1 ⟨rfl, b1⟩
      have s1 := HB0.out.trans (PStep.below b1)
      have P1 : ParserAt w1 T R b text p := (H.out.below ((Below.refl _ _).alloc (Nat.le_refl _) _)).below b1
      have l1 := P1.lt
      have C1 := cells_kept C0.out b1 (by simp)
      have hz1 := s1.only.size
      have d0 : w1.cell? ⟨w.heap.size, 0, none⟩ = some (.int .i64 x.no) := C1.cell 0
      have d1 : w1.cell? ⟨w.heap.size, 1, none⟩ = some (.int .i64 x.at_) := C1.cell 1
      have d2 : w1.cell? ⟨w.heap.size, 2, none⟩ = some (.string (B x.text)) := C1.cell 2
      have d3 : w1.cell? ⟨w.heap.size, 3, none⟩ = some (.bool false) := C1.cell 3
      have lz := C1.lt
      clear b1 H C0 HB0
      go_wp2_with fail
      refine (EF.out _ T P1 s1).mono ?_
      rintro e w3 hE
      rw [if_pos h0] at hE
      obtain ⟨rfl, T3, g3, s3, s13⟩ := hE
      have C3 := C1.only s13.only (fun e => e (l0))
      have d0' : w3.cell? ⟨w.heap.size, 0, none⟩ = some (.int .i64 x.no) := C3.cell 0
      have d1' : w3.cell? ⟨w.heap.size, 1, none⟩ = some (.int .i64 x.at_) := C3.cell 1
      have d2' : w3.cell? ⟨w.heap.size, 2, none⟩ = some (.string (B x.text)) := C3.cell 2
      have lz3 := C3.lt
      have l3 := g3.lt
      go_wp2
      go_ret
      exact FIN.out _ _ (FaultAt.new _ _ 2 _ w3.heap.size rfl (by omega)) (s3.only.alloc _)
    case true =>
      rw [hend] at C0 HB0
      have hwr : wrongP p x = false := by unfold wrongP; rw [hk, hg, hend]; rfl
      have FIN := Lib.hid (YES.out hwr)
      clear YES NO
      have hbe : x.bytes.length = x.text.length + 1 := by unfold Ln.bytes; rw [hend]; simp
      have eP : putP text.data.toList (endFieldP p) x = startP (endFieldP p) x := by unfold putP startP; rw [hk, if_pos rfl]
      rw [eP] at FIN
      have HS := Lib.hid (fun w3 T3 V3 (g : ParserV w3 T3 R b text (endFieldP p) V3) hR3 => start_any g hR3 x)
      rw [hend] at HS
      clear hi hb hff hx
      go_enter Tryz.func70, Tryz.ntmps70
      go_wp2_with fail
      refine (K _).mono ?_
      rintro e w1 ⟨rfl, b1⟩
      have s1 := HB0.out.trans (PStep.below b1)
      have P1 : ParserAt w1 T R b text p := (H.out.below ((Below.refl _ _).alloc (Nat.le_refl _) _)).below b1
      have l1 := P1.lt
      have C1 := cells_kept C0.out b1 (by simp)
      have hz1 := s1.only.size
      have d0 : w1.cell? ⟨w.heap.size, 0, none⟩ = some (.int .i64 x.no) := C1.cell 0
      have d1 : w1.cell? ⟨w.heap.size, 1, none⟩ = some (.int .i64 x.at_) := C1.cell 1
      have d2 : w1.cell? ⟨w.heap.size, 2, none⟩ = some (.string (B x.text)) := C1.cell 2
      have d3 : w1.cell? ⟨w.heap.size, 3, none⟩ = some (.bool true) := C1.cell 3
      have lz := C1.lt
      clear b1 H C0 HB0
      go_wp2_with fail
      refine (EF.out _ T P1 s1).mono ?_
      rintro e w3 hE
      rw [if_pos h0] at hE
      obtain ⟨rfl, T3, g3, s3, s13⟩ := hE
      have C3 := C1.only s13.only (fun e => e (l0))
      have d0' : w3.cell? ⟨w.heap.size, 0, none⟩ = some (.int .i64 x.no) := C3.cell 0
      have d1' : w3.cell? ⟨w.heap.size, 1, none⟩ = some (.int .i64 x.at_) := C3.cell 1
      have d2' : w3.cell? ⟨w.heap.size, 2, none⟩ = some (.string (B x.text)) := C3.cell 2
      have lz3 := C3.lt
      have l3 := g3.lt
      have d3' : w3.cell? ⟨w.heap.size, 3, none⟩ = some (.bool true) := C3.cell 3
      obtain ⟨V3, g3⟩ := g3
      have P3d : Hid (ParserV w3.drew T3 R b text (endFieldP p) V3) := g3.same (fun _ _ => rfl) (Nat.le_refl _)
      have S3 : Hid (PStep w T w3.drew T3) := s3.drewN 1
      have hz3 : R ≤ w3.drew.heap.size := Nat.le_trans hR s3.only.size
      clear g3 s3 s13
      go_wp2
      go_region_with (go_at_call 109; refine (HS.out _ T3 V3 P3d.out hz3).mono ?_; rintro e w4 ⟨rfl, T4, g4, s4⟩)
      all_goals
        go_wp2
        go_ret
        exact FIN.out T4 _ g4 (S3.out.trans s4)
  · have FIN := Lib.hid (fun v w' h1 h2 => Taken.no (w := w) (T := T) (R := R) (b := b) (text := text) (p := p) (x := x) (v := v) (w' := w') (a := p.begin_) (n := endFieldN p) (by unfold takeP; rw [hen, hw, if_pos ⟨rfl, h0⟩]) h1 h2)
    clear hi hb hff hx
    cases hend : x.ended
    case false =>
      rw [hend] at C0 HB0
      go_enter Tryz.func70, Tryz.ntmps70
      go_wp2_with fail
      refine (K _).mono ?_
      rintro e w1 ⟨rfl, b1⟩
      have s1 := HB0.out.trans (PStep.below b1)
      have P1 : ParserAt w1 T R b text p := (H.out.below ((Below.refl _ _).alloc (Nat.le_refl _) _)).below b1
      have l1 := P1.lt
      have C1 := cells_kept C0.out b1 (by simp)
      have hz1 := s1.only.size
      have d0 : w1.cell? ⟨w.heap.size, 0, none⟩ = some (.int .i64 x.no) := C1.cell 0
      have d1 : w1.cell? ⟨w.heap.size, 1, none⟩ = some (.int .i64 x.at_) := C1.cell 1
      have d2 : w1.cell? ⟨w.heap.size, 2, none⟩ = some (.string (B x.text)) := C1.cell 2
      have d3 : w1.cell? ⟨w.heap.size, 3, none⟩ = some (.bool false) := C1.cell 3
      have lz := C1.lt
      clear b1 H C0 HB0
      go_wp2_with fail
      refine (EF.out _ T P1 s1).mono ?_
      rintro e w3 hE
      rw [if_neg h0] at hE
      obtain ⟨v, rfl, f3, o3, _, a3, rfl⟩ := hE
      go_wp2
      go_ret
      exact FIN.out _ _ f3 o3
    case true =>
      rw [hend] at C0 HB0
      go_enter Tryz.func70, Tryz.ntmps70
      go_wp2_with fail
      refine (K _).mono ?_
      rintro e w1 ⟨rfl, b1⟩
      have s1 := HB0.out.trans (PStep.below b1)
      have P1 : ParserAt w1 T R b text p := (H.out.below ((Below.refl _ _).alloc (Nat.le_refl _) _)).below b1
      have l1 := P1.lt
      have C1 := cells_kept C0.out b1 (by simp)
      have hz1 := s1.only.size
      have d0 : w1.cell? ⟨w.heap.size, 0, none⟩ = some (.int .i64 x.no) := C1.cell 0
      have d1 : w1.cell? ⟨w.heap.size, 1, none⟩ = some (.int .i64 x.at_) := C1.cell 1
      have d2 : w1.cell? ⟨w.heap.size, 2, none⟩ = some (.string (B x.text)) := C1.cell 2
      have d3 : w1.cell? ⟨w.heap.size, 3, none⟩ = some (.bool true) := C1.cell 3
      have lz := C1.lt
      clear b1 H C0 HB0
      go_wp2_with fail
      refine (EF.out _ T P1 s1).mono ?_
      rintro e w3 hE
      rw [if_neg h0] at hE
      obtain ⟨v, rfl, f3, o3, _, a3, rfl⟩ := hE
      go_wp2
      go_ret
      exact FIN.out _ _ f3 o3
set_option maxRecDepth 100000 in
set_option maxHeartbeats 4000000 in
theorem take_off5 {w : World} {T : Nat → Nat} {R b : Nat} {text : ByteArray} {p : PS} (h : ParserAt w T R b text p) (hR : R ≤ w.heap.size) (x : Ln) (hi : Inv p x.at_) (hx : x.at_ + x.bytes.length ≤ text.size) (ht : text.size ≤ 70000) (hno : x.no ≤ x.at_) (hg : goesP p x = false) (hk : kindL x.text = 5) :
    Calls Tryz.prog 70 #[.pointer (some ⟨b, 0, none⟩), .agg #[.int .i64 x.no, .int .i64 x.at_, .string (B x.text), .bool x.ended]] w fun e w' => Taken w T R b text p x e w' := by
  have hbl : x.text.length ≤ x.bytes.length := by unfold Ln.bytes; simp
  have K : ∀ w, Calls Tryz.prog 106 #[.string (B x.text)] w fun e w' => e = .returned (.int .i64 5) ∧ Below w.heap.size w w' := fun w => by
    have := kind_any (B x.text) (by rw [B_size]; unfold maxLen; omega) w
    rw [B_data, hk] at this
    exact this
  have hu : kindL x.text = 3 → (!p.said.isEmpty) = false := by
    intro h3; unfold goesP at hg; rw [h3] at hg; simpa using hg
  have hl := h.lt
  have l0 := low_of h
  have H := Lib.hid h
  have C0 := Lib.hid (Cells.new w 138 #[.int .i64 x.no, .int .i64 x.at_, .string (B x.text), .bool x.ended])
  have HB0 := Lib.hid (PStep.below (T := T) ((Below.refl w.heap.size w).alloc (Nat.le_refl _) (.cells #[.int .i64 x.no, .int .i64 x.at_, .string (B x.text), .bool x.ended] 138)))
  have hw : wentP p x = p := by unfold wentP; rw [hg]; rfl
  have hen : endsP p x = true := by unfold endsP; rw [hg]; simp
  have hth : thenP p x = endFieldP p := by unfold thenP; rw [hen, if_pos rfl, hw]
  have hb := hi.said
  have hff : p.fields.length ≤ 1000000 := by have := hi.fields; omega
  have EF := Lib.hid (fun w1 T1 (g : ParserAt w1 T1 R b text p) (s : PStep w T w1 T1) => endField_any2 (p := p) g s hR (by omega) hff)
  clear h
  by_cases h0 : endFieldN p = 0
  · have NO := Lib.hid (fun (hwr : wrongP p x = true) v w' h1 h2 => Taken.no (w := w) (T := T) (R := R) (b := b) (text := text) (p := p) (x := x) (v := v) (w' := w') (a := x.no) (n := 2) (by unfold takeP; rw [hen, hwr, hw, h0]; simp) h1 h2)
    have YES := Lib.hid (fun (hwr : wrongP p x = false) T' w' h1 h2 => Taken.yes (w := w) (T := T) (T' := T') (R := R) (b := b) (text := text) (p := p) (q := putP text.data.toList (endFieldP p) x) (x := x) (w' := w') (by unfold takeP; rw [hen, hwr, hw, h0, hth]; simp) h1 h2)
    cases hend : x.ended
    case false =>
      rw [hend] at C0 HB0
      have hwr : wrongP p x = true := by unfold wrongP; rw [hk, hg, hend]; rfl
      have FIN := Lib.hid (NO.out hwr)
      clear YES NO
      clear hi hb hff hx
      go_enter Tryz.func70, Tryz.ntmps70
      go_wp2_with fail
      refine (K _).mono ?_
      rintro e w1 ⟨rfl, b1⟩
      have s1 := HB0.out.trans (PStep.below b1)
      have P1 : ParserAt w1 T R b text p := (H.out.below ((Below.refl _ _).alloc (Nat.le_refl _) _)).below b1
      have l1 := P1.lt
      have C1 := cells_kept C0.out b1 (by simp)
      have hz1 := s1.only.size
      have d0 : w1.cell? ⟨w.heap.size, 0, none⟩ = some (.int .i64 x.no) := C1.cell 0
      have d1 : w1.cell? ⟨w.heap.size, 1, none⟩ = some (.int .i64 x.at_) := C1.cell 1
      have d2 : w1.cell? ⟨w.heap.size, 2, none⟩ = some (.string (B x.text)) := C1.cell 2
      have d3 : w1.cell? ⟨w.heap.size, 3, none⟩ = some (.bool false) := C1.cell 3
      have lz := C1.lt
      clear b1 H C0 HB0
      go_wp2_with fail
      refine (EF.out _ T P1 s1).mono ?_
      rintro e w3 hE
      rw [if_pos h0] at hE
      obtain ⟨rfl, T3, g3, s3, s13⟩ := hE
      have C3 := C1.only s13.only (fun e => e (l0))
      have d0' : w3.cell? ⟨w.heap.size, 0, none⟩ = some (.int .i64 x.no) := C3.cell 0
      have d1' : w3.cell? ⟨w.heap.size, 1, none⟩ = some (.int .i64 x.at_) := C3.cell 1
      have d2' : w3.cell? ⟨w.heap.size, 2, none⟩ = some (.string (B x.text)) := C3.cell 2
      have lz3 := C3.lt
      have l3 := g3.lt
      go_wp2
      go_ret
      exact FIN.out _ _ (FaultAt.new _ _ 2 _ w3.heap.size rfl (by omega)) (s3.only.alloc _)
    case true =>
      rw [hend] at C0 HB0
      have hwr : wrongP p x = true := by unfold wrongP; rw [hk, hg, hend]; rfl
      have FIN := Lib.hid (NO.out hwr)
      clear YES NO
      clear hi hb hff hx
      go_enter Tryz.func70, Tryz.ntmps70
      go_wp2_with fail
      refine (K _).mono ?_
      rintro e w1 ⟨rfl, b1⟩
      have s1 := HB0.out.trans (PStep.below b1)
      have P1 : ParserAt w1 T R b text p := (H.out.below ((Below.refl _ _).alloc (Nat.le_refl _) _)).below b1
      have l1 := P1.lt
      have C1 := cells_kept C0.out b1 (by simp)
      have hz1 := s1.only.size
      have d0 : w1.cell? ⟨w.heap.size, 0, none⟩ = some (.int .i64 x.no) := C1.cell 0
      have d1 : w1.cell? ⟨w.heap.size, 1, none⟩ = some (.int .i64 x.at_) := C1.cell 1
      have d2 : w1.cell? ⟨w.heap.size, 2, none⟩ = some (.string (B x.text)) := C1.cell 2
      have d3 : w1.cell? ⟨w.heap.size, 3, none⟩ = some (.bool true) := C1.cell 3
      have lz := C1.lt
      clear b1 H C0 HB0
      go_wp2_with fail
      refine (EF.out _ T P1 s1).mono ?_
      rintro e w3 hE
      rw [if_pos h0] at hE
      obtain ⟨rfl, T3, g3, s3, s13⟩ := hE
      have C3 := C1.only s13.only (fun e => e (l0))
      have d0' : w3.cell? ⟨w.heap.size, 0, none⟩ = some (.int .i64 x.no) := C3.cell 0
      have d1' : w3.cell? ⟨w.heap.size, 1, none⟩ = some (.int .i64 x.at_) := C3.cell 1
      have d2' : w3.cell? ⟨w.heap.size, 2, none⟩ = some (.string (B x.text)) := C3.cell 2
      have lz3 := C3.lt
      have l3 := g3.lt
      go_wp2
      go_ret
      exact FIN.out _ _ (FaultAt.new _ _ 2 _ w3.heap.size rfl (by omega)) (s3.only.alloc _)
  · have FIN := Lib.hid (fun v w' h1 h2 => Taken.no (w := w) (T := T) (R := R) (b := b) (text := text) (p := p) (x := x) (v := v) (w' := w') (a := p.begin_) (n := endFieldN p) (by unfold takeP; rw [hen, hw, if_pos ⟨rfl, h0⟩]) h1 h2)
    clear hi hb hff hx
    cases hend : x.ended
    case false =>
      rw [hend] at C0 HB0
      go_enter Tryz.func70, Tryz.ntmps70
      go_wp2_with fail
      refine (K _).mono ?_
      rintro e w1 ⟨rfl, b1⟩
      have s1 := HB0.out.trans (PStep.below b1)
      have P1 : ParserAt w1 T R b text p := (H.out.below ((Below.refl _ _).alloc (Nat.le_refl _) _)).below b1
      have l1 := P1.lt
      have C1 := cells_kept C0.out b1 (by simp)
      have hz1 := s1.only.size
      have d0 : w1.cell? ⟨w.heap.size, 0, none⟩ = some (.int .i64 x.no) := C1.cell 0
      have d1 : w1.cell? ⟨w.heap.size, 1, none⟩ = some (.int .i64 x.at_) := C1.cell 1
      have d2 : w1.cell? ⟨w.heap.size, 2, none⟩ = some (.string (B x.text)) := C1.cell 2
      have d3 : w1.cell? ⟨w.heap.size, 3, none⟩ = some (.bool false) := C1.cell 3
      have lz := C1.lt
      clear b1 H C0 HB0
      go_wp2_with fail
      refine (EF.out _ T P1 s1).mono ?_
      rintro e w3 hE
      rw [if_neg h0] at hE
      obtain ⟨v, rfl, f3, o3, _, a3, rfl⟩ := hE
      go_wp2
      go_ret
      exact FIN.out _ _ f3 o3
    case true =>
      rw [hend] at C0 HB0
      go_enter Tryz.func70, Tryz.ntmps70
      go_wp2_with fail
      refine (K _).mono ?_
      rintro e w1 ⟨rfl, b1⟩
      have s1 := HB0.out.trans (PStep.below b1)
      have P1 : ParserAt w1 T R b text p := (H.out.below ((Below.refl _ _).alloc (Nat.le_refl _) _)).below b1
      have l1 := P1.lt
      have C1 := cells_kept C0.out b1 (by simp)
      have hz1 := s1.only.size
      have d0 : w1.cell? ⟨w.heap.size, 0, none⟩ = some (.int .i64 x.no) := C1.cell 0
      have d1 : w1.cell? ⟨w.heap.size, 1, none⟩ = some (.int .i64 x.at_) := C1.cell 1
      have d2 : w1.cell? ⟨w.heap.size, 2, none⟩ = some (.string (B x.text)) := C1.cell 2
      have d3 : w1.cell? ⟨w.heap.size, 3, none⟩ = some (.bool true) := C1.cell 3
      have lz := C1.lt
      clear b1 H C0 HB0
      go_wp2_with fail
      refine (EF.out _ T P1 s1).mono ?_
      rintro e w3 hE
      rw [if_neg h0] at hE
      obtain ⟨v, rfl, f3, o3, _, a3, rfl⟩ := hE
      go_wp2
      go_ret
      exact FIN.out _ _ f3 o3
end Go.Proofs.YtiebbgbcojgeoaaGreatDoor
/- What a range over the lines wants: boxes, rows, the rule of the statement with the act as it stands. -/
namespace Go.Proofs.YtiebbgbcojgeoaaGreatDoor
open Go.RowKit Go.Shelf
attribute [local go_sem] Oper.semAt_some

theorem under {W W' : World} {b n : Nat} {t : TypeId} {v : Value} (h : Boxed W b t v) (hb : Below n W W') (hn : b < n) : Boxed W' b t v := (hb.block b hn).trans h
theorem rowBase {W : World} {base base' : Nat} {e : TypeId} {size : Nat} {v : Value} {n : Nat} {xs : List Value} (h : W.ownsRow base e size v n xs) (hb : base' ≤ base) : W.ownsRow base' e size v n xs := by
  refine ⟨h.1, ?_⟩
  rcases h.2 with hn | ⟨g, cap, cur, hv, hg, rest⟩
  · exact .inl hn
  · exact .inr ⟨g, cap, cur, hv, Nat.le_trans hb hg, rest⟩
theorem rowForm {W : World} {base : Nat} {e : TypeId} {size : Nat} {v : Value} {n : Nat} {xs : List Value} (h : W.ownsRow base e size v n xs) : ∃ ao cap, v = .slice ao n cap := by
  rcases h.2 with ⟨rfl, rfl⟩ | ⟨g, cap, cur, rfl, _⟩
  · exact ⟨none, 0, rfl⟩
  · exact ⟨_, cap, rfl⟩
theorem boxNew3 (w : World) (o1 o2 : Obj) (t : TypeId) (v : Value) : Boxed (((w.alloc o1).alloc o2).alloc (.cells #[v] t)) (w.heap.size + 2) t v := by
  have := boxNew2 (w.alloc o1) o2 t v
  rwa [World.size_alloc] at this
theorem boxNew4 (w : World) (o1 o2 o3 : Obj) (t : TypeId) (v : Value) : Boxed ((((w.alloc o1).alloc o2).alloc o3).alloc (.cells #[v] t)) (w.heap.size + 3) t v := by
  have := boxNew3 (w.alloc o1) o2 o3 t v
  rwa [World.size_alloc] at this
theorem wp_rangedA {P : Program} {α : Type} {g : Operand} {ps : Array Tmp} {assign body : Code} {Q : Exit → Act → World → Prop} {a : Act} {w : World}
    {gf : Nat} {lb : Array Value} (hg : a.eval g = .func (.func gf) #[] lb) (eg : ∀ args w, (callFunc gf args).run P w = .ok (.enter gf args) w)
    {encs : α → Array Value} {k : Nat} {xs : List α} (hseq : Hands P gf lb encs k xs w) (hps : ∀ x, (encs x).size = ps.size)
    (I : List α → World → Prop) (Ix : Code → List α → World → Prop) (hI : Abide w.heap.size (k + 2) I) (hIx : ∀ c, Abide w.heap.size 2 (Ix c)) (h0 : I [] w)
    (M : Act → List α → α → Act → World → Prop) (hM : ∀ a pre x a', Abide w.heap.size 2 (fun (_ : Unit) W => M a pre x a' W))
    (hassign : ∀ (l : Nat) (pre : List α) (x : α) (post : List α) (W : World), xs = pre ++ x :: post → w.heap.size + (k + 2) ≤ W.heap.size → I pre W →
      assign.wpIn (Fence.wide.inRound l) 7 P (assigned w.heap.size (k + 2) (M a pre x) W) { tmps := (ps.zip (encs x)).foldl (fun t (p, v) => t.setIfInBounds p v) a.tmps, defers := [] } W)
    (hbody : ∀ (l : Nat) (pre : List α) (x : α) (post : List α) (a' : Act) (W : World), xs = pre ++ x :: post → w.heap.size + (k + 2) ≤ W.heap.size → M a pre x a' W →
      body.wpIn (Fence.wide.inRound l) 7 P (left w.heap.size (k + 2) I Ix (pre ++ [x]) W) a' W)
    (hdone : ∀ (W : World), I xs W → W.heap[w.heap.size]? = some (.deferred (some [])) → Q .normal { a with defers := { target := .collected w.heap.size, args := #[] } :: a.defers } W)
    (hstop : ∀ (c : Code) (pre : List α) (W : World), pre <+: xs → Ix c pre W → W.heap[w.heap.size]? = some (.deferred (some [])) → c.wpIn Fence.wide 9 P Q { a with defers := { target := .collected w.heap.size, args := #[] } :: a.defers } W) :
    (Code.rangeFunc g ps assign body).wpIn Fence.wide 9 P Q a w :=
  wp_ranged hg eg hseq hps I Ix hI hIx h0 (M a) (hM a) hassign hbody hdone hstop
theorem mkAppend (a b : List UInt8) : (⟨a.toArray⟩ : ByteArray) ++ ⟨b.toArray⟩ = ⟨(a ++ b).toArray⟩ := by
  rw [← Lib.mk_data ((⟨a.toArray⟩ : ByteArray) ++ ⟨b.toArray⟩), ByteArray.data_append, Array.toList_append]
theorem setOther {W : World} {b c : Nat} {t : TypeId} {v : Value} (h : Boxed W b t v) (hne : b ≠ c) (u : Value) : Boxed (W.setCell ⟨c, 0, none⟩ u) b t v := h.other hne u
theorem foldOne (p : Tmp) (v : Value) (t : Array Value) : ((#[p] : Array Tmp).zip #[v]).foldl (fun t (x : Tmp × Value) => t.setIfInBounds x.1 x.2) t = t.setIfInBounds p v := by simp
theorem boxStored {W : World} {b : Nat} {t : TypeId} {u v : Value} (h : Boxed (W.setCell ⟨b, 0, none⟩ v) b t u) : Boxed (W.setCell ⟨b, 0, none⟩ v) b t v := by
  unfold Boxed World.setCell at h ⊢
  simp only [Array.getElem?_modify, if_pos] at h ⊢
  cases ho : W.heap[b]? with
  | none => rw [ho] at h; cases h
  | some o =>
    rw [ho] at h
    cases o with
    | cells c e fr =>
      simp only [Option.map_some, Option.some.injEq, Obj.cells.injEq, Option.isSome_none, Bool.false_eq_true, if_false] at h ⊢
      obtain ⟨h1, h2, h3⟩ := h
      refine ⟨?_, h2, h3⟩
      have hs := congrArg Array.size h1
      simp at hs
      apply Array.ext
      · simp [hs]
      · intro i hi1 hi2
        have : i = 0 := by simp at hi2; omega
        subst this
        simp
    | _ => simp at h
end Go.Proofs.YtiebbgbcojgeoaaGreatDoor
/- A line is taken, whichever; what holds between two lines. -/
namespace Go.Proofs.YtiebbgbcojgeoaaGreatDoor
open Go.RowKit Go.Shelf
attribute [local go_sem] errV_0 errV_2

theorem kindL_pos (l : List UInt8) : kindL l = 1 ∨ kindL l = 2 ∨ kindL l = 3 ∨ kindL l = 4 ∨ kindL l = 5 := by
  unfold kindL
  split; · simp
  split; · simp
  split; · simp
  split; · simp
  split <;> simp
theorem take_any {w : World} {T : Nat → Nat} {R b : Nat} {text : ByteArray} {p : PS} (h : ParserAt w T R b text p) (hR : R ≤ w.heap.size) (x : Ln) (hi : Inv p x.at_) (hx : x.at_ + x.bytes.length ≤ text.size) (ht : text.size ≤ 60000) (hno : x.no ≤ x.at_) :
    Calls Tryz.prog 70 #[.pointer (some ⟨b, 0, none⟩), .agg #[.int .i64 x.no, .int .i64 x.at_, .string (B x.text), .bool x.ended]] w fun e w' => Taken w T R b text p x e w' := by
  cases hg : goesP p x with
  | true =>
    have hbl : x.text.length ≤ x.bytes.length := by unfold Ln.bytes; simp
    exact take_on h hR x hi (by omega) hno hg
  | false =>
    rcases kindL_pos x.text with hk | hk | hk | hk | hk
    · exact take_off1 h hR x hi hx (by omega) hno hg hk
    · exact take_off2 h hR x hi hx (by omega) hno hg hk
    · exact take_off3 h hR x hi hx (by omega) hno hg hk
    · exact take_off4 h hR x hi hx (by omega) hno hg hk
    · exact take_off5 h hR x hi hx (by omega) hno hg hk

/-- The function's own boxes: the results'. -/
def Out (w W : World) (v e : Value) : Prop :=
  Cells W w.heap.size 55 #[v] ∧ Cells W (w.heap.size + 1) 27 #[e] ∧ Below w.heap.size w W
/-- What holds between two lines. -/
def InvP (w : World) (text : ByteArray) (pre : List Ln) (W : World) : Prop :=
  Out w W (.slice none 0 0) .nilIface ∧ ∃ T p, runP text.data.toList PS.new pre = .ok p ∧ Inv p (pre.flatMap Ln.bytes).length ∧ ParserAt W T (w.heap.size + 2) (w.heap.size + 2) text p ∧ ∀ k, w.heap.size + 3 ≤ k → k < w.heap.size + 9 → T k = 0
/-- What holds where a line was wrong. -/
def OutP (w : World) (text : ByteArray) (c : Code) (pre : List Ln) (W : World) : Prop :=
  c = .ret ∧ ∃ a n v, runP text.data.toList PS.new pre = .error (a, n) ∧ Out w W (.slice none 0 0) v ∧ FaultAt (w.heap.size + 9) W v a n
theorem Out.turned {w W W' : World} {v e : Value} {B k : Nat} (h : Out w W v e) (ht : Turned B k W W') (hB : w.heap.size + 2 ≤ B) : Out w W' v e :=
  ⟨(ht.same _ h.1.lt (.inl (by omega))).trans h.1, (ht.same _ h.2.1.lt (.inl (by omega))).trans h.2.1, h.2.2.trans (ht.below (by omega) h.2.2.size)⟩
theorem Out.alloc {w W : World} {v e : Value} (h : Out w W v e) (o : Obj) : Out w (W.alloc o) v e := ⟨h.1.alloc o, h.2.1.alloc o, h.2.2.alloc h.2.2.size o⟩
theorem Out.only {w W W' : World} {v e : Value} {S : Nat → Prop} (h : Out w W v e) (g : Only S W W') (hS : ∀ r, S r → w.heap.size + 2 ≤ r) : Out w W' v e :=
  ⟨h.1.only g (fun s => by have := hS _ s; omega), h.2.1.only g (fun s => by have := hS _ s; omega), h.2.2.trans (g.to_below h.2.2.size (fun r hr s => by have := hS _ s; omega))⟩
theorem Out.set {w W : World} {v e : Value} (h : Out w W v e) (v' e' : Value) : Out w ((W.setCell ⟨w.heap.size, 0, none⟩ v').setCell ⟨w.heap.size + 1, 0, none⟩ e') v' e' := by
  obtain ⟨h1, h2, h3⟩ := h
  exact ⟨Cells.other (h1.set 0 v') (by simp) _, Cells.set (Cells.other h2 (by simp) v') 0 e', (h3.setCell (p := ⟨w.heap.size, 0, none⟩) (Nat.le_refl _) _).setCell (p := ⟨w.heap.size + 1, 0, none⟩) (by show _ ≤ w.heap.size + 1; omega) _⟩
theorem ParserAt.turned {w w' : World} {T : Nat → Nat} {R b B k : Nat} {text : ByteArray} {p : PS} (h : ParserAt w T R b text p) (ht : Turned B k w w') (hz : ∀ r, B ≤ r → r < B + k → T r = 0) : ParserAt w' T R b text p := by
  obtain ⟨V, h⟩ := h
  refine ⟨V, h.same (fun r hr => ht.same r (h.low r hr).2 ?_) ht.size⟩
  rcases Nat.lt_or_ge r B with q | q
  · exact .inl q
  · rcases Nat.lt_or_ge r (B + k) with q' | q'
    · exact absurd (hz r q q') hr
    · exact .inr q'
theorem InvP.turned {w W W' : World} {text : ByteArray} {pre : List Ln} {B k : Nat} (h : InvP w text pre W) (ht : Turned B k W W') (hB : w.heap.size + 3 ≤ B) (hk : B + k ≤ w.heap.size + 9) : InvP w text pre W' := by
  obtain ⟨h1, T, p, h2, h3, h4, h5⟩ := h
  exact ⟨h1.turned ht (by omega), T, p, h2, h3, h4.turned ht (fun r a b => h5 r (by omega) (by omega)), h5⟩
theorem InvP.alloc {w W : World} {text : ByteArray} {pre : List Ln} (h : InvP w text pre W) (o : Obj) : InvP w text pre (W.alloc o) := by
  obtain ⟨h1, T, p, h2, h3, h4, h5⟩ := h
  exact ⟨h1.alloc o, T, p, h2, h3, h4.below ((Below.refl _ _).alloc (Nat.le_refl _) o), h5⟩
theorem OutP.turned {w W W' : World} {text : ByteArray} {c : Code} {pre : List Ln} {B k : Nat} (h : OutP w text c pre W) (ht : Turned B k W W') (hB : w.heap.size + 3 ≤ B) (hk : B + k ≤ w.heap.size + 9) : OutP w text c pre W' := by
  obtain ⟨h0, a, n, v, h1, h2, q, h3, h4, h5⟩ := h
  exact ⟨h0, a, n, v, h1, h2.turned ht (by omega), q, h3, h4, (ht.same q h5.lt (.inr (by omega))).trans h5⟩
theorem runP_snoc {text : List UInt8} {pre : List Ln} {p q : PS} {x : Ln} (h : runP text PS.new pre = .ok p) (ht : takeP text p x = .ok q) : runP text PS.new (pre ++ [x]) = .ok q := by
  rw [runP_append, h]; show (match takeP text p x with | .error e => _ | .ok q => runP text q []) = _; rw [ht]; rfl
theorem runP_snoc_no {text : List UInt8} {pre : List Ln} {p : PS} {e : Nat × Nat} {x : Ln} (h : runP text PS.new pre = .ok p) (ht : takeP text p x = .error e) : runP text PS.new (pre ++ [x]) = .error e := by
  rw [runP_append, h]; show (match takeP text p x with | .error e => _ | .ok q => runP text q []) = _; rw [ht]
theorem runP_stop {text : List UInt8} {pre xs : List Ln} {e : Nat × Nat} (h : runP text PS.new pre = .error e) (hp : pre <+: xs) : runP text PS.new xs = .error e := by
  obtain ⟨post, rfl⟩ := hp
  rw [runP_append, h]
end Go.Proofs.YtiebbgbcojgeoaaGreatDoor
/- Parse. -/
namespace Go.Proofs.YtiebbgbcojgeoaaGreatDoor
open Go.RowKit Go.Shelf
attribute [local go_sem] Oper.semAt_some errV_0

/-- A slice of items, readable. -/
def Its (w : World) (v : Value) (its : List It) : Prop :=
  ∃ A cap, v = .slice A its.length cap ∧ its.length ≤ cap ∧ ∀ (i : Nat) (it : It), its[i]? = some it → ∃ b off fv, A = some ⟨b, off, none⟩ ∧ b < w.heap.size ∧
    w.cell? ⟨b, off + i * 3, none⟩ = some (.int .i64 it.kind) ∧ w.cell? ⟨b, off + i * 3 + 1, none⟩ = some (.string (B it.raw)) ∧ w.cell? ⟨b, off + i * 3 + 1 + 1, none⟩ = some fv ∧ Flds w fv it.fields
theorem Its.below {w w' : World} {v : Value} {its : List It} {n : Nat} (h : Its w v its) (hb : Below n w w') (hn : w.heap.size ≤ n) : Its w' v its := by
  obtain ⟨A, cap, hv, hle, hc⟩ := h
  refine ⟨A, cap, hv, hle, fun i it hi => ?_⟩
  obtain ⟨b, off, fv, hA, hlt, c0, c1, c2, hf⟩ := hc i it hi
  have hlt' := Nat.lt_of_lt_of_le hlt hn
  exact ⟨b, off, fv, hA, Nat.lt_of_lt_of_le hlt hb.size, (hb.cell (p := ⟨b, off + i * 3, none⟩) hlt').trans c0, (hb.cell (p := ⟨b, off + i * 3 + 1, none⟩) hlt').trans c1, (hb.cell (p := ⟨b, off + i * 3 + 1 + 1, none⟩) hlt').trans c2, hf.below hb hn⟩
theorem ParserV.its {w : World} {T : Nat → Nat} {R b : Nat} {text : ByteArray} {p : PS} {V : PV} (h : ParserV w T R b text p V) : Its w V.v3 p.items := by
  rcases Joins.ownsRow_forms h.r3 with ⟨e, hn⟩ | ⟨g, cap, e⟩
  · have : p.items = [] := List.length_eq_zero_iff.1 hn
    rw [e, this]
    exact ⟨none, 0, rfl, Nat.le_refl _, fun i it hi => by simp at hi⟩
  · refine ⟨some ⟨g, 0, none⟩, cap, e, (by rcases h.r3.2 with ⟨q, _⟩ | ⟨g', cap', cur, q, _, _, q2, _⟩; · rw [e] at q; cases q
                                           · rw [e] at q; cases q; exact q2), fun i it hi => ?_⟩
    have hlt : i < p.items.length := by
      rcases Nat.lt_or_ge i p.items.length with q | q
      · exact q
      · rw [List.getElem?_eq_none q] at hi; cases hi
    obtain ⟨fv, hfv⟩ : ∃ fv, V.fvs[i]? = some fv := ⟨_, List.getElem?_eq_getElem (by rw [h.nf]; exact hlt)⟩
    obtain ⟨a0, a1, a2⟩ := itemsCells_at _ _ i it fv hi hfv
    have hr := h.r3
    rw [e] at hr
    refine ⟨g, 0, fv, rfl, (World.ownsRow.lt hr g rfl).2, ?_, ?_, ?_, flds_of_own (h.rf i it fv hi hfv).1⟩
    · rw [Nat.zero_add, World.ownsRow.cellAt hr (i * 3) (by omega)]; exact a0
    · rw [Nat.zero_add, World.ownsRow.cellAt hr (i * 3 + 1) (by omega)]; exact a1
    · rw [Nat.zero_add, World.ownsRow.cellAt hr (i * 3 + 1 + 1) (by omega)]; exact a2
/-- The fields' slices that are nil have no room. -/
def NilI (w : World) (v : Value) (its : List It) : Prop := ∀ (i : Nat) (b off : Nat) (n cap m c : Nat), v = .slice (some ⟨b, off, none⟩) n cap → i < its.length → w.cell? ⟨b, off + i * 3 + 1 + 1, none⟩ = some (.slice none m c) → c = 0
theorem ParserV.nil {w : World} {T : Nat → Nat} {R b : Nat} {text : ByteArray} {p : PS} {V : PV} (h : ParserV w T R b text p V) : NilI w V.v3 p.items := by
  intro i b off n cap m c e hlt hcell
  obtain ⟨it, hi⟩ : ∃ it, p.items[i]? = some it := ⟨_, List.getElem?_eq_getElem hlt⟩
  obtain ⟨fv, hfv⟩ : ∃ fv, V.fvs[i]? = some fv := ⟨_, List.getElem?_eq_getElem (by rw [h.nf]; exact hlt)⟩
  obtain ⟨_, _, a2⟩ := itemsCells_at _ _ i it fv hi hfv
  have hr := h.r3
  rcases Joins.ownsRow_forms hr with ⟨e', hn⟩ | ⟨g, cap', e'⟩
  · omega
  · rw [e'] at e hr
    cases e
    rw [Nat.zero_add, World.ownsRow.cellAt hr (i * 3 + 1 + 1) (by omega), a2] at hcell
    cases hcell
    rcases (h.rf i it _ hi hfv).1.2 with ⟨q, _⟩ | ⟨g', cap', cur, q, _⟩
    · cases q; rfl
    · cases q
/-- What Parse comes to, of a text that isn't too long. -/
def Parsed (w : World) (text : List UInt8) (e : Ending) (w' : World) : Prop :=
  Below w.heap.size w w' ∧ match parseL text with
    | .error (a, n) => ∃ v, e = .returned (.tuple #[.slice none 0 0, v]) ∧ FaultAt w.heap.size w' v a n
    | .ok its => ∃ v, e = .returned (.tuple #[v, .nilIface]) ∧ Its w' v its ∧ NilI w' v its
theorem Parsed.no {w w' : World} {text : List UInt8} {v : Value} {a n : Nat} (h : parseL text = .error (a, n)) (hb : Below w.heap.size w w') (hf : FaultAt w.heap.size w' v a n) : Parsed w text (.returned (.tuple #[.slice none 0 0, v])) w' :=
  ⟨hb, by rw [h]; exact ⟨v, rfl, hf⟩⟩
theorem Parsed.yes {w w' : World} {text : List UInt8} {v : Value} {its : List It} (h : parseL text = .ok its) (hb : Below w.heap.size w w') (hf : Its w' v its ∧ NilI w' v its) : Parsed w text (.returned (.tuple #[v, .nilIface])) w' :=
  ⟨hb, by rw [h]; exact ⟨v, rfl, hf⟩⟩

/-- The way out: the mark is taken, the results are read from their boxes. -/
theorem parseOut {Q : Ending → World → Prop} (w W : World) (v e : Value) (tmps : Array Value) (hO : Out w W v e) (hv1 : v.oneCell' = true) (he1 : e.oneCell' = true) (hK : W.heap[w.heap.size + 4]? = some (.deferred (some []))) (t2 : tmps[2]? = some (.pointer (some ⟨w.heap.size, 0, none⟩))) (t3 : tmps[3]? = some (.pointer (some ⟨w.heap.size + 1, 0, none⟩)))
    (hQ : Below w.heap.size w (W.putObj (w.heap.size + 4) (.deferred none)) → Q (.returned (.tuple #[v, e])) (W.putObj (w.heap.size + 4) (.deferred none))) :
    bodyPostM Fence.wide 9 Tryz.prog Tryz.f25 Q .ret { tmps := tmps, defers := [{ target := .collected (w.heap.size + 4), args := #[] }] } W := by
  obtain ⟨h4, h5, hB⟩ := hO
  have p1 := grownBy_putObj' W (w.heap.size + 4) (.deferred none)
  have r4 : Cells (W.putObj (w.heap.size + 4) (.deferred none)) w.heap.size 55 #[v] := (p1.block _ h4.lt (fun e => by have := Option.some.inj e; omega)).trans h4
  have r5 : Cells (W.putObj (w.heap.size + 4) (.deferred none)) (w.heap.size + 1) 27 #[e] := (p1.block _ h5.lt (fun e => by have := Option.some.inj e; omega)).trans h5
  have c4 : (W.putObj (w.heap.size + 4) (.deferred none)).cell? ⟨w.heap.size, 0, none⟩ = some v := r4.cell 0
  have c5 : (W.putObj (w.heap.size + 4) (.deferred none)).cell? ⟨w.heap.size + 1, 0, none⟩ = some e := r5.cell 0
  refine ⟨by simp, .inl ⟨_, _, rfl, run_takeDeferred hK, ?_⟩⟩
  exact ⟨.tuple #[v, e], by simp [results, Tryz.f25, go_sem, t2, t3, c4, c5], hQ (hB.trans (belowK_b (w := w) (Nat.le_refl _) W _ _ _ (by omega) hK rfl rfl))⟩

theorem linesOn_pos : ∀ (n no at_ : Nat) (l : List UInt8), l.length ≤ n → ∀ x ∈ linesOn no at_ l, 1 ≤ x.bytes.length
  | 0, _, _, l, h, x, hx => by
    have : l = [] := List.length_eq_zero_iff.1 (by omega)
    subst this
    rw [linesOn_nil] at hx; cases hx
  | n + 1, no, at_, l, h, x, hx => by
    by_cases hl : l = []
    · subst hl; rw [linesOn_nil] at hx; cases hx
    · have hp := used_pos l hl
      rw [linesOn_cons _ _ _ hl] at hx
      rcases List.mem_cons.1 hx with rfl | hx
      · have : (Ln.bytes ⟨no, at_, head l, nl l⟩).length = used l := by
          unfold Ln.bytes used; simp only [List.length_append]; split <;> rfl
        omega
      · exact linesOn_pos n _ _ _ (by simp only [List.length_drop]; omega) x hx
theorem bytes_ge : ∀ (pre : List Ln), (∀ x ∈ pre, 1 ≤ x.bytes.length) → pre.length ≤ (pre.flatMap Ln.bytes).length
  | [], _ => Nat.le_refl _
  | x :: pre, h => by
    have ih := bytes_ge pre (fun y hy => h y (List.mem_cons_of_mem _ hy))
    have := h x List.mem_cons_self
    rw [List.flatMap_cons, List.length_append, List.length_cons]; omega

set_option maxRecDepth 100000 in
set_option maxHeartbeats 4000000 in
theorem parse_any (s : ByteArray) (hs : s.size ≤ 60000) (w : World) :
    Calls Tryz.prog 25 #[.string s] w fun e w' => Parsed w s.data.toList e w' := by
  obtain ⟨xs, hxs⟩ : ∃ xs, linesOf s.data.toList = xs := ⟨_, rfl⟩
  have HXS := Lib.hid hxs
  have hat := fun pre x post (e : xs = pre ++ x :: post) => linesOf_at s.data.toList pre x post (hxs.trans e)
  have HAT := Lib.hid hat
  have hj : (xs.flatMap Ln.bytes) = s.data.toList := by rw [← hxs]; exact linesOf_join _
  have hjl : (xs.flatMap Ln.bytes).length = s.size := by rw [hj, ← Lib.size_eq]
  have HJL := Lib.hid hjl
  have hpos : ∀ x ∈ xs, 1 ≤ x.bytes.length := by rw [← hxs]; exact linesOn_pos _ 0 0 _ (Nat.le_refl _)
  have HPOS := Lib.hid hpos
  clear hxs hat hjl hj hpos
  refine callsIn_wide (n := 9).1 ?_
  refine callsIn_of_wp_marks Tryz.func25 rfl trivial ?_ rfl
  simp only [Tryz.ntmps25, List.size_toArray, List.length_cons, List.length_nil, Nat.reduceAdd, Nat.reduceSub, Array.replicate_succ, Array.replicate_zero, List.push_toArray, List.append_toArray, List.nil_append, List.cons_append]
  gi_wp2_with fail
  refine ⟨trivial, (callsIn_wide.2 (split_any s _)).mono ?_⟩
  rintro e w3 ⟨rfl, rfl⟩
  gi_wp2_with fail
  have k7 := boxNew4 w (.cells #[.slice none 0 0] 55) (.cells #[.nilIface] 27) (.cells #[.int .i64 0, .slice none 0 0, .string s, .slice none 0 0, .int .i64 0, .int .i64 0, .slice none 0 0] 133) 9 (.string s)
  have HH := split_hands s (w.heap.size + 3) _ k7 (by omega)
  rw [HXS.out] at HH
  have n0 := ParserV.new ((w.alloc (.cells #[.slice none 0 0] 55)).alloc (.cells #[.nilIface] 27)) s (w.heap.size + 2) (by simp)
  rw [World.size_alloc, World.size_alloc] at n0
  change ParserV _ (fun k => if k = w.heap.size + 2 then 1 else 0) _ (w.heap.size + 2) _ _ _ at n0
  have o0 : Out w ((((w.alloc (.cells #[.slice none 0 0] 55)).alloc (.cells #[.nilIface] 27)).alloc (.cells #[.int .i64 0, .slice none 0 0, .string s, .slice none 0 0, .int .i64 0, .int .i64 0, .slice none 0 0] 133)).alloc (.cells #[.string s] 9)) (.slice none 0 0) .nilIface := by
    have h1 := Cells.new (w.alloc (.cells #[.slice none 0 0] 55)) 27 #[.nilIface]
    rw [World.size_alloc] at h1
    exact ⟨(((Cells.new w _ _).alloc _).alloc _).alloc _, (h1.alloc _).alloc _, ((((Below.refl _ w).alloc (Nat.le_refl _) _).alloc (by simp) _).alloc (by simp; omega) _).alloc (by simp; omega) _⟩
  have init : InvP w s [] ((((w.alloc (.cells #[.slice none 0 0] 55)).alloc (.cells #[.nilIface] 27)).alloc (.cells #[.int .i64 0, .slice none 0 0, .string s, .slice none 0 0, .int .i64 0, .int .i64 0, .slice none 0 0] 133)).alloc (.cells #[.string s] 9)) :=
    ⟨o0, _, PS.new, rfl, Inv.new, ParserAt.below ⟨_, n0⟩ ((Below.refl _ _).alloc (Nat.le_refl _) _), fun k h1 h2 => if_neg (by omega)⟩
  have hz : ((((w.alloc (.cells #[.slice none 0 0] 55)).alloc (.cells #[.nilIface] 27)).alloc (.cells #[.int .i64 0, .slice none 0 0, .string s, .slice none 0 0, .int .i64 0, .int .i64 0, .slice none 0 0] 133)).alloc (.cells #[.string s] 9)).heap.size = w.heap.size + 4 := by simp
  refine wp_rangedA (gf := 104) (lb := #[.pointer (some ⟨w.heap.size + 3, 0, none⟩)]) rfl (enters_of Tryz.func104 (by kernel_rfl) rfl) HH (fun _ => rfl)
    (InvP w s) (OutP w s) (by rw [hz]; exact fun pre W W' h ht => h.turned ht (by omega) (by omega)) (fun c pre W W' h ht => h.turned ht (by rw [hz]; omega) (by rw [hz]; omega)) init
    (fun a pre x a' W => ∃ Bx, w.heap.size + 9 ≤ Bx ∧ a' = { tmps := (a.tmps.setIfInBounds 16 (.agg (lineV x))).setIfInBounds 5 (.pointer (some ⟨Bx, 0, none⟩)), defers := [] } ∧ Cells W Bx 138 (lineV x) ∧ InvP w s pre W)
    ?hM ?assign ?body ?done ?stop
  case hM =>
    rw [hz]
    rintro a pre x a' _ W W' ⟨Bx, h1, h2, h3, h4⟩ ht
    exact ⟨Bx, h1, h2, (ht.same Bx h3.lt (.inr (by omega))).trans h3, h4.turned ht (by omega) (by omega)⟩
  case assign =>
    rw [hz]
    intro l pre x post W hx hsz hi
    clear hx
    dsimp only [lineV]
    gi_wp2
    exact ⟨(Stay.refl _ _ W).alloc hsz _, W.heap.size, by omega, rfl, Cells.new _ _ _, hi.alloc _⟩
  case body =>
    rw [hz]
    rintro l pre x post a' W hx hsz ⟨Bx, hB, rfl, hc, hO, T, p, hr, hi, hp, hT⟩
    obtain ⟨hno, hat⟩ := HAT.out pre x post hx
    rw [← hat] at hi
    have hsum := HJL.out
    rw [hx, List.flatMap_append, List.flatMap_cons, List.length_append, List.length_append, ← hat] at hsum
    have hge := bytes_ge pre (fun y hy => HPOS.out y (by rw [hx]; exact List.mem_append_left _ hy))
    rw [← hno, ← hat] at hge
    have hR : w.heap.size + 2 ≤ W.heap.size := by omega
    have TK := take_any hp hR x hi (by omega) hs hge
    have HR := Lib.hid hr
    have HI := Lib.hid hi
    have HX := Lib.hid (show x.at_ = (pre.flatMap Ln.bytes).length from hat)
    clear hx hr hi hat hsum hno
    simp only [List.setIfInBounds_toArray, List.set_cons_zero, List.set_cons_succ, lineV] at hc ⊢
    have q0 : W.cell? ⟨Bx, 0, none⟩ = some (.int .i64 x.no) := hc.cell 0
    have q1 : W.cell? ⟨Bx, 1, none⟩ = some (.int .i64 x.at_) := hc.cell 1
    have q2 : W.cell? ⟨Bx, 2, none⟩ = some (.string ⟨x.text.toArray⟩) := hc.cell 2
    have q3 : W.cell? ⟨Bx, 3, none⟩ = some (.bool x.ended) := hc.cell 3
    have stay : ∀ W1, Only (fun r => T r ≠ 0) W W1 → Stay (w.heap.size + 4) 5 W W1 := fun W1 ho => ⟨ho.size, fun r h1 h2 => ho.same r (by omega) (fun hn => hn (hT r (by omega) (by omega)))⟩
    have hTR : ∀ r, T r ≠ 0 → w.heap.size + 2 ≤ r := fun r hr => by obtain ⟨V, hv⟩ := hp; exact (hv.low r hr).1
    gi_wp2_with fail
    refine ⟨trivial, ((callsIn_wide.2 TK).inRound l).mono ?_⟩
    rintro e W1 ht
    unfold Taken at ht
    cases htk : takeP s.data.toList p x with
    | error an =>
      obtain ⟨a, n⟩ := an
      rw [htk] at ht
      obtain ⟨v, rfl, hf, ho⟩ := ht
      have hrn := runP_snoc_no HR.out htk
      obtain ⟨q, hq, rfl, hqc⟩ := hf
      have hO1 := hO.only ho hTR
      have c2 : W1.cell? ⟨w.heap.size, 0, none⟩ = some (.slice none 0 0) := hO1.1.cell 0
      have f2 := hO1.1.frozen 0
      have c3 : W1.cell? ⟨w.heap.size + 1, 0, none⟩ = some .nilIface := hO1.2.1.cell 0
      have f3 := hO1.2.1.frozen 0
      have hst := stay W1 ho
      clear TK hO hc
      gi_wp2
      refine ⟨(hst.setCell (.inl (by show w.heap.size < _; omega)) _).setCell (.inl (by show w.heap.size + 1 < _; omega)) _, rfl, a, n, _, hrn, hO1.set _ _, q, by omega, rfl, ?_⟩
      exact Cells.other (Cells.other hqc (by show q ≠ w.heap.size; omega) _) (by show q ≠ w.heap.size + 1; omega) _
    | ok p' =>
      rw [htk] at ht
      obtain ⟨rfl, T', hp', hst⟩ := ht
      have hrn := runP_snoc HR.out htk
      obtain ⟨hi', _⟩ := Inv.take HI.out hge htk
      clear TK hc
      gi_wp2
      refine ⟨stay W1 hst.only, hO.only hst.only hTR, T', p', hrn, ?_, hp', fun r h1 h2 => (hst.old r (by omega)).2 (hT r h1 h2)⟩
      rw [List.flatMap_append, List.length_append, ← HX.out]
      simpa using hi'
  case done =>
    rw [hz]
    rintro W ⟨hO, T, p, hr, hi, hp, hT⟩ hmark
    have zW : w.heap.size + 4 < W.heap.size := (Array.getElem?_eq_some_iff.1 hmark).1
    rw [HJL.out] at hi
    have hTR : ∀ r, T r ≠ 0 → w.heap.size + 2 ≤ r := fun r hr => by obtain ⟨V, hv⟩ := hp; exact (hv.low r hr).1
    have EF := endField_any hp (by omega) (by have := hi.said; omega) (by have := hi.fields; omega)
    have PL : Hid (parseL s.data.toList = lastP s.data.toList p) := by
      show _ = _
      unfold parseL; rw [HXS.out, hr]
    have HI := Lib.hid hi.endField
    have h4 : T (w.heap.size + 4) = 0 := hT _ (by omega) (by omega)
    have l0 := hp.lt
    clear hr hi hp
    gi_wp2_with fail
    refine ⟨trivial, (callsIn_wide.2 EF).mono ?_⟩
    rintro e W1 hE
    unfold EndField at hE
    by_cases h0 : endFieldN p = 0
    · rw [if_pos h0] at hE
      obtain ⟨rfl, T1, g1, s1⟩ := hE
      have hO1 := hO.only s1.only hTR
      have hm1 := (s1.only.same _ zW (fun e => e h4)).trans hmark
      have h41 := (s1.old _ zW).2 h4
      have hTR1 : ∀ r, T1 r ≠ 0 → w.heap.size + 2 ≤ r := fun r hr => by obtain ⟨V, hv⟩ := g1; exact (hv.low r hr).1
      have zW1 := s1.only.size
      have e0 := endField_at p
      have hat := HI.out.at_
      have EB := endBlock_any g1 (by omega) s.size hat (Nat.le_refl _) (by omega) (by have := HI.out.items; omega) (by have := HI.out.stanzas; omega)
      have l1 := g1.lt
      have PY : Hid (parseL s.data.toList = .ok (endBlockP s.data.toList (endFieldP p) s.size).items) := by
        show _ = _
        rw [PL.out]; unfold lastP; rw [if_neg (by simpa using h0), ← Lib.size_eq]
      clear EF hO hmark HI PL g1
      gi_wp2_with fail
      refine ⟨trivial, (callsIn_wide.2 EB).mono ?_⟩
      rintro e W2 ⟨rfl, T2, ⟨V2, g2⟩, s2⟩
      have hO2 := hO1.only s2.only hTR1
      have hm2 := (s2.only.same _ (by omega) (fun e => e h41)).trans hm1
      obtain ⟨a3, c3, e3, _⟩ := own_slice g2.r3
      have hits := g2.its
      have q3 : W2.cell? ⟨w.heap.size + 1 + 1, 3, none⟩ = some (.slice a3 (endBlockP s.data.toList (endFieldP p) s.size).items.length c3) := by rw [← e3]; exact g2.cells.cell 3
      have l2 := g2.lt
      have c2 : W2.cell? ⟨w.heap.size, 0, none⟩ = some (.slice none 0 0) := hO2.1.cell 0
      have f2 := hO2.1.frozen 0
      have c3' : W2.cell? ⟨w.heap.size + 1, 0, none⟩ = some .nilIface := hO2.2.1.cell 0
      have f3 := hO2.2.1.frozen 0
      rw [e3] at hits
      have HITS := Lib.hid hits
      have hT2 : T2 (w.heap.size + 4) = 0 := (s2.old _ (by omega)).2 h41
      have HG := Lib.hid (fun W' (hs : ∀ k, T2 k ≠ 0 → W'.heap[k]? = W2.heap[k]?) hz => And.intro (g2.same (w' := W') hs hz).its (g2.same (w' := W') hs hz).nil)
      have hlow2 : ∀ r, T2 r ≠ 0 → w.heap.size + 2 ≤ r := fun r hr => (g2.low r hr).1
      rw [e3] at HG
      clear EB hits g2
      gi_wp2
      refine parseOut w _ (.slice a3 (endBlockP s.data.toList (endFieldP p) s.size).items.length c3) .nilIface _ (hO2.set _ _) rfl rfl ?_ rfl rfl fun hb => .yes PY.out hb (HG.out _ ?_ ?_)
      · exact (Below.heap_setCell _ _ _ _ (by show w.heap.size + 4 ≠ w.heap.size + 1; omega)).trans ((Below.heap_setCell _ _ _ _ (by show w.heap.size + 4 ≠ w.heap.size; omega)).trans hm2)
      · intro k hk
        have h1 := hlow2 k hk
        rw [World.putObj_heap_other (by rintro rfl; exact hk hT2)]
        exact (Below.heap_setCell _ _ _ _ (by show k ≠ w.heap.size + 1; omega)).trans (Below.heap_setCell _ _ _ _ (by show k ≠ w.heap.size; omega))
      · simp [World.setCell]
    · rw [if_neg h0] at hE
      obtain ⟨v, rfl, ⟨q, hq, rfl, hqc⟩, hb1⟩ := hE
      have hO1 : Out w W1 (.slice none 0 0) .nilIface := ⟨hO.1.below hb1 hO.1.lt, hO.2.1.below hb1 hO.2.1.lt, hO.2.2.trans (hb1.mono hO.2.2.size)⟩
      have hm1 := (hb1.block _ zW).trans hmark
      have c2 : W1.cell? ⟨w.heap.size, 0, none⟩ = some (.slice none 0 0) := hO1.1.cell 0
      have f2 := hO1.1.frozen 0
      have c3' : W1.cell? ⟨w.heap.size + 1, 0, none⟩ = some .nilIface := hO1.2.1.cell 0
      have f3 := hO1.2.1.frozen 0
      have PN : Hid (parseL s.data.toList = .error (p.begin_, endFieldN p)) := by
        show _ = _
        rw [PL.out]; unfold lastP; rw [if_pos h0]
      clear EF hO hmark HI PL
      gi_wp2
      refine parseOut w _ (.slice none 0 0) (.iface 107 (.pointer (some ⟨q, 0, none⟩))) _ (hO1.set _ _) rfl rfl ?_ rfl rfl fun hb => .no PN.out hb ⟨q, by omega, rfl, ?_⟩
      · exact (Below.heap_setCell _ _ _ _ (by show w.heap.size + 4 ≠ w.heap.size + 1; omega)).trans ((Below.heap_setCell _ _ _ _ (by show w.heap.size + 4 ≠ w.heap.size; omega)).trans hm1)
      · exact (World.putObj_heap_other (by omega)).trans (Cells.other (Cells.other hqc (by show q ≠ w.heap.size; omega) _) (by show q ≠ w.heap.size + 1; omega) _)
  case stop =>
    rw [hz]
    rintro c pre W hpre ⟨rfl, a, n, v, hr, hO, ⟨q, hq, rfl, hqc⟩⟩ hmark
    have PN : Hid (parseL s.data.toList = .error (a, n)) := by
      show _ = _
      unfold parseL; rw [HXS.out, runP_stop hr hpre]
    gi_wp2
    refine parseOut w _ (.slice none 0 0) (.iface 107 (.pointer (some ⟨q, 0, none⟩))) _ hO rfl rfl hmark rfl rfl fun hb => .no PN.out hb ⟨q, by omega, rfl, ?_⟩
    exact (World.putObj_heap_other (by omega)).trans hqc
end Go.Proofs.YtiebbgbcojgeoaaGreatDoor
/- Errors at places, by their numbers; the law's fixed fact. -/
namespace Go.Proofs.YtiebbgbcojgeoaaGreatDoor
open Go.RowKit Go.Shelf

theorem assertErrF (q : Option Addr) (w : World) : (Instr.typeAssert (.iface 107 (.pointer q)) 27 75 true).run Tryz.prog w = .ok (.tuple #[.int .i64 0, .bool false]) w := by kernel_rfl
theorem assertFaultF (q : Option Addr) (w : World) : (Instr.typeAssert (.iface 107 (.pointer q)) 27 107 true).run Tryz.prog w = .ok (.tuple #[.pointer q, .bool true]) w := by kernel_rfl
theorem assertFaultE (n : Int) (w : World) : (Instr.typeAssert (.iface 75 (.int .i64 n)) 27 107 true).run Tryz.prog w = .ok (.tuple #[.pointer none, .bool false]) w := by kernel_rfl
theorem assertFault0 (w : World) : (Instr.typeAssert .nilIface 27 107 true).run Tryz.prog w = .ok (.tuple #[.pointer none, .bool false]) w := by kernel_rfl
theorem assertErrN (n : Int) (w : World) : (Instr.typeAssert (.iface 75 (.int .i64 n)) 27 75 true).run Tryz.prog w = .ok (.tuple #[.int .i64 n, .bool true]) w := by kernel_rfl
attribute [local go_sem] errV_0 assertErrF assertFaultF assertFaultE assertFault0 assertErrN
set_option maxRecDepth 100000 in
set_option maxHeartbeats 2000000 in
theorem num_fault {lo : Nat} {w : World} {v : Value} {a n : Nat} (h : FaultAt lo w v a n) (h1 : n ≠ 0) (h2 : n ≤ 1000) : Calls Tryz.prog 14 #[v] w fun e w' => e = .returned (.int .i64 n) ∧ w = w' := by
  obtain ⟨q, _, rfl, hc⟩ := h
  have c1 : w.cell? ⟨q, 1, none⟩ = some (.iface 75 (.int .i64 n)) := by rw [hc.cell 1]; show some (errV n) = _; rw [errV_pos n (by omega)]
  have hl := hc.lt
  have hne : ((n : Int) != 0) = true := by simp; omega
  have hne2 : ((n : Int) == 0) = false := by simp; omega
  clear hc h1
  go_enter Tryz.func14, Tryz.ntmps14
  go_wp2
  refine wp_loop_rounds 2 ?_
  rw [rounds_succ]
  go_wp2
  rw [rounds_succ]
  go_wp2
  go_ret
  exact ⟨rfl, rfl⟩
set_option maxRecDepth 100000 in
set_option maxHeartbeats 2000000 in
theorem is_fault {lo : Nat} {w : World} {v : Value} {a n : Nat} (h : FaultAt lo w v a n) (h1 : n ≠ 0) (h2 : n ≤ 1000) (m : Nat) : Calls Tryz.prog 33 #[v, .int .i64 m] w fun e w' => e = .returned (.bool (n == m)) ∧ w = w' := by
  have N := num_fault h h1 h2
  have e2 : (n == m) = ((n : Int) == m) := by rw [Bool.eq_iff_iff]; simp; omega
  rw [e2]
  obtain ⟨q, _, rfl, hc⟩ := h
  clear hc
  go_enter Tryz.func33, Tryz.ntmps33
  go_wp2_with fail
  refine N.mono ?_
  rintro e w1 ⟨rfl, rfl⟩
  go_wp2
  go_ret
  exact ⟨rfl, rfl⟩
set_option maxRecDepth 100000 in
set_option maxHeartbeats 2000000 in
theorem at_fault {lo : Nat} {w : World} {v : Value} {a n : Nat} (h : FaultAt lo w v a n) : Calls Tryz.prog 15 #[v] w fun e w' => e = .returned (.int .i64 a) ∧ w = w' := by
  obtain ⟨q, _, rfl, hc⟩ := h
  have c0 : w.cell? ⟨q, 0, none⟩ = some (.int .i64 a) := hc.cell 0
  have hl := hc.lt
  clear hc
  go_enter Tryz.func15, Tryz.ntmps15
  go_wp2
  go_ret
  exact ⟨rfl, rfl⟩
theorem at_nil (w : World) : Calls Tryz.prog 15 #[.nilIface] w fun e w' => e = .returned (.int .i64 (-9)) ∧ w = w' := by
  go_enter Tryz.func15, Tryz.ntmps15
  go_wp2
  go_ret
  exact ⟨rfl, rfl⟩
theorem at_err (n : Int) (w : World) : Calls Tryz.prog 15 #[.iface 75 (.int .i64 n)] w fun e w' => e = .returned (.int .i64 (-9)) ∧ w = w' := by
  go_enter Tryz.func15, Tryz.ntmps15
  go_wp2
  go_ret
  exact ⟨rfl, rfl⟩
set_option maxHeartbeats 1000000 in
theorem parse_long (s : ByteArray) (hs : 60000 < s.size) (h2 : s.size ≤ maxLen) (w : World) :
    Calls Tryz.prog 25 #[.string s] w fun e w' => e = .returned (.tuple #[.slice none 0 0, .iface 75 (.int .i64 1)]) ∧ Below w.heap.size w w' := by
  unfold maxLen at h2
  refine callsIn_wide (n := 9).1 ?_
  refine callsIn_of_wp_marks Tryz.func25 rfl trivial ?_ rfl
  simp only [Tryz.ntmps25, List.size_toArray, List.length_cons, List.length_nil, Nat.reduceAdd, Nat.reduceSub, Array.replicate_succ, Array.replicate_zero, List.push_toArray, List.append_toArray, List.nil_append, List.cons_append]
  gi_wp2_with fail
  have h0 : Cells ((w.alloc (.cells #[.slice none 0 0] 55)).alloc (.cells #[.iface 75 (.int .i64 1)] 27)) w.heap.size 55 #[.slice none 0 0] := (Cells.new w _ _).alloc _
  have h1 := Cells.new (w.alloc (.cells #[.slice none 0 0] 55)) 27 #[.iface 75 (.int .i64 1)]
  rw [World.size_alloc] at h1
  have c0 := h0.cell 0
  have c1 := h1.cell 0
  simp only [List.getElem?_toArray, List.getElem?_cons_zero] at c0 c1
  exact ⟨.tuple #[.slice none 0 0, .iface 75 (.int .i64 1)], by simp [results, Tryz.f25, go_sem, c0, c1], rfl, ((Below.refl _ w).alloc (Nat.le_refl _) _).alloc (by simp) _⟩
theorem Its.at_ {w : World} {v : Value} {its : List It} (h : Its w v its) {i : Nat} {it : It} (hi : its[i]? = some it) : ∃ b off cap fa fc, v = .slice (some ⟨b, off, none⟩) its.length cap ∧ its.length ≤ cap ∧ b < w.heap.size ∧ w.cell? ⟨b, off + i * 3, none⟩ = some (.int .i64 it.kind) ∧ w.cell? ⟨b, off + i * 3 + 1, none⟩ = some (.string (B it.raw)) ∧ w.cell? ⟨b, off + i * 3 + 1 + 1, none⟩ = some (.slice fa it.fields.length fc) ∧ it.fields.length ≤ fc := by
  obtain ⟨A, cap, rfl, hle, hc⟩ := h
  obtain ⟨b, off, fv, rfl, hlt, c0, c1, c2, fa, fc, rfl, hfl, _⟩ := hc i it hi
  exact ⟨b, off, cap, fa, fc, rfl, hle, hlt, c0, c1, c2, hfl⟩
theorem alive_parse : parseL [65, 58, 32, 49, 10, 35, 32, 120, 10, 10] = .ok [⟨3, [65, 58, 32, 49, 10, 35, 32, 120, 10], [([65], [49])]⟩, ⟨1, [10], []⟩] := by kernel_rfl
end Go.Proofs.YtiebbgbcojgeoaaGreatDoor
/- Plain. -/
namespace Go.Proofs.YtiebbgbcojgeoaaGreatDoor
open Go.RowKit Go.Shelf

theorem unfold_zero {ls : List (List UInt8)} (h : unfoldN ls = 0) : checkN (unfoldK ls) (unfoldV ls) = 0 ∧ (unfoldK ls).length ≤ 32 ∧ (unfoldV ls).length ≤ 1000 := by
  cases hF : sayF ls with
  | false => rw [(unfold_no hF).1] at h; cases h
  | true =>
    by_cases hl : (saidV ls).length ≤ 1000
    · obtain ⟨a, r, rfl, hka, _⟩ := sayF_parts hF
      obtain ⟨_, e2, e3⟩ := unfold_yes hF hl
      have hg : goodKey (before a) = true := (kind4 hka).2.2
      rw [e2, e3]
      exact ⟨by unfold checkN; rw [hg, if_pos rfl, if_pos hl], (good_parts hg).2.1, hl⟩
    · rw [(unfold_long hF hl).1] at h; cases h
theorem mapB_inj {a b : List (List UInt8)} : (a.map B = b.map B) ↔ a = b := by
  constructor
  · intro h
    have := congrArg (List.map (·.data.toList)) h
    rw [List.map_map, List.map_map] at this
    have e : ∀ l : List (List UInt8), l.map ((·.data.toList) ∘ B) = l := fun l => by
      conv => rhs; rw [← List.map_id l]
      exact List.map_congr_left fun x _ => B_data x
    rwa [e, e] at this
  · intro h; rw [h]
attribute [local go_sem] errV_0
end Go.Proofs.YtiebbgbcojgeoaaGreatDoor
/- A strings.Builder in a block of its own, its row from R on: what WriteString does to the world, block by block. -/
namespace Go.Proofs.YtiebbgbcojgeoaaGreatDoor
open Go.RowKit Go.Shelf

theorem laid166 : Lays.n166 Tryz.prog Tryz.lays156_ren := { Tryz.lays156 with }
theorem laid240 : Lays.n240 Tryz.prog Tryz.lays156_ren := { Tryz.lays156 with }

/-- The builder in block b holds the bytes l; its row lies from R on. -/
def Bld (b R : Nat) (l : List UInt8) (W : World) : Prop :=
  ∃ p v, W.heap[b]? = some (.cells #[p, v] 217 (0, 0)) ∧ (p = .pointer none ∨ p = .pointer (some ⟨b, 0, none⟩)) ∧ W.ownsRow R 5 1 v l.length (Lib.byteCells l)

/-- Whatever lay below R lies as it lay, but block b. -/
structure Wrote (b R : Nat) (W W' : World) : Prop where
  os : W'.os = W.os
  tape : W'.tape = W.tape
  output : W'.output = W.output
  size : W.heap.size ≤ W'.heap.size
  same : ∀ r, r < R → r < W.heap.size → r ≠ b → W'.heap[r]? = W.heap[r]?
  others : Lib.OthersKept 5 (some b) W W'

theorem Wrote.refl (b R : Nat) (W : World) : Wrote b R W W := ⟨rfl, rfl, rfl, Nat.le_refl _, fun _ _ _ _ => rfl, Lib.OthersKept.refl _ _ _⟩
theorem Wrote.trans {b R : Nat} {X Y Z : World} (h : Wrote b R X Y) (g : Wrote b R Y Z) : Wrote b R X Z :=
  ⟨g.os.trans h.os, g.tape.trans h.tape, g.output.trans h.output, Nat.le_trans h.size g.size, fun r a c e => (g.same r a (Nat.lt_of_lt_of_le c h.size) e).trans (h.same r a c e), h.others.trans g.others⟩
theorem Wrote.grown {b R : Nat} {X Y Z : World} (h : Wrote b R X Y) {row : Option Nat} (hg : Y.grownBy Z row) (hr : ∀ r, row = some r → R ≤ r ∧ ∃ c fz, Y.heap[r]? = some (.cells c 5 fz)) : Wrote b R X Z :=
  h.trans ⟨hg.os, hg.tape, hg.output, hg.size, fun r a c e => hg.block r c (fun e2 => by have := (hr r e2.symm).1; omega), (Lib.OthersKept.refl _ _ _).grown hg (fun g e => (hr g e).2)⟩
theorem Wrote.put {b R : Nat} {X Y : World} (h : Wrote b R X Y) (j : Nat) (u : Value) : Wrote b R X (Y.setCell ⟨b, j, none⟩ u) :=
  h.trans ⟨rfl, rfl, rfl, by simp [World.setCell], fun r _ _ e => Below.heap_setCell _ _ _ _ e, Lib.OthersKept.setCell (b := b) (Lib.OthersKept.refl _ _ Y) ⟨b, j, none⟩ rfl u⟩
theorem Wrote.other {b R c : Nat} {X Y : World} {cs : Array Value} {t : TypeId} (h : Wrote b R X Y) (hc : X.heap[c]? = some (.cells cs t (0, 0))) (hne : c ≠ b) (ht : t ≠ 5) : Y.heap[c]? = some (.cells cs t (0, 0)) :=
  h.others c _ hc (fun e => hne (Option.some.inj e)) (fun c' fz e => ht (by injection e))
theorem Wrote.alloc {b R : Nat} {X Y : World} (h : Wrote b R X Y) (o : Obj) : Wrote b R X (Y.alloc o) :=
  h.grown (World.grownBy_alloc Y o none) (fun r e => by cases e)
theorem Wrote.drew {b R : Nat} {X Y : World} (h : Wrote b R X Y) : Wrote b R X Y.drew := ⟨h.os, h.tape, h.output, h.size, h.same, h.others⟩
theorem Wrote.below {b R n : Nat} {X Y : World} (h : Wrote b R X Y) (hb : n ≤ b) (hR : n ≤ R) (hs : n ≤ X.heap.size) : Below n X Y :=
  ⟨h.os, h.tape, h.output, h.size, fun r a => h.same r (by omega) (by omega) (by omega)⟩
theorem Wrote.stay {b R B k : Nat} {X Y : World} (h : Wrote b R X Y) (hb : b < B) (hR : B + k ≤ R) (hs : B + k ≤ X.heap.size) : Stay B k X Y :=
  ⟨h.size, fun r a c => h.same r (by omega) (by omega) (by omega)⟩
theorem Wrote.box {b R c : Nat} {X Y : World} {t : TypeId} {v : Value} (h : Wrote b R X Y) (hv : Boxed X c t v) (hc : c < R) (hne : c ≠ b) : Boxed Y c t v :=
  (h.same c hc hv.lt hne).trans hv

theorem Bld.lt {b R : Nat} {l : List UInt8} {W : World} (h : Bld b R l W) : b < W.heap.size := by
  obtain ⟨p, v, hb, _⟩ := h
  exact (Array.getElem?_eq_some_iff.1 hb).1
theorem Bld.alloc {b R : Nat} {l : List UInt8} {W : World} (h : Bld b R l W) (o : Obj) : Bld b R l (W.alloc o) := by
  have hlt := h.lt
  obtain ⟨p, v, hb, hp, hv⟩ := h
  exact ⟨p, v, (Below.heap_alloc _ _ _ hlt).trans hb, hp, hv.alloc _⟩
theorem Bld.new (w : World) (R : Nat) : Bld w.heap.size R [] (w.alloc (.cells #[.pointer none, .slice none 0 0] 217)) :=
  ⟨_, _, World.alloc_heap_new w _, .inl rfl, by simp [Lib.byteCells], .inl ⟨rfl, rfl⟩⟩
theorem Bld.turned {b R B k : Nat} {l : List UInt8} {W W' : World} (h : Bld b R l W) (ht : Turned B k W W') (hb : b < B) (hR : B + k ≤ R) : Bld b R l W' := by
  have hlt := h.lt
  obtain ⟨p, v, hb', hp, hv⟩ := h
  refine ⟨p, v, (ht.same b hlt (.inl hb)).trans hb', hp, ?_⟩
  exact ht.row hv (fun g e => .inr (by have := (hv.lt g e).1; omega))
/-- As the library's builder. -/
theorem Bld.library {b R B : Nat} {l : List UInt8} {W : World} (h : Bld b R l W) (hB : B ≤ b) (hR : B ≤ R) : Lib.IsBuilderF 217 5 B b (Lib.byteCells l) W := by
  obtain ⟨p, v, hb, hp, hv⟩ := h
  have hv2 : W.ownsRow B 5 1 v (Lib.byteCells l).length (Lib.byteCells l) := by
    rw [Lib.byteCells_length]
    refine ⟨hv.1, ?_⟩
    rcases hv.2 with hn | ⟨g, cap, cur, e1, e2, rest⟩
    · exact .inl hn
    · exact .inr ⟨g, cap, cur, e1, Nat.le_trans hR e2, rest⟩
  have hne : v.ownBlock ≠ some b := Lib.ownBlock_ne hv hb (by decide)
  refine Lib.IsBuilderF.of ?_
  rcases hp with rfl | rfl
  · exact .inl ⟨hB, v, hb, hv2, hne⟩
  · exact .inr ⟨hB, v, hb, hv2, hne⟩

set_option maxHeartbeats 2000000 in
set_option maxRecDepth 100000 in
theorem writes (b R : Nat) (l : List UInt8) (s : ByteArray) (w : World) (h : Bld b R l w) (hbR : b < R) (hR : R ≤ w.heap.size) (hlen : l.length + s.size ≤ 140737488355328) :
    Calls Tryz.prog 134 #[.pointer (some ⟨b, 0, none⟩), .string s] w fun e w' => e = .returned (.tuple #[.int .i64 s.size, .nilIface]) ∧ Bld b R (l ++ s.data.toList) w' ∧ Wrote b R w w' := by
  obtain ⟨i0, hi, hz0, hz1, hz2⟩ := info_parts Tryz.Builder_Extra_156.infoByte
  have hcopy : Calls Tryz.prog 157 #[.pointer (some ⟨b, 0, none⟩)] w fun e w' => e = .returned (.tuple #[]) ∧ (∃ v, w'.heap[b]? = some (.cells #[.pointer (some ⟨b, 0, none⟩), v] 217 (0, 0)) ∧ w'.ownsRow R 5 1 v l.length (Lib.byteCells l)) ∧ Wrote b R w w' := by
    obtain ⟨p, v, hb, hp, hv⟩ := h
    have hlt : b < w.heap.size := (Array.getElem?_eq_some_iff.1 hb).1
    rcases hp with rfl | rfl
    · refine (Any.Builder_copyCheck_fresh laid240 Tryz.Builder_Extra_156.toX72 b w ?_ ?_ ?_).mono ?_
      · rw [Lib.cell_of_heap hb]; rfl
      · simp [World.shape?, hb]; rfl
      · exact Lib.frozen_of_heap hb 0
      rintro e w' ⟨rfl, rfl⟩
      refine ⟨rfl, ⟨v, ?_, ?_⟩, ?_⟩
      · simp [World.setCell, Array.getElem?_modify, hb]
      · exact hv.kept (grownBy_setCell' w b _) (by
          cases hvb : v.ownBlock with
          | none => exact .inl rfl
          | some g => exact .inr (fun e => by have := (hv.lt g hvb).1; have := Option.some.inj e; omega))
      · exact (Wrote.refl b R w).put 0 _
    · refine (Any.Builder_copyCheck_used laid240 Tryz.Builder_Extra_156.toX72 b w ?_).mono ?_
      · rw [Lib.cell_of_heap hb]; rfl
      rintro e w' ⟨rfl, rfl⟩
      exact ⟨rfl, ⟨v, hb, hv⟩, Wrote.refl b R _⟩
  go_enter Tryz.func134, Tryz.ntmps134
  go_wp2_with (go_at_call 157; refine hcopy.mono ?_)
  rintro e w1 ⟨rfl, ⟨v, hbk, hown⟩, hw1⟩
  have c0 : w1.cell? ⟨b, 0, none⟩ = some (.pointer (some ⟨b, 0, none⟩)) := by rw [Lib.cell_of_heap hbk]; rfl
  have c1 : w1.cell? ⟨b, 1, none⟩ = some v := by rw [Lib.cell_of_heap hbk]; rfl
  go_wp2_with (at_builtin; refine Lib.wpList_append_own_string _ rfl _ _ 215 9 rfl R 5 i0 Tryz.underlying215 Tryz.underlying9 hi hz0 hz1 hz2 _ _ _ rfl hown s rfl ?c3 ?c4 ?c5 ?_)
  case c3 => unfold maxLen; omega
  case c4 => omega
  case c5 => have := hw1.size; omega
  intro v' w2 hown' hgrow _
  have hlt : b < w1.heap.size := (Array.getElem?_eq_some_iff.1 hbk).1
  have hrow : ∀ r, v.ownBlock = some r → R ≤ r := fun r e => (hown.lt r e).1
  have hb2 : w2.heap[b]? = some (.cells #[.pointer (some ⟨b, 0, none⟩), v] 217 (0, 0)) := by
    rw [hgrow.block b hlt (fun e => by have := hrow b e.symm; omega)]
    exact hbk
  have d0 : w2.cell? ⟨b, 0, none⟩ = some (.pointer (some ⟨b, 0, none⟩)) := by rw [Lib.cell_of_heap hb2]; rfl
  have d1 : w2.cell? ⟨b, 1, none⟩ = some v := by rw [Lib.cell_of_heap hb2]; rfl
  have f1 : w2.frozen? ⟨b, 1, none⟩ = false := Lib.frozen_of_heap hb2 1
  obtain ⟨ao, n', cap, rfl⟩ : ∃ ao n' cap, v' = .slice ao n' cap := by
    rcases hown'.2 with ⟨hv, _⟩ | ⟨g, cap, cur, hv, _⟩
    · exact ⟨_, _, _, hv⟩
    · exact ⟨_, _, _, hv⟩
  go_wp2
  go_ret2
  have hset : w2.grownBy (w2.setCell ⟨b, 1, none⟩ (.slice ao n' cap)) (some b) :=
    ⟨rfl, rfl, rfl, by simp [World.setCell], fun k _ hk => Below.heap_setCell _ _ _ k (fun e => hk (by rw [e]))⟩
  refine ⟨rfl, ⟨.pointer (some ⟨b, 0, none⟩), .slice ao n' cap, ?_, .inr rfl, ?_⟩, ?_⟩
  · simp [World.setCell, Array.getElem?_modify, hb2]
  · rw [List.length_append, ← Lib.size_eq, Lib.byteCells_append, ← Lib.strCells_eq]
    refine hown'.kept hset ?_
    cases hvb : (Value.slice ao n' cap).ownBlock with
    | none => exact .inl rfl
    | some g => exact .inr (fun e => by have := (hown'.lt g hvb).1; have := Option.some.inj e; omega)
  · refine (hw1.grown hgrow (fun r e => ⟨hrow r e, ?_⟩)).put 1 _
    rcases hown.2 with ⟨hn, _⟩ | ⟨g, cap, cur, hv, _, hg, _⟩
    · rw [hn] at e; cases e
    · rw [hv] at e
      cases e
      exact ⟨_, _, hg⟩
end Go.Proofs.YtiebbgbcojgeoaaGreatDoor
/- Fold: what is folded, plainly; the frames of a builder beside rows of texts. -/
namespace Go.Proofs.YtiebbgbcojgeoaaGreatDoor
open Go.RowKit Go.Shelf

def foldN : List (List UInt8 × List UInt8) → Nat
  | [] => 0
  | f :: r => if checkN f.1 f.2 = 0 then foldN r else checkN f.1 f.2
def foldG (fs : List (List UInt8 × List UInt8)) : List UInt8 := fs.flatMap fun f => textL (linesL f.1 f.2)
def foldT (fs : List (List UInt8 × List UInt8)) : List UInt8 := if foldN fs = 0 then foldG fs else []
theorem foldN_le : ∀ fs, foldN fs ≤ 6
  | [] => by decide
  | f :: r => by
    unfold foldN
    split
    · exact foldN_le r
    · unfold checkN; split
      · split <;> decide
      · decide
theorem checkN_zero {k v : List UInt8} (h : checkN k v = 0) : goodKey k = true ∧ v.length ≤ 1000 := by
  unfold checkN at h
  split at h
  · rename_i hg
    split at h
    · rename_i hl; exact ⟨hg, hl⟩
    · cases h
  · cases h
theorem text_le {k v : List UInt8} (h : checkN k v = 0) : (textL (linesL k v)).length ≤ 4000 := by
  obtain ⟨a, b⟩ := checkN_zero h
  have c := (good_parts a).2.1
  rw [textL_len]
  have := lines_sum k v
  omega
theorem foldG_snoc (fs : List (List UInt8 × List UInt8)) (f : List UInt8 × List UInt8) : foldG (fs ++ [f]) = foldG fs ++ textL (linesL f.1 f.2) := by unfold foldG; simp
theorem textL_snoc (ls : List (List UInt8)) (x : List UInt8) : textL (ls ++ [x]) = (textL ls ++ x) ++ [10] := by unfold textL; simp
theorem textL_take (ls : List (List UInt8)) (j : Nat) : (textL (ls.take j)).length ≤ (textL ls).length := by
  conv => rhs; rw [← List.take_append_drop j ls, textL_append, List.length_append]
  omega
/-- A row of texts beside a builder. -/
theorem OwnS.wrote {w w' : World} {base b R : Nat} {v : Value} {ss : List ByteArray} (h : OwnS w base v ss) (hw : Wrote b R w w') {cs : Array Value} (hb : w.heap[b]? = some (.cells cs 217 (0, 0))) : OwnS w' base v ss := by
  refine ⟨h.1, ?_⟩
  rcases h.2 with hn | ⟨g, cap, cur, hv, hg, hc, rest⟩
  · exact .inl hn
  · refine .inr ⟨g, cap, cur, hv, hg, hw.other hc ?_ (by decide), rest⟩
    rintro rfl
    rw [hb] at hc
    cases hc
theorem Bld.kept {b R N : Nat} {l : List UInt8} {W W' : World} (h : Bld b R l W) (hb : Below N W W') (hN : W.heap.size ≤ N) : Bld b R l W' := by
  have hlt := h.lt
  obtain ⟨p, v, hb', hp, hv⟩ := h
  exact ⟨p, v, (hb.block b (by omega)).trans hb', hp, own_kept hv hb hN⟩
theorem Bld.cells {b R : Nat} {l : List UInt8} {W : World} (h : Bld b R l W) : ∃ cs, W.heap[b]? = some (.cells cs 217 (0, 0)) := by
  obtain ⟨p, v, hb', _⟩ := h
  exact ⟨_, hb'⟩
end Go.Proofs.YtiebbgbcojgeoaaGreatDoor
/- Slices of fields: Much, Copies, Fields. -/
namespace Go.Proofs.YtiebbgbcojgeoaaGreatDoor
open Go.RowKit Go.Shelf

def minF (fs : List (List UInt8 × List UInt8)) : Nat := (fs.map fun f => min f.1.length 10000 + min f.2.length 10000).sum
theorem minF_snoc (fs : List (List UInt8 × List UInt8)) (f : List UInt8 × List UInt8) : minF (fs ++ [f]) = minF fs + (min f.1.length 10000 + min f.2.length 10000) := by unfold minF; simp
theorem minF_small : ∀ (fs : List (List UInt8 × List UInt8)), minF fs ≤ 6000 → ∀ f ∈ fs, f.1.length ≤ 6000 ∧ f.2.length ≤ 6000
  | [], _, f, hf => by simp at hf
  | a :: r, h, f, hf => by
    have e : minF (a :: r) = (min a.1.length 10000 + min a.2.length 10000) + minF r := rfl
    rw [e] at h
    rcases List.mem_cons.1 hf with rfl | hf
    · omega
    · exact minF_small r (by omega) f hf
structure FldsIn (w : World) (v : Value) (fs : List (List UInt8 × List UInt8)) : Prop where
  flds : Flds w v fs
  nil : ∀ n c, v = .slice none n c → c = 0
  len : fs.length ≤ maxLen
  each : ∀ f ∈ fs, f.1.length ≤ maxLen ∧ f.2.length ≤ maxLen

def MuchR (fs : List (List UInt8 × List UInt8)) (e : Ending) : Prop := ∃ b : Bool, e = .returned (.bool b) ∧ (b = false → fs.length ≤ 61 ∧ (∀ f ∈ fs, f.1.length ≤ 6000 ∧ f.2.length ≤ 6000) ∧ minF fs ≤ 6000)
set_option maxRecDepth 100000 in
set_option maxHeartbeats 4000000 in
theorem much_any (fs : List (List UInt8 × List UInt8)) (v : Value) (w : World) (hs : Flds w v fs) (hm : fs.length ≤ maxLen) (he : ∀ f ∈ fs, f.1.length ≤ maxLen ∧ f.2.length ≤ maxLen) :
    Calls Tryz.prog 50 #[v] w fun e w' => MuchR fs e ∧ Below w.heap.size w w' := by
  obtain ⟨A, cap, rfl, hle, hc⟩ := hs
  have PC := Lib.hid hc
  have EA := Lib.hid he
  clear hc he
  unfold maxLen at hm
  go_enter Tryz.func50, Tryz.ntmps50
  go_wp2_with fail
  go_loopw [3, 8] (fun s i wr => ∃ k : Nat, k ≤ fs.length ∧ k ≤ 61 ∧ i = .int .i64 k ∧ s = .int .i64 (minF (fs.take k) : Nat) ∧ minF (fs.take k) ≤ 6000 ∧ Below w.heap.size w wr) (fun _ i _ => fs.length - (intOf i).toNat)
  case atStart => exact ⟨0, Nat.zero_le _, by decide, rfl, rfl, by simp [minF], Below.refl _ _⟩
  case round =>
    obtain ⟨k, hk, hk61, rfl, rfl, hms, hb⟩ := hrel
    by_cases hlt : k < fs.length
    · obtain ⟨f, hf⟩ : ∃ f, fs[k]? = some f := ⟨_, List.getElem?_eq_getElem hlt⟩
      obtain ⟨b, off, rfl, hbb, c0, c1⟩ := PC.out k f hf
      replace c0 := (hb.cell (p := ⟨b, off + k * 2, none⟩) hbb).trans c0
      replace c1 := (hb.cell (p := ⟨b, off + k * 2 + 1, none⟩) hbb).trans c1
      have T1 : Hid (minF (fs.take (k + 1)) = minF (fs.take k) + (min f.1.length 10000 + min f.2.length 10000)) := by
        show _ = _
        rw [List.take_add_one, hf]; exact minF_snoc _ _
      obtain ⟨l1, l2⟩ := EA.out f (List.mem_of_getElem? hf)
      unfold maxLen at l1 l2
      have y1 := B_size f.1
      have y2 := B_size f.2
      have m1 : ((min f.1.length 10000 : Nat) : Int) = min (f.1.length : Int) 10000 := by omega
      have m2 : ((min f.2.length 10000 : Nat) : Int) = min (f.2.length : Int) 10000 := by omega
      have hba := hb.alloc hb.size (.cells #[.string (B f.1), .string (B f.2)] 73)
      clear hf
      generalize minF (fs.take k) = m at *
      by_cases h60 : 60 < k
      · go_wp2_with fail
        go_ret
        exact ⟨⟨true, rfl, fun h => by cases h⟩, hba⟩
      · by_cases hm4 : 6000 < m + (min f.1.length 10000 + min f.2.length 10000)
        · go_wp2_with fail
          go_ret
          exact ⟨⟨true, rfl, fun h => by cases h⟩, hba⟩
        · go_wp2_with fail
          go_roundw
          case rel => exact ⟨k + 1, hlt, by omega, by go_num, by rw [T1.out, Int.natCast_add, Int.natCast_add, m1, m2], by rw [T1.out]; omega, hba⟩
          case measure => simp [intOf]; omega
    · obtain rfl : k = fs.length := by omega
      rw [List.take_length] at hms
      have SM := Lib.hid (minF_small fs hms)
      clear PC EA
      go_wp2_with fail
      go_ret
      exact ⟨⟨false, rfl, fun _ => ⟨hk61, SM.out, hms⟩⟩, hb⟩
set_option maxRecDepth 100000 in
set_option maxHeartbeats 4000000 in
theorem copies_any (fs : List (List UInt8 × List UInt8)) (v : Value) (w : World) (hs : Flds w v fs) (hnil : ∀ n c, v = .slice none n c → c = 0) (hn : fs.length ≤ 1000) :
    Calls Tryz.prog 53 #[v] w fun e w' => ∃ v', e = .returned v' ∧ Flds w' v' fs ∧ Below w.heap.size w w' := by
  obtain ⟨A, cap, rfl, hle, hc⟩ := hs
  obtain ⟨i0, hi, hz0, hz1, hz2⟩ := info_parts infoFld
  have hoN : (w.alloc (.cells #[] 73)).ownsRow w.heap.size 73 2 (.slice (some ⟨w.heap.size, 0, none⟩) 0 0) 0 [] := World.ownsRow_lit w #[] 0 (Nat.le_refl _) (by decide) rfl
  have hba := (Below.refl w.heap.size w).alloc (Nat.le_refl _) (.cells #[] 73)
  cases A with
  | none =>
    have he : fs = [] := by
      cases fs with
      | nil => rfl
      | cons a r => obtain ⟨b, off, e, _⟩ := hc 0 a rfl; cases e
    have hc0 := hnil _ _ rfl
    subst hc0
    subst he
    simp only [List.length_nil]
    go_enter Tryz.func53, Tryz.ntmps53
    go_wp2_with (at_builtin; refine wpList_append_own_none rfl _ _ 36 rfl w.heap.size 73 i0 2 Tryz.underlying36 hi _ 0 [] rfl hoN rfl ?_)
    go_ret
    exact ⟨_, rfl, flds_of_own (fs := []) hoN, hba⟩
  | some ad =>
    have HC : Hid (∀ (j : Nat) u, (cellsF fs)[j]? = some u → (w.alloc (.cells #[] 73)).cell? (ad.add j) = some u) := by
      show ∀ _, _
      intro j u hu
      have hj : j < (cellsF fs).length := by
        rcases Nat.lt_or_ge j (cellsF fs).length with q | q
        · exact q
        · rw [List.getElem?_eq_none q] at hu; cases hu
      rw [cellsF_len] at hj
      have hi2 : j / 2 < fs.length := by omega
      obtain ⟨f, hf⟩ : ∃ f, fs[j / 2]? = some f := ⟨_, List.getElem?_eq_getElem hi2⟩
      obtain ⟨b, off, e, hbb, c0, c1⟩ := hc _ f hf
      obtain ⟨a1, a2⟩ := cellsF_at fs _ f hf
      cases e
      rw [WideShapes.add_plain, World.cell?_alloc_old _ _ _ (Nat.ne_of_lt hbb)]
      rcases Nat.mod_two_eq_zero_or_one j with h | h
      · have ej : j = j / 2 * 2 := by omega
        rw [← ej] at a1 c0
        rw [c0, ← hu, a1]
      · have ej : j = j / 2 * 2 + 1 := by omega
        rw [Nat.add_assoc, ← ej] at c1
        rw [← ej] at a2
        rw [c1, ← hu, a2]
    have hone : ∀ u ∈ cellsF fs, u.oneCell' = true := by
      intro u hu
      unfold cellsF at hu
      simp at hu
      obtain ⟨a, b, _, h | h⟩ := hu <;> subst h <;> rfl
    have HL := cellsF_len fs
    have OWN := Lib.hid (fun (w' : World) v' (h : w'.ownsRow w.heap.size 73 2 v' fs.length (cellsF fs)) => flds_of_own (fs := fs) h)
    clear hc
    generalize cellsF fs = cf at *
    go_enter Tryz.func53, Tryz.ntmps53
    go_wp2_with (at_builtin; refine wpList_append_own _ rfl _ _ 36 rfl w.heap.size 73 i0 _ 2 32 Tryz.underlying36 hi hz0 hz1 hz2 rfl (by decide) _ 0 [] rfl hoN ad fs.length cap cf rfl HL HC.out hone ?c3 ?c4 ?c5 ?_)
    case c3 => unfold maxLen; omega
    case c4 => omega
    case c5 => simp
    intro v' w3 hown' hgrow _
    have hb3 : Below w.heap.size w w3 := hba.grown hgrow (by simp) (fun j ej => (World.ownsRow.lt hoN j ej).1)
    have F3 := OWN.out w3 v' hown'
    go_wp2_with fail
    go_ret
    exact ⟨_, rfl, F3, hb3⟩
set_option maxRecDepth 100000 in
set_option maxHeartbeats 4000000 in
theorem fields_quiet (fs : List (List UInt8 × List UInt8)) (v v' : Value) (w : World) (h : Flds w v fs) (h' : Flds w v' fs) (hn : fs.length ≤ 1000000) :
    Calls Tryz.prog 21 #[v, v'] w fun e w' => e = .returned (.bool true) ∧ ∃ m, w' = w.drewN m := by
  obtain ⟨A, cap, rfl, hle, hc⟩ := h
  obtain ⟨A', cap', rfl, hle', hc'⟩ := h'
  have PC := Lib.hid hc
  have PC' := Lib.hid hc'
  clear hc hc'
  go_enter Tryz.func21, Tryz.ntmps21
  go_wp2_with fail
  go_loopw [13] (fun i wr => ∃ k : Nat, k ≤ fs.length ∧ i = .int .i64 k ∧ ∃ m, wr = w.drewN m) (fun i _ => fs.length - (intOf i).toNat)
  case atStart => exact ⟨0, Nat.zero_le _, rfl, 0, rfl⟩
  case round =>
    obtain ⟨k, hk, rfl, nd, hwr⟩ := hrel
    by_cases hlt : k < fs.length
    · obtain ⟨f, hf⟩ : ∃ f, fs[k]? = some f := ⟨_, List.getElem?_eq_getElem hlt⟩
      obtain ⟨b, off, rfl, hbb, c0, c1⟩ := PC.out k f hf
      obtain ⟨b', off', rfl, hbb', c0', c1'⟩ := PC'.out k f hf
      replace c0 : wr.cell? ⟨b, off + k * 2, none⟩ = some (.string (B f.1)) := by rw [hwr]; exact c0
      replace c1 : wr.cell? ⟨b, off + k * 2 + 1, none⟩ = some (.string (B f.2)) := by rw [hwr]; exact c1
      replace c0' : wr.cell? ⟨b', off' + k * 2, none⟩ = some (.string (B f.1)) := by rw [hwr]; exact c0'
      replace c1' : wr.cell? ⟨b', off' + k * 2 + 1, none⟩ = some (.string (B f.2)) := by rw [hwr]; exact c1'
      have HW := Lib.hid hwr
      clear hf PC PC' hwr
      generalize B f.1 = X at *
      generalize B f.2 = Y at *
      go_wp2_with (go_quiet (fail))
      go_roundw
      case rel => exact ⟨k + 1, hlt, by go_num, nd + _, by rw [HW.out]; exact World.drewN_drewN _ _ _⟩
      case measure => simp [intOf]; omega
    · obtain rfl : k = fs.length := by omega
      clear PC PC'
      go_wp2_with fail
      go_ret
      exact ⟨rfl, nd, by first | rfl | exact hwr⟩
theorem fields_same (fs : List (List UInt8 × List UInt8)) (v v' : Value) (w : World) (h : Flds w v fs) (h' : Flds w v' fs) (hn : fs.length ≤ 1000000) :
    Calls Tryz.prog 21 #[v, v'] w fun e w' => e = .returned (.bool true) ∧ Below w.heap.size w w' :=
  (fields_quiet fs v v' w h h' hn).mono fun e w' ⟨a, m, b⟩ => ⟨a, by rw [b]; exact drewN_below (Below.refl _ _) m⟩
end Go.Proofs.YtiebbgbcojgeoaaGreatDoor
/- The same items. -/
namespace Go.Proofs.YtiebbgbcojgeoaaGreatDoor
open Go.RowKit Go.Shelf

theorem Flds.drewN {w : World} {v : Value} {fs : List Fld} (h : Flds w v fs) (n : Nat) : Flds (w.drewN n) v fs := h
set_option maxRecDepth 100000 in
set_option maxHeartbeats 8000000 in
theorem items_quiet (its : List It) (v v' : Value) (w : World) (h : Its w v its) (h' : Its w v' its) (hn : its.length ≤ 1000000) (hf : ∀ it ∈ its, it.fields.length ≤ 1000000) :
    Calls Tryz.prog 60 #[v, v'] w fun e w' => e = .returned (.bool true) ∧ ∃ m, w' = w.drewN m := by
  obtain ⟨A, cap, rfl, hle, hc⟩ := h
  obtain ⟨A', cap', rfl, hle', hc'⟩ := h'
  have PC := Lib.hid hc
  have PC' := Lib.hid hc'
  have HF := Lib.hid hf
  clear hc hc' hf
  go_enter Tryz.func60, Tryz.ntmps60
  go_wp2_with fail
  go_loopw [13] (fun i wr => ∃ k : Nat, k ≤ its.length ∧ i = .int .i64 k ∧ ∃ m, wr = w.drewN m) (fun i _ => its.length - (intOf i).toNat)
  case atStart => exact ⟨0, Nat.zero_le _, rfl, 0, rfl⟩
  case round =>
    obtain ⟨k, hk, rfl, nd, hwr⟩ := hrel
    by_cases hlt : k < its.length
    · obtain ⟨it, hit⟩ : ∃ it, its[k]? = some it := ⟨_, List.getElem?_eq_getElem hlt⟩
      obtain ⟨b, off, fv, rfl, hbb, c0, c1, c2, hfl⟩ := PC.out k it hit
      obtain ⟨b', off', fv', rfl, hbb', c0', c1', c2', hfl'⟩ := PC'.out k it hit
      have hm := HF.out it (List.mem_of_getElem? hit)
      have FQ0 : ∀ n, Calls Tryz.prog 21 #[fv, fv'] (wr.drewN n) fun e w' => e = .returned (.bool true) ∧ ∃ m, w' = (wr.drewN n).drewN m := by
        intro n
        rw [hwr]
        exact fields_quiet it.fields fv fv' ((w.drewN nd).drewN n) ((hfl.drewN nd).drewN n) ((hfl'.drewN nd).drewN n) hm
      have FQ := Lib.hid FQ0
      clear FQ0
      replace c0 : wr.cell? ⟨b, off + k * 3, none⟩ = some (.int .i64 it.kind) := by rw [hwr]; exact c0
      replace c1 : wr.cell? ⟨b, off + k * 3 + 1, none⟩ = some (.string (B it.raw)) := by rw [hwr]; exact c1
      replace c2 : wr.cell? ⟨b, off + k * 3 + 1 + 1, none⟩ = some fv := by rw [hwr]; exact c2
      replace c0' : wr.cell? ⟨b', off' + k * 3, none⟩ = some (.int .i64 it.kind) := by rw [hwr]; exact c0'
      replace c1' : wr.cell? ⟨b', off' + k * 3 + 1, none⟩ = some (.string (B it.raw)) := by rw [hwr]; exact c1'
      replace c2' : wr.cell? ⟨b', off' + k * 3 + 1 + 1, none⟩ = some fv' := by rw [hwr]; exact c2'
      have HW := Lib.hid hwr
      clear hit PC PC' hwr hfl hfl' HF
      generalize B it.raw = X at *
      generalize it.kind = K at *
      go_wp2_with (go_quiet ((go_at_call 21; exact Calls.quiet_of (FQ.out _))))
      go_roundw
      case rel => exact ⟨k + 1, hlt, by go_num, _, by rw [HW.out]; exact World.drewN_drewN _ _ _⟩
      case measure => simp [intOf]; omega
    · obtain rfl : k = its.length := by omega
      clear PC PC'
      go_wp2_with fail
      go_ret
      exact ⟨rfl, nd, by first | rfl | exact hwr⟩
end Go.Proofs.YtiebbgbcojgeoaaGreatDoor
/- Items joined; the fields of the records. -/
namespace Go.Proofs.YtiebbgbcojgeoaaGreatDoor
open Go.RowKit Go.Shelf

theorem raws_len (its : List It) (h : ∀ it ∈ its, it.raw.length ≤ 100000) : ∀ k, ((its.take k).flatMap It.raw).length ≤ 100000 * k := by
  intro k
  induction k with
  | zero => simp
  | succ k ih =>
    rw [List.take_add_one, List.flatMap_append, List.length_append]
    cases hk : its[k]? with
    | none => simp only [Option.toList_none, List.flatMap_nil, List.length_nil]; omega
    | some it =>
      have := h it (List.mem_of_getElem? hk)
      simp only [Option.toList_some, List.flatMap_cons, List.flatMap_nil, List.append_nil]; omega
theorem raws_snoc (its : List It) (k : Nat) (it : It) (h : its[k]? = some it) : (its.take (k + 1)).flatMap It.raw = (its.take k).flatMap It.raw ++ it.raw := by
  rw [List.take_add_one, h]; simp
set_option maxRecDepth 100000 in
set_option maxHeartbeats 4000000 in
theorem join_any (its : List It) (v : Value) (w : World) (h : Its w v its) (hn : its.length ≤ 100000) (hr : ∀ it ∈ its, it.raw.length ≤ 100000) :
    Calls Tryz.prog 102 #[v] w fun e w' => e = .returned (.string (B (its.flatMap It.raw))) ∧ Below w.heap.size w w' := by
  have B0 := Bld.new w (w.heap.size + 1)
  have IT := Lib.hid h
  obtain ⟨A, cap, rfl, hle, _⟩ := h
  have HL := Lib.hid (raws_len its hr)
  have HR := Lib.hid hr
  clear hr
  go_enter Tryz.func102, Tryz.ntmps102
  go_wp2_with fail
  go_loopw [8] (fun i wr => ∃ k : Nat, k ≤ its.length ∧ i = .int .i64 k ∧ Bld w.heap.size (w.heap.size + 1) ((its.take k).flatMap It.raw) wr ∧ Below w.heap.size w wr) (fun i _ => its.length - (intOf i).toNat)
  case atStart => exact ⟨0, Nat.zero_le _, rfl, B0, (Below.refl _ _).alloc (Nat.le_refl _) _⟩
  case round =>
    obtain ⟨k, hk, rfl, hbl, hb⟩ := hrel
    have hz := hb.size
    have hbs := hbl.lt
    by_cases hlt : k < its.length
    · obtain ⟨it, hit⟩ : ∃ it, its[k]? = some it := ⟨_, List.getElem?_eq_getElem hlt⟩
      obtain ⟨b, off, cap', fa, fc, e, _, hbb, c0, c1, c2, hfl⟩ := (IT.out.below hb (Nat.le_refl _)).at_ hit
      cases e
      have hl1 := HL.out k
      have hl2 := HR.out it (List.mem_of_getElem? hit)
      have SN := Lib.hid (raws_snoc its k it hit)
      have hba := hb.alloc hz (.cells #[.int .i64 it.kind, .string (B it.raw), .slice fa it.fields.length fc] 47)
      have hbla := hbl.alloc (.cells #[.int .i64 it.kind, .string (B it.raw), .slice fa it.fields.length fc] 47)
      have zr := B_size it.raw
      clear hit IT HL HR hbl
      generalize (its.take k).flatMap It.raw = pre at *
      go_wp2_with fail
      refine (writes w.heap.size (w.heap.size + 1) _ (B it.raw) _ hbla (by omega) (by simp; omega) (by omega)).mono ?_
      rintro e w5 ⟨rfl, hbl5, hw5⟩
      rw [B_data] at hbl5
      have hb5 := hba.trans (hw5.below (Nat.le_refl _) (by omega) (by simp; omega))
      clear hbla hw5
      go_wp2_with fail
      go_roundw
      case rel => exact ⟨k + 1, hlt, by go_num, by rw [SN.out]; exact hbl5, hb5⟩
      case measure => simp [intOf]; omega
    · obtain rfl : k = its.length := by omega
      rw [List.take_length] at hbl
      clear IT HL HR
      go_wp2_with fail
      refine (Tryz.Builder_String_any_k w.heap.size w.heap.size _ wr (hbl.library (Nat.le_refl _) (by omega)) (by omega)).mono ?_
      rintro e w5 ⟨rfl, _, b5, _⟩
      go_wp2_with fail
      go_ret
      exact ⟨rfl, hb.trans b5⟩
set_option maxRecDepth 100000 in
set_option maxHeartbeats 4000000 in
theorem refJoin_any (its : List It) (v : Value) (w : World) (h : Its w v its) (hn : its.length ≤ 100000) (hr : ∀ it ∈ its, it.raw.length ≤ 100000) :
    Calls Tryz.prog 131 #[v] w fun e w' => e = .returned (.string (B (its.flatMap It.raw))) ∧ Below w.heap.size w w' := by
  have IT := Lib.hid h
  obtain ⟨A, cap, rfl, hle, _⟩ := h
  have HL := Lib.hid (raws_len its hr)
  have HR := Lib.hid hr
  clear hr
  go_enter Tryz.func131, Tryz.ntmps131
  go_wp2_with fail
  go_loopw [3, 4] (fun s i wr => ∃ k : Nat, k ≤ its.length ∧ i = .int .i64 k ∧ s = .string (B ((its.take k).flatMap It.raw)) ∧ Below w.heap.size w wr) (fun _ i _ => its.length - (intOf i).toNat)
  case atStart => exact ⟨0, Nat.zero_le _, rfl, rfl, Below.refl _ _⟩
  case round =>
    obtain ⟨k, hk, rfl, rfl, hb⟩ := hrel
    by_cases hlt : k < its.length
    · obtain ⟨it, hit⟩ : ∃ it, its[k]? = some it := ⟨_, List.getElem?_eq_getElem hlt⟩
      obtain ⟨b, off, cap', fa, fc, e, _, hbb, c0, c1, c2, hfl⟩ := (IT.out.below hb (Nat.le_refl _)).at_ hit
      cases e
      have hl1 := HL.out k
      have hl2 := HR.out it (List.mem_of_getElem? hit)
      have SN := Lib.hid (raws_snoc its k it hit)
      have zr := B_size it.raw
      have zp := B_size ((its.take k).flatMap It.raw)
      clear hit IT HL HR
      generalize (its.take k).flatMap It.raw = pre at *
      go_wp2_with fail
      go_roundw
      case rel => exact ⟨k + 1, hlt, by go_num, by rw [SN.out, B_append], hb⟩
      case measure => simp [intOf]; omega
    · obtain rfl : k = its.length := by omega
      rw [List.take_length]
      clear IT HL HR
      go_wp2_with fail
      go_ret
      exact ⟨rfl, hb⟩
end Go.Proofs.YtiebbgbcojgeoaaGreatDoor
/- The fields of the records: Stanzas, by the program and by definition; rows of rows side by side. -/
namespace Go.Proofs.YtiebbgbcojgeoaaGreatDoor
open Go.RowKit Go.Shelf

theorem rcellsF_at {w : World} {ad : Addr} {fs : List Fld} {cap : Nat} (hc : ∀ (i : Nat) (f : List UInt8 × List UInt8), fs[i]? = some f → ∃ b off, some ad = some (⟨b, off, none⟩ : Addr) ∧ b < w.heap.size ∧ w.cell? ⟨b, off + i * 2, none⟩ = some (.string (B f.1)) ∧ w.cell? ⟨b, off + i * 2 + 1, none⟩ = some (.string (B f.2))) (o : Obj) :
    ∀ (j : Nat) u, (cellsF fs)[j]? = some u → (w.alloc o).cell? (ad.add j) = some u := by
  intro j u hu
  have hj : j < (cellsF fs).length := by
    rcases Nat.lt_or_ge j (cellsF fs).length with q | q
    · exact q
    · rw [List.getElem?_eq_none q] at hu; cases hu
  rw [cellsF_len] at hj
  have hi2 : j / 2 < fs.length := by omega
  obtain ⟨f, hf⟩ : ∃ f, fs[j / 2]? = some f := ⟨_, List.getElem?_eq_getElem hi2⟩
  obtain ⟨b, off, e, hbb, c0, c1⟩ := hc _ f hf
  obtain ⟨a1, a2⟩ := cellsF_at fs _ f hf
  cases e
  rw [WideShapes.add_plain, World.cell?_alloc_old _ _ _ (Nat.ne_of_lt hbb)]
  rcases Nat.mod_two_eq_zero_or_one j with h | h
  · have ej : j = j / 2 * 2 := by omega
    rw [← ej] at a1 c0
    rw [c0, ← hu, a1]
  · have ej : j = j / 2 * 2 + 1 := by omega
    rw [Nat.add_assoc, ← ej] at c1
    rw [← ej] at a2
    rw [c1, ← hu, a2]
theorem eqlNil (w : World) : (binOp BinOp.eql 36 (.slice none 0 0) (.slice none 0 0)).run Tryz.prog w = .ok (.bool true) w := by kernel_rfl
theorem eqlSome (ad : Addr) (n c : Nat) (w : World) : (binOp BinOp.eql 36 (.slice (some ad) n c) (.slice none 0 0)).run Tryz.prog w = .ok (.bool false) w := by kernel_rfl
attribute [local go_sem] eqlNil eqlSome
set_option maxRecDepth 100000 in
set_option maxHeartbeats 4000000 in
theorem clone_any (fs : List Fld) (v : Value) (w : World) (hs : Flds w v fs) (hnil : ∀ n c, v = .slice none n c → c = 0) (hn : fs.length ≤ 1000000) :
    Calls Tryz.prog 64 #[v] w fun e w' => ∃ v', e = .returned v' ∧ w'.ownsRow w.heap.size 73 2 v' fs.length (cellsF fs) ∧ Below w.heap.size w w' := by
  obtain ⟨A, cap, rfl, hle, hc⟩ := hs
  obtain ⟨i0, hi, hz0, hz1, hz2⟩ := info_parts infoFld
  cases A with
  | none =>
    have he : fs = [] := by
      cases fs with
      | nil => rfl
      | cons a r => obtain ⟨b, off, e, _⟩ := hc 0 a rfl; cases e
    have hc0 := hnil _ _ rfl
    subst hc0
    subst he
    simp only [List.length_nil]
    go_enter Tryz.func64, Tryz.ntmps64
    go_wp2_with fail
    go_ret
    exact ⟨_, rfl, ⟨rfl, .inl ⟨rfl, rfl⟩⟩, Below.refl _ _⟩
  | some ad =>
    have hoN : (w.alloc (.cells #[] 73)).ownsRow w.heap.size 73 2 (.slice (some ⟨w.heap.size, 0, none⟩) 0 0) 0 [] := World.ownsRow_lit w #[] 0 (Nat.le_refl _) (by decide) rfl
    have hba := (Below.refl w.heap.size w).alloc (Nat.le_refl _) (.cells #[] 73)
    have HC := Lib.hid (rcellsF_at (cap := cap) hc (.cells #[] 73))
    have hone : ∀ u ∈ cellsF fs, u.oneCell' = true := by
      intro u hu
      unfold cellsF at hu
      simp at hu
      obtain ⟨a, b, _, h | h⟩ := hu <;> subst h <;> rfl
    have HL := cellsF_len fs
    clear hc
    generalize cellsF fs = cf at *
    go_enter Tryz.func64, Tryz.ntmps64
    go_wp2_with (at_builtin; refine wpList_append_own _ rfl _ _ 36 rfl w.heap.size 73 i0 _ 2 32 Tryz.underlying36 hi hz0 hz1 hz2 rfl (by decide) _ 0 [] rfl hoN ad fs.length cap cf rfl HL HC.out hone ?c3 ?c4 ?c5 ?_)
    case c3 => unfold maxLen; omega
    case c4 => omega
    case c5 => simp
    intro v' w3 hown' hgrow _
    have hb3 : Below w.heap.size w w3 := hba.grown hgrow (by simp) (fun j ej => (World.ownsRow.lt hoN j ej).1)
    go_wp2_with fail
    go_ret
    exact ⟨_, rfl, hown', hb3⟩
/-- The fields of the records. -/
def recs (its : List It) : List (List Fld) := (its.filter fun it => it.kind == 3).map It.fields
theorem recs_snoc (its : List It) (k : Nat) (it : It) (h : its[k]? = some it) : recs (its.take (k + 1)) = recs (its.take k) ++ if it.kind = 3 then [it.fields] else [] := by
  unfold recs
  rw [List.take_add_one, h]
  simp only [Option.toList_some, List.filter_append, List.map_append]
  congr 1
  by_cases hk : it.kind = 3
  · simp [hk]
  · simp [hk]
theorem recs_len (its : List It) : (recs its).length ≤ its.length := by unfold recs; rw [List.length_map]; exact List.length_filter_le _ _
/-- A slice of slices of fields, readable. -/
def Rws (w : World) (v : Value) (rs : List (List Fld)) : Prop :=
  ∃ A cap, v = .slice A rs.length cap ∧ rs.length ≤ cap ∧ ∀ (i : Nat) (r : List Fld), rs[i]? = some r → ∃ b off fv, A = some ⟨b, off, none⟩ ∧ b < w.heap.size ∧ w.cell? ⟨b, off + i, none⟩ = some fv ∧ Flds w fv r
theorem Rws.below {w w' : World} {v : Value} {rs : List (List Fld)} {n : Nat} (h : Rws w v rs) (hb : Below n w w') (hn : w.heap.size ≤ n) : Rws w' v rs := by
  obtain ⟨A, cap, hv, hle, hc⟩ := h
  refine ⟨A, cap, hv, hle, fun i r hi => ?_⟩
  obtain ⟨b, off, fv, hA, hlt, c0, hf⟩ := hc i r hi
  exact ⟨b, off, fv, hA, Nat.lt_of_lt_of_le hlt hb.size, (hb.cell (p := ⟨b, off + i, none⟩) (Nat.lt_of_lt_of_le hlt hn)).trans c0, hf.below hb hn⟩
theorem rws_of_own {w : World} {base : Nat} {v : Value} {rs : List (List Fld)} {vs : List Value} (h : w.ownsRow base 36 1 v vs.length vs) (hl : vs.length = rs.length) (he : ∀ (j : Nat) x r, vs[j]? = some x → rs[j]? = some r → Flds w x r) : Rws w v rs := by
  rcases Joins.ownsRow_forms h with ⟨rfl, hn⟩ | ⟨g, cap, rfl⟩
  · have : rs = [] := List.length_eq_zero_iff.1 (by omega)
    subst this
    exact ⟨none, 0, rfl, Nat.le_refl _, fun i r h => by simp at h⟩
  · refine ⟨_, cap, by rw [hl], (by rcases h.2 with ⟨q, _⟩ | ⟨g', cap', cur, q, _, _, q2, _⟩; · cases q
                                    · cases q; omega), fun i r hi => ?_⟩
    have hlt : i < rs.length := by
      rcases Nat.lt_or_ge i rs.length with q | q
      · exact q
      · rw [List.getElem?_eq_none q] at hi; cases hi
    obtain ⟨x, hx⟩ : ∃ x, vs[i]? = some x := ⟨_, List.getElem?_eq_getElem (by omega)⟩
    exact ⟨g, 0, x, rfl, (World.ownsRow.lt h g rfl).2, by rw [Nat.zero_add, World.ownsRow.cellAt h i (by omega)]; exact hx, he i x r hx hi⟩
theorem infoFlds : (Tryz.prog.info? 36).map (fun i => (i.zero, i.size, i.bytes)) = some (some (.slice none 0 0), 1, 24) := by kernel_rfl
/-- The accumulated rows: by definition (its rows are the items' own), by the program (its rows are new). -/
structure AccR (w wr : World) (v : Value) (vs : List Value) (rs : List (List Fld)) : Prop where
  row : wr.ownsRow w.heap.size 36 1 v vs.length vs
  len : vs.length = rs.length
  each : ∀ (j : Nat) x r, vs[j]? = some x → rs[j]? = some r → Flds w x r
  below : Below w.heap.size w wr
structure AccP (w wr : World) (v : Value) (vs : List Value) (rs : List (List Fld)) : Prop where
  row : wr.ownsRow w.heap.size 36 1 v vs.length vs
  len : vs.length = rs.length
  each : ∀ (j : Nat) x r, vs[j]? = some x → rs[j]? = some r → wr.ownsRow w.heap.size 73 2 x r.length (cellsF r)
  below : Below w.heap.size w wr
theorem snoc_at {α : Type} {l : List α} {a x : α} {j : Nat} (h : (l ++ [a])[j]? = some x) : (j < l.length ∧ l[j]? = some x) ∨ (j = l.length ∧ x = a) := by
  rcases Nat.lt_or_ge j l.length with q | q
  · rw [List.getElem?_append_left q] at h; exact .inl ⟨q, h⟩
  · rw [List.getElem?_append_right q] at h
    have hz : j - l.length = 0 := by
      rcases Nat.eq_zero_or_pos (j - l.length) with z | z
      · exact z
      · rw [List.getElem?_eq_none (by simp; omega)] at h; cases h
    rw [hz] at h
    cases h
    exact .inr ⟨by omega, rfl⟩
theorem AccR.start (w : World) : AccR w w (.slice none 0 0) [] [] := ⟨⟨rfl, .inl ⟨rfl, rfl⟩⟩, rfl, fun j x r h => by simp at h, Below.refl _ _⟩
theorem AccP.start (w : World) : AccP w w (.slice none 0 0) [] [] := ⟨⟨rfl, .inl ⟨rfl, rfl⟩⟩, rfl, fun j x r h => by simp at h, Below.refl _ _⟩
theorem AccR.rws {w wr : World} {v : Value} {vs : List Value} {rs : List (List Fld)} (h : AccR w wr v vs rs) : Rws wr v rs :=
  rws_of_own h.row h.len fun j x r h1 h2 => (h.each j x r h1 h2).below h.below (Nat.le_refl _)
theorem AccP.rws {w wr : World} {v : Value} {vs : List Value} {rs : List (List Fld)} (h : AccP w wr v vs rs) : Rws wr v rs :=
  rws_of_own h.row h.len fun j x r h1 h2 => flds_of_own (h.each j x r h1 h2)
theorem AccP.kept {w wr w2 : World} {v : Value} {vs : List Value} {rs : List (List Fld)} (h : AccP w wr v vs rs) (hb : Below wr.heap.size wr w2) : AccP w w2 v vs rs :=
  ⟨own_kept h.row hb (Nat.le_refl _), h.len, fun j x r h1 h2 => own_kept (h.each j x r h1 h2) hb (Nat.le_refl _), h.below.trans (hb.mono h.below.size)⟩
theorem AccR.kept {w wr w2 : World} {v : Value} {vs : List Value} {rs : List (List Fld)} (h : AccR w wr v vs rs) (hb : Below wr.heap.size wr w2) : AccR w w2 v vs rs :=
  ⟨own_kept h.row hb (Nat.le_refl _), h.len, h.each, h.below.trans (hb.mono h.below.size)⟩
theorem AccR.snoc {w W W1 w3 : World} {v v' x : Value} {vs : List Value} {rs : List (List Fld)} {r : List Fld} (h : AccR w W v vs rs) (hx : Flds w x r) (h1 : Below W.heap.size W W1) (ho : w3.ownsRow w.heap.size 36 1 v' (vs.length + 1) (vs ++ [x])) (hg : W1.grownBy w3 v.ownBlock) : AccR w w3 v' (vs ++ [x]) (rs ++ [r]) := by
  refine ⟨by rw [List.length_append]; exact ho, by simp [h.len], fun j y s hy hs => ?_, (h.below.trans (h1.mono h.below.size)).grown hg (Nat.le_trans h.below.size h1.size) (fun k e => (h.row.lt k e).1)⟩
  rcases snoc_at hy with ⟨q, hy⟩ | ⟨q, rfl⟩
  · rw [List.getElem?_append_left (by rw [← h.len]; exact q)] at hs
    exact h.each j y s hy hs
  · rw [q, h.len, List.getElem?_append_right (Nat.le_refl _)] at hs
    simp at hs
    subst hs; exact hx
theorem row73 {W w3 : World} {lo : Nat} {v x : Value} {n m : Nat} {xs ys : List Value} (hv : W.ownsRow lo 36 1 v n xs) (hx : W.ownsRow lo 73 2 x m ys) (hg : W.grownBy w3 v.ownBlock) : w3.ownsRow lo 73 2 x m ys := by
  refine row_same hx fun b hb => hg.block b (hx.lt b hb).2 (fun e => ?_)
  rcases hx.2 with ⟨rfl, _⟩ | ⟨g, cap, cur, rfl, _, hc, _⟩
  · cases hb
  · cases hb
    rcases hv.2 with ⟨rfl, _⟩ | ⟨g', cap', cur', rfl, _, hc', _⟩
    · cases e
    · have : g = g' := Option.some.inj e
      subst this
      rw [hc] at hc'
      injection hc' with hc'
      injection hc' with _ h2 _
      exact absurd h2 (by decide)
theorem AccP.snoc {w W w3 : World} {v v' x : Value} {vs : List Value} {rs : List (List Fld)} {r : List Fld} (h : AccP w W v vs rs) (hx : W.ownsRow w.heap.size 73 2 x r.length (cellsF r)) (ho : w3.ownsRow w.heap.size 36 1 v' (vs.length + 1) (vs ++ [x])) (hg : (W.alloc (.cells #[x] 36)).grownBy w3 v.ownBlock) : AccP w w3 v' (vs ++ [x]) (rs ++ [r]) := by
  have h' := h.kept ((Below.refl W.heap.size W).alloc (Nat.le_refl _) (.cells #[x] 36))
  have hx' := own_kept hx ((Below.refl W.heap.size W).alloc (Nat.le_refl _) (.cells #[x] 36)) (Nat.le_refl _)
  refine ⟨by rw [List.length_append]; exact ho, by simp [h.len], fun j y s hy hs => ?_, h'.below.grown hg h'.below.size (fun k e => (h.row.lt k e).1)⟩
  rcases snoc_at hy with ⟨q, hy⟩ | ⟨q, rfl⟩
  · rw [List.getElem?_append_left (by rw [← h.len]; exact q)] at hs
    exact row73 h'.row (h'.each j y s hy hs) hg
  · rw [q, h.len, List.getElem?_append_right (Nat.le_refl _)] at hs
    simp at hs
    subst hs; exact row73 h'.row hx' hg
theorem valCell (W : World) (x : Value) (t : TypeId) : ∀ (j : Nat) u, [x][j]? = some u → (W.alloc (.cells #[x] t)).cell? ((⟨W.heap.size, 0, none⟩ : Addr).add j) = some u := cells_new_add W t [x]
set_option maxRecDepth 100000 in
set_option maxHeartbeats 4000000 in
theorem stanzas_any (its : List It) (v : Value) (w : World) (h : Its w v its) (hnil : NilI w v its) (hn : its.length ≤ 1000000) (hf : ∀ it ∈ its, it.fields.length ≤ 1000000) :
    Calls Tryz.prog 26 #[v] w fun e w' => ∃ u vs, e = .returned u ∧ AccP w w' u vs (recs its) := by
  obtain ⟨i0, hi, hz0, hz1, hz2⟩ := info_parts infoFlds
  have NI := Lib.hid hnil
  have HF := Lib.hid hf
  obtain ⟨A, cap, rfl, hle, hc⟩ := h
  have HC := Lib.hid hc
  clear hc hnil hf
  go_enter Tryz.func26, Tryz.ntmps26
  go_wp2_with fail
  go_loopw [3, 8] (fun u i wr => ∃ (k : Nat) (vs : List Value), k ≤ its.length ∧ i = .int .i64 k ∧ AccP w wr u vs (recs (its.take k))) (fun _ i _ => its.length - (intOf i).toNat)
  case atStart => exact ⟨0, [], Nat.zero_le _, rfl, AccP.start w⟩
  case round =>
    obtain ⟨k, vs, hk, rfl, hacc⟩ := hrel
    by_cases hlt : k < its.length
    · obtain ⟨it, hit⟩ : ∃ it, its[k]? = some it := ⟨_, List.getElem?_eq_getElem hlt⟩
      obtain ⟨b, off, fv, rfl, hbb, c0, c1, c2, hfl⟩ := HC.out k it hit
      have hb := hacc.below
      have hlb := hb.size
      have rl := recs_len (its.take k)
      rw [List.length_take] at rl
      have hvl : vs.length ≤ 1000000 := by rw [hacc.len]; omega
      obtain ⟨fa, fc, rfl, _, _⟩ := id hfl
      have hnl : ∀ n c, Value.slice fa it.fields.length fc = .slice none n c → c = 0 := fun n c e => by
        cases e
        exact NI.out k b off _ _ _ _ rfl hlt c2
      replace c0 := (hb.cell (p := ⟨b, off + k * 3, none⟩) hbb).trans c0
      replace c1 := (hb.cell (p := ⟨b, off + k * 3 + 1, none⟩) hbb).trans c1
      replace c2 := (hb.cell (p := ⟨b, off + k * 3 + 1 + 1, none⟩) hbb).trans c2
      have SN := Lib.hid (recs_snoc its k it hit)
      by_cases hk3 : it.kind = 3
      · have hfw := (hfl.below hb (Nat.le_refl _)).below ((Below.refl wr.heap.size wr).alloc (Nat.le_refl _) (.cells #[.int .i64 it.kind, .string (B it.raw), .slice fa it.fields.length fc] 47)) (Nat.le_refl _)
        have CL := Lib.hid (clone_any it.fields _ _ hfw hnl (HF.out it (List.mem_of_getElem? hit)))
        have hba := (Below.refl wr.heap.size wr).alloc (Nat.le_refl _) (.cells #[.int .i64 it.kind, .string (B it.raw), .slice fa it.fields.length fc] 47)
        have ACC := Lib.hid (hacc.kept hba)
        rw [hk3] at c0 CL ACC
        clear hacc hit hfl HC hfw hba hnl NI HF
        go_wp2_with fail
        refine CL.out.mono ?_
        rintro e w2 ⟨x, rfl, hx, b2⟩
        have acc2 := ACC.out.kept b2
        have hx2 : w2.ownsRow w.heap.size 73 2 x it.fields.length (cellsF it.fields) := rowBase hx (by simp; omega)
        have hrow := acc2.row
        have ACC2 := Lib.hid acc2
        have HX2 := Lib.hid hx2
        have hlb2 := acc2.below.size
        obtain ⟨xa, xc, hxe, _⟩ := own_slice hx
        subst hxe
        have HV := Lib.hid (valCell w2 (.slice xa it.fields.length xc) 36)
        clear acc2 CL ACC b2 hx hx2
        go_wp2_with (at_builtin; refine wpList_append_own _ rfl _ _ 58 rfl w.heap.size 36 i0 _ 1 24 Tryz.underlying58 hi hz0 hz1 hz2 rfl (by decide) _ _ _ rfl (hrow.alloc _) ⟨w2.heap.size, 0, none⟩ 1 1 _ rfl rfl HV.out ?c2 ?c3 ?c4 ?c5 ?_)
        case c2 => intro u hu; simp at hu; subst hu; rfl
        case c3 => unfold maxLen; omega
        case c4 => omega
        case c5 => simp; omega
        intro v' w3 hown' hgrow _
        have hacc3 := ACC2.out.snoc HX2.out hown' hgrow
        obtain ⟨g', cap', rfl⟩ := ownsRow_succ hown'
        go_wp2_with fail
        go_roundw
        case rel => exact ⟨k + 1, _, hlt, by go_num, by rw [SN.out, if_pos hk3]; exact hacc3⟩
        case measure => simp [intOf]; omega
      · have hk2 : ((it.kind : Int) == 3) = false := beq_eq_false_iff_ne.2 (by omega)
        have ACC := Lib.hid (hacc.kept ((Below.refl wr.heap.size wr).alloc (Nat.le_refl _) (.cells #[.int .i64 it.kind, .string (B it.raw), .slice fa it.fields.length fc] 47)))
        clear hacc hit hfl HC hnl NI HF
        go_wp2_with fail
        go_roundw
        case rel => exact ⟨k + 1, vs, hlt, by go_num, by rw [SN.out, if_neg hk3, List.append_nil]; exact ACC.out⟩
        case measure => simp [intOf]; omega
    · obtain rfl : k = its.length := by omega
      rw [List.take_length] at hacc
      clear HC NI HF
      go_wp2_with fail
      go_ret
      exact ⟨_, vs, rfl, hacc⟩
end Go.Proofs.YtiebbgbcojgeoaaGreatDoor
/- Rows of rows side by side; fields that are written over. -/
namespace Go.Proofs.YtiebbgbcojgeoaaGreatDoor
open Go.RowKit Go.Shelf

/-- A slice of fields that may be written over. -/
def Mine (w : World) (lo : Nat) (v : Value) (n : Nat) : Prop :=
  n = 0 ∧ (∃ A c, v = .slice A 0 c) ∨ ∃ g cap cur, v = .slice (some ⟨g, 0, none⟩) n cap ∧ n ≤ cap ∧ lo ≤ g ∧ w.heap[g]? = some (.cells cur 73 (0, 0)) ∧ n * 2 ≤ cur.size
/-- Fields from lo on may have turned. -/
structure Spoilt (lo : Nat) (w w' : World) : Prop where
  os : w'.os = w.os
  tape : w'.tape = w.tape
  output : w'.output = w.output
  size : w'.heap.size = w.heap.size
  same : ∀ (r : Nat) o, w.heap[r]? = some o → w'.heap[r]? = some o ∨ (lo ≤ r ∧ ∃ cur cur', o = .cells cur 73 (0, 0) ∧ w'.heap[r]? = some (.cells cur' 73 (0, 0)) ∧ cur'.size = cur.size)
theorem Spoilt.refl (lo : Nat) (w : World) : Spoilt lo w w := ⟨rfl, rfl, rfl, rfl, fun _ _ h => .inl h⟩
theorem Spoilt.trans {lo : Nat} {a b c : World} (h : Spoilt lo a b) (g : Spoilt lo b c) : Spoilt lo a c := by
  refine ⟨g.os.trans h.os, g.tape.trans h.tape, g.output.trans h.output, g.size.trans h.size, fun r o ho => ?_⟩
  rcases h.same r o ho with h1 | ⟨h1, cur, cur', rfl, h2, h3⟩
  · exact g.same r o h1
  · rcases g.same r _ h2 with g1 | ⟨_, c1, c2, g1, g2, g3⟩
    · exact .inr ⟨h1, cur, cur', rfl, g1, h3⟩
    · injection g1 with g1
      subst g1
      exact .inr ⟨h1, cur, c2, rfl, g2, g3.trans h3⟩
theorem Spoilt.set {lo g : Nat} {w : World} {cur : Array Value} (h : w.heap[g]? = some (.cells cur 73 (0, 0))) (hg : lo ≤ g) (i : Nat) (u : Value) : Spoilt lo w (w.setCell ⟨g, i, none⟩ u) := by
  refine ⟨rfl, rfl, rfl, by simp [World.setCell], fun r o ho => ?_⟩
  by_cases e : r = g
  · subst e
    rw [h] at ho
    cases ho
    exact .inr ⟨hg, cur, cur.setIfInBounds i u, rfl, Cells.set (t := 73) h i u, by simp⟩
  · exact .inl ((Below.heap_setCell _ _ _ _ e).trans ho)
theorem Spoilt.below {lo : Nat} {w w' : World} (h : Spoilt lo w w') (hl : lo ≤ w.heap.size) : Below lo w w' := by
  refine ⟨h.os, h.tape, h.output, Nat.le_of_eq h.size.symm, fun r hr => ?_⟩
  rcases h.same r _ (Array.getElem?_eq_getElem (by omega)) with e | ⟨e, _⟩
  · rw [e]; exact (Array.getElem?_eq_getElem (by omega)).symm
  · omega
theorem Mine.spoilt {lo n : Nat} {w w' : World} {v : Value} (h : Mine w lo v n) (hs : Spoilt lo w w') : Mine w' lo v n := by
  rcases h with h | ⟨g, cap, cur, e, h0, h1, h2, h3⟩
  · exact .inl h
  · rcases hs.same g _ h2 with k | ⟨_, c1, c2, k1, k2, k3⟩
    · exact .inr ⟨g, cap, cur, e, h0, h1, k, h3⟩
    · injection k1 with k1
      subst k1
      exact .inr ⟨g, cap, c2, e, h0, h1, k2, by omega⟩
theorem mine_of_own {lo n : Nat} {w : World} {v : Value} {xs : List Value} (h : w.ownsRow lo 73 2 v n xs) : Mine w lo v n := by
  rcases h.2 with ⟨rfl, hn⟩ | ⟨g, cap, cur, rfl, hb, hc, hle, _, hs, _⟩
  · exact .inl ⟨hn, none, 0, rfl⟩
  · exact .inr ⟨g, cap, cur, rfl, hle, hb, hc, by rw [hs]; exact Nat.mul_le_mul_right 2 hle⟩
set_option maxRecDepth 100000 in
set_option maxHeartbeats 4000000 in
theorem spoil_any (n lo : Nat) (v : Value) (w : World) (h : Mine w lo v n) (hn : n ≤ 1000000) :
    Calls Tryz.prog 57 #[v] w fun e w' => e = .returned (.tuple #[]) ∧ Spoilt lo w w' := by
  have HM := Lib.hid h
  rcases h with ⟨rfl, A, c, rfl⟩ | ⟨g, cap, cur, rfl, hle, _, _, _⟩
  · go_enter Tryz.func57, Tryz.ntmps57
    go_wp2_with fail
    refine wp_loop_rounds 1 ?_
    rw [rounds_succ]
    go_wp2_with fail
    go_end0
    exact ⟨rfl, Spoilt.refl _ _⟩
  · go_enter Tryz.func57, Tryz.ntmps57
    go_wp2_with fail
    go_loopw [5] (fun i wr => ∃ k : Nat, k ≤ n ∧ i = .int .i64 k ∧ Spoilt lo w wr) (fun i _ => n - (intOf i).toNat)
    case atStart => exact ⟨0, Nat.zero_le _, rfl, Spoilt.refl _ _⟩
    case round =>
      obtain ⟨k, hk, rfl, hs⟩ := hrel
      by_cases hlt : k < n
      · rcases HM.out.spoilt hs with ⟨h0, _⟩ | ⟨g', cap', cur', e, h0, h1, h2, h3⟩
        · omega
        · cases e
          have hC : Cells wr g 73 cur' := h2
          obtain ⟨x0, hx0⟩ : ∃ x, cur'[k * 2]? = some x := ⟨_, Array.getElem?_eq_getElem (by omega)⟩
          obtain ⟨x1, hx1⟩ : ∃ x, cur'[k * 2 + 1]? = some x := ⟨_, Array.getElem?_eq_getElem (by omega)⟩
          have c0 : wr.cell? ⟨g, k * 2, none⟩ = some x0 := (hC.cell _).trans hx0
          have c1 : wr.cell? ⟨g, k * 2 + 1, none⟩ = some x1 := (hC.cell _).trans hx1
          have f0 := hC.frozen (k * 2)
          have f1 := hC.frozen (k * 2 + 1)
          have HC := Lib.hid hC
          have HS := Lib.hid hs
          clear HM hs h2 hC hx0 hx1
          go_wp2_with fail
          go_roundw
          case rel =>
            refine ⟨k + 1, hlt, by go_num, HS.out.trans ((Spoilt.set HC.out h1 (k * 2) _).trans (Spoilt.set (HC.out.set (k * 2) _) h1 (k * 2 + 1) _))⟩
          case measure => simp [intOf]; omega
      · obtain rfl : k = n := by omega
        clear HM
        go_wp2_with fail
        go_end0
        exact ⟨rfl, hs⟩
end Go.Proofs.YtiebbgbcojgeoaaGreatDoor
/- Slices of fields that came in. -/
namespace Go.Proofs.YtiebbgbcojgeoaaGreatDoor
open Go.RowKit Go.Shelf Go.Maps Go.ChangeShapes Go.Joins Go.WideShapes

theorem cells2 {cs : List Value} (h : cs.length = 2) : ∃ c0 c1, cs = [c0, c1] := by
  match cs, h with
  | [c0, c1], _ => exact ⟨_, _, rfl⟩

set_option maxRecDepth 100000 in
theorem fld_in {H : Type} {enc : TypeId × Value → H} {W : World} {base : Nat} {sp : Nat → Bool} {held : Bool} {fuel : Nat} {cs : List Value} {x : DataW H × List MemPlace} (h : DataW.trod enc Tryz.prog W base sp held fuel 73 cs = some x) :
    ∃ f : List UInt8 × List UInt8, cs = [.string (B f.1), .string (B f.2)] ∧ f.1.length ≤ maxLen ∧ f.2.length ≤ maxLen := by
  obtain ⟨xs, m, _, _, hl, hxl, hf⟩ := DataW.trod_struct Tryz.underlying73 h
  have hl2 : cs.length = 2 := hl.trans (by kernel_rfl)
  obtain ⟨c0, c1, rfl⟩ := cells2 hl2
  have k9 : Tryz.prog.cellsOf 9 = 1 := by kernel_rfl
  have hx : ∀ i, i < 2 → ∃ y, xs[i]? = some y := fun i hi => ⟨_, List.getElem?_eq_getElem (by rw [hxl]; exact hi)⟩
  obtain ⟨y0, e0⟩ := hx 0 (by decide)
  obtain ⟨y1, e1⟩ := hx 1 (by decide)
  have q0 : DataW.trod enc Tryz.prog W base sp held m 9 (List.take (Tryz.prog.cellsOf 9) [c0, c1]) = _ := hf 0 _ rfl
  have q1 : DataW.trod enc Tryz.prog W base sp held m 9 (List.take (Tryz.prog.cellsOf 9) [c1]) = _ := hf 1 _ rfl
  rw [k9, e0] at q0
  rw [k9, e1] at q1
  obtain ⟨s, f0, _, w0⟩ := DataW.trod_string Tryz.underlying9 q0
  obtain ⟨t, f1, _, w1⟩ := DataW.trod_string Tryz.underlying9 q1
  simp at f0 f1
  subst f0 f1
  exact ⟨(s.data.toList, t.data.toList), by rw [B_of, B_of], by rw [← Lib.size_eq]; exact w0, by rw [← Lib.size_eq]; exact w1⟩
set_option maxRecDepth 100000 in
theorem flds_in {H : Type} {enc : TypeId × Value → H} {W : World} {base : Nat} {sp : Nat → Bool} {held : Bool} {fuel : Nat} {v : Value} {x : DataW H × List MemPlace} (h : DataW.trod enc Tryz.prog W base sp held fuel 36 [v] = some x) :
    ∃ fs, FldsIn W v fs := by
  rcases DataW.trod_slice Tryz.underlying36 h with ⟨e, _⟩ | ⟨a, len, cap, elems, rest, n, _, e, _, _, hl, hm, hlen, hel, _, _⟩
  · obtain rfl : v = .slice none 0 0 := by simpa using e
    exact ⟨[], ⟨⟨none, 0, rfl, Nat.le_refl _, fun i f h => by simp at h⟩, fun n c h => by cases h; rfl, Nat.zero_le _, fun f hf => by cases hf⟩⟩
  · obtain rfl : v = .slice (some a) len cap := by simpa using e
    have k2 : Tryz.prog.cellsOf 73 = 2 := by kernel_rfl
    have each : ∀ i, i < len → ∃ f : List UInt8 × List UInt8, (∃ b off, a = ⟨b, off, none⟩ ∧ b < W.heap.size ∧ W.cell? ⟨b, off + i * 2, none⟩ = some (.string (B f.1)) ∧ W.cell? ⟨b, off + i * 2 + 1, none⟩ = some (.string (B f.2))) ∧ f.1.length ≤ maxLen ∧ f.2.length ≤ maxLen := by
      intro i hi
      have h1 := hel i hi
      rw [k2, List.getElem?_eq_getElem (by omega)] at h1
      obtain ⟨cs, hc, ht⟩ := Option.bind_eq_some_iff.1 h1
      obtain ⟨f, rfl, hf1, hf2⟩ := fld_in ht
      obtain ⟨_, _, hat⟩ := World.cells?_some hc
      have c0 := hat 0 (by decide)
      have c1 := hat 1 (by decide)
      obtain ⟨b, off, spot⟩ := a
      have hspot : spot = none := by
        have h2 := hel 0 (by omega)
        rw [k2, List.getElem?_eq_getElem (by omega)] at h2
        obtain ⟨cs', hc', ht'⟩ := Option.bind_eq_some_iff.1 h2
        obtain ⟨f', rfl, _⟩ := fld_in ht'
        obtain ⟨_, hlen', hat'⟩ := World.cells?_some hc'
        have := World.cell?_spot (hat' 0 (by decide))
        simpa [Addr.add] using this
      subst hspot
      rw [WideShapes.add_plain] at c0 c1
      exact ⟨f, ⟨b, off, rfl, World.block_lt_of_cell? W _ c0, c0, c1⟩, hf1, hf2⟩
    have : ∃ g : Nat → List UInt8 × List UInt8, ∀ i, i < len → (∃ b off, a = ⟨b, off, none⟩ ∧ b < W.heap.size ∧ W.cell? ⟨b, off + i * 2, none⟩ = some (.string (B (g i).1)) ∧ W.cell? ⟨b, off + i * 2 + 1, none⟩ = some (.string (B (g i).2))) ∧ (g i).1.length ≤ maxLen ∧ (g i).2.length ≤ maxLen := by
      refine ⟨fun i => if h : i < len then (each i h).choose else ([], []), fun i hi => ?_⟩
      simp only [dif_pos hi]
      exact (each i hi).choose_spec
    obtain ⟨g, hg⟩ := this
    have hll : ((List.range len).map g).length = len := by simp
    refine ⟨(List.range len).map g, ⟨⟨some a, cap, by rw [hll], by rw [hll]; exact hl, fun i f hf => ?_⟩, (fun n c h => by cases h), by rw [hll]; omega, fun f hf => ?_⟩⟩
    · have hi : i < len := by
        rcases Nat.lt_or_ge i len with q | q
        · exact q
        · rw [List.getElem?_eq_none (by rw [hll]; exact q)] at hf; cases hf
      have e : f = g i := by
        rw [List.getElem?_map, List.getElem?_range hi] at hf
        exact (Option.some.inj hf).symm
      subst e
      obtain ⟨b, off, ea, hb, c0, c1⟩ := (hg i hi).1
      exact ⟨b, off, by rw [ea], hb, c0, c1⟩
    · obtain ⟨i, hi, rfl⟩ := List.mem_map.1 hf
      exact (hg i (List.mem_range.1 hi)).2
end Go.Proofs.YtiebbgbcojgeoaaGreatDoor
/- Items that came in; StanzaJoins' walk. -/
namespace Go.Proofs.YtiebbgbcojgeoaaGreatDoor
open Go.RowKit Go.Shelf Go.Maps Go.ChangeShapes Go.Joins Go.WideShapes

theorem cells3 {cs : List Value} (h : cs.length = 3) : ∃ c0 c1 c2, cs = [c0, c1, c2] := by
  match cs, h with
  | [c0, c1, c2], _ => exact ⟨_, _, _, rfl⟩
/-- An item that came in: its cells. -/
structure ItIn (W : World) (cs : List Value) (it : It) (fv : Value) : Prop where
  cs : cs = [.int .i64 it.kind, .string (B it.raw), fv]
  raw : it.raw.length ≤ maxLen
  flds : FldsIn W fv it.fields
set_option maxRecDepth 100000 in
theorem item_in {H : Type} {enc : TypeId × Value → H} {W : World} {base : Nat} {sp : Nat → Bool} {held : Bool} {fuel : Nat} {cs : List Value} {x : DataW H × List MemPlace} (h : DataW.trod enc Tryz.prog W base sp held fuel 47 cs = some x) :
    ∃ it fv, ItIn W cs it fv := by
  obtain ⟨xs, m, _, _, hl, hxl, hf⟩ := DataW.trod_struct Tryz.underlying47 h
  have hl2 : cs.length = 3 := hl.trans (by kernel_rfl)
  obtain ⟨c0, c1, c2, rfl⟩ := cells3 hl2
  have k3 : Tryz.prog.cellsOf 3 = 1 := by kernel_rfl
  have k9 : Tryz.prog.cellsOf 9 = 1 := by kernel_rfl
  have k40 : Tryz.prog.cellsOf 36 = 1 := by kernel_rfl
  have hx : ∀ i, i < 3 → ∃ y, xs[i]? = some y := fun i hi => ⟨_, List.getElem?_eq_getElem (by rw [hxl]; exact hi)⟩
  obtain ⟨y0, e0⟩ := hx 0 (by decide)
  obtain ⟨y1, e1⟩ := hx 1 (by decide)
  obtain ⟨y2, e2⟩ := hx 2 (by decide)
  have q0 : DataW.trod enc Tryz.prog W base sp held m 3 (List.take (Tryz.prog.cellsOf 3) [c0, c1, c2]) = _ := hf 0 _ rfl
  have q1 : DataW.trod enc Tryz.prog W base sp held m 9 (List.take (Tryz.prog.cellsOf 9) [c1, c2]) = _ := hf 1 _ rfl
  have q2 : DataW.trod enc Tryz.prog W base sp held m 36 (List.take (Tryz.prog.cellsOf 36) [c2]) = _ := hf 2 _ rfl
  rw [k3, e0] at q0
  rw [k9, e1] at q1
  rw [k40, e2] at q2
  obtain ⟨kind, f0, _, _⟩ := DataW.trod_int Tryz.underlying3 q0
  obtain ⟨s, f1, _, w1⟩ := DataW.trod_string Tryz.underlying9 q1
  obtain ⟨fs, hfs⟩ := flds_in (v := c2) q2
  simp at f0 f1
  subst f0 f1
  exact ⟨⟨kind, s.data.toList, fs⟩, c2, by rw [B_of], by show s.data.toList.length ≤ maxLen; rw [← Lib.size_eq]; exact w1, hfs⟩
/-- A slice of items that came in. -/
structure ItsIn (w : World) (v : Value) (its : List It) : Prop where
  is_ : Its w v its
  len : its.length ≤ maxLen
  raw : ∀ it ∈ its, it.raw.length ≤ maxLen
  each : ∀ (i : Nat) (it : It), its[i]? = some it → ∃ b off n cap fv, v = .slice (some ⟨b, off, none⟩) n cap ∧ w.cell? ⟨b, off + i * 3 + 1 + 1, none⟩ = some fv ∧ FldsIn w fv it.fields
set_option maxRecDepth 100000 in
theorem items_in {H : Type} {enc : TypeId × Value → H} {W : World} {base : Nat} {sp : Nat → Bool} {held : Bool} {fuel : Nat} {v : Value} {x : DataW H × List MemPlace} (h : DataW.trod enc Tryz.prog W base sp held fuel 55 [v] = some x) :
    ∃ its, ItsIn W v its := by
  rcases DataW.trod_slice Tryz.underlying55 h with ⟨e, _⟩ | ⟨a, len, cap, elems, rest, n, _, e, _, _, hl, hm, hlen, hel, _, _⟩
  · obtain rfl : v = .slice none 0 0 := by simpa using e
    exact ⟨[], ⟨⟨none, 0, rfl, Nat.le_refl _, fun i f h => by simp at h⟩, Nat.zero_le _, (fun it hi => by cases hi), fun i it hi => by simp at hi⟩⟩
  · obtain rfl : v = .slice (some a) len cap := by simpa using e
    have k3 : Tryz.prog.cellsOf 47 = 3 := by kernel_rfl
    have each : ∀ i, i < len → ∃ it : It, ∃ b off fv, a = ⟨b, off, none⟩ ∧ b < W.heap.size ∧ W.cell? ⟨b, off + i * 3, none⟩ = some (.int .i64 it.kind) ∧ W.cell? ⟨b, off + i * 3 + 1, none⟩ = some (.string (B it.raw)) ∧ W.cell? ⟨b, off + i * 3 + 1 + 1, none⟩ = some fv ∧ it.raw.length ≤ maxLen ∧ FldsIn W fv it.fields := by
      intro i hi
      have h1 := hel i hi
      rw [k3, List.getElem?_eq_getElem (by omega)] at h1
      obtain ⟨cs, hc, ht⟩ := Option.bind_eq_some_iff.1 h1
      obtain ⟨it, fv, rfl, hr, hf⟩ := item_in ht
      obtain ⟨_, _, hat⟩ := World.cells?_some hc
      have c0 := hat 0 (by decide)
      have c1 := hat 1 (by decide)
      have c2 := hat 2 (by decide)
      obtain ⟨b, off, spot⟩ := a
      have hspot : spot = none := by
        have h2 := hel 0 (by omega)
        rw [k3, List.getElem?_eq_getElem (by omega)] at h2
        obtain ⟨cs', hc', ht'⟩ := Option.bind_eq_some_iff.1 h2
        obtain ⟨it', fv', rfl, _, _⟩ := item_in ht'
        obtain ⟨_, hlen', hat'⟩ := World.cells?_some hc'
        have := World.cell?_spot (hat' 0 (by decide))
        simpa [Addr.add] using this
      subst hspot
      rw [WideShapes.add_plain] at c0 c1 c2
      exact ⟨it, b, off, fv, rfl, World.block_lt_of_cell? W _ c0, c0, c1, c2, hr, hf⟩
    have : ∃ g : Nat → It, ∀ i, i < len → ∃ b off fv, a = ⟨b, off, none⟩ ∧ b < W.heap.size ∧ W.cell? ⟨b, off + i * 3, none⟩ = some (.int .i64 (g i).kind) ∧ W.cell? ⟨b, off + i * 3 + 1, none⟩ = some (.string (B (g i).raw)) ∧ W.cell? ⟨b, off + i * 3 + 1 + 1, none⟩ = some fv ∧ (g i).raw.length ≤ maxLen ∧ FldsIn W fv (g i).fields := by
      refine ⟨fun i => if h : i < len then (each i h).choose else ⟨0, [], []⟩, fun i hi => ?_⟩
      simp only [dif_pos hi]
      exact (each i hi).choose_spec
    obtain ⟨g, hg⟩ := this
    have hll : ((List.range len).map g).length = len := by simp
    have hat : ∀ (i : Nat) (it : It), ((List.range len).map g)[i]? = some it → i < len ∧ it = g i := by
      intro i it hi
      have hlt : i < len := by
        rcases Nat.lt_or_ge i len with q | q
        · exact q
        · rw [List.getElem?_eq_none (by rw [hll]; exact q)] at hi; cases hi
      rw [List.getElem?_map, List.getElem?_range hlt] at hi
      exact ⟨hlt, (Option.some.inj hi).symm⟩
    refine ⟨(List.range len).map g, ⟨⟨some a, cap, by rw [hll], by rw [hll]; exact hl, fun i it hi => ?_⟩, by rw [hll]; omega, fun it hi => ?_, fun i it hi => ?_⟩⟩
    · obtain ⟨hlt, rfl⟩ := hat i it hi
      obtain ⟨b, off, fv, ea, hb, c0, c1, c2, _, hf⟩ := hg i hlt
      exact ⟨b, off, fv, by rw [ea], hb, c0, c1, c2, hf.flds⟩
    · obtain ⟨i, hi2, rfl⟩ := List.mem_map.1 hi
      obtain ⟨b, off, fv, _, _, _, _, _, hr, _⟩ := hg i (List.mem_range.1 hi2)
      exact hr
    · obtain ⟨hlt, rfl⟩ := hat i it hi
      obtain ⟨b, off, fv, ea, hb, c0, c1, c2, _, hf⟩ := hg i hlt
      subst ea
      exact ⟨b, off, _, _, fv, rfl, c2, hf⟩
theorem its_of_own {w : World} {base : Nat} {v : Value} {its : List It} {fvs : List Value} (h : w.ownsRow base 47 3 v its.length (itemsCells its fvs)) (hl : fvs.length = its.length) (he : ∀ (j : Nat) it x, its[j]? = some it → fvs[j]? = some x → Flds w x it.fields) : Its w v its := by
  rcases Joins.ownsRow_forms h with ⟨e, hn⟩ | ⟨g, cap, e⟩
  · have : its = [] := List.length_eq_zero_iff.1 hn
    rw [e, this]
    exact ⟨none, 0, rfl, Nat.le_refl _, fun i it hi => by simp at hi⟩
  · refine ⟨some ⟨g, 0, none⟩, cap, e, (by rcases h.2 with ⟨q, _⟩ | ⟨g', cap', cur, q, _, _, q2, _⟩; · rw [e] at q; cases q
                                           · rw [e] at q; cases q; exact q2), fun i it hi => ?_⟩
    have hlt : i < its.length := by
      rcases Nat.lt_or_ge i its.length with q | q
      · exact q
      · rw [List.getElem?_eq_none q] at hi; cases hi
    obtain ⟨fv, hfv⟩ : ∃ fv, fvs[i]? = some fv := ⟨_, List.getElem?_eq_getElem (by rw [hl]; exact hlt)⟩
    obtain ⟨a0, a1, a2⟩ := itemsCells_at _ _ i it fv hi hfv
    rw [e] at h
    refine ⟨g, 0, fv, rfl, (World.ownsRow.lt h g rfl).2, ?_, ?_, ?_, he i it fv hi hfv⟩
    · rw [Nat.zero_add, World.ownsRow.cellAt h (i * 3) (by omega)]; exact a0
    · rw [Nat.zero_add, World.ownsRow.cellAt h (i * 3 + 1) (by omega)]; exact a1
    · rw [Nat.zero_add, World.ownsRow.cellAt h (i * 3 + 1 + 1) (by omega)]; exact a2
set_option maxRecDepth 100000 in
set_option maxHeartbeats 4000000 in
theorem copies_own (fs : List Fld) (v : Value) (w : World) (hs : Flds w v fs) (hnil : ∀ n c, v = .slice none n c → c = 0) (hn : fs.length ≤ 1000000) :
    Calls Tryz.prog 53 #[v] w fun e w' => ∃ v', e = .returned v' ∧ w'.ownsRow w.heap.size 73 2 v' fs.length (cellsF fs) ∧ Below w.heap.size w w' := by
  obtain ⟨A, cap, rfl, hle, hc⟩ := hs
  obtain ⟨i0, hi, hz0, hz1, hz2⟩ := info_parts infoFld
  have hoN : (w.alloc (.cells #[] 73)).ownsRow w.heap.size 73 2 (.slice (some ⟨w.heap.size, 0, none⟩) 0 0) 0 [] := World.ownsRow_lit w #[] 0 (Nat.le_refl _) (by decide) rfl
  have hba := (Below.refl w.heap.size w).alloc (Nat.le_refl _) (.cells #[] 73)
  cases A with
  | none =>
    have he : fs = [] := by
      cases fs with
      | nil => rfl
      | cons a r => obtain ⟨b, off, e, _⟩ := hc 0 a rfl; cases e
    have hc0 := hnil _ _ rfl
    subst hc0
    subst he
    simp only [List.length_nil]
    go_enter Tryz.func53, Tryz.ntmps53
    go_wp2_with (at_builtin; refine wpList_append_own_none rfl _ _ 36 rfl w.heap.size 73 i0 2 Tryz.underlying36 hi _ 0 [] rfl hoN rfl ?_)
    go_ret
    exact ⟨_, rfl, hoN, hba⟩
  | some ad =>
    have HC := Lib.hid (rcellsF_at (cap := cap) hc (.cells #[] 73))
    have hone : ∀ u ∈ cellsF fs, u.oneCell' = true := by
      intro u hu
      unfold cellsF at hu
      simp at hu
      obtain ⟨a, b, _, h | h⟩ := hu <;> subst h <;> rfl
    have HL := cellsF_len fs
    clear hc
    generalize cellsF fs = cf at *
    go_enter Tryz.func53, Tryz.ntmps53
    go_wp2_with (at_builtin; refine wpList_append_own _ rfl _ _ 36 rfl w.heap.size 73 i0 _ 2 32 Tryz.underlying36 hi hz0 hz1 hz2 rfl (by decide) _ 0 [] rfl hoN ad fs.length cap cf rfl HL HC.out hone ?c3 ?c4 ?c5 ?_)
    case c3 => unfold maxLen; omega
    case c4 => omega
    case c5 => simp
    intro v' w3 hown' hgrow _
    have hb3 : Below w.heap.size w w3 := hba.grown hgrow (by simp) (fun j ej => (World.ownsRow.lt hoN j ej).1)
    go_wp2_with fail
    go_ret
    exact ⟨_, rfl, hown', hb3⟩
/-- The copies so far. -/
structure AccM (w wr : World) (v : Value) (fvs : List Value) (its : List It) : Prop where
  row : wr.ownsRow w.heap.size 47 3 v its.length (itemsCells its fvs)
  len : fvs.length = its.length
  each : ∀ (j : Nat) it x, its[j]? = some it → fvs[j]? = some x → wr.ownsRow w.heap.size 73 2 x it.fields.length (cellsF it.fields)
  below : Below w.heap.size w wr
theorem AccM.its {w wr : World} {v : Value} {fvs : List Value} {its : List It} (h : AccM w wr v fvs its) : Its wr v its :=
  its_of_own h.row h.len fun j it x h1 h2 => flds_of_own (h.each j it x h1 h2)
theorem AccM.nil {w wr : World} {v : Value} {fvs : List Value} {its : List It} (h : AccM w wr v fvs its) : NilI wr v its := by
  intro i b off n cap m c e hlt hcell
  obtain ⟨it, hi⟩ : ∃ it, its[i]? = some it := ⟨_, List.getElem?_eq_getElem hlt⟩
  obtain ⟨fv, hfv⟩ : ∃ fv, fvs[i]? = some fv := ⟨_, List.getElem?_eq_getElem (by rw [h.len]; exact hlt)⟩
  obtain ⟨_, _, a2⟩ := itemsCells_at _ _ i it fv hi hfv
  have hr := h.row
  rcases Joins.ownsRow_forms hr with ⟨e', hn⟩ | ⟨g, cap', e'⟩
  · omega
  · rw [e'] at e hr
    cases e
    rw [Nat.zero_add, World.ownsRow.cellAt hr (i * 3 + 1 + 1) (by omega), a2] at hcell
    cases hcell
    rcases (h.each i it _ hi hfv).2 with ⟨q, _⟩ | ⟨g', cap', cur, q, _⟩
    · cases q; rfl
    · cases q
theorem AccM.kept {w wr w2 : World} {v : Value} {fvs : List Value} {its : List It} (h : AccM w wr v fvs its) (hb : Below wr.heap.size wr w2) : AccM w w2 v fvs its :=
  ⟨own_kept h.row hb (Nat.le_refl _), h.len, fun j it x h1 h2 => own_kept (h.each j it x h1 h2) hb (Nat.le_refl _), h.below.trans (hb.mono h.below.size)⟩
theorem row42 {W w3 : World} {lo : Nat} {v x : Value} {n m : Nat} {xs ys : List Value} (hv : W.ownsRow lo 47 3 v n xs) (hx : W.ownsRow lo 73 2 x m ys) (hg : W.grownBy w3 v.ownBlock) : w3.ownsRow lo 73 2 x m ys := by
  refine row_same hx fun b hb => hg.block b (hx.lt b hb).2 (fun e => ?_)
  rcases hx.2 with ⟨rfl, _⟩ | ⟨g, cap, cur, rfl, _, hc, _⟩
  · cases hb
  · cases hb
    rcases hv.2 with ⟨rfl, _⟩ | ⟨g', cap', cur', rfl, _, hc', _⟩
    · cases e
    · have : g = g' := Option.some.inj e
      subst this
      rw [hc] at hc'
      injection hc' with hc'
      injection hc' with _ h2 _
      exact absurd h2 (by decide)
theorem AccM.snoc {w W w3 : World} {v v' x : Value} {fvs : List Value} {its : List It} {it : It} (h : AccM w W v fvs its) (hx : W.ownsRow w.heap.size 73 2 x it.fields.length (cellsF it.fields)) (ho : w3.ownsRow w.heap.size 47 3 v' (its.length + 1) (itemsCells its fvs ++ [.int .i64 it.kind, .string (B it.raw), x])) (o : Obj) (hg : (W.alloc o).grownBy w3 v.ownBlock) : AccM w w3 v' (fvs ++ [x]) (its ++ [it]) := by
  have h' := h.kept ((Below.refl W.heap.size W).alloc (Nat.le_refl _) o)
  have hx' := own_kept hx ((Below.refl W.heap.size W).alloc (Nat.le_refl _) o) (Nat.le_refl _)
  refine ⟨by rw [List.length_append, itemsCells_snoc _ _ _ _ h.len]; exact ho, by simp [h.len], fun j y s hy hs => ?_, h'.below.grown hg h'.below.size (fun k e => (h.row.lt k e).1)⟩
  rcases snoc_at hy with ⟨q, hy⟩ | ⟨q, rfl⟩
  · rw [List.getElem?_append_left (by rw [h.len]; exact q)] at hs
    exact row42 h'.row (h'.each j y s hy hs) hg
  · rw [q, ← h.len, List.getElem?_append_right (Nat.le_refl _)] at hs
    simp at hs
    subst hs; exact row42 h'.row hx' hg
end Go.Proofs.YtiebbgbcojgeoaaGreatDoor
/- Items put apart. -/
namespace Go.Proofs.YtiebbgbcojgeoaaGreatDoor
open Go.RowKit Go.Shelf

theorem apart_snoc (its : List It) (k : Nat) (it : It) (h : its[k]? = some it) : apartL (its.take (k + 1)) = (apartL (its.take k) ++ if lastF false (its.take k) = true ∧ it.kind ≠ 1 then [⟨1, [10], []⟩] else []) ++ [it] := by
  have e : its.take (k + 1) = its.take k ++ [it] := by rw [List.take_add_one, h]; rfl
  unfold apartL
  rw [e, apartOn_append, List.append_assoc]
  congr 1
theorem lastF_snoc (b : Bool) (l : List It) (x : It) : lastF b (l ++ [x]) = (x.kind != 1) := by rw [lastF_append]; rfl
theorem lastF_at (its : List It) (k : Nat) (it : It) (h : its[k]? = some it) : lastF false (its.take (k + 1)) = (it.kind != 1) := by
  have e : its.take (k + 1) = its.take k ++ [it] := by rw [List.take_add_one, h]; rfl
  rw [e, lastF_snoc]
theorem apartOn_len : ∀ (b : Bool) (l : List It), (apartOn b l).length ≤ 2 * l.length
  | b, [] => by simp [apartOn]
  | b, x :: r => by
    have ih := apartOn_len (x.kind != 1) r
    show ((if _ then _ else _) ++ x :: apartOn _ r).length ≤ _
    rw [List.length_append, List.length_cons, List.length_cons]
    split
    · simp only [List.length_singleton]; omega
    · simp only [List.length_nil]; omega
theorem apart_len (its : List It) : (apartL its).length ≤ 2 * its.length := apartOn_len _ _
theorem apartOn_mem : ∀ (b : Bool) (l : List It), ∀ x ∈ apartOn b l, x ∈ l ∨ x = ⟨1, [10], []⟩
  | b, [], x, h => by simp [apartOn] at h
  | b, y :: r, x, h => by
    have h' : x ∈ (if b = true ∧ y.kind ≠ 1 then [(⟨1, [10], []⟩ : It)] else []) ++ y :: apartOn (y.kind != 1) r := h
    rcases List.mem_append.1 h' with h' | h'
    · split at h'
      · exact .inr (List.mem_singleton.1 h')
      · cases h'
    · rcases List.mem_cons.1 h' with rfl | h'
      · exact .inl List.mem_cons_self
      · rcases apartOn_mem _ r x h' with q | q
        · exact .inl (List.mem_cons_of_mem _ q)
        · exact .inr q
theorem apart_mem {its : List It} {x : It} (h : x ∈ apartL its) : x ∈ its ∨ x = ⟨1, [10], []⟩ := apartOn_mem _ _ _ h
/-- The items so far, of which each one's fields lie where they lay. -/
structure AccI (w wr : World) (v : Value) (fvs : List Value) (its : List It) : Prop where
  row : wr.ownsRow w.heap.size 47 3 v its.length (itemsCells its fvs)
  len : fvs.length = its.length
  each : ∀ (j : Nat) it x, its[j]? = some it → fvs[j]? = some x → Flds w x it.fields
  below : Below w.heap.size w wr
theorem AccI.start (w : World) : AccI w w (.slice none 0 0) [] [] := ⟨⟨rfl, .inl ⟨rfl, rfl⟩⟩, rfl, fun j it x h => by simp at h, Below.refl _ _⟩
theorem AccM.start (w : World) : AccM w w (.slice none 0 0) [] [] := ⟨⟨rfl, .inl ⟨rfl, rfl⟩⟩, rfl, fun j it x h => by simp at h, Below.refl _ _⟩
theorem AccI.its {w wr : World} {v : Value} {fvs : List Value} {its : List It} (h : AccI w wr v fvs its) : Its wr v its :=
  its_of_own h.row h.len fun j it x h1 h2 => (h.each j it x h1 h2).below h.below (Nat.le_refl _)
theorem AccI.kept {w wr w2 : World} {v : Value} {fvs : List Value} {its : List It} (h : AccI w wr v fvs its) (hb : Below wr.heap.size wr w2) : AccI w w2 v fvs its :=
  ⟨own_kept h.row hb (Nat.le_refl _), h.len, h.each, h.below.trans (hb.mono h.below.size)⟩
theorem AccI.snoc {w W w3 : World} {v v' x : Value} {fvs : List Value} {its : List It} {it : It} (h : AccI w W v fvs its) (hx : Flds w x it.fields) (ho : w3.ownsRow w.heap.size 47 3 v' (its.length + 1) (itemsCells its fvs ++ [.int .i64 it.kind, .string (B it.raw), x])) (o : Obj) (hg : (W.alloc o).grownBy w3 v.ownBlock) : AccI w w3 v' (fvs ++ [x]) (its ++ [it]) := by
  have h' := h.kept ((Below.refl W.heap.size W).alloc (Nat.le_refl _) o)
  refine ⟨by rw [List.length_append, itemsCells_snoc _ _ _ _ h.len]; exact ho, by simp [h.len], fun j y s hy hs => ?_, h'.below.grown hg h'.below.size (fun k e => (h.row.lt k e).1)⟩
  rcases snoc_at hy with ⟨q, hy⟩ | ⟨q, rfl⟩
  · rw [List.getElem?_append_left (by rw [h.len]; exact q)] at hs
    exact h.each j y s hy hs
  · rw [q, ← h.len, List.getElem?_append_right (Nat.le_refl _)] at hs
    simp at hs
    subst hs; exact hx
set_option maxHeartbeats 1000000 in
theorem touch_any (a b : Int) (r s f g : Value) (hr : r.oneCell' = true) (w : World) (n m c d : Nat) (fa ga : Option Addr) (x y : ByteArray) (h1 : r = .string x) (h2 : s = .string y) (h3 : f = .slice fa n c) (h4 : g = .slice ga m d) :
    Calls Tryz.prog 136 #[.agg #[.int .i64 a, r, f], .agg #[.int .i64 b, s, g]] w fun e w' => e = .returned (.bool (a != 1 && b != 1)) ∧ Below w.heap.size w w' := by
  subst h1 h2 h3 h4
  have hb : Below w.heap.size w ((w.alloc (.cells #[.int .i64 a, .string x, .slice fa n c] 47)).alloc (.cells #[.int .i64 b, .string y, .slice ga m d] 47)) := ((Below.refl _ _).alloc (Nat.le_refl _) _).alloc (by simp) _
  cases ha : (a != 1) with
  | true =>
    cases hb2 : (b != 1) <;>
    · go_enter Tryz.func136, Tryz.ntmps136
      go_wp2_with fail
      go_ret
      exact ⟨rfl, hb⟩
  | false =>
    go_enter Tryz.func136, Tryz.ntmps136
    go_wp2_with fail
    go_ret
    exact ⟨rfl, hb⟩
/- The document as it has them. -/
set_option maxRecDepth 100000 in
set_option maxHeartbeats 8000000 in
theorem refApart_any (its : List It) (v : Value) (w : World) (h : Its w v its) (hn : its.length ≤ 100000) :
    Calls Tryz.prog 132 #[v] w fun e w' => ∃ u fvs, e = .returned u ∧ AccI w w' u fvs (apartL its) := by
  obtain ⟨i0, hi, hz0, hz1, hz2⟩ := info_parts infoItem
  obtain ⟨A, cap, rfl, hle, hc⟩ := h
  have HC := Lib.hid hc
  clear hc
  go_enter Tryz.func132, Tryz.ntmps132
  go_wp2_with fail
  go_loopw [3, 4] (fun u i wr => ∃ (k : Nat) (fvs : List Value), k ≤ its.length ∧ i = .int .i64 k ∧ AccI w wr u fvs (apartL (its.take k))) (fun _ i _ => its.length - (intOf i).toNat)
  case atStart => exact ⟨0, [], Nat.zero_le _, rfl, AccI.start w⟩
  case round =>
    obtain ⟨k, fvs, hk, rfl, hacc⟩ := hrel
    by_cases hlt : k < its.length
    · obtain ⟨it, hit⟩ : ∃ it, its[k]? = some it := ⟨_, List.getElem?_eq_getElem hlt⟩
      obtain ⟨b, off, fv, rfl, hbb, c0, c1, c2, hfl⟩ := HC.out k it hit
      obtain ⟨fa, fc, rfl, _, _⟩ := id hfl
      have hb := hacc.below
      have hlb := hb.size
      have al := apart_len (its.take k)
      rw [List.length_take] at al
      have SN := apart_snoc its k it hit
      have HFL := Lib.hid hfl
      have ACC := Lib.hid hacc
      have C0 := Lib.hid c0
      have C1 := Lib.hid c1
      have C2 := Lib.hid c2
      have cells : ∀ W, Below w.heap.size w W → W.cell? ⟨b, off + k * 3, none⟩ = some (.int .i64 it.kind) ∧ W.cell? ⟨b, off + k * 3 + 1, none⟩ = some (.string (B it.raw)) ∧ W.cell? ⟨b, off + k * 3 + 1 + 1, none⟩ = some (.slice fa it.fields.length fc) := fun W hW =>
        ⟨(hW.cell (p := ⟨b, off + k * 3, none⟩) hbb).trans C0.out, (hW.cell (p := ⟨b, off + k * 3 + 1, none⟩) hbb).trans C1.out, (hW.cell (p := ⟨b, off + k * 3 + 1 + 1, none⟩) hbb).trans C2.out⟩
      clear c0 c1 c2
      obtain ⟨c0, c1, c2⟩ := cells wr hb
      have CELLS := Lib.hid cells
      obtain ⟨gap, hgap⟩ : ∃ gap : Bool, (lastF false (its.take k) && it.kind != 1) = gap := ⟨_, rfl⟩
      have SN2 : Hid (apartL (its.take (k + 1)) = (apartL (its.take k) ++ if gap = true then [⟨1, [10], []⟩] else []) ++ [it]) := by
        show _ = _
        rw [SN, ← hgap]
        simp
      have PV : Hid (0 < k → ∃ jt : It, wr.cell? ⟨b, off + (k - 1) * 3, none⟩ = some (.int .i64 jt.kind) ∧ gap = (jt.kind != 1 && it.kind != 1)) := by
        intro hj
        obtain ⟨jt, hjt⟩ : ∃ jt, its[k - 1]? = some jt := ⟨_, List.getElem?_eq_getElem (by omega)⟩
        obtain ⟨b', off', fv', e, hbb', d0, _⟩ := HC.out (k - 1) jt hjt
        cases e
        refine ⟨jt, (hb.cell (p := ⟨b, off + (k - 1) * 3, none⟩) hbb').trans d0, ?_⟩
        have := lastF_at its (k - 1) jt hjt
        rw [show k - 1 + 1 = k by omega] at this
        rw [← hgap, this]
      have P0 : Hid (k = 0 → gap = false) := by
        intro h; rw [← hgap, h]; rfl
      have U := Lib.hid (show ∃ ua uc, u3 = .slice ua (apartL (its.take k)).length uc from by obtain ⟨ua, uc, h, _⟩ := own_slice hacc.row; exact ⟨ua, uc, h⟩)
      clear hacc hit hfl SN hgap cells
      generalize hap : apartL (its.take k) = ap at *
      clear hap
      have CK : Hid (wr = wr) := rfl
      go_upto_region 5 with fail
      go_cut [29] (fun c wx => c = .bool gap ∧ wx = wr)
      case first =>
        rcases Nat.eq_zero_or_pos k with h0 | h0
        · have hg := P0.out h0
          have hk0 : ¬ (0 < k) := by omega
          clear h0
          go_wp2_with fail
          go_meet
          exact ⟨by rw [hg], rfl⟩
        · obtain ⟨jt, d0, hg⟩ := PV.out h0
          cases hj : (jt.kind != 1) with
          | false =>
            rw [hj] at hg
            go_wp2_with fail
            go_meet
            exact ⟨by rw [hg]; rfl, rfl⟩
          | true =>
            rw [hj] at hg
            go_wp2_with fail
            go_meet
            exact ⟨by rw [hg]; rfl, rfl⟩
      case rest =>
        obtain ⟨rfl, rfl⟩ := hcut
        clear PV P0 HC
        obtain ⟨j, hjk⟩ : ∃ j, j = k := ⟨k, rfl⟩
        subst hjk
        cases gap with
        | false =>
          have SNH : Hid (apartL (its.take (j + 1)) = ap ++ [it]) := by
            show _ = _
            rw [SN2.out, if_neg (by decide), List.append_nil]
          clear SN2
          have HV := Lib.hid (cells_new_add wc 47 [.int .i64 it.kind, .string (B it.raw), .slice fa it.fields.length fc])
          have hrow := ACC.out.row
          have hlw := ACC.out.below.size
          go_wp2_with (at_builtin; refine wpList_append_own _ rfl _ _ 55 rfl w.heap.size 47 i0 _ 3 48 Tryz.underlying55 hi hz0 hz1 hz2 rfl (by decide) _ _ _ rfl (hrow.alloc _) ⟨wc.heap.size, 0, none⟩ 1 1 _ rfl rfl HV.out (by intro u hu; simp at hu; rcases hu with rfl | rfl | rfl <;> rfl) (by unfold maxLen; omega) (by omega) (by first | omega | (simp only [World.size_alloc]; omega) | (simp [World.setCell]; omega)) ?_)
          intro v' w5 hown' hgrow _
          have hacc5 := ACC.out.snoc HFL.out hown' _ hgrow
          obtain ⟨g', cap5, rfl⟩ := ownsRow_succ hown'
          go_wp2_with fail
          go_roundw
          case rel => exact ⟨j + 1, _, hlt, by go_num, by rw [SNH.out]; exact hacc5⟩
          case measure => simp [intOf]; omega
        | true =>
          have SNH : Hid (apartL (its.take (j + 1)) = (ap ++ [⟨1, [10], []⟩]) ++ [it]) := by
            show _ = _
            rw [SN2.out, if_pos rfl]
          clear SN2
          have HV0 := Lib.hid (cells_new_add wc 47 [.int .i64 1, .string ⟨#[10]⟩, .slice none 0 0])
          have hrow0 := ACC.out.row
          go_wp2_with (at_builtin; refine wpList_append_own _ rfl _ _ 55 rfl w.heap.size 47 i0 _ 3 48 Tryz.underlying55 hi hz0 hz1 hz2 rfl (by decide) _ _ _ rfl (hrow0.alloc _) ⟨wc.heap.size, 0, none⟩ 1 1 _ rfl rfl HV0.out (by intro u hu; simp at hu; rcases hu with rfl | rfl | rfl <;> rfl) (by unfold maxLen; omega) (by omega) (by first | omega | (simp only [World.size_alloc]; omega) | (simp [World.setCell]; omega)) ?_)
          intro v4 w4 hown4 hgrow4 _
          have hacc4 := ACC.out.snoc (it := ⟨1, [10], []⟩) (x := .slice none 0 0) ⟨none, 0, rfl, Nat.le_refl _, fun i f h => by simp at h⟩ hown4 _ hgrow4
          obtain ⟨g4, cap4, rfl⟩ := ownsRow_succ hown4
          obtain ⟨c0', c1', c2'⟩ := CELLS.out w4 hacc4.below
          have hlen4 : (ap ++ [(⟨1, [10], []⟩ : It)]).length = ap.length + 1 := by simp
          have HLEN := Lib.hid hlen4
          clear ACC hgrow4 hown4 hrow0 c0 c1 c2 HV0 hlen4
          have ACC := Lib.hid hacc4
          clear hacc4
          have HV := Lib.hid (cells_new_add w4 47 [.int .i64 it.kind, .string (B it.raw), .slice fa it.fields.length fc])
          have hrow := ACC.out.row
          rw [HLEN.out] at hrow
          have hlw := ACC.out.below.size
          go_wp2_with (at_builtin; refine wpList_append_own _ rfl _ _ 55 rfl w.heap.size 47 i0 _ 3 48 Tryz.underlying55 hi hz0 hz1 hz2 rfl (by decide) _ _ _ rfl (hrow.alloc _) ⟨w4.heap.size, 0, none⟩ 1 1 _ rfl rfl HV.out (by intro u hu; simp at hu; rcases hu with rfl | rfl | rfl <;> rfl) (by unfold maxLen; omega) (by omega) (by first | omega | (simp only [World.size_alloc]; omega) | (simp [World.setCell]; omega)) ?_)
          intro v' w5 hown' hgrow _
          have hacc5 := ACC.out.snoc HFL.out (by rw [HLEN.out]; exact hown') _ hgrow
          obtain ⟨g', cap5, rfl⟩ := ownsRow_succ hown'
          go_wp2_with fail
          go_roundw
          case rel => exact ⟨j + 1, _, hlt, by go_num, by rw [SNH.out]; exact hacc5⟩
          case measure => simp [intOf]; omega
    · obtain rfl : k = its.length := by omega
      rw [List.take_length] at hacc
      clear HC
      go_wp2_with fail
      go_ret
      exact ⟨_, fvs, rfl, hacc⟩
end Go.Proofs.YtiebbgbcojgeoaaGreatDoor
/- Fold. -/
namespace Go.Proofs.YtiebbgbcojgeoaaGreatDoor
open Go.RowKit Go.Shelf

attribute [local go_sem] errV_0
set_option maxRecDepth 100000 in
set_option maxHeartbeats 4000000 in
theorem fold_any (fs : List (List UInt8 × List UInt8)) (v : Value) (w : World) (hs : Flds w v fs) (hn : fs.length ≤ 1000) (hl : ∀ f ∈ fs, f.1.length ≤ 100000 ∧ f.2.length ≤ 100000) :
    Calls Tryz.prog 149 #[v] w fun e w' => e = .returned (.tuple #[.string (B (foldT fs)), errV (foldN fs)]) ∧ Below w.heap.size w w' := by
  obtain ⟨A, cap, rfl, hle, hc⟩ := hs
  have PC := Lib.hid hc
  clear hc
  have B0 := Bld.new w (w.heap.size + 1)
  go_enter Tryz.func149, Tryz.ntmps149
  go_wp2_with fail
  go_loopw [13] (fun i wr => ∃ k : Nat, k ≤ fs.length ∧ i = .int .i64 k ∧ foldN fs = foldN (fs.drop k) ∧ Bld w.heap.size (w.heap.size + 1) (foldG (fs.take k)) wr ∧ (foldG (fs.take k)).length ≤ 4000 * k ∧ Below w.heap.size w wr) (fun i _ => fs.length - (intOf i).toNat)
  case atStart => exact ⟨0, Nat.zero_le _, rfl, rfl, B0, Nat.le_refl _, (Below.refl _ _).alloc (Nat.le_refl _) _⟩
  case round =>
    obtain ⟨k, hk, rfl, hN, hbl, hle4, hb⟩ := hrel
    by_cases hlt : k < fs.length
    · obtain ⟨f, hf⟩ : ∃ f, fs[k]? = some f := ⟨_, List.getElem?_eq_getElem hlt⟩
      obtain ⟨b, off, rfl, hbb, c0, c1⟩ := PC.out k f hf
      replace c0 := (hb.cell (p := ⟨b, off + k * 2, none⟩) hbb).trans c0
      replace c1 := (hb.cell (p := ⟨b, off + k * 2 + 1, none⟩) hbb).trans c1
      obtain ⟨hl1, hl2⟩ := hl f (List.mem_of_getElem? hf)
      have hdrop : fs.drop k = f :: fs.drop (k + 1) := by
        rw [List.drop_eq_getElem_cons hlt]
        rw [List.getElem?_eq_getElem hlt] at hf
        rw [Option.some.inj hf]
      have htake : fs.take (k + 1) = fs.take k ++ [f] := by rw [List.take_add_one, hf]; rfl
      rw [hdrop] at hN
      have NH := Lib.hid hN
      have TH := Lib.hid htake
      have hs1 := hb.size
      have hbs := hbl.lt
      have HB := Lib.hid (hbl.alloc (.cells #[.string (B f.1), .string (B f.2)] 73))
      have hba := hb.alloc hs1 (.cells #[.string (B f.1), .string (B f.2)] 73)
      by_cases hck : checkN f.1 f.2 = 0
      · have LG := fun w => lines_own f.1 f.2 hl1 hl2 w hck
        clear hdrop htake hN hf
        unfold fieldV at LG
        go_wp2_with fail
        refine (LG _).mono ?_
        rintro e w2 ⟨sv, base, rfl, hown, b2⟩
        have hb2 := hba.trans (b2.mono (by simp; omega))
        have hbl2 := HB.out.kept b2 (Nat.le_refl _)
        have htl := text_le hck
        have hm1 : 1 ≤ (linesL f.1 f.2).length := by rw [linesL_len]; omega
        have hm2 : (linesL f.1 f.2).length ≤ 4000 := by rw [textL_len] at htl; omega
        have G1 : Hid (foldG (fs.take (k + 1)) = foldG (fs.take k) ++ textL (linesL f.1 f.2)) := by
          show _ = _
          rw [TH.out, foldG_snoc]
        have G2 : Hid (foldN fs = foldN (fs.drop (k + 1))) := by
          show _ = _
          rw [NH.out]; show (if checkN f.1 f.2 = 0 then foldN (fs.drop (k + 1)) else _) = _; rw [if_pos hck]
        clear HB b2 hba LG hbl hb c0 c1 TH NH hck
        obtain ⟨g, cap', rfl⟩ := Joins.ownsRow_form hown (by simp; omega)
        rw [List.length_map] at hown ⊢
        generalize linesL f.1 f.2 = ls at *
        generalize foldG (fs.take k) = pre at *
        go_wp2_with fail
        go_loopw [27] (fun i wq => ∃ j : Nat, j ≤ ls.length ∧ i = .int .i64 j ∧ Bld w.heap.size (w.heap.size + 1) (pre ++ textL (ls.take j)) wq ∧ wq.ownsRow base 9 1 (.slice (some ⟨g, 0, none⟩) ls.length cap') ls.length ((ls.map B).map Value.string) ∧ Below w.heap.size w wq) (fun i _ => ls.length - (intOf i).toNat)
        case atStart => exact ⟨0, Nat.zero_le _, rfl, by simpa [textL] using hbl2, by simpa [OwnS] using hown, hb2⟩
        case round =>
          obtain ⟨j, hj, rfl, hblj, hownj, hbj⟩ := hrel
          have hsj := hbj.size
          by_cases hjl : j < ls.length
          · obtain ⟨x, hx⟩ : ∃ x, ls[j]? = some x := ⟨_, List.getElem?_eq_getElem hjl⟩
            have hcx := hownj.cellAt j (by omega)
            rw [List.getElem?_map, List.getElem?_map, hx] at hcx
            simp only [Option.map_some] at hcx
            have T1 : Hid (textL (ls.take (j + 1)) = (textL (ls.take j) ++ x) ++ [10]) := by
              show _ = _
              rw [List.take_add_one, hx]; exact textL_snoc _ _
            have t1 := textL_take ls (j + 1)
            rw [T1.out, List.length_append, List.length_append] at t1
            simp only [List.length_singleton] at t1
            have hlj := hblj.lt
            clear hx
            go_wp2_with fail
            refine (writes w.heap.size (w.heap.size + 1) _ (B x) wr hblj (by omega) (by omega) (by rw [B_size, List.length_append]; omega)).mono ?_
            rintro e w5 ⟨rfl, hbl5, hw5⟩
            obtain ⟨cs, hcs⟩ := hblj.cells
            have hownS : OwnS wr base (.slice (some ⟨g, 0, none⟩) ls.length cap') (ls.map B) := by unfold OwnS; rw [List.length_map]; exact hownj
            have hown5 := hownS.wrote hw5 hcs
            have hb5 := hbj.trans (hw5.below (Nat.le_refl _) (by omega) hsj)
            rw [B_data] at hbl5
            have hs5 := hb5.size
            have hl5 := hbl5.lt
            clear hw5 hownS hownj hblj hcs hbj hcx
            go_wp2_with fail
            refine (writes w.heap.size (w.heap.size + 1) _ ⟨#[10]⟩ w5 hbl5 (by omega) (by omega) (by simp only [List.length_append]; show _ + 1 ≤ _; omega)).mono ?_
            rintro e w6 ⟨rfl, hbl6, hw6⟩
            obtain ⟨cs, hcs⟩ := hbl5.cells
            have hown6 := hown5.wrote hw6 hcs
            have hb6 := hb5.trans (hw6.below (Nat.le_refl _) (by omega) hs5)
            clear hw6 hown5 hbl5 hcs hb5
            go_wp2_with fail
            go_roundw
            case rel =>
              refine ⟨j + 1, hjl, by go_num, ?_, ?_, hb6⟩
              · rw [T1.out, ← List.append_assoc, ← List.append_assoc]; exact hbl6
              · unfold OwnS at hown6; rw [List.length_map] at hown6; exact hown6
            case measure => simp [intOf]; omega
          · obtain rfl : j = ls.length := by omega
            rw [List.take_length] at hblj
            go_wp2_with fail
            go_roundw
            case rel =>
              refine ⟨k + 1, hlt, by go_num, G2.out, by rw [G1.out]; exact hblj, ?_, hbj⟩
              rw [G1.out, List.length_append]; omega
            case measure => simp [intOf]; omega
      · have LB := fun w => lines_bad f.1 f.2 hl1 hl2 w hck
        have hfn : foldN fs = checkN f.1 f.2 := by rw [NH.out]; unfold foldN; rw [if_neg hck]
        have hft : foldT fs = [] := by unfold foldT; rw [hfn, if_neg hck]
        rw [errV_pos _ (Nat.pos_of_ne_zero hck)] at LB
        have hev : errV (foldN fs) = .iface 75 (.int .i64 (checkN f.1 f.2 : Int)) := by rw [hfn, errV_pos _ (Nat.pos_of_ne_zero hck)]
        have FTH := Lib.hid hft
        have FNH := Lib.hid hev
        clear hdrop htake hN hf hfn hft NH hck hev
        generalize checkN f.1 f.2 = cn at *
        unfold fieldV at LB
        go_wp2_with fail
        refine (LB _).mono ?_
        rintro e w2 ⟨rfl, b2⟩
        have hb2 := hba.trans (b2.mono (by simp; omega))
        clear b2 LB
        go_wp2_with fail
        go_ret2
        exact ⟨by rw [FNH.out, FTH.out]; rfl, hb2⟩
    · obtain rfl : k = fs.length := by omega
      rw [List.take_length] at hbl
      rw [List.drop_length] at hN
      have h0 : foldN fs = 0 := hN
      have hft : foldT fs = foldG fs := by unfold foldT; rw [if_pos h0]
      have FTH := Lib.hid hft
      have FNH := Lib.hid h0
      have hbs := hbl.lt
      clear hN h0 hft PC hle4
      go_wp2_with fail
      refine (Tryz.Builder_String_any_k w.heap.size w.heap.size _ wr (hbl.library (Nat.le_refl _) (by omega)) (by omega)).mono ?_
      rintro e w5 ⟨rfl, _, b5, _⟩
      go_wp2_with fail
      go_ret2
      exact ⟨by rw [FTH.out, FNH.out]; rfl, hb.trans b5⟩
end Go.Proofs.YtiebbgbcojgeoaaGreatDoor
/- Which fields are a stanza's; a stanza's text. -/
namespace Go.Proofs.YtiebbgbcojgeoaaGreatDoor
open Go.RowKit Go.Shelf

/-- The first field that isn't good. -/
def badAt : List Fld → Nat
  | [] => 0
  | f :: r => if checkN f.1 f.2 = 0 then badAt r + 1 else 0
def chkN (fs : List Fld) : Nat := if fs.length = 0 then 2 else if 40 < fs.length then 11 else foldN fs
def bare (fs : List Fld) : Prop := fs.length = 0 ∨ 40 < fs.length ∨ foldN fs = 0
instance (fs : List Fld) : Decidable (bare fs) := by unfold bare; infer_instance
def chkAt (fs : List Fld) : Int := if bare fs then -9 else (badAt fs : Nat)
/-- Check's answer, in memory. -/
def ChkV (lo : Nat) (w : World) (u : Value) (fs : List Fld) : Prop := if bare fs then u = errV (chkN fs) else FaultAt lo w u (badAt fs) (foldN fs)
theorem chkN_le (fs : List Fld) : chkN fs ≤ 11 := by
  unfold chkN
  have := foldN_le fs
  split
  · decide
  · split
    · decide
    · omega
theorem chkN_zero {fs : List Fld} (h : chkN fs = 0) : fs.length ≠ 0 ∧ fs.length ≤ 40 ∧ foldN fs = 0 := by
  unfold chkN at h
  split at h
  · cases h
  · split at h
    · cases h
    · exact ⟨by assumption, by omega, h⟩
theorem ChkV.zero {lo : Nat} {w : World} {u : Value} {fs : List Fld} (h : ChkV lo w u fs) (h0 : chkN fs = 0) : u = .nilIface := by
  obtain ⟨_, _, c⟩ := chkN_zero h0
  unfold ChkV at h
  rw [if_pos (.inr (.inr c)), h0] at h
  exact h
theorem ChkV.pos {lo : Nat} {w : World} {u : Value} {fs : List Fld} (h : ChkV lo w u fs) (h0 : chkN fs ≠ 0) : u = .iface 75 (.int .i64 (chkN fs : Nat)) ∨ ∃ q, u = .iface 107 (.pointer q) := by
  unfold ChkV at h
  split at h
  · rw [errV_pos _ (by omega)] at h; exact .inl h
  · obtain ⟨q, _, e, _⟩ := h; exact .inr ⟨_, e⟩
theorem ChkV.below {lo : Nat} {w w' : World} {u : Value} {fs : List Fld} {N : Nat} (h : ChkV lo w u fs) (hb : Below N w w') (hN : w.heap.size ≤ N) : ChkV lo w' u fs := by
  unfold ChkV at h ⊢
  split
  · rename_i hx; rw [if_pos hx] at h; exact h
  · rename_i hx; rw [if_neg hx] at h; exact h.below hb hN
theorem ChkV.mono {lo lo' : Nat} {w : World} {u : Value} {fs : List Fld} (h : ChkV lo w u fs) (hl : lo' ≤ lo) : ChkV lo' w u fs := by
  unfold ChkV at h ⊢
  split
  · rename_i hx; rw [if_pos hx] at h; exact h
  · rename_i hx; rw [if_neg hx] at h; exact h.mono hl
theorem ChkV.set {lo : Nat} {w : World} {u : Value} {fs : List Fld} (h : ChkV lo w u fs) (p : Addr) (hp : p.block < lo) (x : Value) : ChkV lo (w.setCell p x) u fs := by
  unfold ChkV at h ⊢
  split
  · rename_i hx; rw [if_pos hx] at h; exact h
  · rename_i hx
    rw [if_neg hx] at h
    obtain ⟨q, hq, e, hc⟩ := h
    exact ⟨q, hq, e, Cells.other hc (by omega) _⟩
theorem num_chk {lo : Nat} {w : World} {u : Value} {fs : List Fld} (h : ChkV lo w u fs) : Calls Tryz.prog 14 #[u] w fun e w' => e = .returned (.int .i64 (chkN fs : Nat)) ∧ w = w' := by
  have hle := chkN_le fs
  unfold ChkV at h
  split at h
  · subst h; exact num_any (chkN fs) (by omega) w
  · rename_i hx
    unfold bare at hx
    have e : chkN fs = foldN fs := by unfold chkN; rw [if_neg (fun h => hx (.inl h)), if_neg (fun h => hx (.inr (.inl h)))]
    rw [e]
    exact num_fault h (fun h => hx (.inr (.inr h))) (by have := foldN_le fs; omega)
theorem at_chk {lo : Nat} {w : World} {u : Value} {fs : List Fld} (h : ChkV lo w u fs) : Calls Tryz.prog 15 #[u] w fun e w' => e = .returned (.int .i64 (chkAt fs)) ∧ w = w' := by
  unfold ChkV at h
  unfold chkAt
  split at h
  · rename_i hx
    rw [if_pos hx]
    subst h
    by_cases hz : chkN fs = 0
    · rw [hz]; exact at_nil w
    · rw [errV_pos _ (by omega)]; exact at_err _ w
  · rename_i hx
    rw [if_neg hx]
    exact at_fault h

attribute [local go_sem] errV_0
set_option maxRecDepth 100000 in
set_option maxHeartbeats 4000000 in
theorem chk_any (fs : List Fld) (v : Value) (w : World) (hs : Flds w v fs) (hn : fs.length ≤ 1000000) (hl : ∀ f ∈ fs, f.1.length ≤ 1000000 ∧ f.2.length ≤ 1000000) :
    Calls Tryz.prog 148 #[v] w fun e w' => ∃ u, e = .returned u ∧ Below w.heap.size w w' ∧ ChkV w.heap.size w' u fs := by
  obtain ⟨A, cap, rfl, hle, hc⟩ := hs
  have PC := Lib.hid hc
  have HL := Lib.hid hl
  clear hc hl
  by_cases h0 : fs.length = 0
  · have FIN : Hid (∀ W, ChkV w.heap.size W (.iface 75 (.int .i64 2)) fs) := by
      intro W
      unfold ChkV; rw [if_pos (.inl h0)]; unfold chkN; rw [if_pos h0]; rfl
    rw [h0]
    go_enter Tryz.func148, Tryz.ntmps148
    go_wp2_with fail
    go_ret
    exact ⟨_, rfl, Below.refl _ _, FIN.out _⟩
  by_cases h40 : 40 < fs.length
  · have FIN : Hid (∀ W, ChkV w.heap.size W (.iface 75 (.int .i64 11)) fs) := by
      intro W
      unfold ChkV; rw [if_pos (.inr (.inl h40))]; unfold chkN; rw [if_neg h0, if_pos h40]; rfl
    have c0 : ((fs.length : Int) == 0) = false := by simp; intro h; exact h0 (by rw [h]; rfl)
    go_enter Tryz.func148, Tryz.ntmps148
    go_wp2_with fail
    go_ret
    exact ⟨_, rfl, Below.refl _ _, FIN.out _⟩
  have FINZ : Hid (∀ W, foldN fs = 0 → ChkV w.heap.size W .nilIface fs) := by
    intro W hz
    unfold ChkV; rw [if_pos (.inr (.inr hz))]; unfold chkN; rw [if_neg h0, if_neg h40, hz]; rfl
  have FINB : Hid (∀ (W : World) (k n : Nat), w.heap.size ≤ W.heap.size → foldN fs = n → n ≠ 0 → badAt fs = k → ChkV w.heap.size (W.alloc (.cells #[.int .i64 (k : Nat), .iface 75 (.int .i64 (n : Nat))] 110)) (.iface 107 (.pointer (some ⟨W.heap.size, 0, none⟩))) fs) := by
    intro W k n hW hf hnz hk
    unfold ChkV
    rw [if_neg (by unfold bare; rintro (h | h | h) <;> omega), hf, hk, ← errV_pos n (by omega)]
    exact FaultAt.new W k n _ _ rfl hW
  have c0 : ((fs.length : Int) == 0) = false := by simp; intro h; exact h0 (by rw [h]; rfl)
  go_enter Tryz.func148, Tryz.ntmps148
  go_wp2_with fail
  go_loopw [18] (fun i wr => ∃ k : Nat, k ≤ fs.length ∧ i = .int .i64 k ∧ foldN fs = foldN (fs.drop k) ∧ badAt fs = badAt (fs.drop k) + k ∧ Below w.heap.size w wr) (fun i _ => fs.length - (intOf i).toNat)
  case atStart => exact ⟨0, Nat.zero_le _, rfl, rfl, rfl, Below.refl _ _⟩
  case round =>
    obtain ⟨k, hk, rfl, hN, hA, hb⟩ := hrel
    by_cases hlt : k < fs.length
    · obtain ⟨f, hf⟩ : ∃ f, fs[k]? = some f := ⟨_, List.getElem?_eq_getElem hlt⟩
      obtain ⟨b, off, rfl, hbb, c0', c1⟩ := PC.out k f hf
      replace c0' := (hb.cell (p := ⟨b, off + k * 2, none⟩) hbb).trans c0'
      replace c1 := (hb.cell (p := ⟨b, off + k * 2 + 1, none⟩) hbb).trans c1
      obtain ⟨hl1, hl2⟩ := HL.out f (List.mem_of_getElem? hf)
      have hdrop : fs.drop k = f :: fs.drop (k + 1) := by
        rw [List.drop_eq_getElem_cons hlt]
        rw [List.getElem?_eq_getElem hlt] at hf
        rw [Option.some.inj hf]
      have hs1 := hb.size
      have hba := hb.alloc hs1 (.cells #[.string (B f.1), .string (B f.2)] 73)
      have hza : (wr.alloc (.cells #[.string (B f.1), .string (B f.2)] 73)).heap.size = wr.heap.size + 1 := by simp
      have CK := fun W => check_any f.1 f.2 hl1 hl2 W
      unfold fieldV at CK
      rw [hdrop] at hN hA
      by_cases hck : checkN f.1 f.2 = 0
      · have G1 : Hid (foldN fs = foldN (fs.drop (k + 1))) := by
          show _ = _
          rw [hN]; show (if checkN f.1 f.2 = 0 then foldN (fs.drop (k + 1)) else _) = _; rw [if_pos hck]
        have G2 : Hid (badAt fs = badAt (fs.drop (k + 1)) + (k + 1)) := by
          show _ = _
          rw [hA]; show (if checkN f.1 f.2 = 0 then badAt (fs.drop (k + 1)) + 1 else _) + k = _; rw [if_pos hck]; omega
        rw [hck] at CK
        clear hdrop hN hA hf hck FINB FINZ PC HL
        go_wp2_with fail
        refine (CK _).mono ?_
        rintro e w2 ⟨rfl, b2⟩
        have hb2 := hba.trans (b2.mono (by omega))
        clear b2 CK
        go_wp2_with fail
        go_roundw
        case rel => exact ⟨k + 1, hlt, by go_num, G1.out, G2.out, hb2⟩
        case measure => simp [intOf]; omega
      · have hfn : foldN fs = checkN f.1 f.2 := by rw [hN]; unfold foldN; rw [if_neg hck]
        have hbn : badAt fs = k := by rw [hA]; unfold badAt; rw [if_neg hck]; omega
        have FIN := Lib.hid (fun W hW => FINB.out W k (checkN f.1 f.2) hW hfn hck hbn)
        rw [errV_pos _ (Nat.pos_of_ne_zero hck)] at CK
        clear hdrop hN hA hf hck FINB FINZ PC HL hfn hbn
        generalize checkN f.1 f.2 = cn at *
        go_wp2_with fail
        refine (CK _).mono ?_
        rintro e w2 ⟨rfl, b2⟩
        have hb2 := hba.trans (b2.mono (by omega))
        have hz2 := hb2.size
        clear b2 CK
        go_wp2_with fail
        go_ret
        exact ⟨_, rfl, hb2.alloc hz2 _, FIN.out w2 hz2⟩
    · obtain rfl : k = fs.length := by omega
      rw [List.drop_length] at hN
      have F0 := Lib.hid (fun W => FINZ.out W hN)
      clear hN hA FINB FINZ PC HL
      go_wp2_with fail
      go_ret
      exact ⟨_, rfl, hb, F0.out _⟩
/-- A stanza's text. -/
def stzT (fs : List Fld) : List UInt8 := if chkN fs = 0 then foldG fs else []
set_option maxRecDepth 100000 in
set_option maxHeartbeats 4000000 in
theorem stanza_any (fs : List Fld) (v : Value) (w : World) (hs : Flds w v fs) (hn : fs.length ≤ 1000000) (hl : ∀ f ∈ fs, f.1.length ≤ 100000 ∧ f.2.length ≤ 100000) :
    Calls Tryz.prog 113 #[v] w fun e w' => ∃ u, e = .returned (.tuple #[.string (B (stzT fs)), u]) ∧ Below w.heap.size w w' ∧ ChkV w.heap.size w' u fs := by
  have CK := Lib.hid (chk_any fs v w hs hn (fun f hf => by have := hl f hf; omega))
  by_cases h0 : chkN fs = 0
  · obtain ⟨a1, a2, a3⟩ := chkN_zero h0
    have FO := Lib.hid (fun w' (h : Flds w' v fs) => fold_any fs v w' h (by omega) hl)
    rw [a3] at FO
    have T1 : Hid (stzT fs = foldT fs) := by
      show _ = _
      unfold stzT foldT; rw [if_pos h0, if_pos a3]
    have HS := Lib.hid hs
    obtain ⟨A, cap, rfl, hle, _⟩ := id hs
    have H0 := Lib.hid h0
    clear hs hl h0 a3
    go_enter Tryz.func113, Tryz.ntmps113
    go_wp2_with fail
    refine CK.out.mono ?_
    rintro e w1 ⟨u, rfl, b1, hu⟩
    obtain rfl := hu.zero H0.out
    have HU := Lib.hid hu
    have hz1 := b1.size
    have F2 := Lib.hid (FO.out w1 (HS.out.below b1 (Nat.le_refl _)))
    clear hu CK FO
    go_wp2_with fail
    refine F2.out.mono ?_
    rintro e w2 ⟨rfl, b2⟩
    have hb2 := b1.trans (b2.mono hz1)
    have HU2 := Lib.hid (HU.out.below b2 (Nat.le_refl _))
    clear F2
    go_wp2_with fail
    go_ret2
    exact ⟨_, by rw [T1.out]; rfl, hb2, HU2.out⟩
  · have T1 : Hid (stzT fs = []) := by
      show _ = _
      unfold stzT; rw [if_neg h0]
    obtain ⟨A, cap, rfl, hle, _⟩ := id hs
    have H0 := Lib.hid h0
    clear hs hl h0
    go_enter Tryz.func113, Tryz.ntmps113
    go_wp2_with fail
    refine CK.out.mono ?_
    rintro e w1 ⟨u, rfl, b1, hu⟩
    have hz1 := b1.size
    have hp := hu.pos H0.out
    have HU := Lib.hid hu
    clear hu CK
    rcases hp with rfl | ⟨q, rfl⟩
    all_goals
      go_wp2_with fail
      go_ret2
      exact ⟨_, by rw [T1.out]; rfl, b1, HU.out⟩
end Go.Proofs.YtiebbgbcojgeoaaGreatDoor
/- A stanza as an item; whether an item is printed so. -/
namespace Go.Proofs.YtiebbgbcojgeoaaGreatDoor
open Go.RowKit Go.Shelf

set_option maxRecDepth 100000 in
theorem ret_i2 {fn : Func} {p u : Tmp} (h : fn.results = #[.cell p 47, .tmp u]) (tmps : Array Value) (w : World) (b : Nat) (cur : Array Value) (hp : tmps.getD p undef = .pointer (some ⟨b, 0, none⟩))
    (hc : Cells w b 47 cur) (hz : cur.size = 3) : (results fn tmps).run Tryz.prog w = .ok (.tuple #[.agg cur, tmps.getD u undef]) w := by
  have L := run_loadVar_row (P := Tryz.prog) w b 47 47 cur (0, 0) _ hc Tryz.underlying47 rfl (by rw [hz]; kernel_rfl)
  rw [results_cell_tmp h, hp]
  show ((loadVar _ _).run _ _).andThen _ = _
  rw [L]; rfl
theorem set3 (c0 c1 c2 v0 v1 v2 : Value) : (((#[c0, c1, c2].setIfInBounds 0 v0).setIfInBounds 1 v1).setIfInBounds 2 v2) = #[v0, v1, v2] := by
  simp [List.setIfInBounds_toArray, List.set]
def kindI (fs : List Fld) : Int := if chkN fs = 0 then 3 else 0
/-- Item's answer, in memory. -/
structure ItemR (w : World) (fs : List Fld) (e : Ending) (w' : World) (u x : Value) : Prop where
  ret : e = .returned (.tuple #[.agg #[.int .i64 (kindI fs), .string (B (stzT fs)), x], u])
  below : Below w.heap.size w w'
  chk : ChkV w.heap.size w' u fs
  own : chkN fs = 0 → w'.ownsRow w.heap.size 73 2 x fs.length (cellsF fs)
  none_ : chkN fs ≠ 0 → x = .slice none 0 0
attribute [local go_sem] errV_0
set_option maxRecDepth 100000 in
set_option maxHeartbeats 4000000 in
theorem item_any (fs : List Fld) (v : Value) (w : World) (hs : Flds w v fs) (hnil : ∀ n c, v = .slice none n c → c = 0) (hn : fs.length ≤ 1000000) (hl : ∀ f ∈ fs, f.1.length ≤ 100000 ∧ f.2.length ≤ 100000) :
    Calls Tryz.prog 76 #[v] w fun e w' => ∃ u x, ItemR w fs e w' u x := by
  have ST := Lib.hid (fun w' (h : Flds w' v fs) => stanza_any fs v w' h hn hl)
  have CL := Lib.hid (fun w' (h : Flds w' v fs) => clone_any fs v w' h hnil hn)
  have HS := Lib.hid hs
  obtain ⟨A, cap, rfl, hle, _⟩ := id hs
  have hba : Below w.heap.size w (w.alloc (.cells #[.int .i64 0, .string ⟨#[]⟩, .slice none 0 0] 47)) := (Below.refl _ _).alloc (Nat.le_refl _) _
  have hza : (w.alloc (.cells #[.int .i64 0, .string ⟨#[]⟩, .slice none 0 0] 47)).heap.size = w.heap.size + 1 := by simp
  have ST1 := Lib.hid (ST.out _ (HS.out.below hba (Nat.le_refl _)))
  have BX := Lib.hid (Cells.new w 47 #[.int .i64 0, .string ⟨#[]⟩, .slice none 0 0])
  clear hs hl hnil ST
  go_enter Tryz.func76, Tryz.ntmps76
  go_wp2_with fail
  refine ST1.out.mono ?_
  rintro e w1 ⟨u, rfl, b1, hu⟩
  have R1 := cells_kept BX.out b1 (by omega)
  have hb1 : Below w.heap.size w w1 := hba.trans (b1.mono (by omega))
  have hz1 := b1.size
  by_cases h0 : chkN fs = 0
  · obtain rfl := hu.zero h0
    have HU := Lib.hid hu
    have CL1 := Lib.hid (CL.out w1 (HS.out.below hb1 (Nat.le_refl _)))
    have KI : Hid (kindI fs = 3) := by show _ = _; unfold kindI; rw [if_pos h0]
    have H0 := Lib.hid h0
    have hzw := hb1.size
    clear hu h0 CL ST1 b1 BX HS
    generalize hT : stzT fs = T at *
    replace hT := Lib.hid hT
    go_wp2_with fail
    refine CL1.out.mono ?_
    rintro e w2 ⟨x, rfl, hx, b2⟩
    obtain ⟨xa, xc, hxe, _⟩ := own_slice hx
    subst hxe
    have R2 := cells_kept R1 b2 (by omega)
    have hb2 := hb1.trans (b2.mono hzw)
    have hz2 := b2.size
    have c0 := R2.cell 0
    have c1 := R2.cell 1
    have c2 := R2.cell 2
    have f0 := R2.frozen 0
    have f1 := R2.frozen 1
    have f2 := R2.frozen 2
    simp only [List.getElem?_toArray, List.getElem?_cons_zero, List.getElem?_cons_succ] at c0 c1 c2
    have RE := ((R2.set 0 (.int .i64 3)).set 1 (.string (B T))).set 2 (.slice xa fs.length xc)
    rw [set3] at RE
    have HB : Below w.heap.size w (((w2.setCell ⟨w.heap.size, 0, none⟩ (.int .i64 3)).setCell ⟨w.heap.size, 1, none⟩ (.string (B T))).setCell ⟨w.heap.size, 2, none⟩ (.slice xa fs.length xc)) :=
      ((hb2.setCell (p := ⟨w.heap.size, 0, none⟩) (Nat.le_refl _) _).setCell (p := ⟨w.heap.size, 1, none⟩) (Nat.le_refl _) _).setCell (p := ⟨w.heap.size, 2, none⟩) (Nat.le_refl _) _
    have HX := Lib.hid hx
    have HBH := Lib.hid HB
    have U2 := Lib.hid (HU.out.below b2 (Nat.le_refl _))
    clear HU hb2 b2 hb1 CL1 hx HB
    go_wp2_with fail
    refine bodyPost_ret (ret_i2 rfl _ _ w.heap.size _ rfl RE rfl) rfl ?_
    refine ⟨_, .slice xa fs.length xc, by rw [KI.out, hT.out], HBH.out, ?_, fun _ => ?_, fun h => absurd H0.out h⟩
    · have h := U2.out
      unfold ChkV at h ⊢
      have hb : bare fs := .inr (.inr (chkN_zero H0.out).2.2)
      rw [if_pos hb] at h ⊢
      exact h
    · have hne : ∀ k, Value.ownBlock (.slice xa fs.length xc) = some k → k ≠ w.heap.size := fun k e => by have := (HX.out.lt k e).1; omega
      exact row_cell (p := ⟨w.heap.size, 2, none⟩) (row_cell (p := ⟨w.heap.size, 1, none⟩) (row_cell (p := ⟨w.heap.size, 0, none⟩) (rowBase HX.out (by omega)) (fun e => hne _ e rfl) _) (fun e => hne _ e rfl) _) (fun e => hne _ e rfl) _
  · have hp := hu.pos h0
    have HU := Lib.hid hu
    have KI : Hid (kindI fs = 0) := by show _ = _; unfold kindI; rw [if_neg h0]
    have TI : Hid (stzT fs = []) := by show _ = _; unfold stzT; rw [if_neg h0]
    have H0 := Lib.hid h0
    have c0 := R1.cell 0
    have c1 := R1.cell 1
    have c2 := R1.cell 2
    have f0 := R1.frozen 0
    have f1 := R1.frozen 1
    have f2 := R1.frozen 2
    simp only [List.getElem?_toArray, List.getElem?_cons_zero, List.getElem?_cons_succ] at c0 c1 c2
    have RE := ((R1.set 0 (.int .i64 0)).set 1 (.string ⟨#[]⟩)).set 2 (.slice none 0 0)
    rw [set3] at RE
    have HB : Below w.heap.size w (((w1.setCell ⟨w.heap.size, 0, none⟩ (.int .i64 0)).setCell ⟨w.heap.size, 1, none⟩ (.string ⟨#[]⟩)).setCell ⟨w.heap.size, 2, none⟩ (.slice none 0 0)) :=
      ((hb1.setCell (p := ⟨w.heap.size, 0, none⟩) (Nat.le_refl _) _).setCell (p := ⟨w.heap.size, 1, none⟩) (Nat.le_refl _) _).setCell (p := ⟨w.heap.size, 2, none⟩) (Nat.le_refl _) _
    have HBH := Lib.hid HB
    clear hu h0 CL ST1 b1 BX HS hb1 HB
    have FIN : Hid (ChkV w.heap.size (((w1.setCell ⟨w.heap.size, 0, none⟩ (.int .i64 0)).setCell ⟨w.heap.size, 1, none⟩ (.string ⟨#[]⟩)).setCell ⟨w.heap.size, 2, none⟩ (.slice none 0 0)) u fs) :=
      (((HU.out.set ⟨w.heap.size, 0, none⟩ (by show w.heap.size < _; omega) _).set ⟨w.heap.size, 1, none⟩ (by show w.heap.size < _; omega) _).set ⟨w.heap.size, 2, none⟩ (by show w.heap.size < _; omega) _).mono (by omega)
    rcases hp with rfl | ⟨q, rfl⟩
    all_goals
      go_wp2_with fail
      refine bodyPost_ret (ret_i2 rfl _ _ w.heap.size _ rfl RE rfl) rfl ?_
      exact ⟨_, .slice none 0 0, by rw [KI.out, TI.out]; rfl, HBH.out, FIN.out, fun h => absurd h H0.out, fun _ => rfl⟩
end Go.Proofs.YtiebbgbcojgeoaaGreatDoor
