/- Texts put together: PH, PI. -/
import Derived.Test.YtbkeoiefolkjfaaGreatDoorBxa5
import Derived.Test.YtbkeoiefolkjfaaGreatDoorBxa11
set_option linter.unusedVariables false
set_option maxRecDepth 100000
set_option maxHeartbeats 16000000
namespace Go.Proofs.YtbkeoiefolkjfaaGreatDoor
open Go.RowKit Go.Shelf
attribute [local go_sem] errV_0 errV_2
theorem take_off1 {w : World} {T : Nat -> Nat} {R b : Nat} {text : ByteArray} {p : PS} (h : ParserAt w T R b text p) (hR : R <= w.heap.size) (x : Ln) (hi : Inv p x.at_) (hx : x.at_ + x.bytes.length <= text.size) (ht : text.size <= 70000) (hno : x.no <= x.at_) (hg : goesP p x = false) (hk : kindL x.text = 1) :
  Calls Tryz.prog 53 #[.pointer (some ⟨b, 0, none⟩), .agg #[.int .i64 x.no, .int .i64 x.at_, .string (B x.text), .bool x.ended]] w fun e w' => Taken w T R b text p x e w' := by
 have hbl : x.text.length <= x.bytes.length := by unfold Ln.bytes; simp
 have K : ∀ w, Calls Tryz.prog 100 #[.string (B x.text)] w fun e w' => e = .returned (.int .i64 1) /\ Below w.heap.size w w' := fun w => by
  have := kind_any (B x.text) (by rw [B_size]; unfold maxLen; omega) w
  rw [B_data, hk] at this
  exact this
 have hu : kindL x.text = 3 -> (!p.said.isEmpty) = false := by
  intro h3; unfold goesP at hg; rw [h3] at hg; simpa using hg
 have hl := h.lt
 have l0 := low_of h
 have H := Lib.hid h
 have C0 := Lib.hid (Cells.new w 99 #[.int .i64 x.no, .int .i64 x.at_, .string (B x.text), .bool x.ended])
 have HB0 := Lib.hid (PStep.below (T := T) ((Below.refl w.heap.size w).alloc (Nat.le_refl _) (.cells #[.int .i64 x.no, .int .i64 x.at_, .string (B x.text), .bool x.ended] 99)))
 have hw : wentP p x = p := by unfold wentP; rw [hg]; rfl
 have hen : endsP p x = true := by unfold endsP; rw [hg]; simp
 have hth : thenP p x = endFieldP p := by unfold thenP; rw [hen, if_pos rfl, hw]
 have hb := hi.said
 have hff : p.fields.length <= 1000000 := by have := hi.fields; omega
 have EF := Lib.hid (fun w1 T1 (g : ParserAt w1 T1 R b text p) (s : PStep w T w1 T1) => endField_any2 (p := p) g s hR (by omega) hff)
 clear h
 by_cases h0 : endFieldN p = 0
 ·have NO := Lib.hid (fun (hwr : wrongP p x = true) v w' h1 h2 => Taken.no (w := w) (T := T) (R := R) (b := b) (text := text) (p := p) (x := x) (v := v) (w' := w') (a := x.no) (n := 2) (by unfold takeP; rw [hen, hwr, hw, h0]; simp) h1 h2)
  have YES := Lib.hid (fun (hwr : wrongP p x = false) T' w' h1 h2 => Taken.yes (w := w) (T := T) (T' := T') (R := R) (b := b) (text := text) (p := p) (q := putP text.data.toList (endFieldP p) x) (x := x) (w' := w') (by unfold takeP; rw [hen, hwr, hw, h0, hth]; simp) h1 h2)
  cases hend : x.ended
  case false =>
   rw [hend] at C0 HB0
   have hwr : wrongP p x = true := by unfold wrongP; rw [hk, hg, hend]; rfl
   have FIN := Lib.hid (NO.out hwr)
   clear YES NO
   clear hi hb hff hx
   go_enter Tryz.func53, Tryz.ntmps53
   go_wp2_with fail
   refine (K _).mono ?_
   rintro e w1 ⟨rfl, b1⟩
   have s1 := HB0.out.trans (PStep.below b1)
   have P1 : ParserAt w1 T R b text p := (H.out.below ((Below.refl _ _).alloc (Nat.le_refl _) _)).below b1
   have l1 := P1.lt
   have C1 := cells_kept C0.out b1 (by simp)
   have hz1 := s1.only.size
   have d0 : w1.cell? ⟨w.heap.size, 0, none⟩ = some (.int .i64 x.no) := C1.cell 0
   have d1 : w1.cell? ⟨w.heap.size, 1, none⟩ = some (.int .i64 x.at_) := C1.cell 1
   have d2 : w1.cell? ⟨w.heap.size, 2, none⟩ = some (.string (B x.text)) := C1.cell 2
   have d3 : w1.cell? ⟨w.heap.size, 3, none⟩ = some (.bool false) := C1.cell 3
   have lz := C1.lt
   clear b1 H C0 HB0
   go_wp2_with fail
   refine (EF.out _ T P1 s1).mono ?_
   rintro e w3 hE
   rw [if_pos h0] at hE
   obtain ⟨rfl, T3, g3, s3, s13⟩ := hE
   have C3 := C1.only s13.only (fun e => e (l0))
   have d0' : w3.cell? ⟨w.heap.size, 0, none⟩ = some (.int .i64 x.no) := C3.cell 0
   have d1' : w3.cell? ⟨w.heap.size, 1, none⟩ = some (.int .i64 x.at_) := C3.cell 1
   have d2' : w3.cell? ⟨w.heap.size, 2, none⟩ = some (.string (B x.text)) := C3.cell 2
   have lz3 := C3.lt
   have l3 := g3.lt
   go_wp2
   go_ret
   exact FIN.out _ _ (FaultAt.new _ _ 2 _ w3.heap.size rfl (by omega)) (s3.only.alloc _)
  case true =>
  rw [hend] at C0 HB0
  have hwr : wrongP p x = false := by unfold wrongP; rw [hk, hg, hend]; rfl
  have FIN := Lib.hid (YES.out hwr)
  clear YES NO
  have hbe : x.bytes.length = x.text.length + 1 := by unfold Ln.bytes; rw [hend]; simp
  have eP : putP text.data.toList (endFieldP p) x = endItemP text.data.toList (endBlockP text.data.toList (endFieldP p) x.at_) 1 (x.at_ + x.text.length + 1) := by unfold putP; rw [hk]; rfl
  rw [eP] at FIN
  have hi2 := hi.endField
  have hi3 := hi2.endBlock text.data.toList x.at_ hi2.at_ (Nat.le_refl _)
  have a3 := endBlock_at text.data.toList (endFieldP p) x.at_ hi2.at_
  have n1 : IntKind.i64.wrap ((x.at_ : Int) + (x.text.length : Int)) = (x.at_ : Int) + (x.text.length : Int) := IntWalk.i64_in _ (by omega)
  have n2 : IntKind.i64.wrap ((x.at_ : Int) + (x.text.length : Int) + 1) = (x.at_ : Int) + (x.text.length : Int) + 1 := IntWalk.i64_in _ (by omega)
  have zB := B_size x.text
  have HB := Lib.hid (fun w3 T3 (g : ParserAt w3 T3 R b text (endFieldP p)) hR3 => endBlock_any g hR3 x.at_ hi2.at_ (by omega) (by omega) (by have := hi2.items; have := hi2.at_; omega) (by have := hi2.stanzas; have := hi2.at_; omega))
  have HI := Lib.hid (fun w3 T3 V3 (g : ParserV w3 T3 R b text (endBlockP text.data.toList (endFieldP p) x.at_) V3) hR3 => endItem_any g hR3 1 (x.at_ + x.text.length + 1) (by omega) (by omega) (by omega) (by have := hi3.items; omega))
  clear hi hb hff hi3 hi2 a3
  go_enter Tryz.func53, Tryz.ntmps53
  go_wp2_with fail
  refine (K _).mono ?_
  rintro e w1 ⟨rfl, b1⟩
  have s1 := HB0.out.trans (PStep.below b1)
  have P1 : ParserAt w1 T R b text p := (H.out.below ((Below.refl _ _).alloc (Nat.le_refl _) _)).below b1
  have l1 := P1.lt
  have C1 := cells_kept C0.out b1 (by simp)
  have hz1 := s1.only.size
  have d0 : w1.cell? ⟨w.heap.size, 0, none⟩ = some (.int .i64 x.no) := C1.cell 0
  have d1 : w1.cell? ⟨w.heap.size, 1, none⟩ = some (.int .i64 x.at_) := C1.cell 1
  have d2 : w1.cell? ⟨w.heap.size, 2, none⟩ = some (.string (B x.text)) := C1.cell 2
  have d3 : w1.cell? ⟨w.heap.size, 3, none⟩ = some (.bool true) := C1.cell 3
  have lz := C1.lt
  clear b1 H C0 HB0
  go_wp2_with fail
  refine (EF.out _ T P1 s1).mono ?_
  rintro e w3 hE
  rw [if_pos h0] at hE
  obtain ⟨rfl, T3, g3, s3, s13⟩ := hE
  have C3 := C1.only s13.only (fun e => e (l0))
  have d0' : w3.cell? ⟨w.heap.size, 0, none⟩ = some (.int .i64 x.no) := C3.cell 0
  have d1' : w3.cell? ⟨w.heap.size, 1, none⟩ = some (.int .i64 x.at_) := C3.cell 1
  have d2' : w3.cell? ⟨w.heap.size, 2, none⟩ = some (.string (B x.text)) := C3.cell 2
  have lz3 := C3.lt
  have l3 := g3.lt
  have hz3 : R <= w3.heap.size := Nat.le_trans hR s3.only.size
  go_wp2_with fail
  refine (HB.out _ T3 g3 hz3).mono ?_
  rintro e w4 ⟨rfl, T4, g4, s4⟩
  have C4 := C3.only s4.only (fun e => e ((s13.old _ lz).2 l0))
  have e1' : w4.cell? ⟨w.heap.size, 1, none⟩ = some (.int .i64 x.at_) := C4.cell 1
  have e2' : w4.cell? ⟨w.heap.size, 2, none⟩ = some (.string (B x.text)) := C4.cell 2
  have lz4 := C4.lt
  have hz4 : R <= w4.heap.size := Nat.le_trans hz3 s4.only.size
  have l4 := g4.lt
  obtain ⟨V4, g4⟩ := g4
  go_wp2_with fail
  rw [show Value.int .i64 ((x.at_ : Int) + (x.text.length : Int) + 1) = Value.int .i64 ((x.at_ + x.text.length + 1 : Nat) : Int) from rfl]
  refine (HI.out _ T4 V4 g4 hz4).mono ?_
  rintro e w5 ⟨rfl, T5, g5, s5⟩
  go_wp2
  go_ret
  exact FIN.out T5 _ g5 ((s3.trans s4).trans s5)
 have FIN := Lib.hid (fun v w' h1 h2 => Taken.no (w := w) (T := T) (R := R) (b := b) (text := text) (p := p) (x := x) (v := v) (w' := w') (a := p.begin_) (n := endFieldN p) (by unfold takeP; rw [hen, hw, if_pos ⟨rfl, h0⟩]) h1 h2)
 clear hi hb hff hx
 cases hend : x.ended
 case false =>
  rw [hend] at C0 HB0
  go_enter Tryz.func53, Tryz.ntmps53
  go_wp2_with fail
  refine (K _).mono ?_
  rintro e w1 ⟨rfl, b1⟩
  have s1 := HB0.out.trans (PStep.below b1)
  have P1 : ParserAt w1 T R b text p := (H.out.below ((Below.refl _ _).alloc (Nat.le_refl _) _)).below b1
  have l1 := P1.lt
  have C1 := cells_kept C0.out b1 (by simp)
  have hz1 := s1.only.size
  have d0 : w1.cell? ⟨w.heap.size, 0, none⟩ = some (.int .i64 x.no) := C1.cell 0
  have d1 : w1.cell? ⟨w.heap.size, 1, none⟩ = some (.int .i64 x.at_) := C1.cell 1
  have d2 : w1.cell? ⟨w.heap.size, 2, none⟩ = some (.string (B x.text)) := C1.cell 2
  have d3 : w1.cell? ⟨w.heap.size, 3, none⟩ = some (.bool false) := C1.cell 3
  have lz := C1.lt
  clear b1 H C0 HB0
  go_wp2_with fail
  refine (EF.out _ T P1 s1).mono ?_
  rintro e w3 hE
  rw [if_neg h0] at hE
  obtain ⟨v, rfl, f3, o3, _, a3, rfl⟩ := hE
  go_wp2
  go_ret
  exact FIN.out _ _ f3 o3
 case true =>
 rw [hend] at C0 HB0
 go_enter Tryz.func53, Tryz.ntmps53
 go_wp2_with fail
 refine (K _).mono ?_
 rintro e w1 ⟨rfl, b1⟩
 have s1 := HB0.out.trans (PStep.below b1)
 have P1 : ParserAt w1 T R b text p := (H.out.below ((Below.refl _ _).alloc (Nat.le_refl _) _)).below b1
 have l1 := P1.lt
 have C1 := cells_kept C0.out b1 (by simp)
 have hz1 := s1.only.size
 have d0 : w1.cell? ⟨w.heap.size, 0, none⟩ = some (.int .i64 x.no) := C1.cell 0
 have d1 : w1.cell? ⟨w.heap.size, 1, none⟩ = some (.int .i64 x.at_) := C1.cell 1
 have d2 : w1.cell? ⟨w.heap.size, 2, none⟩ = some (.string (B x.text)) := C1.cell 2
 have d3 : w1.cell? ⟨w.heap.size, 3, none⟩ = some (.bool true) := C1.cell 3
 have lz := C1.lt
 clear b1 H C0 HB0
 go_wp2_with fail
 refine (EF.out _ T P1 s1).mono ?_
 rintro e w3 hE
 rw [if_neg h0] at hE
 obtain ⟨v, rfl, f3, o3, _, a3, rfl⟩ := hE
 go_wp2
 go_ret
 exact FIN.out _ _ f3 o3
theorem take_off2 {w : World} {T : Nat -> Nat} {R b : Nat} {text : ByteArray} {p : PS} (h : ParserAt w T R b text p) (hR : R <= w.heap.size) (x : Ln) (hi : Inv p x.at_) (hx : x.at_ + x.bytes.length <= text.size) (ht : text.size <= 70000) (hno : x.no <= x.at_) (hg : goesP p x = false) (hk : kindL x.text = 2) :
  Calls Tryz.prog 53 #[.pointer (some ⟨b, 0, none⟩), .agg #[.int .i64 x.no, .int .i64 x.at_, .string (B x.text), .bool x.ended]] w fun e w' => Taken w T R b text p x e w' := by
 have hbl : x.text.length <= x.bytes.length := by unfold Ln.bytes; simp
 have K : ∀ w, Calls Tryz.prog 100 #[.string (B x.text)] w fun e w' => e = .returned (.int .i64 2) /\ Below w.heap.size w w' := fun w => by
  have := kind_any (B x.text) (by rw [B_size]; unfold maxLen; omega) w
  rw [B_data, hk] at this
  exact this
 have hu : kindL x.text = 3 -> (!p.said.isEmpty) = false := by
  intro h3; unfold goesP at hg; rw [h3] at hg; simpa using hg
 have hl := h.lt
 have l0 := low_of h
 have H := Lib.hid h
 have C0 := Lib.hid (Cells.new w 99 #[.int .i64 x.no, .int .i64 x.at_, .string (B x.text), .bool x.ended])
 have HB0 := Lib.hid (PStep.below (T := T) ((Below.refl w.heap.size w).alloc (Nat.le_refl _) (.cells #[.int .i64 x.no, .int .i64 x.at_, .string (B x.text), .bool x.ended] 99)))
 have hw : wentP p x = p := by unfold wentP; rw [hg]; rfl
 have hen : endsP p x = true := by unfold endsP; rw [hg]; simp
 have hth : thenP p x = endFieldP p := by unfold thenP; rw [hen, if_pos rfl, hw]
 have hb := hi.said
 have hff : p.fields.length <= 1000000 := by have := hi.fields; omega
 have EF := Lib.hid (fun w1 T1 (g : ParserAt w1 T1 R b text p) (s : PStep w T w1 T1) => endField_any2 (p := p) g s hR (by omega) hff)
 clear h
 by_cases h0 : endFieldN p = 0
 ·have NO := Lib.hid (fun (hwr : wrongP p x = true) v w' h1 h2 => Taken.no (w := w) (T := T) (R := R) (b := b) (text := text) (p := p) (x := x) (v := v) (w' := w') (a := x.no) (n := 2) (by unfold takeP; rw [hen, hwr, hw, h0]; simp) h1 h2)
  have YES := Lib.hid (fun (hwr : wrongP p x = false) T' w' h1 h2 => Taken.yes (w := w) (T := T) (T' := T') (R := R) (b := b) (text := text) (p := p) (q := putP text.data.toList (endFieldP p) x) (x := x) (w' := w') (by unfold takeP; rw [hen, hwr, hw, h0, hth]; simp) h1 h2)
  cases hend : x.ended
  case false =>
   rw [hend] at C0 HB0
   have hwr : wrongP p x = true := by unfold wrongP; rw [hk, hg, hend]; rfl
   have FIN := Lib.hid (NO.out hwr)
   clear YES NO
   clear hi hb hff hx
   go_enter Tryz.func53, Tryz.ntmps53
   go_wp2_with fail
   refine (K _).mono ?_
   rintro e w1 ⟨rfl, b1⟩
   have s1 := HB0.out.trans (PStep.below b1)
   have P1 : ParserAt w1 T R b text p := (H.out.below ((Below.refl _ _).alloc (Nat.le_refl _) _)).below b1
   have l1 := P1.lt
   have C1 := cells_kept C0.out b1 (by simp)
   have hz1 := s1.only.size
   have d0 : w1.cell? ⟨w.heap.size, 0, none⟩ = some (.int .i64 x.no) := C1.cell 0
   have d1 : w1.cell? ⟨w.heap.size, 1, none⟩ = some (.int .i64 x.at_) := C1.cell 1
   have d2 : w1.cell? ⟨w.heap.size, 2, none⟩ = some (.string (B x.text)) := C1.cell 2
   have d3 : w1.cell? ⟨w.heap.size, 3, none⟩ = some (.bool false) := C1.cell 3
   have lz := C1.lt
   clear b1 H C0 HB0
   go_wp2_with fail
   refine (EF.out _ T P1 s1).mono ?_
   rintro e w3 hE
   rw [if_pos h0] at hE
   obtain ⟨rfl, T3, g3, s3, s13⟩ := hE
   have C3 := C1.only s13.only (fun e => e (l0))
   have d0' : w3.cell? ⟨w.heap.size, 0, none⟩ = some (.int .i64 x.no) := C3.cell 0
   have d1' : w3.cell? ⟨w.heap.size, 1, none⟩ = some (.int .i64 x.at_) := C3.cell 1
   have d2' : w3.cell? ⟨w.heap.size, 2, none⟩ = some (.string (B x.text)) := C3.cell 2
   have lz3 := C3.lt
   have l3 := g3.lt
   go_wp2
   go_ret
   exact FIN.out _ _ (FaultAt.new _ _ 2 _ w3.heap.size rfl (by omega)) (s3.only.alloc _)
  case true =>
  rw [hend] at C0 HB0
  have hwr : wrongP p x = false := by unfold wrongP; rw [hk, hg, hend]; rfl
  have FIN := Lib.hid (YES.out hwr)
  clear YES NO
  have hbe : x.bytes.length = x.text.length + 1 := by unfold Ln.bytes; rw [hend]; simp
  have eP : putP text.data.toList (endFieldP p) x = endFieldP p := by unfold putP; rw [hk]; rfl
  rw [eP] at FIN
  clear hi hb hff hx
  go_enter Tryz.func53, Tryz.ntmps53
  go_wp2_with fail
  refine (K _).mono ?_
  rintro e w1 ⟨rfl, b1⟩
  have s1 := HB0.out.trans (PStep.below b1)
  have P1 : ParserAt w1 T R b text p := (H.out.below ((Below.refl _ _).alloc (Nat.le_refl _) _)).below b1
  have l1 := P1.lt
  have C1 := cells_kept C0.out b1 (by simp)
  have hz1 := s1.only.size
  have d0 : w1.cell? ⟨w.heap.size, 0, none⟩ = some (.int .i64 x.no) := C1.cell 0
  have d1 : w1.cell? ⟨w.heap.size, 1, none⟩ = some (.int .i64 x.at_) := C1.cell 1
  have d2 : w1.cell? ⟨w.heap.size, 2, none⟩ = some (.string (B x.text)) := C1.cell 2
  have d3 : w1.cell? ⟨w.heap.size, 3, none⟩ = some (.bool true) := C1.cell 3
  have lz := C1.lt
  clear b1 H C0 HB0
  go_wp2_with fail
  refine (EF.out _ T P1 s1).mono ?_
  rintro e w3 hE
  rw [if_pos h0] at hE
  obtain ⟨rfl, T3, g3, s3, s13⟩ := hE
  have C3 := C1.only s13.only (fun e => e (l0))
  have d0' : w3.cell? ⟨w.heap.size, 0, none⟩ = some (.int .i64 x.no) := C3.cell 0
  have d1' : w3.cell? ⟨w.heap.size, 1, none⟩ = some (.int .i64 x.at_) := C3.cell 1
  have d2' : w3.cell? ⟨w.heap.size, 2, none⟩ = some (.string (B x.text)) := C3.cell 2
  have lz3 := C3.lt
  have l3 := g3.lt
  go_wp2
  go_ret
  exact FIN.out _ _ g3 s3
 have FIN := Lib.hid (fun v w' h1 h2 => Taken.no (w := w) (T := T) (R := R) (b := b) (text := text) (p := p) (x := x) (v := v) (w' := w') (a := p.begin_) (n := endFieldN p) (by unfold takeP; rw [hen, hw, if_pos ⟨rfl, h0⟩]) h1 h2)
 clear hi hb hff hx
 cases hend : x.ended
 case false =>
  rw [hend] at C0 HB0
  go_enter Tryz.func53, Tryz.ntmps53
  go_wp2_with fail
  refine (K _).mono ?_
  rintro e w1 ⟨rfl, b1⟩
  have s1 := HB0.out.trans (PStep.below b1)
  have P1 : ParserAt w1 T R b text p := (H.out.below ((Below.refl _ _).alloc (Nat.le_refl _) _)).below b1
  have l1 := P1.lt
  have C1 := cells_kept C0.out b1 (by simp)
  have hz1 := s1.only.size
  have d0 : w1.cell? ⟨w.heap.size, 0, none⟩ = some (.int .i64 x.no) := C1.cell 0
  have d1 : w1.cell? ⟨w.heap.size, 1, none⟩ = some (.int .i64 x.at_) := C1.cell 1
  have d2 : w1.cell? ⟨w.heap.size, 2, none⟩ = some (.string (B x.text)) := C1.cell 2
  have d3 : w1.cell? ⟨w.heap.size, 3, none⟩ = some (.bool false) := C1.cell 3
  have lz := C1.lt
  clear b1 H C0 HB0
  go_wp2_with fail
  refine (EF.out _ T P1 s1).mono ?_
  rintro e w3 hE
  rw [if_neg h0] at hE
  obtain ⟨v, rfl, f3, o3, _, a3, rfl⟩ := hE
  go_wp2
  go_ret
  exact FIN.out _ _ f3 o3
 case true =>
 rw [hend] at C0 HB0
 go_enter Tryz.func53, Tryz.ntmps53
 go_wp2_with fail
 refine (K _).mono ?_
 rintro e w1 ⟨rfl, b1⟩
 have s1 := HB0.out.trans (PStep.below b1)
 have P1 : ParserAt w1 T R b text p := (H.out.below ((Below.refl _ _).alloc (Nat.le_refl _) _)).below b1
 have l1 := P1.lt
 have C1 := cells_kept C0.out b1 (by simp)
 have hz1 := s1.only.size
 have d0 : w1.cell? ⟨w.heap.size, 0, none⟩ = some (.int .i64 x.no) := C1.cell 0
 have d1 : w1.cell? ⟨w.heap.size, 1, none⟩ = some (.int .i64 x.at_) := C1.cell 1
 have d2 : w1.cell? ⟨w.heap.size, 2, none⟩ = some (.string (B x.text)) := C1.cell 2
 have d3 : w1.cell? ⟨w.heap.size, 3, none⟩ = some (.bool true) := C1.cell 3
 have lz := C1.lt
 clear b1 H C0 HB0
 go_wp2_with fail
 refine (EF.out _ T P1 s1).mono ?_
 rintro e w3 hE
 rw [if_neg h0] at hE
 obtain ⟨v, rfl, f3, o3, _, a3, rfl⟩ := hE
 go_wp2
 go_ret
 exact FIN.out _ _ f3 o3
theorem take_off3 {w : World} {T : Nat -> Nat} {R b : Nat} {text : ByteArray} {p : PS} (h : ParserAt w T R b text p) (hR : R <= w.heap.size) (x : Ln) (hi : Inv p x.at_) (hx : x.at_ + x.bytes.length <= text.size) (ht : text.size <= 70000) (hno : x.no <= x.at_) (hg : goesP p x = false) (hk : kindL x.text = 3) :
  Calls Tryz.prog 53 #[.pointer (some ⟨b, 0, none⟩), .agg #[.int .i64 x.no, .int .i64 x.at_, .string (B x.text), .bool x.ended]] w fun e w' => Taken w T R b text p x e w' := by
 have hbl : x.text.length <= x.bytes.length := by unfold Ln.bytes; simp
 have K : ∀ w, Calls Tryz.prog 100 #[.string (B x.text)] w fun e w' => e = .returned (.int .i64 3) /\ Below w.heap.size w w' := fun w => by
  have := kind_any (B x.text) (by rw [B_size]; unfold maxLen; omega) w
  rw [B_data, hk] at this
  exact this
 have hu : kindL x.text = 3 -> (!p.said.isEmpty) = false := by
  intro h3; unfold goesP at hg; rw [h3] at hg; simpa using hg
 have hl := h.lt
 have l0 := low_of h
 have H := Lib.hid h
 have C0 := Lib.hid (Cells.new w 99 #[.int .i64 x.no, .int .i64 x.at_, .string (B x.text), .bool x.ended])
 have HB0 := Lib.hid (PStep.below (T := T) ((Below.refl w.heap.size w).alloc (Nat.le_refl _) (.cells #[.int .i64 x.no, .int .i64 x.at_, .string (B x.text), .bool x.ended] 99)))
 have hw : wentP p x = p := by unfold wentP; rw [hg]; rfl
 have hen : endsP p x = true := by unfold endsP; rw [hg]; simp
 have hth : thenP p x = endFieldP p := by unfold thenP; rw [hen, if_pos rfl, hw]
 have hb := hi.said
 have hff : p.fields.length <= 1000000 := by have := hi.fields; omega
 have EF := Lib.hid (fun w1 T1 (g : ParserAt w1 T1 R b text p) (s : PStep w T w1 T1) => endField_any2 (p := p) g s hR (by omega) hff)
 clear h
 by_cases h0 : endFieldN p = 0
 ·have NO := Lib.hid (fun (hwr : wrongP p x = true) v w' h1 h2 => Taken.no (w := w) (T := T) (R := R) (b := b) (text := text) (p := p) (x := x) (v := v) (w' := w') (a := x.no) (n := 2) (by unfold takeP; rw [hen, hwr, hw, h0]; simp) h1 h2)
  have YES := Lib.hid (fun (hwr : wrongP p x = false) T' w' h1 h2 => Taken.yes (w := w) (T := T) (T' := T') (R := R) (b := b) (text := text) (p := p) (q := putP text.data.toList (endFieldP p) x) (x := x) (w' := w') (by unfold takeP; rw [hen, hwr, hw, h0, hth]; simp) h1 h2)
  cases hend : x.ended
  case false =>
   rw [hend] at C0 HB0
   have hwr : wrongP p x = true := by unfold wrongP; rw [hk, hg, hend]; rfl
   have FIN := Lib.hid (NO.out hwr)
   clear YES NO
   clear hi hb hff hx
   go_enter Tryz.func53, Tryz.ntmps53
   go_wp2_with fail
   refine (K _).mono ?_
   rintro e w1 ⟨rfl, b1⟩
   have s1 := HB0.out.trans (PStep.below b1)
   have P1 : ParserAt w1 T R b text p := (H.out.below ((Below.refl _ _).alloc (Nat.le_refl _) _)).below b1
   have l1 := P1.lt
   have C1 := cells_kept C0.out b1 (by simp)
   have hz1 := s1.only.size
   have d0 : w1.cell? ⟨w.heap.size, 0, none⟩ = some (.int .i64 x.no) := C1.cell 0
   have d1 : w1.cell? ⟨w.heap.size, 1, none⟩ = some (.int .i64 x.at_) := C1.cell 1
   have d2 : w1.cell? ⟨w.heap.size, 2, none⟩ = some (.string (B x.text)) := C1.cell 2
   have d3 : w1.cell? ⟨w.heap.size, 3, none⟩ = some (.bool false) := C1.cell 3
   have lz := C1.lt
   clear b1 H C0 HB0
   go_wp2_with fail
   obtain ⟨V1, PV1⟩ := P1
   refine (under_any PV1).mono ?_
   rw [hu hk]
   rintro e w2 ⟨rfl, rfl⟩
   replace P1 : ParserAt w1 T R b text p := ⟨V1, PV1⟩
   clear PV1
   go_wp2_with fail
   refine (EF.out _ T P1 s1).mono ?_
   rintro e w3 hE
   rw [if_pos h0] at hE
   obtain ⟨rfl, T3, g3, s3, s13⟩ := hE
   have C3 := C1.only s13.only (fun e => e (l0))
   have d0' : w3.cell? ⟨w.heap.size, 0, none⟩ = some (.int .i64 x.no) := C3.cell 0
   have d1' : w3.cell? ⟨w.heap.size, 1, none⟩ = some (.int .i64 x.at_) := C3.cell 1
   have d2' : w3.cell? ⟨w.heap.size, 2, none⟩ = some (.string (B x.text)) := C3.cell 2
   have lz3 := C3.lt
   have l3 := g3.lt
   go_wp2
   go_ret
   exact FIN.out _ _ (FaultAt.new _ _ 2 _ w3.heap.size rfl (by omega)) (s3.only.alloc _)
  case true =>
  rw [hend] at C0 HB0
  have hwr : wrongP p x = true := by unfold wrongP; rw [hk, hg, hend]; rfl
  have FIN := Lib.hid (NO.out hwr)
  clear YES NO
  clear hi hb hff hx
  go_enter Tryz.func53, Tryz.ntmps53
  go_wp2_with fail
  refine (K _).mono ?_
  rintro e w1 ⟨rfl, b1⟩
  have s1 := HB0.out.trans (PStep.below b1)
  have P1 : ParserAt w1 T R b text p := (H.out.below ((Below.refl _ _).alloc (Nat.le_refl _) _)).below b1
  have l1 := P1.lt
  have C1 := cells_kept C0.out b1 (by simp)
  have hz1 := s1.only.size
  have d0 : w1.cell? ⟨w.heap.size, 0, none⟩ = some (.int .i64 x.no) := C1.cell 0
  have d1 : w1.cell? ⟨w.heap.size, 1, none⟩ = some (.int .i64 x.at_) := C1.cell 1
  have d2 : w1.cell? ⟨w.heap.size, 2, none⟩ = some (.string (B x.text)) := C1.cell 2
  have d3 : w1.cell? ⟨w.heap.size, 3, none⟩ = some (.bool true) := C1.cell 3
  have lz := C1.lt
  clear b1 H C0 HB0
  go_wp2_with fail
  obtain ⟨V1, PV1⟩ := P1
  refine (under_any PV1).mono ?_
  rw [hu hk]
  rintro e w2 ⟨rfl, rfl⟩
  replace P1 : ParserAt w1 T R b text p := ⟨V1, PV1⟩
  clear PV1
  go_wp2_with fail
  refine (EF.out _ T P1 s1).mono ?_
  rintro e w3 hE
  rw [if_pos h0] at hE
  obtain ⟨rfl, T3, g3, s3, s13⟩ := hE
  have C3 := C1.only s13.only (fun e => e (l0))
  have d0' : w3.cell? ⟨w.heap.size, 0, none⟩ = some (.int .i64 x.no) := C3.cell 0
  have d1' : w3.cell? ⟨w.heap.size, 1, none⟩ = some (.int .i64 x.at_) := C3.cell 1
  have d2' : w3.cell? ⟨w.heap.size, 2, none⟩ = some (.string (B x.text)) := C3.cell 2
  have lz3 := C3.lt
  have l3 := g3.lt
  go_wp2
  go_ret
  exact FIN.out _ _ (FaultAt.new _ _ 2 _ w3.heap.size rfl (by omega)) (s3.only.alloc _)
 have FIN := Lib.hid (fun v w' h1 h2 => Taken.no (w := w) (T := T) (R := R) (b := b) (text := text) (p := p) (x := x) (v := v) (w' := w') (a := p.begin_) (n := endFieldN p) (by unfold takeP; rw [hen, hw, if_pos ⟨rfl, h0⟩]) h1 h2)
 clear hi hb hff hx
 cases hend : x.ended
 case false =>
  rw [hend] at C0 HB0
  go_enter Tryz.func53, Tryz.ntmps53
  go_wp2_with fail
  refine (K _).mono ?_
  rintro e w1 ⟨rfl, b1⟩
  have s1 := HB0.out.trans (PStep.below b1)
  have P1 : ParserAt w1 T R b text p := (H.out.below ((Below.refl _ _).alloc (Nat.le_refl _) _)).below b1
  have l1 := P1.lt
  have C1 := cells_kept C0.out b1 (by simp)
  have hz1 := s1.only.size
  have d0 : w1.cell? ⟨w.heap.size, 0, none⟩ = some (.int .i64 x.no) := C1.cell 0
  have d1 : w1.cell? ⟨w.heap.size, 1, none⟩ = some (.int .i64 x.at_) := C1.cell 1
  have d2 : w1.cell? ⟨w.heap.size, 2, none⟩ = some (.string (B x.text)) := C1.cell 2
  have d3 : w1.cell? ⟨w.heap.size, 3, none⟩ = some (.bool false) := C1.cell 3
  have lz := C1.lt
  clear b1 H C0 HB0
  go_wp2_with fail
  obtain ⟨V1, PV1⟩ := P1
  refine (under_any PV1).mono ?_
  rw [hu hk]
  rintro e w2 ⟨rfl, rfl⟩
  replace P1 : ParserAt w1 T R b text p := ⟨V1, PV1⟩
  clear PV1
  go_wp2_with fail
  refine (EF.out _ T P1 s1).mono ?_
  rintro e w3 hE
  rw [if_neg h0] at hE
  obtain ⟨v, rfl, f3, o3, _, a3, rfl⟩ := hE
  go_wp2
  go_ret
  exact FIN.out _ _ f3 o3
 case true =>
 rw [hend] at C0 HB0
 go_enter Tryz.func53, Tryz.ntmps53
 go_wp2_with fail
 refine (K _).mono ?_
 rintro e w1 ⟨rfl, b1⟩
 have s1 := HB0.out.trans (PStep.below b1)
 have P1 : ParserAt w1 T R b text p := (H.out.below ((Below.refl _ _).alloc (Nat.le_refl _) _)).below b1
 have l1 := P1.lt
 have C1 := cells_kept C0.out b1 (by simp)
 have hz1 := s1.only.size
 have d0 : w1.cell? ⟨w.heap.size, 0, none⟩ = some (.int .i64 x.no) := C1.cell 0
 have d1 : w1.cell? ⟨w.heap.size, 1, none⟩ = some (.int .i64 x.at_) := C1.cell 1
 have d2 : w1.cell? ⟨w.heap.size, 2, none⟩ = some (.string (B x.text)) := C1.cell 2
 have d3 : w1.cell? ⟨w.heap.size, 3, none⟩ = some (.bool true) := C1.cell 3
 have lz := C1.lt
 clear b1 H C0 HB0
 go_wp2_with fail
 obtain ⟨V1, PV1⟩ := P1
 refine (under_any PV1).mono ?_
 rw [hu hk]
 rintro e w2 ⟨rfl, rfl⟩
 replace P1 : ParserAt w1 T R b text p := ⟨V1, PV1⟩
 clear PV1
 go_wp2_with fail
 refine (EF.out _ T P1 s1).mono ?_
 rintro e w3 hE
 rw [if_neg h0] at hE
 obtain ⟨v, rfl, f3, o3, _, a3, rfl⟩ := hE
 go_wp2
 go_ret
 exact FIN.out _ _ f3 o3
theorem take_off4 {w : World} {T : Nat -> Nat} {R b : Nat} {text : ByteArray} {p : PS} (h : ParserAt w T R b text p) (hR : R <= w.heap.size) (x : Ln) (hi : Inv p x.at_) (hx : x.at_ + x.bytes.length <= text.size) (ht : text.size <= 70000) (hno : x.no <= x.at_) (hg : goesP p x = false) (hk : kindL x.text = 4) :
  Calls Tryz.prog 53 #[.pointer (some ⟨b, 0, none⟩), .agg #[.int .i64 x.no, .int .i64 x.at_, .string (B x.text), .bool x.ended]] w fun e w' => Taken w T R b text p x e w' := by
 have hbl : x.text.length <= x.bytes.length := by unfold Ln.bytes; simp
 have K : ∀ w, Calls Tryz.prog 100 #[.string (B x.text)] w fun e w' => e = .returned (.int .i64 4) /\ Below w.heap.size w w' := fun w => by
  have := kind_any (B x.text) (by rw [B_size]; unfold maxLen; omega) w
  rw [B_data, hk] at this
  exact this
 have hu : kindL x.text = 3 -> (!p.said.isEmpty) = false := by
  intro h3; unfold goesP at hg; rw [h3] at hg; simpa using hg
 have hl := h.lt
 have l0 := low_of h
 have H := Lib.hid h
 have C0 := Lib.hid (Cells.new w 99 #[.int .i64 x.no, .int .i64 x.at_, .string (B x.text), .bool x.ended])
 have HB0 := Lib.hid (PStep.below (T := T) ((Below.refl w.heap.size w).alloc (Nat.le_refl _) (.cells #[.int .i64 x.no, .int .i64 x.at_, .string (B x.text), .bool x.ended] 99)))
 have hw : wentP p x = p := by unfold wentP; rw [hg]; rfl
 have hen : endsP p x = true := by unfold endsP; rw [hg]; simp
 have hth : thenP p x = endFieldP p := by unfold thenP; rw [hen, if_pos rfl, hw]
 have hb := hi.said
 have hff : p.fields.length <= 1000000 := by have := hi.fields; omega
 have EF := Lib.hid (fun w1 T1 (g : ParserAt w1 T1 R b text p) (s : PStep w T w1 T1) => endField_any2 (p := p) g s hR (by omega) hff)
 clear h
 by_cases h0 : endFieldN p = 0
 ·have NO := Lib.hid (fun (hwr : wrongP p x = true) v w' h1 h2 => Taken.no (w := w) (T := T) (R := R) (b := b) (text := text) (p := p) (x := x) (v := v) (w' := w') (a := x.no) (n := 2) (by unfold takeP; rw [hen, hwr, hw, h0]; simp) h1 h2)
  have YES := Lib.hid (fun (hwr : wrongP p x = false) T' w' h1 h2 => Taken.yes (w := w) (T := T) (T' := T') (R := R) (b := b) (text := text) (p := p) (q := putP text.data.toList (endFieldP p) x) (x := x) (w' := w') (by unfold takeP; rw [hen, hwr, hw, h0, hth]; simp) h1 h2)
  cases hend : x.ended
  case false =>
   rw [hend] at C0 HB0
   have hwr : wrongP p x = true := by unfold wrongP; rw [hk, hg, hend]; rfl
   have FIN := Lib.hid (NO.out hwr)
   clear YES NO
   clear hi hb hff hx
   go_enter Tryz.func53, Tryz.ntmps53
   go_wp2_with fail
   refine (K _).mono ?_
   rintro e w1 ⟨rfl, b1⟩
   have s1 := HB0.out.trans (PStep.below b1)
   have P1 : ParserAt w1 T R b text p := (H.out.below ((Below.refl _ _).alloc (Nat.le_refl _) _)).below b1
   have l1 := P1.lt
   have C1 := cells_kept C0.out b1 (by simp)
   have hz1 := s1.only.size
   have d0 : w1.cell? ⟨w.heap.size, 0, none⟩ = some (.int .i64 x.no) := C1.cell 0
   have d1 : w1.cell? ⟨w.heap.size, 1, none⟩ = some (.int .i64 x.at_) := C1.cell 1
   have d2 : w1.cell? ⟨w.heap.size, 2, none⟩ = some (.string (B x.text)) := C1.cell 2
   have d3 : w1.cell? ⟨w.heap.size, 3, none⟩ = some (.bool false) := C1.cell 3
   have lz := C1.lt
   clear b1 H C0 HB0
   go_wp2_with fail
   refine (EF.out _ T P1 s1).mono ?_
   rintro e w3 hE
   rw [if_pos h0] at hE
   obtain ⟨rfl, T3, g3, s3, s13⟩ := hE
   have C3 := C1.only s13.only (fun e => e (l0))
   have d0' : w3.cell? ⟨w.heap.size, 0, none⟩ = some (.int .i64 x.no) := C3.cell 0
   have d1' : w3.cell? ⟨w.heap.size, 1, none⟩ = some (.int .i64 x.at_) := C3.cell 1
   have d2' : w3.cell? ⟨w.heap.size, 2, none⟩ = some (.string (B x.text)) := C3.cell 2
   have lz3 := C3.lt
   have l3 := g3.lt
   go_wp2
   go_ret
   exact FIN.out _ _ (FaultAt.new _ _ 2 _ w3.heap.size rfl (by omega)) (s3.only.alloc _)
  case true =>
  rw [hend] at C0 HB0
  have hwr : wrongP p x = false := by unfold wrongP; rw [hk, hg, hend]; rfl
  have FIN := Lib.hid (YES.out hwr)
  clear YES NO
  have hbe : x.bytes.length = x.text.length + 1 := by unfold Ln.bytes; rw [hend]; simp
  have eP : putP text.data.toList (endFieldP p) x = startP (endFieldP p) x := by unfold putP startP; rw [hk, if_pos rfl]
  rw [eP] at FIN
  have HS := Lib.hid (fun w3 T3 V3 (g : ParserV w3 T3 R b text (endFieldP p) V3) hR3 => start_any g hR3 x)
  rw [hend] at HS
  clear hi hb hff hx
  go_enter Tryz.func53, Tryz.ntmps53
  go_wp2_with fail
  refine (K _).mono ?_
  rintro e w1 ⟨rfl, b1⟩
  have s1 := HB0.out.trans (PStep.below b1)
  have P1 : ParserAt w1 T R b text p := (H.out.below ((Below.refl _ _).alloc (Nat.le_refl _) _)).below b1
  have l1 := P1.lt
  have C1 := cells_kept C0.out b1 (by simp)
  have hz1 := s1.only.size
  have d0 : w1.cell? ⟨w.heap.size, 0, none⟩ = some (.int .i64 x.no) := C1.cell 0
  have d1 : w1.cell? ⟨w.heap.size, 1, none⟩ = some (.int .i64 x.at_) := C1.cell 1
  have d2 : w1.cell? ⟨w.heap.size, 2, none⟩ = some (.string (B x.text)) := C1.cell 2
  have d3 : w1.cell? ⟨w.heap.size, 3, none⟩ = some (.bool true) := C1.cell 3
  have lz := C1.lt
  clear b1 H C0 HB0
  go_wp2_with fail
  refine (EF.out _ T P1 s1).mono ?_
  rintro e w3 hE
  rw [if_pos h0] at hE
  obtain ⟨rfl, T3, g3, s3, s13⟩ := hE
  have C3 := C1.only s13.only (fun e => e (l0))
  have d0' : w3.cell? ⟨w.heap.size, 0, none⟩ = some (.int .i64 x.no) := C3.cell 0
  have d1' : w3.cell? ⟨w.heap.size, 1, none⟩ = some (.int .i64 x.at_) := C3.cell 1
  have d2' : w3.cell? ⟨w.heap.size, 2, none⟩ = some (.string (B x.text)) := C3.cell 2
  have lz3 := C3.lt
  have l3 := g3.lt
  have d3' : w3.cell? ⟨w.heap.size, 3, none⟩ = some (.bool true) := C3.cell 3
  obtain ⟨V3, g3⟩ := g3
  have P3d : Hid (ParserV w3.drew T3 R b text (endFieldP p) V3) := g3.same (fun _ _ => rfl) (Nat.le_refl _)
  have S3 : Hid (PStep w T w3.drew T3) := s3.drewN 1
  have hz3 : R <= w3.drew.heap.size := Nat.le_trans hR s3.only.size
  clear g3 s3 s13
  go_wp2
  go_region_with (go_at_call 103; refine (HS.out _ T3 V3 P3d.out hz3).mono ?_; rintro e w4 ⟨rfl, T4, g4, s4⟩)
  all_goals
   go_wp2
   go_ret
   exact FIN.out T4 _ g4 (S3.out.trans s4)
 have FIN := Lib.hid (fun v w' h1 h2 => Taken.no (w := w) (T := T) (R := R) (b := b) (text := text) (p := p) (x := x) (v := v) (w' := w') (a := p.begin_) (n := endFieldN p) (by unfold takeP; rw [hen, hw, if_pos ⟨rfl, h0⟩]) h1 h2)
 clear hi hb hff hx
 cases hend : x.ended
 case false =>
  rw [hend] at C0 HB0
  go_enter Tryz.func53, Tryz.ntmps53
  go_wp2_with fail
  refine (K _).mono ?_
  rintro e w1 ⟨rfl, b1⟩
  have s1 := HB0.out.trans (PStep.below b1)
  have P1 : ParserAt w1 T R b text p := (H.out.below ((Below.refl _ _).alloc (Nat.le_refl _) _)).below b1
  have l1 := P1.lt
  have C1 := cells_kept C0.out b1 (by simp)
  have hz1 := s1.only.size
  have d0 : w1.cell? ⟨w.heap.size, 0, none⟩ = some (.int .i64 x.no) := C1.cell 0
  have d1 : w1.cell? ⟨w.heap.size, 1, none⟩ = some (.int .i64 x.at_) := C1.cell 1
  have d2 : w1.cell? ⟨w.heap.size, 2, none⟩ = some (.string (B x.text)) := C1.cell 2
  have d3 : w1.cell? ⟨w.heap.size, 3, none⟩ = some (.bool false) := C1.cell 3
  have lz := C1.lt
  clear b1 H C0 HB0
  go_wp2_with fail
  refine (EF.out _ T P1 s1).mono ?_
  rintro e w3 hE
  rw [if_neg h0] at hE
  obtain ⟨v, rfl, f3, o3, _, a3, rfl⟩ := hE
  go_wp2
  go_ret
  exact FIN.out _ _ f3 o3
 case true =>
 rw [hend] at C0 HB0
 go_enter Tryz.func53, Tryz.ntmps53
 go_wp2_with fail
 refine (K _).mono ?_
 rintro e w1 ⟨rfl, b1⟩
 have s1 := HB0.out.trans (PStep.below b1)
 have P1 : ParserAt w1 T R b text p := (H.out.below ((Below.refl _ _).alloc (Nat.le_refl _) _)).below b1
 have l1 := P1.lt
 have C1 := cells_kept C0.out b1 (by simp)
 have hz1 := s1.only.size
 have d0 : w1.cell? ⟨w.heap.size, 0, none⟩ = some (.int .i64 x.no) := C1.cell 0
 have d1 : w1.cell? ⟨w.heap.size, 1, none⟩ = some (.int .i64 x.at_) := C1.cell 1
 have d2 : w1.cell? ⟨w.heap.size, 2, none⟩ = some (.string (B x.text)) := C1.cell 2
 have d3 : w1.cell? ⟨w.heap.size, 3, none⟩ = some (.bool true) := C1.cell 3
 have lz := C1.lt
 clear b1 H C0 HB0
 go_wp2_with fail
 refine (EF.out _ T P1 s1).mono ?_
 rintro e w3 hE
 rw [if_neg h0] at hE
 obtain ⟨v, rfl, f3, o3, _, a3, rfl⟩ := hE
 go_wp2
 go_ret
 exact FIN.out _ _ f3 o3
theorem take_off5 {w : World} {T : Nat -> Nat} {R b : Nat} {text : ByteArray} {p : PS} (h : ParserAt w T R b text p) (hR : R <= w.heap.size) (x : Ln) (hi : Inv p x.at_) (hx : x.at_ + x.bytes.length <= text.size) (ht : text.size <= 70000) (hno : x.no <= x.at_) (hg : goesP p x = false) (hk : kindL x.text = 5) :
  Calls Tryz.prog 53 #[.pointer (some ⟨b, 0, none⟩), .agg #[.int .i64 x.no, .int .i64 x.at_, .string (B x.text), .bool x.ended]] w fun e w' => Taken w T R b text p x e w' := by
 have hbl : x.text.length <= x.bytes.length := by unfold Ln.bytes; simp
 have K : ∀ w, Calls Tryz.prog 100 #[.string (B x.text)] w fun e w' => e = .returned (.int .i64 5) /\ Below w.heap.size w w' := fun w => by
  have := kind_any (B x.text) (by rw [B_size]; unfold maxLen; omega) w
  rw [B_data, hk] at this
  exact this
 have hu : kindL x.text = 3 -> (!p.said.isEmpty) = false := by
  intro h3; unfold goesP at hg; rw [h3] at hg; simpa using hg
 have hl := h.lt
 have l0 := low_of h
 have H := Lib.hid h
 have C0 := Lib.hid (Cells.new w 99 #[.int .i64 x.no, .int .i64 x.at_, .string (B x.text), .bool x.ended])
 have HB0 := Lib.hid (PStep.below (T := T) ((Below.refl w.heap.size w).alloc (Nat.le_refl _) (.cells #[.int .i64 x.no, .int .i64 x.at_, .string (B x.text), .bool x.ended] 99)))
 have hw : wentP p x = p := by unfold wentP; rw [hg]; rfl
 have hen : endsP p x = true := by unfold endsP; rw [hg]; simp
 have hth : thenP p x = endFieldP p := by unfold thenP; rw [hen, if_pos rfl, hw]
 have hb := hi.said
 have hff : p.fields.length <= 1000000 := by have := hi.fields; omega
 have EF := Lib.hid (fun w1 T1 (g : ParserAt w1 T1 R b text p) (s : PStep w T w1 T1) => endField_any2 (p := p) g s hR (by omega) hff)
 clear h
 by_cases h0 : endFieldN p = 0
 ·have NO := Lib.hid (fun (hwr : wrongP p x = true) v w' h1 h2 => Taken.no (w := w) (T := T) (R := R) (b := b) (text := text) (p := p) (x := x) (v := v) (w' := w') (a := x.no) (n := 2) (by unfold takeP; rw [hen, hwr, hw, h0]; simp) h1 h2)
  have YES := Lib.hid (fun (hwr : wrongP p x = false) T' w' h1 h2 => Taken.yes (w := w) (T := T) (T' := T') (R := R) (b := b) (text := text) (p := p) (q := putP text.data.toList (endFieldP p) x) (x := x) (w' := w') (by unfold takeP; rw [hen, hwr, hw, h0, hth]; simp) h1 h2)
  cases hend : x.ended
  case false =>
   rw [hend] at C0 HB0
   have hwr : wrongP p x = true := by unfold wrongP; rw [hk, hg, hend]; rfl
   have FIN := Lib.hid (NO.out hwr)
   clear YES NO
   clear hi hb hff hx
   go_enter Tryz.func53, Tryz.ntmps53
   go_wp2_with fail
   refine (K _).mono ?_
   rintro e w1 ⟨rfl, b1⟩
   have s1 := HB0.out.trans (PStep.below b1)
   have P1 : ParserAt w1 T R b text p := (H.out.below ((Below.refl _ _).alloc (Nat.le_refl _) _)).below b1
   have l1 := P1.lt
   have C1 := cells_kept C0.out b1 (by simp)
   have hz1 := s1.only.size
   have d0 : w1.cell? ⟨w.heap.size, 0, none⟩ = some (.int .i64 x.no) := C1.cell 0
   have d1 : w1.cell? ⟨w.heap.size, 1, none⟩ = some (.int .i64 x.at_) := C1.cell 1
   have d2 : w1.cell? ⟨w.heap.size, 2, none⟩ = some (.string (B x.text)) := C1.cell 2
   have d3 : w1.cell? ⟨w.heap.size, 3, none⟩ = some (.bool false) := C1.cell 3
   have lz := C1.lt
   clear b1 H C0 HB0
   go_wp2_with fail
   refine (EF.out _ T P1 s1).mono ?_
   rintro e w3 hE
   rw [if_pos h0] at hE
   obtain ⟨rfl, T3, g3, s3, s13⟩ := hE
   have C3 := C1.only s13.only (fun e => e (l0))
   have d0' : w3.cell? ⟨w.heap.size, 0, none⟩ = some (.int .i64 x.no) := C3.cell 0
   have d1' : w3.cell? ⟨w.heap.size, 1, none⟩ = some (.int .i64 x.at_) := C3.cell 1
   have d2' : w3.cell? ⟨w.heap.size, 2, none⟩ = some (.string (B x.text)) := C3.cell 2
   have lz3 := C3.lt
   have l3 := g3.lt
   go_wp2
   go_ret
   exact FIN.out _ _ (FaultAt.new _ _ 2 _ w3.heap.size rfl (by omega)) (s3.only.alloc _)
  case true =>
  rw [hend] at C0 HB0
  have hwr : wrongP p x = true := by unfold wrongP; rw [hk, hg, hend]; rfl
  have FIN := Lib.hid (NO.out hwr)
  clear YES NO
  clear hi hb hff hx
  go_enter Tryz.func53, Tryz.ntmps53
  go_wp2_with fail
  refine (K _).mono ?_
  rintro e w1 ⟨rfl, b1⟩
  have s1 := HB0.out.trans (PStep.below b1)
  have P1 : ParserAt w1 T R b text p := (H.out.below ((Below.refl _ _).alloc (Nat.le_refl _) _)).below b1
  have l1 := P1.lt
  have C1 := cells_kept C0.out b1 (by simp)
  have hz1 := s1.only.size
  have d0 : w1.cell? ⟨w.heap.size, 0, none⟩ = some (.int .i64 x.no) := C1.cell 0
  have d1 : w1.cell? ⟨w.heap.size, 1, none⟩ = some (.int .i64 x.at_) := C1.cell 1
  have d2 : w1.cell? ⟨w.heap.size, 2, none⟩ = some (.string (B x.text)) := C1.cell 2
  have d3 : w1.cell? ⟨w.heap.size, 3, none⟩ = some (.bool true) := C1.cell 3
  have lz := C1.lt
  clear b1 H C0 HB0
  go_wp2_with fail
  refine (EF.out _ T P1 s1).mono ?_
  rintro e w3 hE
  rw [if_pos h0] at hE
  obtain ⟨rfl, T3, g3, s3, s13⟩ := hE
  have C3 := C1.only s13.only (fun e => e (l0))
  have d0' : w3.cell? ⟨w.heap.size, 0, none⟩ = some (.int .i64 x.no) := C3.cell 0
  have d1' : w3.cell? ⟨w.heap.size, 1, none⟩ = some (.int .i64 x.at_) := C3.cell 1
  have d2' : w3.cell? ⟨w.heap.size, 2, none⟩ = some (.string (B x.text)) := C3.cell 2
  have lz3 := C3.lt
  have l3 := g3.lt
  go_wp2
  go_ret
  exact FIN.out _ _ (FaultAt.new _ _ 2 _ w3.heap.size rfl (by omega)) (s3.only.alloc _)
 have FIN := Lib.hid (fun v w' h1 h2 => Taken.no (w := w) (T := T) (R := R) (b := b) (text := text) (p := p) (x := x) (v := v) (w' := w') (a := p.begin_) (n := endFieldN p) (by unfold takeP; rw [hen, hw, if_pos ⟨rfl, h0⟩]) h1 h2)
 clear hi hb hff hx
 cases hend : x.ended
 case false =>
  rw [hend] at C0 HB0
  go_enter Tryz.func53, Tryz.ntmps53
  go_wp2_with fail
  refine (K _).mono ?_
  rintro e w1 ⟨rfl, b1⟩
  have s1 := HB0.out.trans (PStep.below b1)
  have P1 : ParserAt w1 T R b text p := (H.out.below ((Below.refl _ _).alloc (Nat.le_refl _) _)).below b1
  have l1 := P1.lt
  have C1 := cells_kept C0.out b1 (by simp)
  have hz1 := s1.only.size
  have d0 : w1.cell? ⟨w.heap.size, 0, none⟩ = some (.int .i64 x.no) := C1.cell 0
  have d1 : w1.cell? ⟨w.heap.size, 1, none⟩ = some (.int .i64 x.at_) := C1.cell 1
  have d2 : w1.cell? ⟨w.heap.size, 2, none⟩ = some (.string (B x.text)) := C1.cell 2
  have d3 : w1.cell? ⟨w.heap.size, 3, none⟩ = some (.bool false) := C1.cell 3
  have lz := C1.lt
  clear b1 H C0 HB0
  go_wp2_with fail
  refine (EF.out _ T P1 s1).mono ?_
  rintro e w3 hE
  rw [if_neg h0] at hE
  obtain ⟨v, rfl, f3, o3, _, a3, rfl⟩ := hE
  go_wp2
  go_ret
  exact FIN.out _ _ f3 o3
 case true =>
 rw [hend] at C0 HB0
 go_enter Tryz.func53, Tryz.ntmps53
 go_wp2_with fail
 refine (K _).mono ?_
 rintro e w1 ⟨rfl, b1⟩
 have s1 := HB0.out.trans (PStep.below b1)
 have P1 : ParserAt w1 T R b text p := (H.out.below ((Below.refl _ _).alloc (Nat.le_refl _) _)).below b1
 have l1 := P1.lt
 have C1 := cells_kept C0.out b1 (by simp)
 have hz1 := s1.only.size
 have d0 : w1.cell? ⟨w.heap.size, 0, none⟩ = some (.int .i64 x.no) := C1.cell 0
 have d1 : w1.cell? ⟨w.heap.size, 1, none⟩ = some (.int .i64 x.at_) := C1.cell 1
 have d2 : w1.cell? ⟨w.heap.size, 2, none⟩ = some (.string (B x.text)) := C1.cell 2
 have d3 : w1.cell? ⟨w.heap.size, 3, none⟩ = some (.bool true) := C1.cell 3
 have lz := C1.lt
 clear b1 H C0 HB0
 go_wp2_with fail
 refine (EF.out _ T P1 s1).mono ?_
 rintro e w3 hE
 rw [if_neg h0] at hE
 obtain ⟨v, rfl, f3, o3, _, a3, rfl⟩ := hE
 go_wp2
 go_ret
 exact FIN.out _ _ f3 o3
end Go.Proofs.YtbkeoiefolkjfaaGreatDoor
namespace Go.Proofs.YtbkeoiefolkjfaaGreatDoor
open Go.RowKit Go.Shelf
attribute [local go_sem] errV_0 errV_2
theorem kindL_pos (l : List UInt8) : kindL l = 1 \/ kindL l = 2 \/ kindL l = 3 \/ kindL l = 4 \/ kindL l = 5 := by
 unfold kindL
 split; · simp
 split; · simp
 split; · simp
 split; · simp
 split <;> simp
theorem take_any {w : World} {T : Nat -> Nat} {R b : Nat} {text : ByteArray} {p : PS} (h : ParserAt w T R b text p) (hR : R <= w.heap.size) (x : Ln) (hi : Inv p x.at_) (hx : x.at_ + x.bytes.length <= text.size) (ht : text.size <= 60000) (hno : x.no <= x.at_) :
  Calls Tryz.prog 53 #[.pointer (some ⟨b, 0, none⟩), .agg #[.int .i64 x.no, .int .i64 x.at_, .string (B x.text), .bool x.ended]] w fun e w' => Taken w T R b text p x e w' := by
 cases hg : goesP p x with
 | true =>
  have hbl : x.text.length <= x.bytes.length := by unfold Ln.bytes; simp
  exact take_on h hR x hi (by omega) hno hg
 | false =>
 rcases kindL_pos x.text with hk | hk | hk | hk | hk
 ·exact take_off1 h hR x hi hx (by omega) hno hg hk
 ·exact take_off2 h hR x hi hx (by omega) hno hg hk
 ·exact take_off3 h hR x hi hx (by omega) hno hg hk
 ·exact take_off4 h hR x hi hx (by omega) hno hg hk
 exact take_off5 h hR x hi hx (by omega) hno hg hk
def Out (w W : World) (v e : Value) : Prop :=
 Cells W w.heap.size 61 #[v] /\ Cells W (w.heap.size + 1) 28 #[e] /\ Below w.heap.size w W
def InvP (w : World) (text : ByteArray) (pre : List Ln) (W : World) : Prop :=
 Out w W (.slice none 0 0) .nilIface /\ ∃ T p, runP text.data.toList PS.new pre = .ok p /\ Inv p (pre.flatMap Ln.bytes).length /\ ParserAt W T (w.heap.size + 2) (w.heap.size + 2) text p /\ ∀ k, w.heap.size + 3 <= k -> k < w.heap.size + 9 -> T k = 0
def OutP (w : World) (text : ByteArray) (c : Code) (pre : List Ln) (W : World) : Prop :=
 c = .ret /\ ∃ a n v, runP text.data.toList PS.new pre = .error (a, n) /\ Out w W (.slice none 0 0) v /\ FaultAt (w.heap.size + 9) W v a n
theorem Out.turned {w W W' : World} {v e : Value} {B k : Nat} (h : Out w W v e) (ht : Turned B k W W') (hB : w.heap.size + 2 <= B) : Out w W' v e :=
 ⟨(ht.same _ h.1.lt (.inl (by omega))).trans h.1, (ht.same _ h.2.1.lt (.inl (by omega))).trans h.2.1, h.2.2.trans (ht.below (by omega) h.2.2.size)⟩
theorem Out.alloc {w W : World} {v e : Value} (h : Out w W v e) (o : Obj) : Out w (W.alloc o) v e := ⟨h.1.alloc o, h.2.1.alloc o, h.2.2.alloc h.2.2.size o⟩
theorem Out.only {w W W' : World} {v e : Value} {S : Nat -> Prop} (h : Out w W v e) (g : Only S W W') (hS : ∀ r, S r -> w.heap.size + 2 <= r) : Out w W' v e :=
 ⟨h.1.only g (fun s => by have := hS _ s; omega), h.2.1.only g (fun s => by have := hS _ s; omega), h.2.2.trans (g.to_below h.2.2.size (fun r hr s => by have := hS _ s; omega))⟩
theorem Out.set {w W : World} {v e : Value} (h : Out w W v e) (v' e' : Value) : Out w ((W.setCell ⟨w.heap.size, 0, none⟩ v').setCell ⟨w.heap.size + 1, 0, none⟩ e') v' e' := by
 obtain ⟨h1, h2, h3⟩ := h
 exact ⟨Cells.other (h1.set 0 v') (by simp) _, Cells.set (Cells.other h2 (by simp) v') 0 e', (h3.setCell (p := ⟨w.heap.size, 0, none⟩) (Nat.le_refl _) _).setCell (p := ⟨w.heap.size + 1, 0, none⟩) (by show _ <= w.heap.size + 1; omega) _⟩
theorem ParserAt.turned {w w' : World} {T : Nat -> Nat} {R b B k : Nat} {text : ByteArray} {p : PS} (h : ParserAt w T R b text p) (ht : Turned B k w w') (hz : ∀ r, B <= r -> r < B + k -> T r = 0) : ParserAt w' T R b text p := by
 obtain ⟨V, h⟩ := h
 refine ⟨V, h.same (fun r hr => ht.same r (h.low r hr).2 ?_) ht.size⟩
 rcases Nat.lt_or_ge r B with q | q
 ·exact .inl q
 rcases Nat.lt_or_ge r (B + k) with q' | q'
 ·exact absurd (hz r q q') hr
 exact .inr q'
theorem InvP.turned {w W W' : World} {text : ByteArray} {pre : List Ln} {B k : Nat} (h : InvP w text pre W) (ht : Turned B k W W') (hB : w.heap.size + 3 <= B) (hk : B + k <= w.heap.size + 9) : InvP w text pre W' := by
 obtain ⟨h1, T, p, h2, h3, h4, h5⟩ := h
 exact ⟨h1.turned ht (by omega), T, p, h2, h3, h4.turned ht (fun r a b => h5 r (by omega) (by omega)), h5⟩
theorem InvP.alloc {w W : World} {text : ByteArray} {pre : List Ln} (h : InvP w text pre W) (o : Obj) : InvP w text pre (W.alloc o) := by
 obtain ⟨h1, T, p, h2, h3, h4, h5⟩ := h
 exact ⟨h1.alloc o, T, p, h2, h3, h4.below ((Below.refl _ _).alloc (Nat.le_refl _) o), h5⟩
theorem OutP.turned {w W W' : World} {text : ByteArray} {c : Code} {pre : List Ln} {B k : Nat} (h : OutP w text c pre W) (ht : Turned B k W W') (hB : w.heap.size + 3 <= B) (hk : B + k <= w.heap.size + 9) : OutP w text c pre W' := by
 obtain ⟨h0, a, n, v, h1, h2, q, h3, h4, h5⟩ := h
 exact ⟨h0, a, n, v, h1, h2.turned ht (by omega), q, h3, h4, (ht.same q h5.lt (.inr (by omega))).trans h5⟩
theorem runP_snoc {text : List UInt8} {pre : List Ln} {p q : PS} {x : Ln} (h : runP text PS.new pre = .ok p) (ht : takeP text p x = .ok q) : runP text PS.new (pre ++ [x]) = .ok q := by
 rw [runP_append, h]; show (match takeP text p x with | .error e => _ | .ok q => runP text q []) = _; rw [ht]; rfl
theorem runP_snoc_no {text : List UInt8} {pre : List Ln} {p : PS} {e : Nat × Nat} {x : Ln} (h : runP text PS.new pre = .ok p) (ht : takeP text p x = .error e) : runP text PS.new (pre ++ [x]) = .error e := by
 rw [runP_append, h]; show (match takeP text p x with | .error e => _ | .ok q => runP text q []) = _; rw [ht]
theorem runP_stop {text : List UInt8} {pre xs : List Ln} {e : Nat × Nat} (h : runP text PS.new pre = .error e) (hp : pre <+: xs) : runP text PS.new xs = .error e := by
 obtain ⟨post, rfl⟩ := hp
 rw [runP_append, h]
end Go.Proofs.YtbkeoiefolkjfaaGreatDoor
