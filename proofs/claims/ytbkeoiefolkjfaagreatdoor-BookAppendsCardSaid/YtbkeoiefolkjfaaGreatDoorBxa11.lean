/- Texts put together: PF, PG. -/
import Derived.Test.YtbkeoiefolkjfaaGreatDoorBxa9
import Derived.Test.YtbkeoiefolkjfaaGreatDoorBxa10
set_option linter.unusedVariables false
set_option maxRecDepth 100000
set_option maxHeartbeats 16000000
namespace Go.Proofs.YtbkeoiefolkjfaaGreatDoor
open Go.RowKit Go.Shelf
attribute [local go_sem] errV_0
def FaultAt (lo : Nat) (w : World) (e : Value) (at_ n : Nat) : Prop := ∃ q, lo <= q /\ e = .iface 68 (.pointer (some ⟨q, 0, none⟩)) /\ Cells w q 70 #[.int .i64 at_, errV n]
theorem FaultAt.below {lo : Nat} {w w' : World} {e : Value} {a n N : Nat} (h : FaultAt lo w e a n) (hb : Below N w w') (hN : w.heap.size <= N) : FaultAt lo w' e a n := by
 obtain ⟨q, h0, h1, h2⟩ := h
 exact ⟨q, h0, h1, (hb.block q (Nat.lt_of_lt_of_le h2.lt hN)).trans h2⟩
theorem FaultAt.mono {lo lo' : Nat} {w : World} {e : Value} {a n : Nat} (h : FaultAt lo w e a n) (hl : lo' <= lo) : FaultAt lo' w e a n := by
 obtain ⟨q, h0, h1, h2⟩ := h
 exact ⟨q, Nat.le_trans hl h0, h1, h2⟩
theorem FaultAt.new (w : World) (a n lo q : Nat) (hq : w.heap.size = q) (hl : lo <= q) : FaultAt lo (w.alloc (.cells #[.int .i64 a, errV n] 70)) (.iface 68 (.pointer (some ⟨q, 0, none⟩))) a n := by subst hq; exact ⟨w.heap.size, hl, rfl, Cells.new _ _ _⟩
theorem ParserV.field {w w' : World} {T : Nat -> Nat} {R b : Nat} {text : ByteArray} {p p' : PS} {V : PV} (h : ParserV w T R b text p V) (hR : R <= w.heap.size) (v6' : Value)
  (hc : Cells w' b 104 (pCells p' text (.slice none 0 0) V.v3 v6')) (hr : w'.ownsRow 0 83 2 v6' p'.fields.length (cellsF p'.fields)) (hk : sameOr w.heap.size w'.heap.size V.v6.ownBlock v6'.ownBlock)
  (ho : Only (fun r => r = b \/ some r = V.v6.ownBlock) w w') (e1 : p'.items = p.items) (e2 : p'.said = []) :
  ∃ T', ParserV w' T' R b text p' { V with v1 := .slice none 0 0, v6 := v6' } /\ PStep w T w' T' := by
 have hs : ∀ k, T k ≠ 0 -> T k ≠ 1 -> T k ≠ 4 -> w'.heap[k]? = w.heap[k]? := fun k h0 h1 h2 => ho.same k (h.low k h0).2 (by
  rintro (e | e)
  ·exact h1 (by rw [e]; exact h.tp)
  exact h2 (h.t6 k e.symm))
 have s : ∀ {o : Option Nat} {t : Nat}, tagged T o t -> t ≠ 0 -> t ≠ 1 -> t ≠ 4 -> ∀ k, o = some k -> w'.heap[k]? = w.heap[k]? := fun ht h0 h1 h3 k hk => hs k (by rw [ht k hk]; exact h0) (by rw [ht k hk]; exact h1) (by rw [ht k hk]; exact h3)
 have lo : ∀ {o : Option Nat} {t : Nat}, tagged T o t -> t ≠ 0 -> ∀ k, o = some k -> k < w.heap.size := fun ht hne k hk => (h.low k (by rw [ht k hk]; exact hne)).2
 refine ⟨retag T w.heap.size v6'.ownBlock 4, ⟨hc, by rw [retag_old h.lt]; exact h.tp, ?_, (fun k hk => by cases hk), ?_, retag_other h.t3 (lo h.t3 (by decide)), hr, retag_same hk h.t6, by rw [e1]; exact h.nf, fun i it v h1 h2 => ?_, retag_both h.low ho.size hR hk h.t6 (by decide)⟩,
  ⟨ho.mono fun r hr' e => ?_, fun r hr' => by rw [retag_old hr']⟩⟩
 ·rw [e2]; exact ⟨by simp [saidCells], .inl ⟨rfl, rfl⟩⟩
 ·rw [e1]; exact row_same h.r3 (s h.t3 (by decide) (by decide) (by decide))
 ·obtain ⟨a, c⟩ := h.rf i it v (by rw [<- e1]; exact h1) h2
  exact ⟨row_same a (s c (by decide) (by decide) (by decide)), retag_other c (lo c (by decide))⟩
 rcases e with e | e
 ·rw [e, h.tp]; decide
 rw [h.t6 r e.symm]; decide
theorem ParserV.strs {w : World} {T : Nat -> Nat} {R b : Nat} {text : ByteArray} {p : PS} {V : PV} (h : ParserV w T R b text p V) : Strs w V.v1 (p.said.map B) := by
 refine OwnS.strs (base := 0) ?_
 unfold OwnS
 rw [List.length_map, List.map_map]
 exact h.r1
theorem infoFld0 : (Tryz.prog.info? 83).map (fun i => (i.zero, i.size, i.bytes)) = some (some (.agg #[.string ⟨#[]⟩, .string ⟨#[]⟩]), 2, 32) := by kernel_rfl
def EndField (w : World) (T : Nat -> Nat) (R b : Nat) (text : ByteArray) (p : PS) (e : Ending) (w' : World) : Prop :=
 if endFieldN p = 0 then e = .returned .nilIface /\ ∃ T', ParserAt w' T' R b text (endFieldP p) /\ PStep w T w' T'
 else ∃ v, e = .returned v /\ FaultAt w.heap.size w' v p.begin_ (endFieldN p) /\ Below w.heap.size w w'
theorem EndField.no {w : World} {T : Nat -> Nat} {R b : Nat} {text : ByteArray} {p : PS} {v : Value} {w' : World} (h : endFieldN p ≠ 0) (h1 : FaultAt w.heap.size w' v p.begin_ (endFieldN p)) (h2 : Below w.heap.size w w') : EndField w T R b text p (.returned v) w' := by
 unfold EndField; rw [if_neg h]; exact ⟨v, rfl, h1, h2⟩
theorem EndField.yes {w : World} {T T' : Nat -> Nat} {R b : Nat} {text : ByteArray} {p : PS} {w' : World} (h : endFieldN p = 0) (h1 : ParserAt w' T' R b text (endFieldP p)) (h2 : PStep w T w' T') : EndField w T R b text p (.returned .nilIface) w' := by
 unfold EndField; rw [if_pos h]; exact ⟨rfl, T', h1, h2⟩
theorem endField_any {w : World} {T : Nat -> Nat} {R b : Nat} {text : ByteArray} {p : PS} (h : ParserAt w T R b text p) (hR : R <= w.heap.size) (hsum : (p.said.map List.length).sum + p.said.length <= 90000) (hf : p.fields.length <= 1000000) :
  Calls Tryz.prog 54 #[.pointer (some ⟨b, 0, none⟩)] w fun e w' => EndField w T R b text p e w' := by
 obtain ⟨V, h⟩ := h
 by_cases hs : p.said = []
 ·have h0 : endFieldN p = 0 := by unfold endFieldN; rw [if_pos hs]
  have hp : endFieldP p = p := by unfold endFieldP; rw [if_pos hs]
  have U := under_any h
  rw [show (!p.said.isEmpty) = false by rw [hs]; rfl] at U
  have hl := h.lt
  have FIN : EndField w T R b text p (.returned .nilIface) w := .yes h0 (by rw [hp]; exact ⟨V, h⟩) (PStep.refl _ _)
  clear h hsum
  go_enter Tryz.func54, Tryz.ntmps54
  go_wp2_with fail
  refine U.mono ?_
  rintro e w1 ⟨rfl, rfl⟩
  go_wp2
  go_ret
  exact FIN
 have U := under_any h
 rw [show (!p.said.isEmpty) = true by cases hq : p.said with | nil => exact absurd hq hs | cons a r => rfl] at U
 have hl := h.lt
 obtain ⟨a1, c1, e1, _⟩ := own_slice h.r1
 have q1 : w.cell? ⟨b, 1, none⟩ = some (.slice a1 p.said.length c1) := by rw [<- e1]; exact h.cells.cell 1
 have q0 : w.cell? ⟨b, 0, none⟩ = some (.int .i64 p.begin_) := h.cells.cell 0
 have hlen : p.said.length <= 100000 := by omega
 have heach : ∀ l ∈ p.said, l.length <= 100000 := fun l hm => by have := le_sum _ _ hm; omega
 have hsv := saidV_le p.said
 have UF := unfold_any p.said V.v1 w h.strs heach hlen (by omega)
 rw [e1] at UF
 have hn0 : endFieldN p = if unfoldN p.said ≠ 0 then unfoldN p.said else if fullP p then 11 else 0 := by unfold endFieldN; rw [if_neg hs]
 have hn1 := unfoldN_le p.said
 have H := Lib.hid h
 by_cases hu : unfoldN p.said = 0
 ·rw [hu, if_neg (by simp)] at hn0
  rw [hu] at UF
  rw [errV_0] at UF
  have FU := Lib.hid (fun w' (hb : Below w.heap.size w w') => full_any (H.out.below hb))
  cases hfull : fullP p with
  | true =>
   rw [hfull, if_pos rfl] at hn0
   have FIN := Lib.hid (fun v w' h1 h2 => EndField.no (w := w) (T := T) (R := R) (b := b) (text := text) (p := p) (v := v) (w' := w') (by rw [hn0]; decide) h1 h2)
   rw [hn0] at FIN
   rw [hfull] at FU
   generalize unfoldK p.said = K at *
   generalize unfoldV p.said = Z at *
   unfold fieldV at UF
   clear h hsum heach hsv
   go_enter Tryz.func54, Tryz.ntmps54
   go_wp2_with fail
   refine U.mono ?_
   rintro e w1 ⟨rfl, rfl⟩
   go_wp2_with fail
   refine UF.mono ?_
   rintro e w1 ⟨rfl, b1⟩
   have hzb := b1.size
   go_wp2_with fail
   have hP := H.out.below b1
   have r0 : w1.cell? ⟨b, 0, none⟩ = some (.int .i64 p.begin_) := hP.cells.cell 0
   have hl1 := hP.lt
   have b2 := b1.alloc hzb (.cells #[.string (B K), .string (B Z)] 83)
   have FU2 := FU.out _ b2
   go_wp2_with fail
   refine FU2.mono ?_
   rintro e w2 ⟨rfl, rfl⟩
   have r1 : (w1.alloc (.cells #[.string (B K), .string (B Z)] 83)).cell? ⟨b, 0, none⟩ = some (.int .i64 p.begin_) := by
    rw [World.cell?_alloc_old _ _ _ (Nat.ne_of_lt hl1)]; exact r0
   go_wp2
   go_ret
   exact FIN.out _ _ (FaultAt.new _ _ 11 _ (w1.heap.size + 1) (by simp) (by omega)) (b2.alloc (by simp; omega) _)
  | false =>
  rw [hfull, if_neg (by simp)] at hn0
  have e0 : endFieldP p = { p with fields := p.fields ++ [(unfoldK p.said, unfoldV p.said)], said := [] } := by unfold endFieldP; rw [if_neg hs]
  have FIN := Lib.hid (fun T' w' h1 h2 => EndField.yes (w := w) (T := T) (T' := T') (R := R) (b := b) (text := text) (p := p) (w' := w') hn0 h1 h2)
  rw [e0] at FIN
  rw [hfull] at FU
  generalize unfoldK p.said = K at *
  generalize unfoldV p.said = Z at *
  unfold fieldV at UF
  obtain ⟨i0, hi, hz0, hz1, hz2⟩ := info_parts infoFld0
  obtain ⟨a6, c6, e6, _⟩ := own_slice h.r6
  clear h hsum heach hsv e0
  go_enter Tryz.func54, Tryz.ntmps54
  go_wp2_with fail
  refine U.mono ?_
  rintro e w1 ⟨rfl, rfl⟩
  go_wp2_with fail
  refine UF.mono ?_
  rintro e w1 ⟨rfl, b1⟩
  have hzb := b1.size
  have hP := H.out.below b1
  have hl1 := hP.lt
  have b2 := b1.alloc hzb (.cells #[.string (B K), .string (B Z)] 83)
  have FU2 := FU.out _ b2
  go_wp2_with fail
  refine FU2.mono ?_
  rintro e w2 ⟨rfl, rfl⟩
  have P2 := Lib.hid (H.out.below b2)
  have g0 : (w1.alloc (.cells #[.string (B K), .string (B Z)] 83)).cell? ⟨w1.heap.size, 0, none⟩ = some (.string (B K)) := (Cells.new _ _ _).cell 0
  have g1 : (w1.alloc (.cells #[.string (B K), .string (B Z)] 83)).cell? ⟨w1.heap.size, 1, none⟩ = some (.string (B Z)) := (Cells.new _ _ _).cell 1
  have hz2' : w1.heap.size < (w1.alloc (.cells #[.string (B K), .string (B Z)] 83)).heap.size := by simp
  have B2 := Lib.hid b2
  have hlt2 : w.heap.size <= (w1.alloc (.cells #[.string (B K), .string (B Z)] 83)).heap.size := b2.size
  clear FU FU2 UF U hP b1 b2
  generalize w1.alloc (.cells #[.string (B K), .string (B Z)] 83) = w2 at *
  generalize w1.heap.size = bx at *
  have hl2 := P2.out.lt
  have q6 : w2.cell? ⟨b, 6, none⟩ = some (.slice a6 p.fields.length c6) := by rw [<- e6]; exact P2.out.cells.cell 6
  have HC := Lib.hid P2.out.cells
  have HO := Lib.hid P2.out.r6
  have HE := Lib.hid (rowBlock_ne (w := w2) P2.out.tp P2.out.t6 (by decide))
  rw [e6] at HO HE
  have HF := Lib.hid (fun w' v6' hc hr hk ho => ParserV.field (p' := { p with fields := p.fields ++ [(K, Z)], said := [] }) P2.out (Nat.le_trans hR hlt2) (w' := w') v6' hc hr hk ho rfl rfl)
  go_wp2
  go_cut [] (fun wx => ∃ g' cap', Cells wx b 104 (pCells p text V.v1 V.v3 (.slice (some ⟨g', 0, none⟩) (p.fields.length + 1) cap')) /\
   wx.ownsRow 0 83 2 (.slice (some ⟨g', 0, none⟩) (p.fields.length + 1) cap') (p.fields.length + 1) (cellsF p.fields ++ [.string (B K), .string (B Z)]) /\
   sameOr w2.heap.size wx.heap.size V.v6.ownBlock (Value.slice (some ⟨g', 0, none⟩) (p.fields.length + 1) cap').ownBlock /\ g' ≠ b /\ Only (fun r => r = b \/ some r = V.v6.ownBlock) w2 wx)
  case first =>
   go_region_law ((refine step_append_own rfl (.tmp 41) (.tmp 43) 38 rfl 83 i0 _ 2 32 Tryz.underlying38 hi hz0 hz1 hz2 rfl (by decide) (.slice a6 p.fields.length c6) p.fields.length (cellsF p.fields) (by simp [Act.eval]) (by exact (HO.out.alloc _).drew) ⟨w2.heap.size, 0, none⟩ 1 1 [.string (B K), .string (B Z)] (by simp [Act.eval]) rfl (cells_new_add w2 83 [.string (B K), .string (B Z)]) (by intro u hu; simp at hu; rcases hu with rfl | rfl <;> rfl) (by unfold maxLen; omega) (by omega) ?_); intro v' w' ho hgr hbk; obtain ⟨⟨g', cap', rfl⟩, hg', hbx, hk, hon⟩ := appended HC.out HO.out HE.out (((Below.refl _ w2).alloc (Nat.le_refl _) _).drew) ho hgr hbk; have k6' : w'.cell? ⟨b, 6, none⟩ = some V.v6 := hg'.cell 6; have kf6' := hg'.frozen 6)
   all_goals
    go_wp2
    go_meet
    have hvg : g' ≠ b := by
     intro e
     rcases hk with h | ⟨k, h, h2, _⟩
     ·exact HE.out (h.symm.trans (by rw [e]; rfl))
     have hh : g' = k := Option.some.inj (show some g' = some k from h)
     omega
    rw [<- e6] at hk hon
    refine ⟨g', cap', ?_, row_cell (p := ⟨b, 6, none⟩) ho (fun e => hvg (by cases e; rfl)) _, ?_, hvg, (hon.mono (fun r _ h => .inr h)).setCell (p := ⟨b, 6, none⟩) (.inl (.inl rfl)) _⟩
    ·simpa [pCells] using hg'.set 6 (.slice (some ⟨g', 0, none⟩) (p.fields.length + 1) cap')
    unfold sameOr; simpa [World.setCell] using hk
  case rest =>
  obtain ⟨g', cap', hc, hr, hk, hvg, ho⟩ := hcut
  have k1 : wc.cell? ⟨b, 1, none⟩ = some V.v1 := hc.cell 1
  have kf1 := hc.frozen 1
  rw [e1] at k1
  go_wp2
  go_ret
  refine Exists.elim (HF.out _ (.slice (some ⟨g', 0, none⟩) (p.fields.length + 1) cap') ?k1 ?k2 ?k3 ?k4) fun T' g => FIN.out T' _ ⟨_, g.1⟩ ((PStep.below B2.out).trans g.2)
  case k1 => simpa [pCells] using hc.set 1 (.slice none 0 0)
  case k2 =>
   rw [cellsF_snoc, List.length_append]
   exact row_cell (p := ⟨b, 1, none⟩) hr (fun e => hvg (by cases e; rfl)) _
  case k3 => unfold sameOr at hk ⊢; simpa [World.setCell] using hk
  case k4 => exact ho.setCell (p := ⟨b, 1, none⟩) (.inl (.inl rfl)) _
 rw [if_pos hu] at hn0
 have hup : 0 < unfoldN p.said := Nat.pos_of_ne_zero hu
 have FIN := Lib.hid (fun v w' h1 h2 => EndField.no (w := w) (T := T) (R := R) (b := b) (text := text) (p := p) (v := v) (w' := w') (by rw [hn0]; exact hu) h1 h2)
 rw [hn0] at FIN
 have hev := errV_pos _ hup
 have HEV := Lib.hid hev
 rw [hev] at UF
 generalize unfoldN p.said = n at *
 generalize unfoldK p.said = K at *
 generalize unfoldV p.said = Z at *
 unfold fieldV at UF
 clear h hsum heach hsv hev
 go_enter Tryz.func54, Tryz.ntmps54
 go_wp2_with fail
 refine U.mono ?_
 rintro e w1 ⟨rfl, rfl⟩
 go_wp2_with fail
 refine UF.mono ?_
 rintro e w1 ⟨rfl, b1⟩
 have hzb := b1.size
 have hP := H.out.below b1
 have r0 : w1.cell? ⟨b, 0, none⟩ = some (.int .i64 p.begin_) := hP.cells.cell 0
 have hl1 := hP.lt
 have b2 := b1.alloc hzb (.cells #[.string (B K), .string (B Z)] 83)
 have r1 : (w1.alloc (.cells #[.string (B K), .string (B Z)] 83)).cell? ⟨b, 0, none⟩ = some (.int .i64 p.begin_) := by
  rw [World.cell?_alloc_old _ _ _ (Nat.ne_of_lt hl1)]; exact r0
 go_wp2
 go_ret
 rw [<- HEV.out]
 exact FIN.out _ _ (FaultAt.new _ _ n _ (w1.heap.size + 1) (by simp) (by omega)) (b2.alloc (by simp; omega) _)
end Go.Proofs.YtbkeoiefolkjfaaGreatDoor
namespace Go.Proofs.YtbkeoiefolkjfaaGreatDoor
open Go.RowKit Go.Shelf
attribute [local go_sem] errV_0 errV_2
def Taken (w : World) (T : Nat -> Nat) (R b : Nat) (text : ByteArray) (p : PS) (x : Ln) (e : Ending) (w' : World) : Prop :=
 match takeP text.data.toList p x with
 | .error (a, n) => ∃ v, e = .returned v /\ FaultAt w.heap.size w' v a n /\ Only (fun r => T r ≠ 0) w w'
 | .ok q => e = .returned .nilIface /\ ∃ T', ParserAt w' T' R b text q /\ PStep w T w' T'
theorem Taken.no {w : World} {T : Nat -> Nat} {R b : Nat} {text : ByteArray} {p : PS} {x : Ln} {v : Value} {w' : World} {a n : Nat} (h : takeP text.data.toList p x = .error (a, n)) (h1 : FaultAt w.heap.size w' v a n) (h2 : Only (fun r => T r ≠ 0) w w') : Taken w T R b text p x (.returned v) w' := by
 unfold Taken; rw [h]; exact ⟨v, rfl, h1, h2⟩
theorem Taken.yes {w : World} {T T' : Nat -> Nat} {R b : Nat} {text : ByteArray} {p q : PS} {x : Ln} {w' : World} (h : takeP text.data.toList p x = .ok q) (h1 : ParserAt w' T' R b text q) (h2 : PStep w T w' T') : Taken w T R b text p x (.returned .nilIface) w' := by
 unfold Taken; rw [h]; exact ⟨rfl, T', h1, h2⟩
theorem low_of {w : World} {T : Nat -> Nat} {R b : Nat} {text : ByteArray} {p : PS} (h : ParserAt w T R b text p) : T w.heap.size = 0 := by
 obtain ⟨V, h⟩ := h
 rcases Nat.decEq (T w.heap.size) 0 with e | e
 ·have := (h.low _ e).2; omega
 exact e
theorem ParserAt.lt {w : World} {T : Nat -> Nat} {R b : Nat} {text : ByteArray} {p : PS} (h : ParserAt w T R b text p) : b < w.heap.size := by obtain ⟨V, h⟩ := h; exact h.lt
theorem endField_any2 {w w1 : World} {T T1 : Nat -> Nat} {R b : Nat} {text : ByteArray} {p q : PS} (h : ParserAt w1 T1 R b text q) (hs : PStep w T w1 T1) (hR : R <= w.heap.size) (hsum : (q.said.map List.length).sum + q.said.length <= 90000) (hf : q.fields.length <= 1000000) :
  Calls Tryz.prog 54 #[.pointer (some ⟨b, 0, none⟩)] w1 fun e w' =>
   if endFieldN q = 0 then e = .returned .nilIface /\ ∃ T', ParserAt w' T' R b text (endFieldP q) /\ PStep w T w' T' /\ PStep w1 T1 w' T'
   else ∃ v, e = .returned v /\ FaultAt w.heap.size w' v q.begin_ (endFieldN q) /\ Only (fun r => T r ≠ 0) w w' /\ v ≠ .nilIface /\ ∃ a, v = .iface 68 (.pointer a) := by
 have hz := hs.only.size
 refine (endField_any h (Nat.le_trans hR hz) hsum hf).mono fun e w' g => ?_
 unfold EndField at g
 split
 ·rename_i h0
  rw [if_pos h0] at g
  obtain ⟨g1, T', g2, g3⟩ := g
  exact ⟨g1, T', g2, hs.trans g3, g3⟩
 rename_i h0
 rw [if_neg h0] at g
 obtain ⟨v, g1, g2, g3⟩ := g
 refine ⟨v, g1, g2.mono hz, hs.only.below g3 hz, ?_, ?_⟩
 ·obtain ⟨q, _, e, _⟩ := g2; rw [e]; intro h; cases h
 obtain ⟨q, _, e, _⟩ := g2; exact ⟨_, e⟩
theorem take_on {w : World} {T : Nat -> Nat} {R b : Nat} {text : ByteArray} {p : PS} (h : ParserAt w T R b text p) (hR : R <= w.heap.size) (x : Ln) (hi : Inv p x.at_) (hx : x.at_ + x.text.length + 1 <= 70000) (hno : x.no <= x.at_) (hg : goesP p x = true) :
  Calls Tryz.prog 53 #[.pointer (some ⟨b, 0, none⟩), .agg #[.int .i64 x.no, .int .i64 x.at_, .string (B x.text), .bool x.ended]] w fun e w' => Taken w T R b text p x e w' := by
 have hk : kindL x.text = 3 := by unfold goesP at hg; simp at hg; exact hg.1
 have hu : (!p.said.isEmpty) = true := by unfold goesP at hg; simp at hg; simp [hg.2]
 have K : ∀ w, Calls Tryz.prog 100 #[.string (B x.text)] w fun e w' => e = .returned (.int .i64 3) /\ Below w.heap.size w w' := fun w => by
  have := kind_any (B x.text) (by rw [B_size]; unfold maxLen; omega) w
  rw [B_data, hk] at this
  exact this
 have hl := h.lt
 have hb0 := PStep.below (T := T) ((Below.refl w.heap.size w).alloc (Nat.le_refl _) (.cells #[.int .i64 x.no, .int .i64 x.at_, .string (B x.text), .bool x.ended] 99))
 have c0 := Cells.new w 99 #[.int .i64 x.no, .int .i64 x.at_, .string (B x.text), .bool x.ended]
 have l0 := low_of h
 have hw : wentP p x = goOnP p x := by unfold wentP; rw [if_pos hg]; rfl
 have hwr : wrongP p x = !x.ended := by unfold wrongP; rw [hk, hg]; simp
 have hen : endsP p x = !x.ended := by unfold endsP; rw [hwr, hg]; simp
 have hb := hi.said
 have hsum : ((goOnP p x).said.map List.length).sum + (goOnP p x).said.length <= 90000 := by simp [goOnP]; omega
 have hff : (goOnP p x).fields.length <= 1000000 := by have := hi.fields; show p.fields.length <= _; omega
 have hn : p.said.length <= 1000000 := by omega
 have GO := Lib.hid (fun w1 (T1 : Nat -> Nat) V1 (g : ParserV w1 T1 R b text p V1) hR1 => goOn_any g hR1 x hn)
 have EF := Lib.hid (fun w1 T1 (g : ParserAt w1 T1 R b text (goOnP p x)) (s : PStep w T w1 T1) => endField_any2 (p := p) g s hR hsum hff)
 have H := Lib.hid h
 have C0 := Lib.hid c0
 have HB0 := Lib.hid hb0
 cases hend : x.ended with
 | true =>
  rw [hend] at hwr hen
  simp only [Bool.not_true] at hwr hen
  have FIN := Lib.hid (fun T' w' h1 h2 => Taken.yes (w := w) (T := T) (T' := T') (R := R) (b := b) (text := text) (p := p) (q := goOnP p x) (x := x) (w' := w') (by unfold takeP; rw [hen, hwr]; simp [thenP, hen, putP, hk, hw]) h1 h2)
  rw [hend] at GO C0 HB0
  clear h c0 hb0 hi EF hsum hff hb
  go_enter Tryz.func53, Tryz.ntmps53
  go_wp2_with fail
  refine (K _).mono ?_
  rintro e w1 ⟨rfl, b1⟩
  have s1 := HB0.out.trans (PStep.below b1)
  have P1 : ParserAt w1 T R b text p := (H.out.below ((Below.refl _ _).alloc (Nat.le_refl _) _)).below b1
  have l1 := P1.lt
  obtain ⟨V1, P1⟩ := P1
  have C1 := cells_kept C0.out b1 (by simp)
  have hz1 := s1.only.size
  have hz1' : R <= w1.drew.heap.size := Nat.le_trans hR hz1
  clear b1 H C0 HB0
  go_wp2_with fail
  refine (under_any P1).mono ?_
  rw [hu]
  rintro e w2 ⟨rfl, rfl⟩
  have d0 : w1.cell? ⟨w.heap.size, 0, none⟩ = some (.int .i64 x.no) := C1.cell 0
  have d1 : w1.cell? ⟨w.heap.size, 1, none⟩ = some (.int .i64 x.at_) := C1.cell 1
  have d2 : w1.cell? ⟨w.heap.size, 2, none⟩ = some (.string (B x.text)) := C1.cell 2
  have d3 : w1.cell? ⟨w.heap.size, 3, none⟩ = some (.bool true) := C1.cell 3
  have lz := C1.lt
  have P1d : Hid (ParserV w1.drew T R b text p V1) := P1.same (fun _ _ => rfl) (Nat.le_refl _)
  have C1d : Hid (Cells w1.drew w.heap.size 99 _) := C1
  have S1 : Hid (PStep w T w1.drew T) := s1.drewN 1
  clear P1 C1 s1
  go_wp2
  go_region_with (go_at_call 102; refine (GO.out _ T V1 P1d.out hz1').mono ?_; rintro e w2 ⟨rfl, T2, g2, s2⟩; have C2 := C1d.out.only s2.only (fun e => e l0); have d3 : w2.cell? ⟨w.heap.size, 3, none⟩ = some (.bool true) := C2.cell 3)
  all_goals
   go_wp2
   go_ret
   exact FIN.out T2 _ g2 (S1.out.trans s2)
 | false =>
 rw [hend] at hwr hen
 simp only [Bool.not_false] at hwr hen
 rw [hend] at GO C0 HB0
 by_cases h0 : endFieldN (goOnP p x) = 0
 ·have FIN := Lib.hid (fun v w' h1 h2 => Taken.no (w := w) (T := T) (R := R) (b := b) (text := text) (p := p) (x := x) (v := v) (w' := w') (a := x.no) (n := 2) (by unfold takeP; rw [hen, hwr, hw, h0]; simp) h1 h2)
  clear h c0 hb0 hi hsum hff hb
  go_enter Tryz.func53, Tryz.ntmps53
  go_wp2_with fail
  refine (K _).mono ?_
  rintro e w1 ⟨rfl, b1⟩
  have s1 := HB0.out.trans (PStep.below b1)
  have P1 : ParserAt w1 T R b text p := (H.out.below ((Below.refl _ _).alloc (Nat.le_refl _) _)).below b1
  have l1 := P1.lt
  obtain ⟨V1, P1⟩ := P1
  have C1 := cells_kept C0.out b1 (by simp)
  have hz1 := s1.only.size
  have hz1' : R <= w1.drew.heap.size := Nat.le_trans hR hz1
  clear b1 H C0 HB0
  go_wp2_with fail
  refine (under_any P1).mono ?_
  rw [hu]
  rintro e w2 ⟨rfl, rfl⟩
  have d0 : w1.cell? ⟨w.heap.size, 0, none⟩ = some (.int .i64 x.no) := C1.cell 0
  have d1 : w1.cell? ⟨w.heap.size, 1, none⟩ = some (.int .i64 x.at_) := C1.cell 1
  have d2 : w1.cell? ⟨w.heap.size, 2, none⟩ = some (.string (B x.text)) := C1.cell 2
  have d3 : w1.cell? ⟨w.heap.size, 3, none⟩ = some (.bool false) := C1.cell 3
  have lz := C1.lt
  have P1d : Hid (ParserV w1.drew T R b text p V1) := P1.same (fun _ _ => rfl) (Nat.le_refl _)
  have C1d : Hid (Cells w1.drew w.heap.size 99 _) := C1
  have S1 : Hid (PStep w T w1.drew T) := s1.drewN 1
  clear P1 C1 s1
  go_wp2
  go_region_with (go_at_call 102; refine (GO.out _ T V1 P1d.out hz1').mono ?_; rintro e w2 ⟨rfl, T2, g2, s2⟩; have C2 := C1d.out.only s2.only (fun e => e l0); have d3 : w2.cell? ⟨w.heap.size, 3, none⟩ = some (.bool false) := C2.cell 3)
  all_goals
   go_wp2_with fail
   refine (EF.out _ T2 g2 (S1.out.trans s2)).mono ?_
   rintro e w3 hE
   rw [if_pos h0] at hE
   obtain ⟨rfl, T3, g3, s3, s23⟩ := hE
   have C3 := C2.only s23.only (fun e => e ((s2.old _ lz).2 l0))
   have d0' : w3.cell? ⟨w.heap.size, 0, none⟩ = some (.int .i64 x.no) := C3.cell 0
   have lz3 := C3.lt
   go_wp2
   go_ret
   exact FIN.out _ _ (FaultAt.new _ _ 2 _ w3.heap.size rfl (by omega)) (s3.only.alloc _)
 have FIN := Lib.hid (fun v w' h1 h2 => Taken.no (w := w) (T := T) (R := R) (b := b) (text := text) (p := p) (x := x) (v := v) (w' := w') (a := (goOnP p x).begin_) (n := endFieldN (goOnP p x)) (by unfold takeP; rw [hen, hw, if_pos ⟨rfl, h0⟩]) h1 h2)
 clear h c0 hb0 hi hsum hff hb
 go_enter Tryz.func53, Tryz.ntmps53
 go_wp2_with fail
 refine (K _).mono ?_
 rintro e w1 ⟨rfl, b1⟩
 have s1 := HB0.out.trans (PStep.below b1)
 have P1 : ParserAt w1 T R b text p := (H.out.below ((Below.refl _ _).alloc (Nat.le_refl _) _)).below b1
 have l1 := P1.lt
 obtain ⟨V1, P1⟩ := P1
 have C1 := cells_kept C0.out b1 (by simp)
 have hz1 := s1.only.size
 have hz1' : R <= w1.drew.heap.size := Nat.le_trans hR hz1
 clear b1 H C0 HB0
 go_wp2_with fail
 refine (under_any P1).mono ?_
 rw [hu]
 rintro e w2 ⟨rfl, rfl⟩
 have d0 : w1.cell? ⟨w.heap.size, 0, none⟩ = some (.int .i64 x.no) := C1.cell 0
 have d1 : w1.cell? ⟨w.heap.size, 1, none⟩ = some (.int .i64 x.at_) := C1.cell 1
 have d2 : w1.cell? ⟨w.heap.size, 2, none⟩ = some (.string (B x.text)) := C1.cell 2
 have d3 : w1.cell? ⟨w.heap.size, 3, none⟩ = some (.bool false) := C1.cell 3
 have lz := C1.lt
 have P1d : Hid (ParserV w1.drew T R b text p V1) := P1.same (fun _ _ => rfl) (Nat.le_refl _)
 have C1d : Hid (Cells w1.drew w.heap.size 99 _) := C1
 have S1 : Hid (PStep w T w1.drew T) := s1.drewN 1
 clear P1 C1 s1
 go_wp2
 go_region_with (go_at_call 102; refine (GO.out _ T V1 P1d.out hz1').mono ?_; rintro e w2 ⟨rfl, T2, g2, s2⟩; have C2 := C1d.out.only s2.only (fun e => e l0); have d3 : w2.cell? ⟨w.heap.size, 3, none⟩ = some (.bool false) := C2.cell 3)
 all_goals
  go_wp2_with fail
  refine (EF.out _ T2 g2 (S1.out.trans s2)).mono ?_
  rintro e w3 hE
  rw [if_neg h0] at hE
  obtain ⟨v, rfl, f3, o3, _, a3, rfl⟩ := hE
  go_wp2
  go_ret
  exact FIN.out _ _ f3 o3
end Go.Proofs.YtbkeoiefolkjfaaGreatDoor
