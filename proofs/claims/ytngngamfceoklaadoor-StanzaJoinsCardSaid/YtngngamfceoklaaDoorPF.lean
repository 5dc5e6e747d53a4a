/- A field is ended: endField. -/
import Derived.Test.YtngngamfceoklaaDoorPE
import Derived.Test.YtngngamfceoklaaDoorFJ
namespace Go.Proofs.YtngngamfceoklaaDoor
open Go.RowKit Go.Shelf
attribute [local go_sem] errV_0

/-- An error at a place. -/
def FaultAt (lo : Nat) (w : World) (e : Value) (at_ n : Nat) : Prop := ∃ q, lo ≤ q ∧ e = .iface 78 (.pointer (some ⟨q, 0, none⟩)) ∧ Cells w q 81 #[.int .i64 at_, errV n]
theorem FaultAt.below {lo : Nat} {w w' : World} {e : Value} {a n N : Nat} (h : FaultAt lo w e a n) (hb : Below N w w') (hN : w.heap.size ≤ N) : FaultAt lo w' e a n := by
  obtain ⟨q, h0, h1, h2⟩ := h
  exact ⟨q, h0, h1, (hb.block q (Nat.lt_of_lt_of_le h2.lt hN)).trans h2⟩
theorem FaultAt.mono {lo lo' : Nat} {w : World} {e : Value} {a n : Nat} (h : FaultAt lo w e a n) (hl : lo' ≤ lo) : FaultAt lo' w e a n := by
  obtain ⟨q, h0, h1, h2⟩ := h
  exact ⟨q, Nat.le_trans hl h0, h1, h2⟩
theorem FaultAt.new (w : World) (a n lo q : Nat) (hq : w.heap.size = q) (hl : lo ≤ q) : FaultAt lo (w.alloc (.cells #[.int .i64 a, errV n] 81)) (.iface 78 (.pointer (some ⟨q, 0, none⟩))) a n := by subst hq; exact ⟨w.heap.size, hl, rfl, Cells.new _ _ _⟩
theorem ParserV.field {w w' : World} {T : Nat → Nat} {R b : Nat} {text : ByteArray} {p p' : PS} {V : PV} (h : ParserV w T R b text p V) (hR : R ≤ w.heap.size) (v6' : Value)
    (hc : Cells w' b 57 (pCells p' text (.slice none 0 0) V.v3 v6')) (hr : w'.ownsRow 0 73 2 v6' p'.fields.length (cellsF p'.fields)) (hk : sameOr w.heap.size w'.heap.size V.v6.ownBlock v6'.ownBlock)
    (ho : Only (fun r => r = b ∨ some r = V.v6.ownBlock) w w') (e1 : p'.items = p.items) (e2 : p'.said = []) :
    ∃ T', ParserV w' T' R b text p' { V with v1 := .slice none 0 0, v6 := v6' } ∧ PStep w T w' T' := by
  have hs : ∀ k, T k ≠ 0 → T k ≠ 1 → T k ≠ 4 → w'.heap[k]? = w.heap[k]? := fun k h0 h1 h2 => ho.same k (h.low k h0).2 (by
    rintro (e | e)
    · exact h1 (by rw [e]; exact h.tp)
    · exact h2 (h.t6 k e.symm))
  have s : ∀ {o : Option Nat} {t : Nat}, tagged T o t → t ≠ 0 → t ≠ 1 → t ≠ 4 → ∀ k, o = some k → w'.heap[k]? = w.heap[k]? := fun ht h0 h1 h3 k hk => hs k (by rw [ht k hk]; exact h0) (by rw [ht k hk]; exact h1) (by rw [ht k hk]; exact h3)
  have lo : ∀ {o : Option Nat} {t : Nat}, tagged T o t → t ≠ 0 → ∀ k, o = some k → k < w.heap.size := fun ht hne k hk => (h.low k (by rw [ht k hk]; exact hne)).2
  refine ⟨retag T w.heap.size v6'.ownBlock 4, ⟨hc, by rw [retag_old h.lt]; exact h.tp, ?_, (fun k hk => by cases hk), ?_, retag_other h.t3 (lo h.t3 (by decide)), hr, retag_same hk h.t6, by rw [e1]; exact h.nf, fun i it v h1 h2 => ?_, retag_both h.low ho.size hR hk h.t6 (by decide)⟩,
    ⟨ho.mono fun r hr' e => ?_, fun r hr' => by rw [retag_old hr']⟩⟩
  · rw [e2]; exact ⟨by simp [saidCells], .inl ⟨rfl, rfl⟩⟩
  · rw [e1]; exact row_same h.r3 (s h.t3 (by decide) (by decide) (by decide))
  · obtain ⟨a, c⟩ := h.rf i it v (by rw [← e1]; exact h1) h2
    exact ⟨row_same a (s c (by decide) (by decide) (by decide)), retag_other c (lo c (by decide))⟩
  · rcases e with e | e
    · rw [e, h.tp]; decide
    · rw [h.t6 r e.symm]; decide
theorem ParserV.strs {w : World} {T : Nat → Nat} {R b : Nat} {text : ByteArray} {p : PS} {V : PV} (h : ParserV w T R b text p V) : Strs w V.v1 (p.said.map B) := by
  refine OwnS.strs (base := 0) ?_
  unfold OwnS
  rw [List.length_map, List.map_map]
  exact h.r1
theorem infoFld0 : (Tryd.prog.info? 73).map (fun i => (i.zero, i.size, i.bytes)) = some (some (.agg #[.string ⟨#[]⟩, .string ⟨#[]⟩]), 2, 32) := by kernel_rfl
def EndField (w : World) (T : Nat → Nat) (R b : Nat) (text : ByteArray) (p : PS) (e : Ending) (w' : World) : Prop :=
  if endFieldN p = 0 then e = .returned .nilIface ∧ ∃ T', ParserAt w' T' R b text (endFieldP p) ∧ PStep w T w' T'
  else ∃ v, e = .returned v ∧ FaultAt w.heap.size w' v p.begin_ (endFieldN p) ∧ Below w.heap.size w w'
theorem EndField.no {w : World} {T : Nat → Nat} {R b : Nat} {text : ByteArray} {p : PS} {v : Value} {w' : World} (h : endFieldN p ≠ 0) (h1 : FaultAt w.heap.size w' v p.begin_ (endFieldN p)) (h2 : Below w.heap.size w w') : EndField w T R b text p (.returned v) w' := by
  unfold EndField; rw [if_neg h]; exact ⟨v, rfl, h1, h2⟩
theorem EndField.yes {w : World} {T T' : Nat → Nat} {R b : Nat} {text : ByteArray} {p : PS} {w' : World} (h : endFieldN p = 0) (h1 : ParserAt w' T' R b text (endFieldP p)) (h2 : PStep w T w' T') : EndField w T R b text p (.returned .nilIface) w' := by
  unfold EndField; rw [if_pos h]; exact ⟨rfl, T', h1, h2⟩

set_option maxRecDepth 100000 in
set_option maxHeartbeats 4000000 in
theorem endField_any {w : World} {T : Nat → Nat} {R b : Nat} {text : ByteArray} {p : PS} (h : ParserAt w T R b text p) (hR : R ≤ w.heap.size) (hsum : (p.said.map List.length).sum + p.said.length ≤ 90000) (hf : p.fields.length ≤ 1000000) :
    Calls Tryd.prog 28 #[.pointer (some ⟨b, 0, none⟩)] w fun e w' => EndField w T R b text p e w' := by
  obtain ⟨V, h⟩ := h
  by_cases hs : p.said = []
  · have h0 : endFieldN p = 0 := by unfold endFieldN; rw [if_pos hs]
    have hp : endFieldP p = p := by unfold endFieldP; rw [if_pos hs]
    have U := under_any h
    rw [show (!p.said.isEmpty) = false by rw [hs]; rfl] at U
    have hl := h.lt
    have FIN : EndField w T R b text p (.returned .nilIface) w := .yes h0 (by rw [hp]; exact ⟨V, h⟩) (PStep.refl _ _)
    clear h hsum
    go_enter Tryd.func28, Tryd.ntmps28
    go_wp2_with fail
    refine U.mono ?_
    rintro e w1 ⟨rfl, rfl⟩
    go_wp2
    go_ret
    exact FIN
  · have U := under_any h
    rw [show (!p.said.isEmpty) = true by cases hq : p.said with | nil => exact absurd hq hs | cons a r => rfl] at U
    have hl := h.lt
    obtain ⟨a1, c1, e1, _⟩ := own_slice h.r1
    have q1 : w.cell? ⟨b, 1, none⟩ = some (.slice a1 p.said.length c1) := by rw [← e1]; exact h.cells.cell 1
    have q0 : w.cell? ⟨b, 0, none⟩ = some (.int .i64 p.begin_) := h.cells.cell 0
    have hlen : p.said.length ≤ 100000 := by omega
    have heach : ∀ l ∈ p.said, l.length ≤ 100000 := fun l hm => by have := le_sum _ _ hm; omega
    have hsv := saidV_le p.said
    have UF := unfold_any p.said V.v1 w h.strs heach hlen (by omega)
    rw [e1] at UF
    have hn0 : endFieldN p = if unfoldN p.said ≠ 0 then unfoldN p.said else if fullP p then 11 else 0 := by unfold endFieldN; rw [if_neg hs]
    have hn1 := unfoldN_le p.said
    have H := Lib.hid h
    by_cases hu : unfoldN p.said = 0
    · rw [hu, if_neg (by simp)] at hn0
      rw [hu] at UF
      rw [errV_0] at UF
      have FU := Lib.hid (fun w' (hb : Below w.heap.size w w') => full_any (H.out.below hb))
      cases hfull : fullP p with
      | true =>
        rw [hfull, if_pos rfl] at hn0
        have FIN := Lib.hid (fun v w' h1 h2 => EndField.no (w := w) (T := T) (R := R) (b := b) (text := text) (p := p) (v := v) (w' := w') (by rw [hn0]; decide) h1 h2)
        rw [hn0] at FIN
        rw [hfull] at FU
        generalize unfoldK p.said = K at *
        generalize unfoldV p.said = Z at *
        unfold fieldV at UF
        clear h hsum heach hsv
        go_enter Tryd.func28, Tryd.ntmps28
        go_wp2_with fail
        refine U.mono ?_
        rintro e w1 ⟨rfl, rfl⟩
        go_wp2_with fail
        refine UF.mono ?_
        rintro e w1 ⟨rfl, b1⟩
        have hzb := b1.size
        go_wp2_with fail
        have hP := H.out.below b1
        have r0 : w1.cell? ⟨b, 0, none⟩ = some (.int .i64 p.begin_) := hP.cells.cell 0
        have hl1 := hP.lt
        have b2 := b1.alloc hzb (.cells #[.string (B K), .string (B Z)] 73)
        have FU2 := FU.out _ b2
        go_wp2_with fail
        refine FU2.mono ?_
        rintro e w2 ⟨rfl, rfl⟩
        have r1 : (w1.alloc (.cells #[.string (B K), .string (B Z)] 73)).cell? ⟨b, 0, none⟩ = some (.int .i64 p.begin_) := by
          rw [World.cell?_alloc_old _ _ _ (Nat.ne_of_lt hl1)]; exact r0
        go_wp2
        go_ret
        exact FIN.out _ _ (FaultAt.new _ _ 11 _ (w1.heap.size + 1) (by simp) (by omega)) (b2.alloc (by simp; omega) _)
      | false =>
        rw [hfull, if_neg (by simp)] at hn0
        have e0 : endFieldP p = { p with fields := p.fields ++ [(unfoldK p.said, unfoldV p.said)], said := [] } := by unfold endFieldP; rw [if_neg hs]
        have FIN := Lib.hid (fun T' w' h1 h2 => EndField.yes (w := w) (T := T) (T' := T') (R := R) (b := b) (text := text) (p := p) (w' := w') hn0 h1 h2)
        rw [e0] at FIN
        rw [hfull] at FU
        generalize unfoldK p.said = K at *
        generalize unfoldV p.said = Z at *
        unfold fieldV at UF
        obtain ⟨i0, hi, hz0, hz1, hz2⟩ := info_parts infoFld0
        obtain ⟨a6, c6, e6, _⟩ := own_slice h.r6
        clear h hsum heach hsv e0
        go_enter Tryd.func28, Tryd.ntmps28
        go_wp2_with fail
        refine U.mono ?_
        rintro e w1 ⟨rfl, rfl⟩
        go_wp2_with fail
        refine UF.mono ?_
        rintro e w1 ⟨rfl, b1⟩
        have hzb := b1.size
        have hP := H.out.below b1
        have hl1 := hP.lt
        have b2 := b1.alloc hzb (.cells #[.string (B K), .string (B Z)] 73)
        have FU2 := FU.out _ b2
        go_wp2_with fail
        refine FU2.mono ?_
        rintro e w2 ⟨rfl, rfl⟩
        have P2 := Lib.hid (H.out.below b2)
        have g0 : (w1.alloc (.cells #[.string (B K), .string (B Z)] 73)).cell? ⟨w1.heap.size, 0, none⟩ = some (.string (B K)) := (Cells.new _ _ _).cell 0
        have g1 : (w1.alloc (.cells #[.string (B K), .string (B Z)] 73)).cell? ⟨w1.heap.size, 1, none⟩ = some (.string (B Z)) := (Cells.new _ _ _).cell 1
        have hz2' : w1.heap.size < (w1.alloc (.cells #[.string (B K), .string (B Z)] 73)).heap.size := by simp
        have B2 := Lib.hid b2
        have hlt2 : w.heap.size ≤ (w1.alloc (.cells #[.string (B K), .string (B Z)] 73)).heap.size := b2.size
        clear FU FU2 UF U hP b1 b2
        generalize w1.alloc (.cells #[.string (B K), .string (B Z)] 73) = w2 at *
        generalize w1.heap.size = bx at *
        have hl2 := P2.out.lt
        have q6 : w2.cell? ⟨b, 6, none⟩ = some (.slice a6 p.fields.length c6) := by rw [← e6]; exact P2.out.cells.cell 6
        have HC := Lib.hid P2.out.cells
        have HO := Lib.hid P2.out.r6
        have HE := Lib.hid (rowBlock_ne (w := w2) P2.out.tp P2.out.t6 (by decide))
        rw [e6] at HO HE
        have HF := Lib.hid (fun w' v6' hc hr hk ho => ParserV.field (p' := { p with fields := p.fields ++ [(K, Z)], said := [] }) P2.out (Nat.le_trans hR hlt2) (w' := w') v6' hc hr hk ho rfl rfl)
        go_wp2
        go_cut [] (fun wx => ∃ g' cap', Cells wx b 57 (pCells p text V.v1 V.v3 (.slice (some ⟨g', 0, none⟩) (p.fields.length + 1) cap')) ∧
          wx.ownsRow 0 73 2 (.slice (some ⟨g', 0, none⟩) (p.fields.length + 1) cap') (p.fields.length + 1) (cellsF p.fields ++ [.string (B K), .string (B Z)]) ∧
          sameOr w2.heap.size wx.heap.size V.v6.ownBlock (Value.slice (some ⟨g', 0, none⟩) (p.fields.length + 1) cap').ownBlock ∧ g' ≠ b ∧ Only (fun r => r = b ∨ some r = V.v6.ownBlock) w2 wx)
        case first =>
          go_region_law ((refine step_append_own rfl (.tmp 41) (.tmp 43) 40 rfl 73 i0 _ 2 32 Tryd.underlying40 hi hz0 hz1 hz2 rfl (by decide) (.slice a6 p.fields.length c6) p.fields.length (cellsF p.fields) (by simp [Act.eval, Act.put]) (by exact (HO.out.alloc _).drew) ⟨w2.heap.size, 0, none⟩ 1 1 [.string (B K), .string (B Z)] (by simp [Act.eval, Act.put]) rfl (cells_new_add w2 73 [.string (B K), .string (B Z)]) (by intro u hu; simp at hu; rcases hu with rfl | rfl <;> rfl) (by unfold maxLen; omega) (by omega) ?_); intro v' w' ho hgr hbk; obtain ⟨⟨g', cap', rfl⟩, hg', hbx, hk, hon⟩ := appended HC.out HO.out HE.out (((Below.refl _ w2).alloc (Nat.le_refl _) _).drew) ho hgr hbk; have k6' : w'.cell? ⟨b, 6, none⟩ = some V.v6 := hg'.cell 6; have kf6' := hg'.frozen 6)
          all_goals
            go_wp2
            go_meet
            have hvg : g' ≠ b := by
              intro e
              rcases hk with h | ⟨k, h, h2, _⟩
              · exact HE.out (h.symm.trans (by rw [e]; rfl))
              · have hh : g' = k := Option.some.inj (show some g' = some k from h)
                omega
            rw [← e6] at hk hon
            refine ⟨g', cap', ?_, row_cell (p := ⟨b, 6, none⟩) ho (fun e => hvg (by cases e; rfl)) _, ?_, hvg, (hon.mono (fun r _ h => .inr h)).setCell (p := ⟨b, 6, none⟩) (.inl (.inl rfl)) _⟩
            · simpa [pCells] using hg'.set 6 (.slice (some ⟨g', 0, none⟩) (p.fields.length + 1) cap')
            · unfold sameOr; simpa [World.setCell] using hk
        case rest =>
          obtain ⟨g', cap', hc, hr, hk, hvg, ho⟩ := hcut
          have k1 : wc.cell? ⟨b, 1, none⟩ = some V.v1 := hc.cell 1
          have kf1 := hc.frozen 1
          rw [e1] at k1
          go_wp2
          go_ret
          refine Exists.elim (HF.out _ (.slice (some ⟨g', 0, none⟩) (p.fields.length + 1) cap') ?k1 ?k2 ?k3 ?k4) fun T' g => FIN.out T' _ ⟨_, g.1⟩ ((PStep.below B2.out).trans g.2)
          case k1 => simpa [pCells] using hc.set 1 (.slice none 0 0)
          case k2 =>
            rw [cellsF_snoc, List.length_append]
            exact row_cell (p := ⟨b, 1, none⟩) hr (fun e => hvg (by cases e; rfl)) _
          case k3 => unfold sameOr at hk ⊢; simpa [World.setCell] using hk
          case k4 => exact ho.setCell (p := ⟨b, 1, none⟩) (.inl (.inl rfl)) _
    · rw [if_pos hu] at hn0
      have hup : 0 < unfoldN p.said := Nat.pos_of_ne_zero hu
      have FIN := Lib.hid (fun v w' h1 h2 => EndField.no (w := w) (T := T) (R := R) (b := b) (text := text) (p := p) (v := v) (w' := w') (by rw [hn0]; exact hu) h1 h2)
      rw [hn0] at FIN
      have hev := errV_pos _ hup
      have HEV := Lib.hid hev
      rw [hev] at UF
      generalize unfoldN p.said = n at *
      generalize unfoldK p.said = K at *
      generalize unfoldV p.said = Z at *
      unfold fieldV at UF
      clear h hsum heach hsv hev
      go_enter Tryd.func28, Tryd.ntmps28
      go_wp2_with fail
      refine U.mono ?_
      rintro e w1 ⟨rfl, rfl⟩
      go_wp2_with fail
      refine UF.mono ?_
      rintro e w1 ⟨rfl, b1⟩
      have hzb := b1.size
      have hP := H.out.below b1
      have r0 : w1.cell? ⟨b, 0, none⟩ = some (.int .i64 p.begin_) := hP.cells.cell 0
      have hl1 := hP.lt
      have b2 := b1.alloc hzb (.cells #[.string (B K), .string (B Z)] 73)
      have r1 : (w1.alloc (.cells #[.string (B K), .string (B Z)] 73)).cell? ⟨b, 0, none⟩ = some (.int .i64 p.begin_) := by
        rw [World.cell?_alloc_old _ _ _ (Nat.ne_of_lt hl1)]; exact r0
      go_wp2
      go_ret
      rw [← HEV.out]
      exact FIN.out _ _ (FaultAt.new _ _ n _ (w1.heap.size + 1) (by simp) (by omega)) (b2.alloc (by simp; omega) _)
end Go.Proofs.YtngngamfceoklaaDoor
