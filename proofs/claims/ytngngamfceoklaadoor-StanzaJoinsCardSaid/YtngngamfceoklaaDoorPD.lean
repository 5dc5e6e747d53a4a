/- An item is put behind the others: endItem. -/
import Derived.Test.YtngngamfceoklaaDoorPC
import Derived.BigRegion
import Derived.Deep.DeepCutAuto
namespace Go.Proofs.YtngngamfceoklaaDoor
open Go.RowKit

theorem infoItem : (Tryd.prog.info? 42).map (fun i => (i.zero, i.size, i.bytes)) = some (some (.agg #[.int .i64 0, .string ⟨#[]⟩, .slice none 0 0]), 3, 48) := by kernel_rfl
theorem cut_text (text : ByteArray) (a e : Nat) : text.extract a e = B ((text.data.toList.take e).drop a) := by
  have h := Lib.extract_data text a e
  have h2 : (text.data.toList.take e).drop a = (text.data.toList.drop a).take (e - a) := by rw [List.drop_take]
  rw [h2, ← h, B_of]
/-- Blocks of one tag become blocks of another one. -/
def moved (T : Nat → Nat) (a c : Nat) : Nat → Nat := fun k => if T k = a then c else T k
theorem moved_other {T : Nat → Nat} {a c : Nat} {o : Option Nat} {t : Nat} (h : tagged T o t) (ht : t ≠ a) : tagged (moved T a c) o t := by
  intro k hk; unfold moved; rw [if_neg (by rw [h k hk]; exact ht)]; exact h k hk
theorem moved_it {T : Nat → Nat} {a c : Nat} {o : Option Nat} (h : tagged T o a) : tagged (moved T a c) o c := by
  intro k hk; unfold moved; rw [if_pos (h k hk)]
theorem moved_zero {T : Nat → Nat} {a c : Nat} (ha : a ≠ 0) (hc : c ≠ 0) (k : Nat) : moved T a c k = 0 ↔ T k = 0 := by
  unfold moved
  split
  · rename_i h; rw [h]; exact ⟨fun e => absurd e hc, fun e => absurd e ha⟩
  · exact Iff.rfl
theorem ParserV.item {w w' : World} {T : Nat → Nat} {R b : Nat} {text : ByteArray} {p p' : PS} {V : PV} (h : ParserV w T R b text p V) (hR : R ≤ w.heap.size) (v3' : Value) (it : It)
    (hc : Cells w' b 57 (pCells p' text V.v1 v3' (.slice none 0 0))) (hr : w'.ownsRow 0 42 3 v3' (p.items.length + 1) (itemsCells p.items V.fvs ++ itemCells it V.v6)) (hk : sameOr w.heap.size w'.heap.size V.v3.ownBlock v3'.ownBlock)
    (ho : Only (fun r => r = b ∨ some r = V.v3.ownBlock) w w') (e1 : p'.items = p.items ++ [it]) (e2 : p'.fields = []) (e3 : p'.said = p.said) (e4 : it.fields = p.fields) :
    ∃ T', ParserV w' T' R b text p' { V with v3 := v3', v6 := .slice none 0 0, fvs := V.fvs ++ [V.v6] } ∧ PStep w T w' T' := by
  have hs : ∀ k, T k ≠ 0 → T k ≠ 1 → T k ≠ 3 → w'.heap[k]? = w.heap[k]? := fun k h0 h1 h2 => ho.same k (h.low k h0).2 (by
    rintro (e | e)
    · exact h1 (by rw [e]; exact h.tp)
    · exact h2 (h.t3 k e.symm))
  have s : ∀ {o : Option Nat} {t : Nat}, tagged T o t → t ≠ 0 → t ≠ 1 → t ≠ 3 → ∀ k, o = some k → w'.heap[k]? = w.heap[k]? := fun ht h0 h1 h3 k hk => hs k (by rw [ht k hk]; exact h0) (by rw [ht k hk]; exact h1) (by rw [ht k hk]; exact h3)
  have lo : ∀ {o : Option Nat} {t : Nat}, tagged T o t → t ≠ 0 → ∀ k, o = some k → k < w.heap.size := fun ht hne k hk => (h.low k (by rw [ht k hk]; exact hne)).2
  have lowM : ∀ k, moved T 4 5 k ≠ 0 → R ≤ k ∧ k < w.heap.size := fun k hk => h.low k (fun e => hk ((moved_zero (by decide) (by decide) k).2 e))
  refine ⟨retag (moved T 4 5) w.heap.size v3'.ownBlock 3, ⟨hc, ?_, ?_, ?_, ?_, ?_, ?_, ?_, ?_, ?_, ?_⟩, ⟨ho.mono fun r hr' e => ?_, fun r hr' => by rw [retag_old hr']; exact moved_zero (by decide) (by decide) r⟩⟩
  · rw [retag_old h.lt]; unfold moved; rw [h.tp]; rfl
  · rw [e3]; exact row_same h.r1 (s h.t1 (by decide) (by decide) (by decide))
  · exact retag_other (moved_other h.t1 (by decide)) (lo h.t1 (by decide))
  · rw [e1, List.length_append, itemsCells_snoc _ _ _ _ h.nf]; exact hr
  · exact retag_same hk (moved_other h.t3 (by decide))
  · rw [e2]; exact ⟨by simp [cellsF], .inl ⟨rfl, rfl⟩⟩
  · exact fun k hk => by cases hk
  · rw [e1, List.length_append, List.length_append, h.nf]; rfl
  · intro i it' v h1 h2
    rw [e1] at h1
    dsimp only at h2
    rcases Nat.lt_or_ge i p.items.length with q | q
    · rw [List.getElem?_append_left q] at h1
      rw [List.getElem?_append_left (by rw [h.nf]; exact q)] at h2
      obtain ⟨a, c⟩ := h.rf i it' v h1 h2
      exact ⟨row_same a (s c (by decide) (by decide) (by decide)), retag_other (moved_other c (by decide)) (lo c (by decide))⟩
    · rw [List.getElem?_append_right q] at h1
      rw [List.getElem?_append_right (by rw [h.nf]; exact q), h.nf] at h2
      have hz : i - p.items.length = 0 := by
        rcases Nat.eq_zero_or_pos (i - p.items.length) with z | z
        · exact z
        · rw [List.getElem?_eq_none (by simp; omega)] at h1; cases h1
      rw [hz] at h1 h2
      cases h1; cases h2
      rw [e4]
      exact ⟨row_same h.r6 (s h.t6 (by decide) (by decide) (by decide)), retag_other (moved_it h.t6) (lo h.t6 (by decide))⟩
  · exact retag_both lowM ho.size hR hk (moved_other h.t3 (by decide)) (by decide)
  · rcases e with e | e
    · rw [e, h.tp]; decide
    · rw [h.t3 r e.symm]; decide

set_option maxRecDepth 100000 in
set_option maxHeartbeats 4000000 in
theorem endItem_any {w : World} {T : Nat → Nat} {R b : Nat} {text : ByteArray} {p : PS} {V : PV} (h : ParserV w T R b text p V) (hR : R ≤ w.heap.size) (kind e : Nat) (h1 : p.at_ ≤ e) (h2 : e ≤ text.size) (h3 : text.size ≤ 1000000) (hn : p.items.length ≤ 1000000) :
    Calls Tryd.prog 45 #[.pointer (some ⟨b, 0, none⟩), .int .i64 kind, .int .i64 e] w fun e' w' => e' = .returned (.tuple #[]) ∧ ∃ T', ParserAt w' T' R b text (endItemP text.data.toList p kind e) ∧ PStep w T w' T' := by
  obtain ⟨i0, hi, hz0, hz1, hz2⟩ := info_parts infoItem
  obtain ⟨a6, c6, e6, _⟩ := own_slice h.r6
  have hl := h.lt
  have HF := Lib.hid (fun w' v3' hc hr hk ho => ParserV.item (p' := endItemP text.data.toList p kind e) h hR (w' := w') v3' ⟨kind, (text.data.toList.take e).drop p.at_, p.fields⟩ hc hr hk ho rfl rfl rfl rfl)
  have HC := Lib.hid h.cells
  have HO := Lib.hid h.r3
  have HE := Lib.hid (rowBlock_ne (w := w) h.tp h.t3 (by decide))
  have HT := Lib.hid (cut_text text p.at_ e)
  have q3 : w.cell? ⟨b, 3, none⟩ = some V.v3 := h.cells.cell 3
  have q2 : w.cell? ⟨b, 2, none⟩ = some (.string text) := h.cells.cell 2
  have q5 : w.cell? ⟨b, 5, none⟩ = some (.int .i64 p.at_) := h.cells.cell 5
  have q6 : w.cell? ⟨b, 6, none⟩ = some (.slice a6 p.fields.length c6) := by rw [← e6]; exact h.cells.cell 6
  clear h
  go_enter Tryd.func45, Tryd.ntmps45
  go_wp2
  go_cut [] (fun wx => ∃ g' cap', Cells wx b 57 (pCells p text V.v1 (.slice (some ⟨g', 0, none⟩) (p.items.length + 1) cap') V.v6) ∧
    wx.ownsRow 0 42 3 (.slice (some ⟨g', 0, none⟩) (p.items.length + 1) cap') (p.items.length + 1) (itemsCells p.items V.fvs ++ [.int .i64 kind, .string (text.extract p.at_ e), .slice a6 p.fields.length c6]) ∧
    sameOr w.heap.size wx.heap.size V.v3.ownBlock (Value.slice (some ⟨g', 0, none⟩) (p.items.length + 1) cap').ownBlock ∧ g' ≠ b ∧ Only (fun r => r = b ∨ some r = V.v3.ownBlock) w wx)
  case first =>
    go_region_law ((refine step_append_own rfl (.tmp 10) (.tmp 27) 23 rfl 42 i0 _ 3 48 Tryd.underlying23 hi hz0 hz1 hz2 rfl (by decide) V.v3 p.items.length (itemsCells p.items V.fvs) (by simp [Act.eval, Act.put]) (by exact (HO.out.alloc _).drew) ⟨w.heap.size, 0, none⟩ 1 1 [.int .i64 kind, .string (text.extract p.at_ e), .slice a6 p.fields.length c6] (by simp [Act.eval, Act.put]) rfl (cells_new_add w 42 [.int .i64 kind, .string (text.extract p.at_ e), .slice a6 p.fields.length c6]) (by intro u hu; simp at hu; rcases hu with rfl | rfl | rfl <;> rfl) (by unfold maxLen; omega) (by omega) ?_); intro v' w' ho hgr hbk; obtain ⟨⟨g', cap', rfl⟩, hg', hbx, hk, hon⟩ := appended HC.out HO.out HE.out (((Below.refl _ w).alloc (Nat.le_refl _) _).drew) ho hgr hbk; have k3' : w'.cell? ⟨b, 3, none⟩ = some V.v3 := hg'.cell 3; have kf3' := hg'.frozen 3)
    all_goals
      go_wp2
      go_meet
      have hvg : g' ≠ b := by
        intro e
        rcases hk with h | ⟨k, h, h2, _⟩
        · exact HE.out (h.symm.trans (by rw [e]; rfl))
        · have hh : g' = k := Option.some.inj (show some g' = some k from h)
          omega
      refine ⟨g', cap', ?_, row_cell (p := ⟨b, 3, none⟩) ho (fun e => hvg (by cases e; rfl)) _, ?_, hvg, (hon.mono (fun r _ h => .inr h)).setCell (p := ⟨b, 3, none⟩) (.inl (.inl rfl)) _⟩
      · simpa [pCells] using hg'.set 3 (.slice (some ⟨g', 0, none⟩) (p.items.length + 1) cap')
      · unfold sameOr; simpa [World.setCell] using hk
  case rest =>
    obtain ⟨g', cap', hc, hr, hk, hvg, ho⟩ := hcut
    have k5 : wc.cell? ⟨b, 5, none⟩ = some (.int .i64 p.at_) := hc.cell 5
    have kf5 := hc.frozen 5
    have k6 : wc.cell? ⟨b, 6, none⟩ = some (.slice a6 p.fields.length c6) := by rw [← e6]; exact hc.cell 6
    have kf6 := hc.frozen 6
    go_wp2
    go_end0
    refine ⟨rfl, Exists.elim (HF.out _ (.slice (some ⟨g', 0, none⟩) (p.items.length + 1) cap') ?k1 ?k2 ?k3 ?k4) fun T' g => ⟨T', ⟨_, g.1⟩, g.2⟩⟩
    case k1 =>
      have := (hc.set 5 (.int .i64 e)).set 6 (.slice none 0 0)
      simpa [pCells, endItemP] using this
    case k2 =>
      have e9 : itemCells ⟨kind, (text.data.toList.take e).drop p.at_, p.fields⟩ V.v6 = [.int .i64 kind, .string (text.extract p.at_ e), .slice a6 p.fields.length c6] := by
        unfold itemCells; rw [HT.out, e6]
      rw [e9]
      exact row_cell (p := ⟨b, 6, none⟩) (row_cell (p := ⟨b, 5, none⟩) hr (fun e => hvg (by cases e; rfl)) _) (fun e => hvg (by cases e; rfl)) _
    case k3 => unfold sameOr at hk ⊢; simpa [World.setCell] using hk
    case k4 => exact (ho.setCell (p := ⟨b, 5, none⟩) (.inl (.inl rfl)) _).setCell (p := ⟨b, 6, none⟩) (.inl (.inl rfl)) _
end Go.Proofs.YtngngamfceoklaaDoor
