/- The field that is under way: start, goOn. -/
import Derived.Test.YtngngamfceoklaaDoorPB
namespace Go.Proofs.YtngngamfceoklaaDoor
open Go.RowKit

theorem saidCells_snoc (l : List (List UInt8)) (x : List UInt8) : saidCells (l ++ [x]) = saidCells l ++ [.string (B x)] := by unfold saidCells; simp
theorem infoStr0 : (Tryd.prog.info? 9).map (fun i => (i.zero, i.size, i.bytes)) = some (some (.string ⟨#[]⟩), 1, 16) := by kernel_rfl
theorem retag_both {w w' : World} {T : Nat → Nat} {R : Nat} {a o : Option Nat} {t : Nat} (low : ∀ k, T k ≠ 0 → R ≤ k ∧ k < w.heap.size) (hs : w.heap.size ≤ w'.heap.size) (hR : R ≤ w.heap.size) (h : sameOr w.heap.size w'.heap.size a o) (ha : tagged T a t) (ht : t ≠ 0) :
    ∀ k, retag T w.heap.size o t k ≠ 0 → R ≤ k ∧ k < w'.heap.size := by
  intro k hk
  unfold retag at hk
  split at hk
  · rename_i hn
    rcases h with h | ⟨j, h, _, h2⟩
    · have := low k (by rw [ha k (by rw [← h]; exact hn.2)]; exact ht); omega
    · have := hn.2; rw [h] at this; cases this; omega
  · have := low k hk; omega
/-- What is behind a step that turns the cells, and one row of the parser (the lines of the field). -/
theorem ParserV.said {w w' : World} {T : Nat → Nat} {R b : Nat} {text : ByteArray} {p p' : PS} {V : PV} (h : ParserV w T R b text p V) (hR : R ≤ w.heap.size) (v1' : Value)
    (hc : Cells w' b 57 (pCells p' text v1' V.v3 V.v6)) (hr : w'.ownsRow 0 9 1 v1' p'.said.length (saidCells p'.said)) (hk : sameOr w.heap.size w'.heap.size V.v1.ownBlock v1'.ownBlock)
    (ho : Only (fun r => r = b ∨ some r = V.v1.ownBlock) w w') (e1 : p'.items = p.items) (e2 : p'.fields = p.fields) :
    ∃ T', ParserV w' T' R b text p' { V with v1 := v1' } ∧ PStep w T w' T' := by
  have hs : ∀ k, T k ≠ 0 → T k ≠ 1 → T k ≠ 2 → w'.heap[k]? = w.heap[k]? := fun k h0 h1 h2 => ho.same k (h.low k h0).2 (by
    rintro (e | e)
    · exact h1 (by rw [e]; exact h.tp)
    · exact h2 (h.t1 k e.symm))
  have s : ∀ {o : Option Nat} {t : Nat}, tagged T o t → 3 ≤ t → ∀ k, o = some k → w'.heap[k]? = w.heap[k]? := fun ht hne k hk => hs k (by rw [ht k hk]; omega) (by rw [ht k hk]; omega) (by rw [ht k hk]; omega)
  have lo : ∀ {o : Option Nat} {t : Nat}, tagged T o t → t ≠ 0 → ∀ k, o = some k → k < w.heap.size := fun ht hne k hk => (h.low k (by rw [ht k hk]; exact hne)).2
  refine ⟨retag T w.heap.size v1'.ownBlock 2, ⟨hc, by rw [retag_old h.lt]; exact h.tp, hr, retag_same hk h.t1, ?_, retag_other h.t3 (lo h.t3 (by decide)), ?_, retag_other h.t6 (lo h.t6 (by decide)), by rw [e1]; exact h.nf, fun i it v h1 h2 => ?_, retag_both h.low ho.size hR hk h.t1 (by decide)⟩,
    ⟨ho.mono fun r hr' e => ?_, fun r hr' => by rw [retag_old hr']⟩⟩
  · rw [e1]; exact row_same h.r3 (s h.t3 (by decide))
  · rw [e2]; exact row_same h.r6 (s h.t6 (by decide))
  · obtain ⟨a, c⟩ := h.rf i it v (by rw [← e1]; exact h1) h2
    exact ⟨row_same a (s c (by decide)), retag_other c (lo c (by decide))⟩
  · rcases e with e | e
    · rw [e, h.tp]; decide
    · rw [h.t1 r e.symm]; decide

def startP (p : PS) (x : Ln) : PS := { p with begin_ := x.no, said := [x.text] }
set_option maxRecDepth 100000 in
set_option maxHeartbeats 2000000 in
theorem start_any {w : World} {T : Nat → Nat} {R b : Nat} {text : ByteArray} {p : PS} {V : PV} (h : ParserV w T R b text p V) (hR : R ≤ w.heap.size) (x : Ln) :
    Calls Tryd.prog 44 #[.pointer (some ⟨b, 0, none⟩), .agg #[.int .i64 x.no, .int .i64 x.at_, .string (B x.text), .bool x.ended]] w fun e w' => e = .returned (.tuple #[]) ∧ ∃ T', ParserAt w' T' R b text (startP p x) ∧ PStep w T w' T' := by
  have hl := h.lt
  have hcell := h.cells
  have k0 : w.cell? ⟨b, 0, none⟩ = some (.int .i64 p.begin_) := hcell.cell 0
  have k1 : w.cell? ⟨b, 1, none⟩ = some V.v1 := hcell.cell 1
  have kf0 := hcell.frozen 0
  have kf1 := hcell.frozen 1
  have HF := Lib.hid (fun w' v1' hc hr hk ho => ParserV.said (p' := startP p x) h hR (w' := w') v1' hc hr hk ho rfl rfl)
  have HC := Lib.hid hcell
  clear h hcell
  go_enter Tryd.func44, Tryd.ntmps44
  go_wp2
  go_region
  all_goals
    go_wp2
    go_end0
    refine ⟨rfl, ?_⟩
    refine Exists.elim (HF.out _ (.slice (some ⟨w.heap.size + 1, 0, none⟩) 1 1) ?c ?r ?k ?o) fun T' g => ⟨T', ⟨_, g.1⟩, g.2⟩
    case c =>
      have hc := ((((HC.out.set 0 (.int .i64 x.no)).set 1 (.slice (some ⟨w.heap.size + 1, 0, none⟩) 1 1)).alloc (.cells #[.int .i64 x.no, .int .i64 x.at_, .string (B x.text), .bool x.ended] 62)).alloc (.cells #[.string (B x.text)] 9)).drew
      simpa [pCells, startP] using hc
    case r =>
      have hz : (((w.setCell ⟨b, 0, none⟩ (.int .i64 x.no)).setCell ⟨b, 1, none⟩ (.slice (some ⟨w.heap.size + 1, 0, none⟩) 1 1)).alloc (.cells #[.int .i64 x.no, .int .i64 x.at_, .string (B x.text), .bool x.ended] 62)).heap.size = w.heap.size + 1 := by simp [World.setCell]
      have := World.ownsRow_lit (base := 0) (((w.setCell ⟨b, 0, none⟩ (.int .i64 x.no)).setCell ⟨b, 1, none⟩ (.slice (some ⟨w.heap.size + 1, 0, none⟩) 1 1)).alloc (.cells #[.int .i64 x.no, .int .i64 x.at_, .string (B x.text), .bool x.ended] 62)) (e := 9) (size := 1) #[.string (B x.text)] 1 (Nat.zero_le _) (by decide) rfl
      rw [hz] at this
      exact row_same this fun _ _ => rfl
    case k => exact .inr ⟨w.heap.size + 1, rfl, by omega, by simp [World.setCell, World.drew]⟩
    case o => exact ((((Only.refl _ w).setCell (p := ⟨b, 0, none⟩) (.inl (.inl rfl)) _).setCell (p := ⟨b, 1, none⟩) (.inl (.inl rfl)) _).alloc _).alloc _ |>.drew
theorem rowBlock_ne {w : World} {T : Nat → Nat} {b : Nat} {v : Value} {t : Nat} (hb : T b = 1) (ht : tagged T v.ownBlock t) (h : t ≠ 1) : v.ownBlock ≠ some b := fun e => h (by rw [← ht b e, hb])

def goOnP (p : PS) (x : Ln) : PS := { p with said := p.said ++ [x.text] }
set_option maxRecDepth 100000 in
set_option maxHeartbeats 2000000 in
theorem goOn_any {w : World} {T : Nat → Nat} {R b : Nat} {text : ByteArray} {p : PS} {V : PV} (h : ParserV w T R b text p V) (hR : R ≤ w.heap.size) (x : Ln) (hn : p.said.length ≤ 1000000) :
    Calls Tryd.prog 43 #[.pointer (some ⟨b, 0, none⟩), .agg #[.int .i64 x.no, .int .i64 x.at_, .string (B x.text), .bool x.ended]] w fun e w' => e = .returned (.tuple #[]) ∧ ∃ T', ParserAt w' T' R b text (goOnP p x) ∧ PStep w T w' T' := by
  obtain ⟨i0, hi, hz0, hz1, hz2⟩ := info_parts infoStr0
  have hl := h.lt
  have k1 : w.cell? ⟨b, 1, none⟩ = some V.v1 := h.cells.cell 1
  have HF := Lib.hid (fun w' v1' hc hr hk ho => ParserV.said (p' := goOnP p x) h hR (w' := w') v1' hc hr hk ho rfl rfl)
  have HC := Lib.hid h.cells
  have HO := Lib.hid h.r1
  have HE := Lib.hid (rowBlock_ne (w := w) h.tp h.t1 (by decide))
  clear h
  go_enter Tryd.func43, Tryd.ntmps43
  go_wp2
  go_region_law ((refine step_append_own rfl (.tmp 8) (.tmp 11) 53 rfl 9 i0 _ 1 16 Tryd.underlying53 hi hz0 hz1 hz2 rfl (by decide) V.v1 p.said.length (saidCells p.said) (by simp [Act.eval, Act.put]) (by exact ((HO.out.alloc _).alloc _).drew) ⟨w.heap.size + 1, 0, none⟩ 1 1 [.string (B x.text)] (by simp [Act.eval, Act.put]) rfl (by have := cells_new_add (w.alloc (.cells #[.int .i64 x.no, .int .i64 x.at_, .string (B x.text), .bool x.ended] 62)) 9 [.string (B x.text)]; rw [World.size_alloc] at this; exact this) (by intro u hu; simp at hu; subst hu; rfl) (by unfold maxLen; omega) (by omega) ?_); intro v' w' ho hgr hbk; obtain ⟨⟨g', cap', rfl⟩, hg', hbx, hk, hon⟩ := appended HC.out HO.out HE.out ((((Below.refl _ w).alloc (Nat.le_refl _) _).alloc (by simp) _).drew) ho hgr hbk; have k1' : w'.cell? ⟨b, 1, none⟩ = some V.v1 := hg'.cell 1; have kf1' := hg'.frozen 1)
  all_goals
    go_wp2
    go_end0
    have hvg : (Value.slice (some ⟨g', 0, none⟩) (p.said.length + 1) cap').ownBlock ≠ some b := by
      intro e
      rcases hk with h | ⟨k, h, h2, _⟩
      · exact HE.out (h.symm.trans e)
      · rw [h] at e; cases e; omega
    refine ⟨rfl, Exists.elim (HF.out _ (.slice (some ⟨g', 0, none⟩) (p.said.length + 1) cap') ?k1 ?k2 ?k3 ?k4) fun T' g => ⟨T', ⟨_, g.1⟩, g.2⟩⟩
    case k1 =>
      have hc := hg'.set 1 (.slice (some ⟨g', 0, none⟩) (p.said.length + 1) cap')
      simpa [pCells, goOnP] using hc
    case k2 =>
      have hr := row_cell (p := ⟨b, 1, none⟩) ho hvg (.slice (some ⟨g', 0, none⟩) (p.said.length + 1) cap')
      have e1 : (goOnP p x).said.length = p.said.length + 1 := by simp [goOnP]
      have e2 : saidCells (goOnP p x).said = saidCells p.said ++ [.string (B x.text)] := saidCells_snoc _ _
      rw [e1, e2]
      exact hr
    case k3 => unfold sameOr; simpa [World.setCell] using hk
    case k4 => exact (hon.mono (fun r _ h => .inr h)).setCell (p := ⟨b, 1, none⟩) (.inl (.inl rfl)) _
end Go.Proofs.YtngngamfceoklaaDoor
