/- The reference's moved, on an empty disk. -/
import Derived.Test.YtdfjkcdmbbmipaaZF
namespace Go.Proofs.Ytdfjkcdmbbmipaa
open Go.RowKit Go.Maps
attribute [local go_sem ↓] Go.wp_at_zero Go.wp_at_succ
attribute [local go_sem] World.cell?_alloc_some

theorem infoRefMove : (Try.prog.info? 129).map (fun i => (i.zero, i.size, i.bytes)) = some (some (.agg #[.string ⟨#[]⟩, .string ⟨#[]⟩, .int .i64 0]), 3, 40) := by kernel_rfl
theorem cells3r {w : World} {b : Nat} {t : TypeId} {v0 v1 v2 : Value} (h : Cells w b t #[v0, v1, v2]) : w.cell? ⟨b, 0, none⟩ = some v0 ∧ w.cell? ⟨b, 1, none⟩ = some v1 ∧ w.cell? ⟨b, 2, none⟩ = some v2 :=
  ⟨h.cell 0, h.cell 1, h.cell 2⟩
set_option maxRecDepth 100000 in
set_option maxHeartbeats 4000000 in
theorem refmoved_e (r u l : Int) (a1 a2 a4 : Option Addr) (l1 l2 l4 p1 p2 p4 : Nat) (q g : Bool) (n : Int) (s t : ByteArray) (w : World) :
    Calls Try.prog 62 #[refV (.int .i64 r) (.slice a1 l1 p1) (.slice a2 l2 p2) (.slice none 0 0) (.int .i64 u) (.int .i64 l) (.bool q) (.bool g) (.slice a4 l4 p4), .agg #[.string s, .string t, .int .i64 n]] w
      fun e w' => (∃ b c, e = .returned (refV (.int .i64 r) (.slice a1 l1 p1) (.slice a2 l2 p2) (.slice (some ⟨b, 0, none⟩) 1 c) (.int .i64 u) (.int .i64 l) (.bool q) (.bool g) (.slice a4 l4 p4))) ∧ Below w.heap.size w w' := by
  obtain ⟨i0, hi, hz0, hz1, hz2⟩ := info_parts infoRefMove
  have B := Lib.hid (fun o : Obj => (Below.refl _ w).alloc (Nat.le_refl _) o)
  unfold refV
  go_enter Try.func62, Try.ntmps62
  go_wp2_with fail
  obtain ⟨W3, hW⟩ : ∃ W3, (((w.alloc (.cells #[.int .i64 r, .slice a1 l1 p1, .slice a2 l2 p2, .slice none 0 0, .int .i64 u, .int .i64 l, .bool q, .bool g, .slice a4 l4 p4] 37)).alloc (.cells #[.string s, .string t, .int .i64 n] 129)).alloc (.cells #[.int .i64 0, .slice none 0 0, .slice none 0 0, .slice none 0 0, .int .i64 0, .int .i64 0, .bool false, .bool false, .slice none 0 0] 37)) = W3 := ⟨_, rfl⟩
  rw [hW]
  have hsz : W3.heap.size = w.heap.size + 3 := by rw [← hW]; simp
  have hbl : Below w.heap.size w W3 := by rw [← hW]; exact ((((Below.refl _ _).alloc (Nat.le_refl _) _).alloc (by simp) _).alloc (by simp <;> omega) _)
  have HBL := Lib.hid hbl
  have B3 : Hid (∀ W', Below W3.heap.size W3 W' → Cells W' w.heap.size 37 #[.int .i64 r, .slice a1 l1 p1, .slice a2 l2 p2, .slice none 0 0, .int .i64 u, .int .i64 l, .bool q, .bool g, .slice a4 l4 p4] ∧ Cells W' (w.heap.size + 1) 129 #[.string s, .string t, .int .i64 n] ∧ Cells W' (w.heap.size + 1 + 1) 37 rows9) := fun W' hb' => by
    rw [hsz, ← hW] at hb'
    exact boxes3 hb'
  obtain ⟨C0, C1, C2⟩ := B3.out W3 (Below.refl _ _)
  have z8 := (cells9 C0).2.2.2.1
  obtain ⟨z0, z1, z2⟩ := cells3r C1
  have HSZ := Lib.hid hsz
  clear hbl hW C0 C1 C2 hsz
  have n8 := World.new_ne W3 _ z8; have n0 := World.new_ne W3 _ z0; have n1 := World.new_ne W3 _ z1; have n2 := World.new_ne W3 _ z2
  go_region_law ((first | (refine step_append_own rfl (.tmp 8) (.tmp 10) 34 rfl 129 i0 _ 3 40 Try.underlying34 hi hz0 hz1 hz2 rfl (by decide) (.slice (some ⟨W3.heap.size, 0, none⟩) 0 0) 0 [] rfl (by exact ((own_at _ (by simp) _ _).alloc _).drew) ⟨W3.heap.size + 1, 0, none⟩ 1 1 [.string s, .string t, .int .i64 n] rfl rfl (by exact new_at _ (by simp) _ _) (by intro u hu; simp at hu; rcases hu with rfl | rfl | rfl <;> rfl) (by unfold maxLen; omega) (by omega) ?_) | (refine step_append_own rfl (.tmp 8) (.tmp 10) 34 rfl 129 i0 _ 3 40 Try.underlying34 hi hz0 hz1 hz2 rfl (by decide) (.slice (some ⟨W3.heap.size + 1, 0, none⟩) 0 0) 0 [] rfl (by exact (own_at _ (by simp) _ _).drew) ⟨W3.heap.size, 0, none⟩ 1 1 [.string s, .string t, .int .i64 n] rfl rfl (by exact new_at2 _ (by simp) _ _ _) (by intro u hu; simp at hu; rcases hu with rfl | rfl | rfl <;> rfl) (by unfold maxLen; omega) (by omega) ?_)); intro v' w' ho hgr hbk; have hb : Below W3.heap.size W3 w' := Below.grown ((((Below.refl _ _).alloc (Nat.le_refl _) _).alloc (by simp) _).drew) hgr (by simp <;> omega) (fun k hk => by cases hk; dsimp only; omega); obtain ⟨g', cap', rfl⟩ := slice_of_own ho; obtain ⟨B0, B1, B2⟩ := B3.out w' hb; have BB := Lib.hid hb; have BR := Lib.hid B2; have d3 := (cells9 B0).2.2.2.1; have df := B0.frozen 3; obtain ⟨q0, q1, q2⟩ := cells3r B1; have HB0 := Lib.hid B0; clear hb B0 B1 B2 ho hgr hbk)
  all_goals
    obtain ⟨d0, d1, d2, _, d4, d5, d6, d7, d8⟩ := cells9 HB0.out
    obtain ⟨x0, x1, x2, x3, x4, x5, x6, x7, x8, xl, f0, f1, f2, f3, f4, f5, f6, f7, f8⟩ := Box9.of BR.out
    have HBW := Lib.hid ((HBL.out.trans (BB.out.mono HBL.out.size)).setCell (p := ⟨w.heap.size, 3, none⟩) (Nat.le_refl _) (.slice (some ⟨g', 0, none⟩) 1 cap'))
    have XR := Lib.hid (BR.out.other (p := ⟨w.heap.size, 3, none⟩) (by dsimp only; omega) (.slice (some ⟨g', 0, none⟩) 1 cap'))
    clear HB0 BR BB B3 HBL HSZ z0 z1 z2 z8 n0 n1 n2 n8 q0 q1 q2
    go_wp2
    refine bodyPost_ret (ret_box1 rfl _ _ (w.heap.size + 1 + 1) _ rfl (setBox_to XR.out _ _ _ _ _ _ _ _ _) rfl) rfl ?_
    exact ⟨⟨_, _, rfl⟩, setBox_below HBW.out (by omega) _ _ _ _ _ _ _ _ _⟩
end Go.Proofs.Ytdfjkcdmbbmipaa
