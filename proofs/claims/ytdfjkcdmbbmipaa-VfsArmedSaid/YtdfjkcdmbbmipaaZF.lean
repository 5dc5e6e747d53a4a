/- The reference's operations on an empty disk: SyncDir, Create. -/
import Derived.Test.YtdfjkcdmbbmipaaZE
import Derived.Deep.RegionLaw
import Derived.Deep.RegionHeld3
import Derived.Deep.DrawnRows
namespace Go.Proofs.Ytdfjkcdmbbmipaa
open Go.RowKit Go.Maps
attribute [local go_sem ↓] Go.wp_at_zero Go.wp_at_succ
attribute [local go_sem] World.cell?_alloc_some

def refV (c0 c1 c2 c3 c4 c5 c6 c7 c8 : Value) : Value := .agg #[c0, c1, c2, c3, c4, c5, c6, c7, c8]
set_option maxRecDepth 100000 in
set_option maxHeartbeats 2000000 in
theorem refunit_e (w : World) : Calls Try.prog 61 #[refE] w fun e w' => e = .returned (.tuple #[refV (.int .i64 0) (.slice none 0 0) (.slice none 0 0) (.slice none 0 0) (.int .i64 1) (.int .i64 0) (.bool false) (.bool false) (.slice none 0 0), .bool true]) ∧ Below w.heap.size w w' := by
  have B := Lib.hid (fun o : Obj => (Below.refl _ w).alloc (Nat.le_refl _) o)
  rw [refE_is]
  unfold refV
  go_enter Try.func61, Try.ntmps61
  go_wp2
  refine bodyPost_ret (ret_box rfl _ _ (w.heap.size + 1) #[.int .i64 0, .slice none 0 0, .slice none 0 0, .slice none 0 0, .int .i64 1, .int .i64 0, .bool false, .bool false, .slice none 0 0] rfl (by have := Cells.new (w.alloc (.cells #[.int .i64 0, .slice none 0 0, .slice none 0 0, .slice none 0 0, .int .i64 1, .int .i64 0, .bool false, .bool false, .slice none 0 0] 37)) 37 #[.int .i64 0, .slice none 0 0, .slice none 0 0, .slice none 0 0, .int .i64 1, .int .i64 0, .bool false, .bool false, .slice none 0 0]; rw [show (w.alloc (.cells #[.int .i64 0, .slice none 0 0, .slice none 0 0, .slice none 0 0, .int .i64 1, .int .i64 0, .bool false, .bool false, .slice none 0 0] 37)).heap.size = w.heap.size + 1 by simp] at this; exact this) rfl) rfl ?_
  exact ⟨rfl, (B.out _).alloc (by simp) _⟩
theorem results_cell1 {fn : Func} {p : Tmp} {ty : TypeId} (h : fn.results = #[.cell p ty]) (tmps : Array Value) (P : Program) (w : World) :
    (results fn tmps).run P w = ((asAddr (tmps.getD p undef)).run P w).andThen fun a w₁ => (loadVar ty a).run P w₁ := by
  simp only [results, h]
  simp [Sem.run_bind, Result.andThen]
set_option maxRecDepth 100000 in
theorem ret_box1 {fn : Func} {p : Tmp} (h : fn.results = #[.cell p 37]) (tmps : Array Value) (w : World) (b : Nat) (cur : Array Value) (hp : tmps.getD p undef = .pointer (some ⟨b, 0, none⟩))
    (hc : Cells w b 37 cur) (hz : cur.size = 9) : (results fn tmps).run Try.prog w = .ok (.agg cur) w := by
  have L := run_loadVar_row (P := Try.prog) w b 37 37 cur (0, 0) _ hc Try.underlying37 rfl (by rw [hz]; kernel_rfl)
  rw [results_cell1 h, hp]
  show (loadVar _ _).run _ _ = _
  exact L
/-- Three boxes behind what keeps what lay. -/
theorem boxes3 {w W' : World} {t0 t1 t2 : TypeId} {x0 x1 x2 : Array Value} (hb : Below (w.heap.size + 3) (((w.alloc (.cells x0 t0)).alloc (.cells x1 t1)).alloc (.cells x2 t2)) W') :
    Cells W' w.heap.size t0 x0 ∧ Cells W' (w.heap.size + 1) t1 x1 ∧ Cells W' (w.heap.size + 1 + 1) t2 x2 := by
  have e1 : (w.alloc (.cells x0 t0)).heap.size = w.heap.size + 1 := by simp
  have e2 : ((w.alloc (.cells x0 t0)).alloc (.cells x1 t1)).heap.size = w.heap.size + 1 + 1 := by simp
  have h0 := (((Cells.new w t0 x0).alloc (.cells x1 t1)).alloc (.cells x2 t2)).below hb (by omega)
  have h1 := ((Cells.new (w.alloc (.cells x0 t0)) t1 x1).alloc (.cells x2 t2)).below hb (by omega)
  have h2 := (Cells.new ((w.alloc (.cells x0 t0)).alloc (.cells x1 t1)) t2 x2).below hb (by omega)
  rw [e1] at h1
  rw [e2] at h2
  exact ⟨h0, h1, h2⟩
theorem own_empty (w : World) (e : TypeId) (size : Nat) : (w.alloc (.cells #[] e)).ownsRow 0 e size (.slice (some ⟨w.heap.size, 0, none⟩) 0 0) 0 [] :=
  ⟨by simp, .inr ⟨_, 0, #[], rfl, Nat.zero_le _, Cells.new w e #[], Nat.le_refl _, Nat.zero_le _, by simp, by simp⟩⟩
theorem own_at (w : World) {n : Nat} (hn : w.heap.size = n) (e : TypeId) (size : Nat) : (w.alloc (.cells #[] e)).ownsRow 0 e size (.slice (some ⟨n, 0, none⟩) 0 0) 0 [] := by
  subst hn; exact own_empty w e size
theorem new_at (w : World) {n : Nat} (hn : w.heap.size = n) (t : TypeId) (cs : List Value) : ∀ j u, cs[j]? = some u → (w.alloc (.cells cs.toArray t)).cell? ((⟨n, 0, none⟩ : Addr).add j) = some u := by
  subst hn; exact cells_new_add w t cs
theorem new_at2 (w : World) {n : Nat} (hn : w.heap.size = n) (t : TypeId) (cs : List Value) (o : Obj) : ∀ j u, cs[j]? = some u → ((w.alloc (.cells cs.toArray t)).alloc o).cell? ((⟨n, 0, none⟩ : Addr).add j) = some u := by
  intro j u hj
  subst hn
  have e : (⟨w.heap.size, 0, none⟩ : Addr).add j = ⟨w.heap.size, j, none⟩ := by unfold Addr.add; split <;> simp_all
  rw [e, ((Cells.new w t cs.toArray).alloc o).cell j, List.getElem?_toArray, hj]
theorem infoRefAct : (Try.prog.info? 95).map (fun i => (i.zero, i.size, i.bytes)) = some (some (.agg #[.int .i64 0, .string ⟨#[]⟩, .string ⟨#[]⟩, .string ⟨#[]⟩, .int .i64 0]), 5, 64) := by kernel_rfl
theorem cells5r {w : World} {b : Nat} {t : TypeId} {v0 v1 v2 v3 v4 : Value} (h : Cells w b t #[v0, v1, v2, v3, v4]) : w.cell? ⟨b, 0, none⟩ = some v0 ∧ w.cell? ⟨b, 1, none⟩ = some v1 ∧ w.cell? ⟨b, 2, none⟩ = some v2 ∧ w.cell? ⟨b, 3, none⟩ = some v3 ∧ w.cell? ⟨b, 4, none⟩ = some v4 :=
  ⟨h.cell 0, h.cell 1, h.cell 2, h.cell 3, h.cell 4⟩
theorem cells9 {w : World} {b : Nat} {t : TypeId} {v0 v1 v2 v3 v4 v5 v6 v7 v8 : Value} (h : Cells w b t #[v0, v1, v2, v3, v4, v5, v6, v7, v8]) : w.cell? ⟨b, 0, none⟩ = some v0 ∧ w.cell? ⟨b, 1, none⟩ = some v1 ∧ w.cell? ⟨b, 2, none⟩ = some v2 ∧ w.cell? ⟨b, 3, none⟩ = some v3 ∧ w.cell? ⟨b, 4, none⟩ = some v4 ∧ w.cell? ⟨b, 5, none⟩ = some v5 ∧ w.cell? ⟨b, 6, none⟩ = some v6 ∧ w.cell? ⟨b, 7, none⟩ = some v7 ∧ w.cell? ⟨b, 8, none⟩ = some v8 :=
  ⟨h.cell 0, h.cell 1, h.cell 2, h.cell 3, h.cell 4, h.cell 5, h.cell 6, h.cell 7, h.cell 8⟩
set_option maxRecDepth 100000 in
set_option maxHeartbeats 4000000 in
theorem refdid_e (r u l : Int) (a1 a2 a3 : Option Addr) (l1 l2 l3 p1 p2 p3 : Nat) (q g : Bool) (k n : Int) (s t x : ByteArray) (w : World) :
    Calls Try.prog 63 #[refV (.int .i64 r) (.slice a1 l1 p1) (.slice a2 l2 p2) (.slice a3 l3 p3) (.int .i64 u) (.int .i64 l) (.bool q) (.bool g) (.slice none 0 0), .agg #[.int .i64 k, .string s, .string t, .string x, .int .i64 n]] w
      fun e w' => (∃ b c, e = .returned (refV (.int .i64 r) (.slice a1 l1 p1) (.slice a2 l2 p2) (.slice a3 l3 p3) (.int .i64 u) (.int .i64 l) (.bool q) (.bool g) (.slice (some ⟨b, 0, none⟩) 1 c))) ∧ Below w.heap.size w w' := by
  obtain ⟨i0, hi, hz0, hz1, hz2⟩ := info_parts infoRefAct
  have B := Lib.hid (fun o : Obj => (Below.refl _ w).alloc (Nat.le_refl _) o)
  unfold refV
  go_enter Try.func63, Try.ntmps63
  go_wp2_with fail
  obtain ⟨W3, hW⟩ : ∃ W3, (((w.alloc (.cells #[.int .i64 r, .slice a1 l1 p1, .slice a2 l2 p2, .slice a3 l3 p3, .int .i64 u, .int .i64 l, .bool q, .bool g, .slice none 0 0] 37)).alloc (.cells #[.int .i64 k, .string s, .string t, .string x, .int .i64 n] 95)).alloc (.cells #[.int .i64 0, .slice none 0 0, .slice none 0 0, .slice none 0 0, .int .i64 0, .int .i64 0, .bool false, .bool false, .slice none 0 0] 37)) = W3 := ⟨_, rfl⟩
  rw [hW]
  have hsz : W3.heap.size = w.heap.size + 3 := by rw [← hW]; simp
  have hbl : Below w.heap.size w W3 := by rw [← hW]; exact ((((Below.refl _ _).alloc (Nat.le_refl _) _).alloc (by simp) _).alloc (by simp <;> omega) _)
  have HBL := Lib.hid hbl
  have B3 : Hid (∀ W', Below W3.heap.size W3 W' → Cells W' w.heap.size 37 #[.int .i64 r, .slice a1 l1 p1, .slice a2 l2 p2, .slice a3 l3 p3, .int .i64 u, .int .i64 l, .bool q, .bool g, .slice none 0 0] ∧ Cells W' (w.heap.size + 1) 95 #[.int .i64 k, .string s, .string t, .string x, .int .i64 n] ∧ Cells W' (w.heap.size + 1 + 1) 37 rows9) := fun W' hb' => by
    rw [hsz, ← hW] at hb'
    exact boxes3 hb'
  obtain ⟨C0, C1, C2⟩ := B3.out W3 (Below.refl _ _)
  have z8 := (cells9 C0).2.2.2.2.2.2.2.2
  obtain ⟨z0, z1, z2, z3, z4⟩ := cells5r C1
  have HSZ := Lib.hid hsz
  clear hbl hW C0 C1 C2 hsz
  have n8 := World.new_ne W3 _ z8; have n0 := World.new_ne W3 _ z0; have n1 := World.new_ne W3 _ z1; have n2 := World.new_ne W3 _ z2; have n3 := World.new_ne W3 _ z3; have n4 := World.new_ne W3 _ z4
  go_region_law ((first | (refine step_append_own rfl (.tmp 8) (.tmp 10) 35 rfl 95 i0 _ 5 64 Try.underlying35 hi hz0 hz1 hz2 rfl (by decide) (.slice (some ⟨W3.heap.size, 0, none⟩) 0 0) 0 [] rfl (by exact ((own_at _ (by simp) _ _).alloc _).drew) ⟨W3.heap.size + 1, 0, none⟩ 1 1 [.int .i64 k, .string s, .string t, .string x, .int .i64 n] rfl rfl (by exact new_at _ (by simp) _ _) (by intro u hu; simp at hu; rcases hu with rfl | rfl | rfl | rfl | rfl <;> rfl) (by unfold maxLen; omega) (by omega) ?_) | (refine step_append_own rfl (.tmp 8) (.tmp 10) 35 rfl 95 i0 _ 5 64 Try.underlying35 hi hz0 hz1 hz2 rfl (by decide) (.slice (some ⟨W3.heap.size + 1, 0, none⟩) 0 0) 0 [] rfl (by exact (own_at _ (by simp) _ _).drew) ⟨W3.heap.size, 0, none⟩ 1 1 [.int .i64 k, .string s, .string t, .string x, .int .i64 n] rfl rfl (by exact new_at2 _ (by simp) _ _ _) (by intro u hu; simp at hu; rcases hu with rfl | rfl | rfl | rfl | rfl <;> rfl) (by unfold maxLen; omega) (by omega) ?_)); intro v' w' ho hgr hbk; have hb : Below W3.heap.size W3 w' := Below.grown ((((Below.refl _ _).alloc (Nat.le_refl _) _).alloc (by simp) _).drew) hgr (by simp <;> omega) (fun k hk => by cases hk; dsimp only; omega); obtain ⟨g', cap', rfl⟩ := slice_of_own ho; obtain ⟨B0, B1, B2⟩ := B3.out w' hb; have BB := Lib.hid hb; have BR := Lib.hid B2; have d8 := (cells9 B0).2.2.2.2.2.2.2.2; have df := B0.frozen 8; obtain ⟨q0, q1, q2, q3, q4⟩ := cells5r B1; have HB0 := Lib.hid B0; clear hb B0 B1 B2 ho hgr hbk)
  all_goals
    obtain ⟨d0, d1, d2, d3, d4, d5, d6, d7, _⟩ := cells9 HB0.out
    obtain ⟨x0, x1, x2, x3, x4, x5, x6, x7, x8, xl, f0, f1, f2, f3, f4, f5, f6, f7, f8⟩ := Box9.of BR.out
    have HBW := Lib.hid ((HBL.out.trans (BB.out.mono HBL.out.size)).setCell (p := ⟨w.heap.size, 8, none⟩) (Nat.le_refl _) (.slice (some ⟨g', 0, none⟩) 1 cap'))
    have XR := Lib.hid (BR.out.other (p := ⟨w.heap.size, 8, none⟩) (by dsimp only; omega) (.slice (some ⟨g', 0, none⟩) 1 cap'))
    clear HB0 BR BB B3 HBL HSZ z0 z1 z2 z3 z4 z8 n0 n1 n2 n3 n4 n8 q0 q1 q2 q3 q4
    go_wp2
    refine bodyPost_ret (ret_box1 rfl _ _ (w.heap.size + 1 + 1) _ rfl (setBox_to XR.out _ _ _ _ _ _ _ _ _) rfl) rfl ?_
    exact ⟨⟨_, _, rfl⟩, setBox_below HBW.out (by omega) _ _ _ _ _ _ _ _ _⟩
end Go.Proofs.Ytdfjkcdmbbmipaa
