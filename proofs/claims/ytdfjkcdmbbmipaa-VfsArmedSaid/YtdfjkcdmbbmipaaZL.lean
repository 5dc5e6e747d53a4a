/- The law's do, at the empty reference disk. -/
import Derived.Test.YtdfjkcdmbbmipaaZK
import Derived.Test.YtdfjkcdmbbmipaaYH
import Derived.Deep.Cut
import Derived.Deep.RegionHeld3
namespace Go.Proofs.Ytdfjkcdmbbmipaa
open Go.RowKit Go.Maps

theorem num_still (n : Nat) (hn : n ≤ 1000) (w : World) : Calls Try.prog 32 #[errV n] w fun e w' => e = .returned (.int .i64 n) ∧ w' = w :=
  (num_any n hn w).mono fun e w' ⟨a, b⟩ => ⟨a, b.symm⟩
theorem DiskAt.setCell {w : World} {T : Nat → Nat} {p : Nat} {D : ADisk} (h : DiskAt w T p D) {a : Addr} (ha : T a.block = 0) (u : Value) : DiskAt (w.setCell a u) T p D := by
  obtain ⟨V, hV⟩ := h
  exact ⟨V, hV.same (fun b hb => Below.heap_setCell _ _ _ _ (fun e => hb (by rw [e]; exact ha))) (by simp)⟩
theorem DiskAt.drew {w : World} {T : Nat → Nat} {p : Nat} {D : ADisk} (h : DiskAt w T p D) : DiskAt w.drew T p D := by
  obtain ⟨V, hV⟩ := h
  exact ⟨V, hV.same (fun b hb => rfl) (Nat.le_refl _)⟩
theorem Step.setNew {w w' : World} {T T' : Nat → Nat} (h : Step w T w' T') {a : Addr} (ha : w.heap.size ≤ a.block) (u : Value) : Step w T (w'.setCell a u) T' :=
  ⟨⟨h.only.os, h.only.tape, h.only.output, by simpa using h.only.size, fun r hr hn => (Below.heap_setCell _ _ _ _ (by omega)).trans (h.only.same r hr hn)⟩, h.old⟩
theorem Step.drew {w w' : World} {T T' : Nat → Nat} (h : Step w T w' T') : Step w T w'.drew T' :=
  ⟨⟨h.only.os, h.only.tape, h.only.output, h.only.size, h.only.same⟩, h.old⟩
theorem setBox_disk {w : World} {T : Nat → Nat} {p : Nat} {D : ADisk} (h : DiskAt w T p D) {b : Nat} (hb : T b = 0) (v0 v1 v2 v3 v4 v5 v6 v7 v8 : Value) : DiskAt (setBox w b v0 v1 v2 v3 v4 v5 v6 v7 v8) T p D :=
  ((((((((h.setCell (a := ⟨b, 0, none⟩) hb v0).setCell (a := ⟨b, 1, none⟩) hb v1).setCell (a := ⟨b, 2, none⟩) hb v2).setCell (a := ⟨b, 3, none⟩) hb v3).setCell (a := ⟨b, 4, none⟩) hb v4).setCell (a := ⟨b, 5, none⟩) hb v5).setCell (a := ⟨b, 6, none⟩) hb v6).setCell (a := ⟨b, 7, none⟩) hb v7).setCell (a := ⟨b, 8, none⟩) hb v8
theorem setBox_step {w w' : World} {T T' : Nat → Nat} (h : Step w T w' T') {b : Nat} (hb : w.heap.size ≤ b) (v0 v1 v2 v3 v4 v5 v6 v7 v8 : Value) : Step w T (setBox w' b v0 v1 v2 v3 v4 v5 v6 v7 v8) T' :=
  ((((((((h.setNew (a := ⟨b, 0, none⟩) hb v0).setNew (a := ⟨b, 1, none⟩) hb v1).setNew (a := ⟨b, 2, none⟩) hb v2).setNew (a := ⟨b, 3, none⟩) hb v3).setNew (a := ⟨b, 4, none⟩) hb v4).setNew (a := ⟨b, 5, none⟩) hb v5).setNew (a := ⟨b, 6, none⟩) hb v6).setNew (a := ⟨b, 7, none⟩) hb v7).setNew (a := ⟨b, 8, none⟩) hb v8
def Kept (w : World) (T T1 : Nat → Nat) (p : Nat) (D1 : ADisk) (c0 c1 c2 c3 c4 c5 c6 c7 c8 : Value) (w' : World) : Prop :=
  Cells w' w.heap.size 37 #[c0, c1, c2, c3, c4, c5, c6, c7, c8] ∧ (∃ cur, cur.size = 9 ∧ Cells w' (w.heap.size + 1 + 1) 37 cur) ∧ DiskAt w' T1 p D1 ∧ Step w T w' T1
theorem Kept.drew {w : World} {T T1 : Nat → Nat} {p : Nat} {D1 : ADisk} {c0 c1 c2 c3 c4 c5 c6 c7 c8 : Value} {w' : World} (h : Kept w T T1 p D1 c0 c1 c2 c3 c4 c5 c6 c7 c8 w') : Kept w T T1 p D1 c0 c1 c2 c3 c4 c5 c6 c7 c8 w'.drew := by
  obtain ⟨h1, ⟨cur, hz, h2⟩, h3, h4⟩ := h
  exact ⟨h1.drew, ⟨cur, hz, h2.drew⟩, h3.drew, h4.drew⟩
theorem Kept.store {w : World} {T T1 : Nat → Nat} {p : Nat} {D1 : ADisk} {c0 c1 c2 c3 c4 c5 c6 c7 c8 : Value} {w' : World} (h : Kept w T T1 p D1 c0 c1 c2 c3 c4 c5 c6 c7 c8 w') (hT : T1 (w.heap.size + 1 + 1) = 0) : Kept w T T1 p D1 c0 c1 c2 c3 c4 c5 c6 c7 c8 (setBox w' (w.heap.size + 1 + 1) c0 c1 c2 c3 c4 c5 c6 c7 c8) := by
  obtain ⟨h1, ⟨cur, hz, h2⟩, h3, h4⟩ := h
  obtain ⟨cur', hz', h2'⟩ := setBox_cells h2 hz c0 c1 c2 c3 c4 c5 c6 c7 c8
  exact ⟨setBox_other h1 (by omega) _ _ _ _ _ _ _ _ _, ⟨cur', hz', h2'⟩, setBox_disk h3 hT _ _ _ _ _ _ _ _ _, setBox_step h4 (by omega) _ _ _ _ _ _ _ _ _⟩
/-- What do leaves. -/
def DoR (t : Int) (n p : Nat) (D : ADisk) (w : World) (T : Nat → Nat) (e : Ending) (w' : World) : Prop :=
  (∃ (m : Value) (b : Bool), e = .returned (.tuple #[m, .bool b])) ∧ ∃ T' D', DiskAt w' T' p D' ∧ Fine (n + 402) D' ∧ Arms t D D' ∧ Step w T w' T'
theorem rows9_new (w : World) (t : TypeId) : Cells (w.alloc (.cells rows9 t)) w.heap.size t rows9 := Cells.new w t rows9
def opV (kind k : Int) (name text : ByteArray) (ao : Option Addr) (l c : Nat) : Value := .agg #[.int .i64 kind, .int .i64 k, .string name, .string text, .slice ao l c]
set_option maxRecDepth 100000 in
set_option maxHeartbeats 8000000 in
theorem do_create {w : World} {T : Nat → Nat} {p n : Nat} {D : ADisk} {t : Int} (hA : DiskAt w T p D) (hf : Fine n D) (hn : n ≤ 200000) (ha : Arm t D) (kind k : Int) (name text : ByteArray) (ao : Option Addr) (l c : Nat)
    (hnm : name.size ≤ 100) (htx : text.size ≤ 200) (hk1 : -9223372036854775808 ≤ k) (hk2 : k ≤ 9223372036854775807) (hk : kind = 1) :
    Calls Try.prog 12 #[.pointer (some ⟨p, 0, none⟩), refE, opV kind k name text ao l c] w (DoR t n p D w T) := by
  subst hk
  have hlow := hA.low
  have Z0 : ∀ b, w.heap.size ≤ b → T b = 0 := fun b hb => by
    rcases Nat.eq_zero_or_pos (T b) with h | h
    · exact h
    · have := hlow b (by omega); omega
  have B3 : Below w.heap.size w (((w.alloc (.cells rows9 37)).alloc (.cells #[.int .i64 1, .int .i64 k, .string name, .string text, .slice ao l c] 40)).alloc (.cells rows9 37)) :=
    (((Below.refl _ w).alloc (Nat.le_refl _) _).alloc (by simp) _).alloc (by simp <;> omega) _
  have C4 := ((Cells.new w 37 rows9).alloc (.cells #[.int .i64 1, .int .i64 k, .string name, .string text, .slice ao l c] 40)).alloc (.cells rows9 37)
  have C5 := (Cells.new (w.alloc (.cells rows9 37)) 40 #[.int .i64 1, .int .i64 k, .string name, .string text, .slice ao l c]).alloc (.cells rows9 37)
  have C6 := Cells.new ((w.alloc (.cells rows9 37)).alloc (.cells #[.int .i64 1, .int .i64 k, .string name, .string text, .slice ao l c] 40)) 37 rows9
  simp only [World.size_alloc] at C5 C6
  have hA0 := hA.below B3
  have S0 : Step w T _ T := Step.below B3
  have CA := Lib.hid (create_arm hA0 hf hn ha name (by omega))
  have B3H := Lib.hid S0
  have C4H := Lib.hid C4
  have C5H := Lib.hid C5
  have C6H := Lib.hid C6
  have Z0H := Lib.hid Z0
  clear hA hA0 hlow B3 C4 C5 C6 Z0 S0
  rw [refE_is]
  unfold opV
  unfold rows9 at CA B3H C4H C5H C6H
  go_enter Try.func12, Try.ntmps12
  go_wp2_with fail
  refine CA.out.mono ?_
  rintro e w1 ⟨⟨en, hen, rfl⟩, T1, D1, hd1, hf1, ha1, hs1⟩
  have K4 := hs1.cells C4H.out (Z0H.out _ (by omega))
  have K5 := hs1.cells C5H.out (Z0H.out _ (by omega))
  have K6 := hs1.cells C6H.out (Z0H.out _ (by omega))
  have hsz := B3H.out.only.size
  have TZ : ∀ b, w.heap.size ≤ b → b < w.heap.size + 3 → T1 b = 0 := fun b hb hb3 => by
    rw [hs1.old b (by simp; omega)]; exact Z0H.out b hb
  have TZ4 := Lib.hid (TZ w.heap.size (by omega) (by omega))
  have TZ6 := Lib.hid (TZ (w.heap.size + 1 + 1) (by omega) (by omega))
  have S1 := Lib.hid (B3H.out.trans hs1)
  have D1H := Lib.hid hd1
  have F1 := Lib.hid hf1
  have A1 := Lib.hid ha1
  clear TZ hs1 hd1 hf1 ha1 CA B3H C4H C5H C6H Z0H
  obtain ⟨b0, b1, b2, b3, b4, b5, b6, b7, b8, bl, _⟩ := Box9.of K4
  have d0 := K5.cell 0
  have d1 := K5.cell 1
  have d2 := K5.cell 2
  have d3 := K5.cell 3
  simp only [List.getElem?_toArray, List.getElem?_cons_zero, List.getElem?_cons_succ] at d0 d1 d2 d3
  have K4H := Lib.hid K4
  have K6H := Lib.hid K6
  have k5 := K5.lt
  clear K4 K5 K6
  have RF := Lib.hid (refcreate_e name (by omega) w1)
  rw [refE_is] at RF
  go_wp2_with fail
  refine RF.out.mono ?_
  intro e w2 h2
  obtain ⟨⟨c0, c1, c2, c3, c4, c5, c6, c7, c8, rn, hone, rfl⟩, hb2⟩ := h2.nine
  obtain ⟨o0, o1, o2, o3, o4, o5, o6, o7, o8⟩ := all9 hone
  have r0 := fun w a m => run_store Try.prog w a c0 m o0
  have r1 := fun w a m => run_store Try.prog w a c1 m o1
  have r2 := fun w a m => run_store Try.prog w a c2 m o2
  have r3 := fun w a m => run_store Try.prog w a c3 m o3
  have r4 := fun w a m => run_store Try.prog w a c4 m o4
  have r5 := fun w a m => run_store Try.prog w a c5 m o5
  have r6 := fun w a m => run_store Try.prog w a c6 m o6
  have r7 := fun w a m => run_store Try.prog w a c7 m o7
  have r8 := fun w a m => run_store Try.prog w a c8 m o8
  clear hone o0 o1 o2 o3 o4 o5 o6 o7 o8
  have L4 := K4H.out.below hb2 K4H.out.lt
  have L6 := K6H.out.below hb2 K6H.out.lt
  have HD2 := D1H.out.below hb2
  have HS2 := S1.out.trans (Step.below hb2)
  clear b0 b1 b2 b3 b4 b5 b6 b7 b8 bl d0 d1 d2 d3 hb2 h2 K4H K6H D1H S1 RF k5
  obtain ⟨b0, b1, b2, b3, b4, b5, b6, b7, b8, bl, f0, f1, f2, f3, f4, f5, f6, f7, f8⟩ := Box9.of L4
  have X4 := setBox_to L4 c0 c1 c2 c3 c4 c5 c6 c7 c8
  have X6' := setBox_other L6 (b := w.heap.size) (by omega) c0 c1 c2 c3 c4 c5 c6 c7 c8
  have HD' := setBox_disk HD2 TZ4.out c0 c1 c2 c3 c4 c5 c6 c7 c8
  have HS' := setBox_step HS2 (b := w.heap.size) (Nat.le_refl _) c0 c1 c2 c3 c4 c5 c6 c7 c8
  have X4H := Lib.hid X4
  have X6 := Lib.hid X6'
  have HD := Lib.hid HD'
  have HS := Lib.hid HS'
  clear L4 L6 HD2 HS2 X4 X6' HD' HS'
  go_upto_region 37 with fail
  obtain ⟨W3, hW3⟩ : ∃ W, setBox w2 w.heap.size c0 c1 c2 c3 c4 c5 c6 c7 c8 = W := ⟨_, rfl⟩
  have X4 := X4H.out
  have X6' := X6.out
  have HD' := HD.out
  have HS' := HS.out
  rw [hW3] at X4 X6' HD' HS'
  clear X4H X6 HD HS
  have X6 := Lib.hid X6'
  have HD := Lib.hid HD'
  have HS := Lib.hid HS'
  unfold setBox at hW3
  rw [hW3]
  clear hW3 b0 b1 b2 b3 b4 b5 b6 b7 b8 bl f0 f1 f2 f3 f4 f5 f6 f7 f8 X6' HD' HS' TZ4
  have KD : Hid (Kept w T T1 p D1 c0 c1 c2 c3 c4 c5 c6 c7 c8 W3) := ⟨X4, ⟨rows9, rfl, X6.out⟩, HD.out, HS.out⟩
  clear X4 X6 HD HS
  have hqq : (((en : Int) == rn) = true ∧ (en : Int) = rn) ∨ (((en : Int) == rn) = false ∧ ¬ (en : Int) = rn) := by
    by_cases h : (en : Int) = rn
    · exact .inl ⟨by simpa using h, h⟩
    · exact .inr ⟨by simpa using h, h⟩
  rcases hqq with ⟨hq1, hq⟩ | ⟨hq1, hq⟩
  · refine wp_region_held_drew (S := Kept w T T1 p D1 c0 c1 c2 c3 c4 c5 c6 c7 c8) (by kernel_rfl) KD.out.drew (fun hHeld => ?_)
    clear KD
    generalize W3.drew = W4 at *
    refine wpAnyH_take (i := 0) (oi := { dst := some 162, op := Op.load 37 (Operand.tmp 4), type := 37, pos := "law.go:98", after := #[], guard := none }) (v := ?_) rfl (by kernel_rfl) (by kernel_rfl) (by kernel_rfl) (fun _ _ _ h => h) (Or.inl ⟨by rfl, ?_⟩) (by assumption) ?_
    rotate_left
    · intro w hSw; obtain ⟨h4, _⟩ := hSw; obtain ⟨b0, b1, b2, b3, b4, b5, b6, b7, b8⟩ := cells9 h4; clear h4; go_simp; (try with_reducible rfl)
    (try simp only [Act.put, List.setIfInBounds_toArray, List.set_cons_zero, List.set_cons_succ])
    refine wpAnyH_take (i := 1) (oi := { dst := some 163, op := Op.move (Operand.tmp 8), type := 27, pos := "law.go:98", after := #[], guard := none }) (v := ?_) rfl (by kernel_rfl) (by kernel_rfl) (by kernel_rfl) (fun _ _ _ h => h) (Or.inl ⟨by rfl, ?_⟩) (by assumption) ?_
    rotate_left
    · intro w hSw; clear hSw; go_simp; (try with_reducible rfl)
    (try simp only [Act.put, List.setIfInBounds_toArray, List.set_cons_zero, List.set_cons_succ])
    refine wpAnyH_take (i := 3) (oi := { dst := some 165, op := Op.move (Operand.tmp 9), type := 3, pos := "law.go:98", after := #[], guard := none }) (v := ?_) rfl (by kernel_rfl) (by kernel_rfl) (by kernel_rfl) (fun _ _ _ h => h) (Or.inl ⟨by rfl, ?_⟩) (by assumption) ?_
    rotate_left
    · intro w hSw; clear hSw; go_simp; (try with_reducible rfl)
    (try simp only [Act.put, List.setIfInBounds_toArray, List.set_cons_zero, List.set_cons_succ])
    refine wpAnyH_ready (rs := [2]) (by kernel_rfl) (by simp) ?_
    refine AllReadyH.cons (o := { dst := some 164, op := Op.call { callee := Callee.value (Operand.func 32), args := #[Operand.tmp 163], argTypes := #[27] }, type := 3, pos := "law.go:98", after := #[{ on := 1, ground := Ground.data }], guard := none }) rfl (fun K hK => ?_) AllReadyH.nil
    go_simp
    go_at_call 32
    refine (num_any en (by omega) _).mono ?_
    rintro e w5 ⟨rfl, rfl⟩
    refine hK.out _ _ hHeld (fun hHeld2 => ?_)
    clear hK K hHeld
    (try simp only [Act.put, List.setIfInBounds_toArray, List.set_cons_zero, List.set_cons_succ])
    refine wpAnyH_take (i := 4) (oi := { dst := some 166, op := Op.binOp BinOp.eql 3 (Operand.tmp 164) (Operand.tmp 165) 3, type := 4, pos := "law.go:98", after := #[{ on := 2, ground := Ground.data }, { on := 3, ground := Ground.data }], guard := none }) (v := ?_) rfl (by kernel_rfl) (by kernel_rfl) (by kernel_rfl) (fun _ _ _ h => h) (Or.inl ⟨by rfl, ?_⟩) (by assumption) ?_
    rotate_left
    · intro w hSw; clear hSw; go_simp; (try with_reducible rfl)
    (try simp only [Act.put, List.setIfInBounds_toArray, List.set_cons_zero, List.set_cons_succ])
    refine wpAnyH_take (i := 5) (oi := { dst := some 167, op := Op.move (Operand.tmp 166), type := 4, pos := "law.go:98", after := #[{ on := 4, ground := Ground.data }, { on := 2, ground := Ground.chain }], guard := none }) (v := ?_) rfl (by kernel_rfl) (by kernel_rfl) (by kernel_rfl) (fun _ _ _ h => h) (Or.inl ⟨by rfl, ?_⟩) (by assumption) ?_
    rotate_left
    · intro w hSw; clear hSw; go_simp; (try with_reducible rfl)
    (try simp only [Act.put, List.setIfInBounds_toArray, List.set_cons_zero, List.set_cons_succ])
    refine wpAnyH_take (i := 6) (oi := { dst := some 168, op := Op.move (Operand.tmp 10), type := 4, pos := "law.go:98", after := #[{ on := 5, ground := Ground.guard }, { on := 8, ground := Ground.gcOnly Departure.lateStores }], guard := some (5, true) }) (v := ?_) rfl (by kernel_rfl) (by kernel_rfl) (by kernel_rfl) (fun _ _ _ h => h) (Or.inl ⟨by rfl, ?_⟩) (by assumption) ?_
    rotate_left
    · intro w hSw; clear hSw; go_simp; (try with_reducible rfl)
    (try simp only [Act.put, List.setIfInBounds_toArray, List.set_cons_zero, List.set_cons_succ])
    refine wpAnyH_take (i := 7) (oi := { dst := some 169, op := Op.pick (Operand.tmp 167) (Operand.tmp 168) (Operand.const (Value.bool false)), type := 4, pos := "law.go:98", after := #[{ on := 5, ground := Ground.data }, { on := 6, ground := Ground.data }, { on := 8, ground := Ground.gcOnly Departure.lateStores }], guard := none }) (v := ?_) rfl (by kernel_rfl) (by kernel_rfl) (by kernel_rfl) (fun _ _ _ h => h) (Or.inl ⟨by rfl, ?_⟩) (by assumption) ?_
    rotate_left
    · intro w hSw; clear hSw; go_simp; (try with_reducible rfl)
    (try simp only [Act.put, List.setIfInBounds_toArray, List.set_cons_zero, List.set_cons_succ])
    refine wpAnyH_ready (rs := [8]) (by kernel_rfl) (by simp) ?_
    refine AllReadyH.cons (o := { dst := none, op := Op.store 37 (Operand.tmp 6) (Operand.tmp 162), type := 0, pos := "law.go:98", after := #[{ on := 0, ground := Ground.data }, { on := 5, ground := Ground.chain }, { on := 0, ground := Ground.phase }, { on := 1, ground := Ground.textOnly Departure.lateStores }, { on := 2, ground := Ground.textOnly Departure.lateStoresUnsure }, { on := 3, ground := Ground.textOnly Departure.lateStores }, { on := 4, ground := Ground.textOnly Departure.lateStores }, { on := 5, ground := Ground.textOnly Departure.lateStores }, { on := 6, ground := Ground.textOnly Departure.lateStores }, { on := 7, ground := Ground.textOnly Departure.lateStores }], guard := none }) rfl (fun K hK => ?_) AllReadyH.nil
    have KS := Lib.hid (Kept.store hHeld2 TZ6.out)
    obtain ⟨_, ⟨cur, hz, h6⟩, _, _⟩ := hHeld2
    obtain ⟨x0, x1, x2, x3, x4, x5, x6, x7, x8, rfl⟩ := array9 hz
    obtain ⟨y0, y1, y2, y3, y4, y5, y6, y7, y8⟩ := cells9 h6
    have f0 := h6.frozen 0; have f1 := h6.frozen 1; have f2 := h6.frozen 2; have f3 := h6.frozen 3; have f4 := h6.frozen 4; have f5 := h6.frozen 5; have f6 := h6.frozen 6; have f7 := h6.frozen 7; have f8 := h6.frozen 8
    clear h6 hz
    go_simp
    refine hK.out _ _ KS.out (fun hHeld3 => ?_)
    clear hK K y0 y1 y2 y3 y4 y5 y6 y7 y8 f0 f1 f2 f3 f4 f5 f6 f7 f8
    (try simp only [Act.put, List.setIfInBounds_toArray, List.set_cons_zero, List.set_cons_succ])
    refine wpAnyH_take (i := 9) (oi := { dst := some 7, op := Op.assign (Operand.tmp 169), type := 4, pos := "law.go:98", after := #[{ on := 7, ground := Ground.data }, { on := 8, ground := Ground.chain }, { on := 0, ground := Ground.phase }, { on := 1, ground := Ground.phase }, { on := 2, ground := Ground.phase }, { on := 3, ground := Ground.phase }, { on := 4, ground := Ground.phase }, { on := 5, ground := Ground.phase }, { on := 6, ground := Ground.phase }, { on := 7, ground := Ground.phase }, { on := 8, ground := Ground.phase }], guard := none }) (v := ?_) rfl (by kernel_rfl) (by kernel_rfl) (by kernel_rfl) (fun _ _ _ h => h) (Or.inl ⟨by rfl, ?_⟩) (by assumption) ?_
    rotate_left
    · intro w hSw; clear hSw; go_simp; (try with_reducible rfl)
    (try simp only [Act.put, List.setIfInBounds_toArray, List.set_cons_zero, List.set_cons_succ])
    refine wpAnyH_done (by kernel_rfl) ?_ _
    (try simp only [Act.put, List.setIfInBounds_toArray, List.set_cons_zero, List.set_cons_succ])
    obtain ⟨_, ⟨cur', hz', hc'⟩, hdF, hsF⟩ := KS.out
    go_wp2
    refine bodyPost_ret (ret_box rfl _ _ (w.heap.size + 1 + 1) cur' rfl hc' hz') rfl ?_
    exact ⟨⟨_, _, rfl⟩, T1, D1, hdF, F1.out, A1.out, hsF⟩
  · refine wp_region_held_drew (S := Kept w T T1 p D1 c0 c1 c2 c3 c4 c5 c6 c7 c8) (by kernel_rfl) KD.out.drew (fun hHeld => ?_)
    clear KD
    generalize W3.drew = W4 at *
    refine wpAnyH_take (i := 0) (oi := { dst := some 162, op := Op.load 37 (Operand.tmp 4), type := 37, pos := "law.go:98", after := #[], guard := none }) (v := ?_) rfl (by kernel_rfl) (by kernel_rfl) (by kernel_rfl) (fun _ _ _ h => h) (Or.inl ⟨by rfl, ?_⟩) (by assumption) ?_
    rotate_left
    · intro w hSw; obtain ⟨h4, _⟩ := hSw; obtain ⟨b0, b1, b2, b3, b4, b5, b6, b7, b8⟩ := cells9 h4; clear h4; go_simp; (try with_reducible rfl)
    (try simp only [Act.put, List.setIfInBounds_toArray, List.set_cons_zero, List.set_cons_succ])
    refine wpAnyH_take (i := 1) (oi := { dst := some 163, op := Op.move (Operand.tmp 8), type := 27, pos := "law.go:98", after := #[], guard := none }) (v := ?_) rfl (by kernel_rfl) (by kernel_rfl) (by kernel_rfl) (fun _ _ _ h => h) (Or.inl ⟨by rfl, ?_⟩) (by assumption) ?_
    rotate_left
    · intro w hSw; clear hSw; go_simp; (try with_reducible rfl)
    (try simp only [Act.put, List.setIfInBounds_toArray, List.set_cons_zero, List.set_cons_succ])
    refine wpAnyH_take (i := 3) (oi := { dst := some 165, op := Op.move (Operand.tmp 9), type := 3, pos := "law.go:98", after := #[], guard := none }) (v := ?_) rfl (by kernel_rfl) (by kernel_rfl) (by kernel_rfl) (fun _ _ _ h => h) (Or.inl ⟨by rfl, ?_⟩) (by assumption) ?_
    rotate_left
    · intro w hSw; clear hSw; go_simp; (try with_reducible rfl)
    (try simp only [Act.put, List.setIfInBounds_toArray, List.set_cons_zero, List.set_cons_succ])
    refine wpAnyH_ready (rs := [2]) (by kernel_rfl) (by simp) ?_
    refine AllReadyH.cons (o := { dst := some 164, op := Op.call { callee := Callee.value (Operand.func 32), args := #[Operand.tmp 163], argTypes := #[27] }, type := 3, pos := "law.go:98", after := #[{ on := 1, ground := Ground.data }], guard := none }) rfl (fun K hK => ?_) AllReadyH.nil
    go_simp
    go_at_call 32
    refine (num_any en (by omega) _).mono ?_
    rintro e w5 ⟨rfl, rfl⟩
    refine hK.out _ _ hHeld (fun hHeld2 => ?_)
    clear hK K hHeld
    (try simp only [Act.put, List.setIfInBounds_toArray, List.set_cons_zero, List.set_cons_succ])
    refine wpAnyH_take (i := 4) (oi := { dst := some 166, op := Op.binOp BinOp.eql 3 (Operand.tmp 164) (Operand.tmp 165) 3, type := 4, pos := "law.go:98", after := #[{ on := 2, ground := Ground.data }, { on := 3, ground := Ground.data }], guard := none }) (v := ?_) rfl (by kernel_rfl) (by kernel_rfl) (by kernel_rfl) (fun _ _ _ h => h) (Or.inl ⟨by rfl, ?_⟩) (by assumption) ?_
    rotate_left
    · intro w hSw; clear hSw; go_simp; (try with_reducible rfl)
    (try simp only [Act.put, List.setIfInBounds_toArray, List.set_cons_zero, List.set_cons_succ])
    refine wpAnyH_take (i := 5) (oi := { dst := some 167, op := Op.move (Operand.tmp 166), type := 4, pos := "law.go:98", after := #[{ on := 4, ground := Ground.data }, { on := 2, ground := Ground.chain }], guard := none }) (v := ?_) rfl (by kernel_rfl) (by kernel_rfl) (by kernel_rfl) (fun _ _ _ h => h) (Or.inl ⟨by rfl, ?_⟩) (by assumption) ?_
    rotate_left
    · intro w hSw; clear hSw; go_simp; (try with_reducible rfl)
    (try simp only [Act.put, List.setIfInBounds_toArray, List.set_cons_zero, List.set_cons_succ])
    refine wpAnyH_take (i := 6) (oi := { dst := some 168, op := Op.move (Operand.tmp 10), type := 4, pos := "law.go:98", after := #[{ on := 5, ground := Ground.guard }, { on := 8, ground := Ground.gcOnly Departure.lateStores }], guard := some (5, true) }) (v := undef) rfl (by kernel_rfl) (by kernel_rfl) (by kernel_rfl) (fun _ _ _ h => h) (Or.inr ⟨by rfl, rfl⟩) (by assumption) ?_
    (try simp only [Act.put, List.setIfInBounds_toArray, List.set_cons_zero, List.set_cons_succ])
    refine wpAnyH_take (i := 7) (oi := { dst := some 169, op := Op.pick (Operand.tmp 167) (Operand.tmp 168) (Operand.const (Value.bool false)), type := 4, pos := "law.go:98", after := #[{ on := 5, ground := Ground.data }, { on := 6, ground := Ground.data }, { on := 8, ground := Ground.gcOnly Departure.lateStores }], guard := none }) (v := ?_) rfl (by kernel_rfl) (by kernel_rfl) (by kernel_rfl) (fun _ _ _ h => h) (Or.inl ⟨by rfl, ?_⟩) (by assumption) ?_
    rotate_left
    · intro w hSw; clear hSw; go_simp; (try with_reducible rfl)
    (try simp only [Act.put, List.setIfInBounds_toArray, List.set_cons_zero, List.set_cons_succ])
    refine wpAnyH_ready (rs := [8]) (by kernel_rfl) (by simp) ?_
    refine AllReadyH.cons (o := { dst := none, op := Op.store 37 (Operand.tmp 6) (Operand.tmp 162), type := 0, pos := "law.go:98", after := #[{ on := 0, ground := Ground.data }, { on := 5, ground := Ground.chain }, { on := 0, ground := Ground.phase }, { on := 1, ground := Ground.textOnly Departure.lateStores }, { on := 2, ground := Ground.textOnly Departure.lateStoresUnsure }, { on := 3, ground := Ground.textOnly Departure.lateStores }, { on := 4, ground := Ground.textOnly Departure.lateStores }, { on := 5, ground := Ground.textOnly Departure.lateStores }, { on := 6, ground := Ground.textOnly Departure.lateStores }, { on := 7, ground := Ground.textOnly Departure.lateStores }], guard := none }) rfl (fun K hK => ?_) AllReadyH.nil
    have KS := Lib.hid (Kept.store hHeld2 TZ6.out)
    obtain ⟨_, ⟨cur, hz, h6⟩, _, _⟩ := hHeld2
    obtain ⟨x0, x1, x2, x3, x4, x5, x6, x7, x8, rfl⟩ := array9 hz
    obtain ⟨y0, y1, y2, y3, y4, y5, y6, y7, y8⟩ := cells9 h6
    have f0 := h6.frozen 0; have f1 := h6.frozen 1; have f2 := h6.frozen 2; have f3 := h6.frozen 3; have f4 := h6.frozen 4; have f5 := h6.frozen 5; have f6 := h6.frozen 6; have f7 := h6.frozen 7; have f8 := h6.frozen 8
    clear h6 hz
    go_simp
    refine hK.out _ _ KS.out (fun hHeld3 => ?_)
    clear hK K y0 y1 y2 y3 y4 y5 y6 y7 y8 f0 f1 f2 f3 f4 f5 f6 f7 f8
    (try simp only [Act.put, List.setIfInBounds_toArray, List.set_cons_zero, List.set_cons_succ])
    refine wpAnyH_take (i := 9) (oi := { dst := some 7, op := Op.assign (Operand.tmp 169), type := 4, pos := "law.go:98", after := #[{ on := 7, ground := Ground.data }, { on := 8, ground := Ground.chain }, { on := 0, ground := Ground.phase }, { on := 1, ground := Ground.phase }, { on := 2, ground := Ground.phase }, { on := 3, ground := Ground.phase }, { on := 4, ground := Ground.phase }, { on := 5, ground := Ground.phase }, { on := 6, ground := Ground.phase }, { on := 7, ground := Ground.phase }, { on := 8, ground := Ground.phase }], guard := none }) (v := ?_) rfl (by kernel_rfl) (by kernel_rfl) (by kernel_rfl) (fun _ _ _ h => h) (Or.inl ⟨by rfl, ?_⟩) (by assumption) ?_
    rotate_left
    · intro w hSw; clear hSw; go_simp; (try with_reducible rfl)
    (try simp only [Act.put, List.setIfInBounds_toArray, List.set_cons_zero, List.set_cons_succ])
    refine wpAnyH_done (by kernel_rfl) ?_ _
    (try simp only [Act.put, List.setIfInBounds_toArray, List.set_cons_zero, List.set_cons_succ])
    obtain ⟨_, ⟨cur', hz', hc'⟩, hdF, hsF⟩ := KS.out
    go_wp2
    refine bodyPost_ret (ret_box rfl _ _ (w.heap.size + 1 + 1) cur' rfl hc' hz') rfl ?_
    exact ⟨⟨_, _, rfl⟩, T1, D1, hdF, F1.out, A1.out, hsF⟩
set_option maxRecDepth 100000 in
set_option maxHeartbeats 8000000 in
theorem do_write {w : World} {T : Nat → Nat} {p n : Nat} {D : ADisk} {t : Int} (hA : DiskAt w T p D) (hf : Fine n D) (hn : n ≤ 200000) (ha : Arm t D) (kind k : Int) (name text : ByteArray) (ao : Option Addr) (l c : Nat)
    (hnm : name.size ≤ 100) (htx : text.size ≤ 200) (hk1 : -9223372036854775808 ≤ k) (hk2 : k ≤ 9223372036854775807) (hk : kind = 2) :
    Calls Try.prog 12 #[.pointer (some ⟨p, 0, none⟩), refE, opV kind k name text ao l c] w (DoR t n p D w T) := by
  subst hk
  have hlow := hA.low
  have Z0 : ∀ b, w.heap.size ≤ b → T b = 0 := fun b hb => by
    rcases Nat.eq_zero_or_pos (T b) with h | h
    · exact h
    · have := hlow b (by omega); omega
  have B3 : Below w.heap.size w (((w.alloc (.cells rows9 37)).alloc (.cells #[.int .i64 2, .int .i64 k, .string name, .string text, .slice ao l c] 40)).alloc (.cells rows9 37)) :=
    (((Below.refl _ w).alloc (Nat.le_refl _) _).alloc (by simp) _).alloc (by simp <;> omega) _
  have C4 := ((Cells.new w 37 rows9).alloc (.cells #[.int .i64 2, .int .i64 k, .string name, .string text, .slice ao l c] 40)).alloc (.cells rows9 37)
  have C5 := (Cells.new (w.alloc (.cells rows9 37)) 40 #[.int .i64 2, .int .i64 k, .string name, .string text, .slice ao l c]).alloc (.cells rows9 37)
  have C6 := Cells.new ((w.alloc (.cells rows9 37)).alloc (.cells #[.int .i64 2, .int .i64 k, .string name, .string text, .slice ao l c] 40)) 37 rows9
  simp only [World.size_alloc] at C5 C6
  have hA0 := hA.below B3
  have S0 : Step w T _ T := Step.below B3
  have CA := Lib.hid (write_arm hA0 hf hn ha name text (by omega) htx)
  have B3H := Lib.hid S0
  have C4H := Lib.hid C4
  have C5H := Lib.hid C5
  have C6H := Lib.hid C6
  have Z0H := Lib.hid Z0
  clear hA hA0 hlow B3 C4 C5 C6 Z0 S0
  rw [refE_is]
  unfold opV
  unfold rows9 at CA B3H C4H C5H C6H
  go_enter Try.func12, Try.ntmps12
  go_wp2_with fail
  refine CA.out.mono ?_
  rintro e w1 ⟨⟨en, hen, rfl⟩, T1, D1, hd1, hf1, ha1, hs1⟩
  have K4 := hs1.cells C4H.out (Z0H.out _ (by omega))
  have K5 := hs1.cells C5H.out (Z0H.out _ (by omega))
  have K6 := hs1.cells C6H.out (Z0H.out _ (by omega))
  have hsz := B3H.out.only.size
  have TZ : ∀ b, w.heap.size ≤ b → b < w.heap.size + 3 → T1 b = 0 := fun b hb hb3 => by
    rw [hs1.old b (by simp; omega)]; exact Z0H.out b hb
  have TZ4 := Lib.hid (TZ w.heap.size (by omega) (by omega))
  have TZ6 := Lib.hid (TZ (w.heap.size + 1 + 1) (by omega) (by omega))
  have S1 := Lib.hid (B3H.out.trans hs1)
  have D1H := Lib.hid hd1
  have F1 := Lib.hid hf1
  have A1 := Lib.hid ha1
  clear TZ hs1 hd1 hf1 ha1 CA B3H C4H C5H C6H Z0H
  obtain ⟨b0, b1, b2, b3, b4, b5, b6, b7, b8, bl, _⟩ := Box9.of K4
  have d0 := K5.cell 0
  have d1 := K5.cell 1
  have d2 := K5.cell 2
  have d3 := K5.cell 3
  simp only [List.getElem?_toArray, List.getElem?_cons_zero, List.getElem?_cons_succ] at d0 d1 d2 d3
  have K4H := Lib.hid K4
  have K6H := Lib.hid K6
  have k5 := K5.lt
  clear K4 K5 K6
  have RF := Lib.hid (refwrite_e name text (by omega) w1)
  rw [refE_is] at RF
  go_wp2_with fail
  refine RF.out.mono ?_
  intro e w2 h2
  obtain ⟨⟨c0, c1, c2, c3, c4, c5, c6, c7, c8, rn, hone, rfl⟩, hb2⟩ := h2.nine
  obtain ⟨o0, o1, o2, o3, o4, o5, o6, o7, o8⟩ := all9 hone
  have r0 := fun w a m => run_store Try.prog w a c0 m o0
  have r1 := fun w a m => run_store Try.prog w a c1 m o1
  have r2 := fun w a m => run_store Try.prog w a c2 m o2
  have r3 := fun w a m => run_store Try.prog w a c3 m o3
  have r4 := fun w a m => run_store Try.prog w a c4 m o4
  have r5 := fun w a m => run_store Try.prog w a c5 m o5
  have r6 := fun w a m => run_store Try.prog w a c6 m o6
  have r7 := fun w a m => run_store Try.prog w a c7 m o7
  have r8 := fun w a m => run_store Try.prog w a c8 m o8
  clear hone o0 o1 o2 o3 o4 o5 o6 o7 o8
  have L4 := K4H.out.below hb2 K4H.out.lt
  have L6 := K6H.out.below hb2 K6H.out.lt
  have HD2 := D1H.out.below hb2
  have HS2 := S1.out.trans (Step.below hb2)
  clear b0 b1 b2 b3 b4 b5 b6 b7 b8 bl d0 d1 d2 d3 hb2 h2 K4H K6H D1H S1 RF k5
  obtain ⟨b0, b1, b2, b3, b4, b5, b6, b7, b8, bl, f0, f1, f2, f3, f4, f5, f6, f7, f8⟩ := Box9.of L4
  have X4 := setBox_to L4 c0 c1 c2 c3 c4 c5 c6 c7 c8
  have X6' := setBox_other L6 (b := w.heap.size) (by omega) c0 c1 c2 c3 c4 c5 c6 c7 c8
  have HD' := setBox_disk HD2 TZ4.out c0 c1 c2 c3 c4 c5 c6 c7 c8
  have HS' := setBox_step HS2 (b := w.heap.size) (Nat.le_refl _) c0 c1 c2 c3 c4 c5 c6 c7 c8
  have X4H := Lib.hid X4
  have X6 := Lib.hid X6'
  have HD := Lib.hid HD'
  have HS := Lib.hid HS'
  clear L4 L6 HD2 HS2 X4 X6' HD' HS'
  go_upto_region 37 with fail
  obtain ⟨W3, hW3⟩ : ∃ W, setBox w2 w.heap.size c0 c1 c2 c3 c4 c5 c6 c7 c8 = W := ⟨_, rfl⟩
  have X4 := X4H.out
  have X6' := X6.out
  have HD' := HD.out
  have HS' := HS.out
  rw [hW3] at X4 X6' HD' HS'
  clear X4H X6 HD HS
  have X6 := Lib.hid X6'
  have HD := Lib.hid HD'
  have HS := Lib.hid HS'
  unfold setBox at hW3
  rw [hW3]
  clear hW3 b0 b1 b2 b3 b4 b5 b6 b7 b8 bl f0 f1 f2 f3 f4 f5 f6 f7 f8 X6' HD' HS' TZ4
  have KD : Hid (Kept w T T1 p D1 c0 c1 c2 c3 c4 c5 c6 c7 c8 W3) := ⟨X4, ⟨rows9, rfl, X6.out⟩, HD.out, HS.out⟩
  clear X4 X6 HD HS
  have hqq : (((en : Int) == rn) = true ∧ (en : Int) = rn) ∨ (((en : Int) == rn) = false ∧ ¬ (en : Int) = rn) := by
    by_cases h : (en : Int) = rn
    · exact .inl ⟨by simpa using h, h⟩
    · exact .inr ⟨by simpa using h, h⟩
  rcases hqq with ⟨hq1, hq⟩ | ⟨hq1, hq⟩
  · refine wp_region_held_drew (S := Kept w T T1 p D1 c0 c1 c2 c3 c4 c5 c6 c7 c8) (by kernel_rfl) KD.out.drew (fun hHeld => ?_)
    clear KD
    generalize W3.drew = W4 at *
    refine wpAnyH_take (i := 0) (oi := { dst := some 162, op := Op.load 37 (Operand.tmp 4), type := 37, pos := "law.go:98", after := #[], guard := none }) (v := ?_) rfl (by kernel_rfl) (by kernel_rfl) (by kernel_rfl) (fun _ _ _ h => h) (Or.inl ⟨by rfl, ?_⟩) (by assumption) ?_
    rotate_left
    · intro w hSw; obtain ⟨h4, _⟩ := hSw; obtain ⟨b0, b1, b2, b3, b4, b5, b6, b7, b8⟩ := cells9 h4; clear h4; go_simp; (try with_reducible rfl)
    (try simp only [Act.put, List.setIfInBounds_toArray, List.set_cons_zero, List.set_cons_succ])
    refine wpAnyH_take (i := 1) (oi := { dst := some 163, op := Op.move (Operand.tmp 8), type := 27, pos := "law.go:98", after := #[], guard := none }) (v := ?_) rfl (by kernel_rfl) (by kernel_rfl) (by kernel_rfl) (fun _ _ _ h => h) (Or.inl ⟨by rfl, ?_⟩) (by assumption) ?_
    rotate_left
    · intro w hSw; clear hSw; go_simp; (try with_reducible rfl)
    (try simp only [Act.put, List.setIfInBounds_toArray, List.set_cons_zero, List.set_cons_succ])
    refine wpAnyH_take (i := 3) (oi := { dst := some 165, op := Op.move (Operand.tmp 9), type := 3, pos := "law.go:98", after := #[], guard := none }) (v := ?_) rfl (by kernel_rfl) (by kernel_rfl) (by kernel_rfl) (fun _ _ _ h => h) (Or.inl ⟨by rfl, ?_⟩) (by assumption) ?_
    rotate_left
    · intro w hSw; clear hSw; go_simp; (try with_reducible rfl)
    (try simp only [Act.put, List.setIfInBounds_toArray, List.set_cons_zero, List.set_cons_succ])
    refine wpAnyH_ready (rs := [2]) (by kernel_rfl) (by simp) ?_
    refine AllReadyH.cons (o := { dst := some 164, op := Op.call { callee := Callee.value (Operand.func 32), args := #[Operand.tmp 163], argTypes := #[27] }, type := 3, pos := "law.go:98", after := #[{ on := 1, ground := Ground.data }], guard := none }) rfl (fun K hK => ?_) AllReadyH.nil
    go_simp
    go_at_call 32
    refine (num_any en (by omega) _).mono ?_
    rintro e w5 ⟨rfl, rfl⟩
    refine hK.out _ _ hHeld (fun hHeld2 => ?_)
    clear hK K hHeld
    (try simp only [Act.put, List.setIfInBounds_toArray, List.set_cons_zero, List.set_cons_succ])
    refine wpAnyH_take (i := 4) (oi := { dst := some 166, op := Op.binOp BinOp.eql 3 (Operand.tmp 164) (Operand.tmp 165) 3, type := 4, pos := "law.go:98", after := #[{ on := 2, ground := Ground.data }, { on := 3, ground := Ground.data }], guard := none }) (v := ?_) rfl (by kernel_rfl) (by kernel_rfl) (by kernel_rfl) (fun _ _ _ h => h) (Or.inl ⟨by rfl, ?_⟩) (by assumption) ?_
    rotate_left
    · intro w hSw; clear hSw; go_simp; (try with_reducible rfl)
    (try simp only [Act.put, List.setIfInBounds_toArray, List.set_cons_zero, List.set_cons_succ])
    refine wpAnyH_take (i := 5) (oi := { dst := some 167, op := Op.move (Operand.tmp 166), type := 4, pos := "law.go:98", after := #[{ on := 4, ground := Ground.data }, { on := 2, ground := Ground.chain }], guard := none }) (v := ?_) rfl (by kernel_rfl) (by kernel_rfl) (by kernel_rfl) (fun _ _ _ h => h) (Or.inl ⟨by rfl, ?_⟩) (by assumption) ?_
    rotate_left
    · intro w hSw; clear hSw; go_simp; (try with_reducible rfl)
    (try simp only [Act.put, List.setIfInBounds_toArray, List.set_cons_zero, List.set_cons_succ])
    refine wpAnyH_take (i := 6) (oi := { dst := some 168, op := Op.move (Operand.tmp 10), type := 4, pos := "law.go:98", after := #[{ on := 5, ground := Ground.guard }, { on := 8, ground := Ground.gcOnly Departure.lateStores }], guard := some (5, true) }) (v := ?_) rfl (by kernel_rfl) (by kernel_rfl) (by kernel_rfl) (fun _ _ _ h => h) (Or.inl ⟨by rfl, ?_⟩) (by assumption) ?_
    rotate_left
    · intro w hSw; clear hSw; go_simp; (try with_reducible rfl)
    (try simp only [Act.put, List.setIfInBounds_toArray, List.set_cons_zero, List.set_cons_succ])
    refine wpAnyH_take (i := 7) (oi := { dst := some 169, op := Op.pick (Operand.tmp 167) (Operand.tmp 168) (Operand.const (Value.bool false)), type := 4, pos := "law.go:98", after := #[{ on := 5, ground := Ground.data }, { on := 6, ground := Ground.data }, { on := 8, ground := Ground.gcOnly Departure.lateStores }], guard := none }) (v := ?_) rfl (by kernel_rfl) (by kernel_rfl) (by kernel_rfl) (fun _ _ _ h => h) (Or.inl ⟨by rfl, ?_⟩) (by assumption) ?_
    rotate_left
    · intro w hSw; clear hSw; go_simp; (try with_reducible rfl)
    (try simp only [Act.put, List.setIfInBounds_toArray, List.set_cons_zero, List.set_cons_succ])
    refine wpAnyH_ready (rs := [8]) (by kernel_rfl) (by simp) ?_
    refine AllReadyH.cons (o := { dst := none, op := Op.store 37 (Operand.tmp 6) (Operand.tmp 162), type := 0, pos := "law.go:98", after := #[{ on := 0, ground := Ground.data }, { on := 5, ground := Ground.chain }, { on := 0, ground := Ground.phase }, { on := 1, ground := Ground.textOnly Departure.lateStores }, { on := 2, ground := Ground.textOnly Departure.lateStoresUnsure }, { on := 3, ground := Ground.textOnly Departure.lateStores }, { on := 4, ground := Ground.textOnly Departure.lateStores }, { on := 5, ground := Ground.textOnly Departure.lateStores }, { on := 6, ground := Ground.textOnly Departure.lateStores }, { on := 7, ground := Ground.textOnly Departure.lateStores }], guard := none }) rfl (fun K hK => ?_) AllReadyH.nil
    have KS := Lib.hid (Kept.store hHeld2 TZ6.out)
    obtain ⟨_, ⟨cur, hz, h6⟩, _, _⟩ := hHeld2
    obtain ⟨x0, x1, x2, x3, x4, x5, x6, x7, x8, rfl⟩ := array9 hz
    obtain ⟨y0, y1, y2, y3, y4, y5, y6, y7, y8⟩ := cells9 h6
    have f0 := h6.frozen 0; have f1 := h6.frozen 1; have f2 := h6.frozen 2; have f3 := h6.frozen 3; have f4 := h6.frozen 4; have f5 := h6.frozen 5; have f6 := h6.frozen 6; have f7 := h6.frozen 7; have f8 := h6.frozen 8
    clear h6 hz
    go_simp
    refine hK.out _ _ KS.out (fun hHeld3 => ?_)
    clear hK K y0 y1 y2 y3 y4 y5 y6 y7 y8 f0 f1 f2 f3 f4 f5 f6 f7 f8
    (try simp only [Act.put, List.setIfInBounds_toArray, List.set_cons_zero, List.set_cons_succ])
    refine wpAnyH_take (i := 9) (oi := { dst := some 7, op := Op.assign (Operand.tmp 169), type := 4, pos := "law.go:98", after := #[{ on := 7, ground := Ground.data }, { on := 8, ground := Ground.chain }, { on := 0, ground := Ground.phase }, { on := 1, ground := Ground.phase }, { on := 2, ground := Ground.phase }, { on := 3, ground := Ground.phase }, { on := 4, ground := Ground.phase }, { on := 5, ground := Ground.phase }, { on := 6, ground := Ground.phase }, { on := 7, ground := Ground.phase }, { on := 8, ground := Ground.phase }], guard := none }) (v := ?_) rfl (by kernel_rfl) (by kernel_rfl) (by kernel_rfl) (fun _ _ _ h => h) (Or.inl ⟨by rfl, ?_⟩) (by assumption) ?_
    rotate_left
    · intro w hSw; clear hSw; go_simp; (try with_reducible rfl)
    (try simp only [Act.put, List.setIfInBounds_toArray, List.set_cons_zero, List.set_cons_succ])
    refine wpAnyH_done (by kernel_rfl) ?_ _
    (try simp only [Act.put, List.setIfInBounds_toArray, List.set_cons_zero, List.set_cons_succ])
    obtain ⟨_, ⟨cur', hz', hc'⟩, hdF, hsF⟩ := KS.out
    go_wp2
    refine bodyPost_ret (ret_box rfl _ _ (w.heap.size + 1 + 1) cur' rfl hc' hz') rfl ?_
    exact ⟨⟨_, _, rfl⟩, T1, D1, hdF, F1.out, A1.out, hsF⟩
  · refine wp_region_held_drew (S := Kept w T T1 p D1 c0 c1 c2 c3 c4 c5 c6 c7 c8) (by kernel_rfl) KD.out.drew (fun hHeld => ?_)
    clear KD
    generalize W3.drew = W4 at *
    refine wpAnyH_take (i := 0) (oi := { dst := some 162, op := Op.load 37 (Operand.tmp 4), type := 37, pos := "law.go:98", after := #[], guard := none }) (v := ?_) rfl (by kernel_rfl) (by kernel_rfl) (by kernel_rfl) (fun _ _ _ h => h) (Or.inl ⟨by rfl, ?_⟩) (by assumption) ?_
    rotate_left
    · intro w hSw; obtain ⟨h4, _⟩ := hSw; obtain ⟨b0, b1, b2, b3, b4, b5, b6, b7, b8⟩ := cells9 h4; clear h4; go_simp; (try with_reducible rfl)
    (try simp only [Act.put, List.setIfInBounds_toArray, List.set_cons_zero, List.set_cons_succ])
    refine wpAnyH_take (i := 1) (oi := { dst := some 163, op := Op.move (Operand.tmp 8), type := 27, pos := "law.go:98", after := #[], guard := none }) (v := ?_) rfl (by kernel_rfl) (by kernel_rfl) (by kernel_rfl) (fun _ _ _ h => h) (Or.inl ⟨by rfl, ?_⟩) (by assumption) ?_
    rotate_left
    · intro w hSw; clear hSw; go_simp; (try with_reducible rfl)
    (try simp only [Act.put, List.setIfInBounds_toArray, List.set_cons_zero, List.set_cons_succ])
    refine wpAnyH_take (i := 3) (oi := { dst := some 165, op := Op.move (Operand.tmp 9), type := 3, pos := "law.go:98", after := #[], guard := none }) (v := ?_) rfl (by kernel_rfl) (by kernel_rfl) (by kernel_rfl) (fun _ _ _ h => h) (Or.inl ⟨by rfl, ?_⟩) (by assumption) ?_
    rotate_left
    · intro w hSw; clear hSw; go_simp; (try with_reducible rfl)
    (try simp only [Act.put, List.setIfInBounds_toArray, List.set_cons_zero, List.set_cons_succ])
    refine wpAnyH_ready (rs := [2]) (by kernel_rfl) (by simp) ?_
    refine AllReadyH.cons (o := { dst := some 164, op := Op.call { callee := Callee.value (Operand.func 32), args := #[Operand.tmp 163], argTypes := #[27] }, type := 3, pos := "law.go:98", after := #[{ on := 1, ground := Ground.data }], guard := none }) rfl (fun K hK => ?_) AllReadyH.nil
    go_simp
    go_at_call 32
    refine (num_any en (by omega) _).mono ?_
    rintro e w5 ⟨rfl, rfl⟩
    refine hK.out _ _ hHeld (fun hHeld2 => ?_)
    clear hK K hHeld
    (try simp only [Act.put, List.setIfInBounds_toArray, List.set_cons_zero, List.set_cons_succ])
    refine wpAnyH_take (i := 4) (oi := { dst := some 166, op := Op.binOp BinOp.eql 3 (Operand.tmp 164) (Operand.tmp 165) 3, type := 4, pos := "law.go:98", after := #[{ on := 2, ground := Ground.data }, { on := 3, ground := Ground.data }], guard := none }) (v := ?_) rfl (by kernel_rfl) (by kernel_rfl) (by kernel_rfl) (fun _ _ _ h => h) (Or.inl ⟨by rfl, ?_⟩) (by assumption) ?_
    rotate_left
    · intro w hSw; clear hSw; go_simp; (try with_reducible rfl)
    (try simp only [Act.put, List.setIfInBounds_toArray, List.set_cons_zero, List.set_cons_succ])
    refine wpAnyH_take (i := 5) (oi := { dst := some 167, op := Op.move (Operand.tmp 166), type := 4, pos := "law.go:98", after := #[{ on := 4, ground := Ground.data }, { on := 2, ground := Ground.chain }], guard := none }) (v := ?_) rfl (by kernel_rfl) (by kernel_rfl) (by kernel_rfl) (fun _ _ _ h => h) (Or.inl ⟨by rfl, ?_⟩) (by assumption) ?_
    rotate_left
    · intro w hSw; clear hSw; go_simp; (try with_reducible rfl)
    (try simp only [Act.put, List.setIfInBounds_toArray, List.set_cons_zero, List.set_cons_succ])
    refine wpAnyH_take (i := 6) (oi := { dst := some 168, op := Op.move (Operand.tmp 10), type := 4, pos := "law.go:98", after := #[{ on := 5, ground := Ground.guard }, { on := 8, ground := Ground.gcOnly Departure.lateStores }], guard := some (5, true) }) (v := undef) rfl (by kernel_rfl) (by kernel_rfl) (by kernel_rfl) (fun _ _ _ h => h) (Or.inr ⟨by rfl, rfl⟩) (by assumption) ?_
    (try simp only [Act.put, List.setIfInBounds_toArray, List.set_cons_zero, List.set_cons_succ])
    refine wpAnyH_take (i := 7) (oi := { dst := some 169, op := Op.pick (Operand.tmp 167) (Operand.tmp 168) (Operand.const (Value.bool false)), type := 4, pos := "law.go:98", after := #[{ on := 5, ground := Ground.data }, { on := 6, ground := Ground.data }, { on := 8, ground := Ground.gcOnly Departure.lateStores }], guard := none }) (v := ?_) rfl (by kernel_rfl) (by kernel_rfl) (by kernel_rfl) (fun _ _ _ h => h) (Or.inl ⟨by rfl, ?_⟩) (by assumption) ?_
    rotate_left
    · intro w hSw; clear hSw; go_simp; (try with_reducible rfl)
    (try simp only [Act.put, List.setIfInBounds_toArray, List.set_cons_zero, List.set_cons_succ])
    refine wpAnyH_ready (rs := [8]) (by kernel_rfl) (by simp) ?_
    refine AllReadyH.cons (o := { dst := none, op := Op.store 37 (Operand.tmp 6) (Operand.tmp 162), type := 0, pos := "law.go:98", after := #[{ on := 0, ground := Ground.data }, { on := 5, ground := Ground.chain }, { on := 0, ground := Ground.phase }, { on := 1, ground := Ground.textOnly Departure.lateStores }, { on := 2, ground := Ground.textOnly Departure.lateStoresUnsure }, { on := 3, ground := Ground.textOnly Departure.lateStores }, { on := 4, ground := Ground.textOnly Departure.lateStores }, { on := 5, ground := Ground.textOnly Departure.lateStores }, { on := 6, ground := Ground.textOnly Departure.lateStores }, { on := 7, ground := Ground.textOnly Departure.lateStores }], guard := none }) rfl (fun K hK => ?_) AllReadyH.nil
    have KS := Lib.hid (Kept.store hHeld2 TZ6.out)
    obtain ⟨_, ⟨cur, hz, h6⟩, _, _⟩ := hHeld2
    obtain ⟨x0, x1, x2, x3, x4, x5, x6, x7, x8, rfl⟩ := array9 hz
    obtain ⟨y0, y1, y2, y3, y4, y5, y6, y7, y8⟩ := cells9 h6
    have f0 := h6.frozen 0; have f1 := h6.frozen 1; have f2 := h6.frozen 2; have f3 := h6.frozen 3; have f4 := h6.frozen 4; have f5 := h6.frozen 5; have f6 := h6.frozen 6; have f7 := h6.frozen 7; have f8 := h6.frozen 8
    clear h6 hz
    go_simp
    refine hK.out _ _ KS.out (fun hHeld3 => ?_)
    clear hK K y0 y1 y2 y3 y4 y5 y6 y7 y8 f0 f1 f2 f3 f4 f5 f6 f7 f8
    (try simp only [Act.put, List.setIfInBounds_toArray, List.set_cons_zero, List.set_cons_succ])
    refine wpAnyH_take (i := 9) (oi := { dst := some 7, op := Op.assign (Operand.tmp 169), type := 4, pos := "law.go:98", after := #[{ on := 7, ground := Ground.data }, { on := 8, ground := Ground.chain }, { on := 0, ground := Ground.phase }, { on := 1, ground := Ground.phase }, { on := 2, ground := Ground.phase }, { on := 3, ground := Ground.phase }, { on := 4, ground := Ground.phase }, { on := 5, ground := Ground.phase }, { on := 6, ground := Ground.phase }, { on := 7, ground := Ground.phase }, { on := 8, ground := Ground.phase }], guard := none }) (v := ?_) rfl (by kernel_rfl) (by kernel_rfl) (by kernel_rfl) (fun _ _ _ h => h) (Or.inl ⟨by rfl, ?_⟩) (by assumption) ?_
    rotate_left
    · intro w hSw; clear hSw; go_simp; (try with_reducible rfl)
    (try simp only [Act.put, List.setIfInBounds_toArray, List.set_cons_zero, List.set_cons_succ])
    refine wpAnyH_done (by kernel_rfl) ?_ _
    (try simp only [Act.put, List.setIfInBounds_toArray, List.set_cons_zero, List.set_cons_succ])
    obtain ⟨_, ⟨cur', hz', hc'⟩, hdF, hsF⟩ := KS.out
    go_wp2
    refine bodyPost_ret (ret_box rfl _ _ (w.heap.size + 1 + 1) cur' rfl hc' hz') rfl ?_
    exact ⟨⟨_, _, rfl⟩, T1, D1, hdF, F1.out, A1.out, hsF⟩
set_option maxRecDepth 100000 in
set_option maxHeartbeats 8000000 in
theorem do_cut {w : World} {T : Nat → Nat} {p n : Nat} {D : ADisk} {t : Int} (hA : DiskAt w T p D) (hf : Fine n D) (hn : n ≤ 200000) (ha : Arm t D) (kind k : Int) (name text : ByteArray) (ao : Option Addr) (l c : Nat)
    (hnm : name.size ≤ 100) (htx : text.size ≤ 200) (hk1 : -9223372036854775808 ≤ k) (hk2 : k ≤ 9223372036854775807) (hk : kind = 3) :
    Calls Try.prog 12 #[.pointer (some ⟨p, 0, none⟩), refE, opV kind k name text ao l c] w (DoR t n p D w T) := by
  subst hk
  have hlow := hA.low
  have Z0 : ∀ b, w.heap.size ≤ b → T b = 0 := fun b hb => by
    rcases Nat.eq_zero_or_pos (T b) with h | h
    · exact h
    · have := hlow b (by omega); omega
  have B3 : Below w.heap.size w (((w.alloc (.cells rows9 37)).alloc (.cells #[.int .i64 3, .int .i64 k, .string name, .string text, .slice ao l c] 40)).alloc (.cells rows9 37)) :=
    (((Below.refl _ w).alloc (Nat.le_refl _) _).alloc (by simp) _).alloc (by simp <;> omega) _
  have C4 := ((Cells.new w 37 rows9).alloc (.cells #[.int .i64 3, .int .i64 k, .string name, .string text, .slice ao l c] 40)).alloc (.cells rows9 37)
  have C5 := (Cells.new (w.alloc (.cells rows9 37)) 40 #[.int .i64 3, .int .i64 k, .string name, .string text, .slice ao l c]).alloc (.cells rows9 37)
  have C6 := Cells.new ((w.alloc (.cells rows9 37)).alloc (.cells #[.int .i64 3, .int .i64 k, .string name, .string text, .slice ao l c] 40)) 37 rows9
  simp only [World.size_alloc] at C5 C6
  have hA0 := hA.below B3
  have S0 : Step w T _ T := Step.below B3
  have CA := Lib.hid (cut_arm hA0 hf hn ha name k (by omega) hk1 hk2)
  have B3H := Lib.hid S0
  have C4H := Lib.hid C4
  have C5H := Lib.hid C5
  have C6H := Lib.hid C6
  have Z0H := Lib.hid Z0
  clear hA hA0 hlow B3 C4 C5 C6 Z0 S0
  rw [refE_is]
  unfold opV
  unfold rows9 at CA B3H C4H C5H C6H
  go_enter Try.func12, Try.ntmps12
  go_wp2_with fail
  refine CA.out.mono ?_
  rintro e w1 ⟨⟨en, hen, rfl⟩, T1, D1, hd1, hf1, ha1, hs1⟩
  have K4 := hs1.cells C4H.out (Z0H.out _ (by omega))
  have K5 := hs1.cells C5H.out (Z0H.out _ (by omega))
  have K6 := hs1.cells C6H.out (Z0H.out _ (by omega))
  have hsz := B3H.out.only.size
  have TZ : ∀ b, w.heap.size ≤ b → b < w.heap.size + 3 → T1 b = 0 := fun b hb hb3 => by
    rw [hs1.old b (by simp; omega)]; exact Z0H.out b hb
  have TZ4 := Lib.hid (TZ w.heap.size (by omega) (by omega))
  have TZ6 := Lib.hid (TZ (w.heap.size + 1 + 1) (by omega) (by omega))
  have S1 := Lib.hid (B3H.out.trans hs1)
  have D1H := Lib.hid hd1
  have F1 := Lib.hid hf1
  have A1 := Lib.hid ha1
  clear TZ hs1 hd1 hf1 ha1 CA B3H C4H C5H C6H Z0H
  obtain ⟨b0, b1, b2, b3, b4, b5, b6, b7, b8, bl, _⟩ := Box9.of K4
  have d0 := K5.cell 0
  have d1 := K5.cell 1
  have d2 := K5.cell 2
  have d3 := K5.cell 3
  simp only [List.getElem?_toArray, List.getElem?_cons_zero, List.getElem?_cons_succ] at d0 d1 d2 d3
  have K4H := Lib.hid K4
  have K6H := Lib.hid K6
  have k5 := K5.lt
  clear K4 K5 K6
  have RF := Lib.hid (refcut_e name k (by omega) w1)
  rw [refE_is] at RF
  go_wp2_with fail
  refine RF.out.mono ?_
  intro e w2 h2
  obtain ⟨⟨c0, c1, c2, c3, c4, c5, c6, c7, c8, rn, hone, rfl⟩, hb2⟩ := h2.nine
  obtain ⟨o0, o1, o2, o3, o4, o5, o6, o7, o8⟩ := all9 hone
  have r0 := fun w a m => run_store Try.prog w a c0 m o0
  have r1 := fun w a m => run_store Try.prog w a c1 m o1
  have r2 := fun w a m => run_store Try.prog w a c2 m o2
  have r3 := fun w a m => run_store Try.prog w a c3 m o3
  have r4 := fun w a m => run_store Try.prog w a c4 m o4
  have r5 := fun w a m => run_store Try.prog w a c5 m o5
  have r6 := fun w a m => run_store Try.prog w a c6 m o6
  have r7 := fun w a m => run_store Try.prog w a c7 m o7
  have r8 := fun w a m => run_store Try.prog w a c8 m o8
  clear hone o0 o1 o2 o3 o4 o5 o6 o7 o8
  have L4 := K4H.out.below hb2 K4H.out.lt
  have L6 := K6H.out.below hb2 K6H.out.lt
  have HD2 := D1H.out.below hb2
  have HS2 := S1.out.trans (Step.below hb2)
  clear b0 b1 b2 b3 b4 b5 b6 b7 b8 bl d0 d1 d2 d3 hb2 h2 K4H K6H D1H S1 RF k5
  obtain ⟨b0, b1, b2, b3, b4, b5, b6, b7, b8, bl, f0, f1, f2, f3, f4, f5, f6, f7, f8⟩ := Box9.of L4
  have X4 := setBox_to L4 c0 c1 c2 c3 c4 c5 c6 c7 c8
  have X6' := setBox_other L6 (b := w.heap.size) (by omega) c0 c1 c2 c3 c4 c5 c6 c7 c8
  have HD' := setBox_disk HD2 TZ4.out c0 c1 c2 c3 c4 c5 c6 c7 c8
  have HS' := setBox_step HS2 (b := w.heap.size) (Nat.le_refl _) c0 c1 c2 c3 c4 c5 c6 c7 c8
  have X4H := Lib.hid X4
  have X6 := Lib.hid X6'
  have HD := Lib.hid HD'
  have HS := Lib.hid HS'
  clear L4 L6 HD2 HS2 X4 X6' HD' HS'
  go_upto_region 37 with fail
  obtain ⟨W3, hW3⟩ : ∃ W, setBox w2 w.heap.size c0 c1 c2 c3 c4 c5 c6 c7 c8 = W := ⟨_, rfl⟩
  have X4 := X4H.out
  have X6' := X6.out
  have HD' := HD.out
  have HS' := HS.out
  rw [hW3] at X4 X6' HD' HS'
  clear X4H X6 HD HS
  have X6 := Lib.hid X6'
  have HD := Lib.hid HD'
  have HS := Lib.hid HS'
  unfold setBox at hW3
  rw [hW3]
  clear hW3 b0 b1 b2 b3 b4 b5 b6 b7 b8 bl f0 f1 f2 f3 f4 f5 f6 f7 f8 X6' HD' HS' TZ4
  have KD : Hid (Kept w T T1 p D1 c0 c1 c2 c3 c4 c5 c6 c7 c8 W3) := ⟨X4, ⟨rows9, rfl, X6.out⟩, HD.out, HS.out⟩
  clear X4 X6 HD HS
  have hqq : (((en : Int) == rn) = true ∧ (en : Int) = rn) ∨ (((en : Int) == rn) = false ∧ ¬ (en : Int) = rn) := by
    by_cases h : (en : Int) = rn
    · exact .inl ⟨by simpa using h, h⟩
    · exact .inr ⟨by simpa using h, h⟩
  rcases hqq with ⟨hq1, hq⟩ | ⟨hq1, hq⟩
  · refine wp_region_held_drew (S := Kept w T T1 p D1 c0 c1 c2 c3 c4 c5 c6 c7 c8) (by kernel_rfl) KD.out.drew (fun hHeld => ?_)
    clear KD
    generalize W3.drew = W4 at *
    refine wpAnyH_take (i := 0) (oi := { dst := some 162, op := Op.load 37 (Operand.tmp 4), type := 37, pos := "law.go:98", after := #[], guard := none }) (v := ?_) rfl (by kernel_rfl) (by kernel_rfl) (by kernel_rfl) (fun _ _ _ h => h) (Or.inl ⟨by rfl, ?_⟩) (by assumption) ?_
    rotate_left
    · intro w hSw; obtain ⟨h4, _⟩ := hSw; obtain ⟨b0, b1, b2, b3, b4, b5, b6, b7, b8⟩ := cells9 h4; clear h4; go_simp; (try with_reducible rfl)
    (try simp only [Act.put, List.setIfInBounds_toArray, List.set_cons_zero, List.set_cons_succ])
    refine wpAnyH_take (i := 1) (oi := { dst := some 163, op := Op.move (Operand.tmp 8), type := 27, pos := "law.go:98", after := #[], guard := none }) (v := ?_) rfl (by kernel_rfl) (by kernel_rfl) (by kernel_rfl) (fun _ _ _ h => h) (Or.inl ⟨by rfl, ?_⟩) (by assumption) ?_
    rotate_left
    · intro w hSw; clear hSw; go_simp; (try with_reducible rfl)
    (try simp only [Act.put, List.setIfInBounds_toArray, List.set_cons_zero, List.set_cons_succ])
    refine wpAnyH_take (i := 3) (oi := { dst := some 165, op := Op.move (Operand.tmp 9), type := 3, pos := "law.go:98", after := #[], guard := none }) (v := ?_) rfl (by kernel_rfl) (by kernel_rfl) (by kernel_rfl) (fun _ _ _ h => h) (Or.inl ⟨by rfl, ?_⟩) (by assumption) ?_
    rotate_left
    · intro w hSw; clear hSw; go_simp; (try with_reducible rfl)
    (try simp only [Act.put, List.setIfInBounds_toArray, List.set_cons_zero, List.set_cons_succ])
    refine wpAnyH_ready (rs := [2]) (by kernel_rfl) (by simp) ?_
    refine AllReadyH.cons (o := { dst := some 164, op := Op.call { callee := Callee.value (Operand.func 32), args := #[Operand.tmp 163], argTypes := #[27] }, type := 3, pos := "law.go:98", after := #[{ on := 1, ground := Ground.data }], guard := none }) rfl (fun K hK => ?_) AllReadyH.nil
    go_simp
    go_at_call 32
    refine (num_any en (by omega) _).mono ?_
    rintro e w5 ⟨rfl, rfl⟩
    refine hK.out _ _ hHeld (fun hHeld2 => ?_)
    clear hK K hHeld
    (try simp only [Act.put, List.setIfInBounds_toArray, List.set_cons_zero, List.set_cons_succ])
    refine wpAnyH_take (i := 4) (oi := { dst := some 166, op := Op.binOp BinOp.eql 3 (Operand.tmp 164) (Operand.tmp 165) 3, type := 4, pos := "law.go:98", after := #[{ on := 2, ground := Ground.data }, { on := 3, ground := Ground.data }], guard := none }) (v := ?_) rfl (by kernel_rfl) (by kernel_rfl) (by kernel_rfl) (fun _ _ _ h => h) (Or.inl ⟨by rfl, ?_⟩) (by assumption) ?_
    rotate_left
    · intro w hSw; clear hSw; go_simp; (try with_reducible rfl)
    (try simp only [Act.put, List.setIfInBounds_toArray, List.set_cons_zero, List.set_cons_succ])
    refine wpAnyH_take (i := 5) (oi := { dst := some 167, op := Op.move (Operand.tmp 166), type := 4, pos := "law.go:98", after := #[{ on := 4, ground := Ground.data }, { on := 2, ground := Ground.chain }], guard := none }) (v := ?_) rfl (by kernel_rfl) (by kernel_rfl) (by kernel_rfl) (fun _ _ _ h => h) (Or.inl ⟨by rfl, ?_⟩) (by assumption) ?_
    rotate_left
    · intro w hSw; clear hSw; go_simp; (try with_reducible rfl)
    (try simp only [Act.put, List.setIfInBounds_toArray, List.set_cons_zero, List.set_cons_succ])
    refine wpAnyH_take (i := 6) (oi := { dst := some 168, op := Op.move (Operand.tmp 10), type := 4, pos := "law.go:98", after := #[{ on := 5, ground := Ground.guard }, { on := 8, ground := Ground.gcOnly Departure.lateStores }], guard := some (5, true) }) (v := ?_) rfl (by kernel_rfl) (by kernel_rfl) (by kernel_rfl) (fun _ _ _ h => h) (Or.inl ⟨by rfl, ?_⟩) (by assumption) ?_
    rotate_left
    · intro w hSw; clear hSw; go_simp; (try with_reducible rfl)
    (try simp only [Act.put, List.setIfInBounds_toArray, List.set_cons_zero, List.set_cons_succ])
    refine wpAnyH_take (i := 7) (oi := { dst := some 169, op := Op.pick (Operand.tmp 167) (Operand.tmp 168) (Operand.const (Value.bool false)), type := 4, pos := "law.go:98", after := #[{ on := 5, ground := Ground.data }, { on := 6, ground := Ground.data }, { on := 8, ground := Ground.gcOnly Departure.lateStores }], guard := none }) (v := ?_) rfl (by kernel_rfl) (by kernel_rfl) (by kernel_rfl) (fun _ _ _ h => h) (Or.inl ⟨by rfl, ?_⟩) (by assumption) ?_
    rotate_left
    · intro w hSw; clear hSw; go_simp; (try with_reducible rfl)
    (try simp only [Act.put, List.setIfInBounds_toArray, List.set_cons_zero, List.set_cons_succ])
    refine wpAnyH_ready (rs := [8]) (by kernel_rfl) (by simp) ?_
    refine AllReadyH.cons (o := { dst := none, op := Op.store 37 (Operand.tmp 6) (Operand.tmp 162), type := 0, pos := "law.go:98", after := #[{ on := 0, ground := Ground.data }, { on := 5, ground := Ground.chain }, { on := 0, ground := Ground.phase }, { on := 1, ground := Ground.textOnly Departure.lateStores }, { on := 2, ground := Ground.textOnly Departure.lateStoresUnsure }, { on := 3, ground := Ground.textOnly Departure.lateStores }, { on := 4, ground := Ground.textOnly Departure.lateStores }, { on := 5, ground := Ground.textOnly Departure.lateStores }, { on := 6, ground := Ground.textOnly Departure.lateStores }, { on := 7, ground := Ground.textOnly Departure.lateStores }], guard := none }) rfl (fun K hK => ?_) AllReadyH.nil
    have KS := Lib.hid (Kept.store hHeld2 TZ6.out)
    obtain ⟨_, ⟨cur, hz, h6⟩, _, _⟩ := hHeld2
    obtain ⟨x0, x1, x2, x3, x4, x5, x6, x7, x8, rfl⟩ := array9 hz
    obtain ⟨y0, y1, y2, y3, y4, y5, y6, y7, y8⟩ := cells9 h6
    have f0 := h6.frozen 0; have f1 := h6.frozen 1; have f2 := h6.frozen 2; have f3 := h6.frozen 3; have f4 := h6.frozen 4; have f5 := h6.frozen 5; have f6 := h6.frozen 6; have f7 := h6.frozen 7; have f8 := h6.frozen 8
    clear h6 hz
    go_simp
    refine hK.out _ _ KS.out (fun hHeld3 => ?_)
    clear hK K y0 y1 y2 y3 y4 y5 y6 y7 y8 f0 f1 f2 f3 f4 f5 f6 f7 f8
    (try simp only [Act.put, List.setIfInBounds_toArray, List.set_cons_zero, List.set_cons_succ])
    refine wpAnyH_take (i := 9) (oi := { dst := some 7, op := Op.assign (Operand.tmp 169), type := 4, pos := "law.go:98", after := #[{ on := 7, ground := Ground.data }, { on := 8, ground := Ground.chain }, { on := 0, ground := Ground.phase }, { on := 1, ground := Ground.phase }, { on := 2, ground := Ground.phase }, { on := 3, ground := Ground.phase }, { on := 4, ground := Ground.phase }, { on := 5, ground := Ground.phase }, { on := 6, ground := Ground.phase }, { on := 7, ground := Ground.phase }, { on := 8, ground := Ground.phase }], guard := none }) (v := ?_) rfl (by kernel_rfl) (by kernel_rfl) (by kernel_rfl) (fun _ _ _ h => h) (Or.inl ⟨by rfl, ?_⟩) (by assumption) ?_
    rotate_left
    · intro w hSw; clear hSw; go_simp; (try with_reducible rfl)
    (try simp only [Act.put, List.setIfInBounds_toArray, List.set_cons_zero, List.set_cons_succ])
    refine wpAnyH_done (by kernel_rfl) ?_ _
    (try simp only [Act.put, List.setIfInBounds_toArray, List.set_cons_zero, List.set_cons_succ])
    obtain ⟨_, ⟨cur', hz', hc'⟩, hdF, hsF⟩ := KS.out
    go_wp2
    refine bodyPost_ret (ret_box rfl _ _ (w.heap.size + 1 + 1) cur' rfl hc' hz') rfl ?_
    exact ⟨⟨_, _, rfl⟩, T1, D1, hdF, F1.out, A1.out, hsF⟩
  · refine wp_region_held_drew (S := Kept w T T1 p D1 c0 c1 c2 c3 c4 c5 c6 c7 c8) (by kernel_rfl) KD.out.drew (fun hHeld => ?_)
    clear KD
    generalize W3.drew = W4 at *
    refine wpAnyH_take (i := 0) (oi := { dst := some 162, op := Op.load 37 (Operand.tmp 4), type := 37, pos := "law.go:98", after := #[], guard := none }) (v := ?_) rfl (by kernel_rfl) (by kernel_rfl) (by kernel_rfl) (fun _ _ _ h => h) (Or.inl ⟨by rfl, ?_⟩) (by assumption) ?_
    rotate_left
    · intro w hSw; obtain ⟨h4, _⟩ := hSw; obtain ⟨b0, b1, b2, b3, b4, b5, b6, b7, b8⟩ := cells9 h4; clear h4; go_simp; (try with_reducible rfl)
    (try simp only [Act.put, List.setIfInBounds_toArray, List.set_cons_zero, List.set_cons_succ])
    refine wpAnyH_take (i := 1) (oi := { dst := some 163, op := Op.move (Operand.tmp 8), type := 27, pos := "law.go:98", after := #[], guard := none }) (v := ?_) rfl (by kernel_rfl) (by kernel_rfl) (by kernel_rfl) (fun _ _ _ h => h) (Or.inl ⟨by rfl, ?_⟩) (by assumption) ?_
    rotate_left
    · intro w hSw; clear hSw; go_simp; (try with_reducible rfl)
    (try simp only [Act.put, List.setIfInBounds_toArray, List.set_cons_zero, List.set_cons_succ])
    refine wpAnyH_take (i := 3) (oi := { dst := some 165, op := Op.move (Operand.tmp 9), type := 3, pos := "law.go:98", after := #[], guard := none }) (v := ?_) rfl (by kernel_rfl) (by kernel_rfl) (by kernel_rfl) (fun _ _ _ h => h) (Or.inl ⟨by rfl, ?_⟩) (by assumption) ?_
    rotate_left
    · intro w hSw; clear hSw; go_simp; (try with_reducible rfl)
    (try simp only [Act.put, List.setIfInBounds_toArray, List.set_cons_zero, List.set_cons_succ])
    refine wpAnyH_ready (rs := [2]) (by kernel_rfl) (by simp) ?_
    refine AllReadyH.cons (o := { dst := some 164, op := Op.call { callee := Callee.value (Operand.func 32), args := #[Operand.tmp 163], argTypes := #[27] }, type := 3, pos := "law.go:98", after := #[{ on := 1, ground := Ground.data }], guard := none }) rfl (fun K hK => ?_) AllReadyH.nil
    go_simp
    go_at_call 32
    refine (num_any en (by omega) _).mono ?_
    rintro e w5 ⟨rfl, rfl⟩
    refine hK.out _ _ hHeld (fun hHeld2 => ?_)
    clear hK K hHeld
    (try simp only [Act.put, List.setIfInBounds_toArray, List.set_cons_zero, List.set_cons_succ])
    refine wpAnyH_take (i := 4) (oi := { dst := some 166, op := Op.binOp BinOp.eql 3 (Operand.tmp 164) (Operand.tmp 165) 3, type := 4, pos := "law.go:98", after := #[{ on := 2, ground := Ground.data }, { on := 3, ground := Ground.data }], guard := none }) (v := ?_) rfl (by kernel_rfl) (by kernel_rfl) (by kernel_rfl) (fun _ _ _ h => h) (Or.inl ⟨by rfl, ?_⟩) (by assumption) ?_
    rotate_left
    · intro w hSw; clear hSw; go_simp; (try with_reducible rfl)
    (try simp only [Act.put, List.setIfInBounds_toArray, List.set_cons_zero, List.set_cons_succ])
    refine wpAnyH_take (i := 5) (oi := { dst := some 167, op := Op.move (Operand.tmp 166), type := 4, pos := "law.go:98", after := #[{ on := 4, ground := Ground.data }, { on := 2, ground := Ground.chain }], guard := none }) (v := ?_) rfl (by kernel_rfl) (by kernel_rfl) (by kernel_rfl) (fun _ _ _ h => h) (Or.inl ⟨by rfl, ?_⟩) (by assumption) ?_
    rotate_left
    · intro w hSw; clear hSw; go_simp; (try with_reducible rfl)
    (try simp only [Act.put, List.setIfInBounds_toArray, List.set_cons_zero, List.set_cons_succ])
    refine wpAnyH_take (i := 6) (oi := { dst := some 168, op := Op.move (Operand.tmp 10), type := 4, pos := "law.go:98", after := #[{ on := 5, ground := Ground.guard }, { on := 8, ground := Ground.gcOnly Departure.lateStores }], guard := some (5, true) }) (v := undef) rfl (by kernel_rfl) (by kernel_rfl) (by kernel_rfl) (fun _ _ _ h => h) (Or.inr ⟨by rfl, rfl⟩) (by assumption) ?_
    (try simp only [Act.put, List.setIfInBounds_toArray, List.set_cons_zero, List.set_cons_succ])
    refine wpAnyH_take (i := 7) (oi := { dst := some 169, op := Op.pick (Operand.tmp 167) (Operand.tmp 168) (Operand.const (Value.bool false)), type := 4, pos := "law.go:98", after := #[{ on := 5, ground := Ground.data }, { on := 6, ground := Ground.data }, { on := 8, ground := Ground.gcOnly Departure.lateStores }], guard := none }) (v := ?_) rfl (by kernel_rfl) (by kernel_rfl) (by kernel_rfl) (fun _ _ _ h => h) (Or.inl ⟨by rfl, ?_⟩) (by assumption) ?_
    rotate_left
    · intro w hSw; clear hSw; go_simp; (try with_reducible rfl)
    (try simp only [Act.put, List.setIfInBounds_toArray, List.set_cons_zero, List.set_cons_succ])
    refine wpAnyH_ready (rs := [8]) (by kernel_rfl) (by simp) ?_
    refine AllReadyH.cons (o := { dst := none, op := Op.store 37 (Operand.tmp 6) (Operand.tmp 162), type := 0, pos := "law.go:98", after := #[{ on := 0, ground := Ground.data }, { on := 5, ground := Ground.chain }, { on := 0, ground := Ground.phase }, { on := 1, ground := Ground.textOnly Departure.lateStores }, { on := 2, ground := Ground.textOnly Departure.lateStoresUnsure }, { on := 3, ground := Ground.textOnly Departure.lateStores }, { on := 4, ground := Ground.textOnly Departure.lateStores }, { on := 5, ground := Ground.textOnly Departure.lateStores }, { on := 6, ground := Ground.textOnly Departure.lateStores }, { on := 7, ground := Ground.textOnly Departure.lateStores }], guard := none }) rfl (fun K hK => ?_) AllReadyH.nil
    have KS := Lib.hid (Kept.store hHeld2 TZ6.out)
    obtain ⟨_, ⟨cur, hz, h6⟩, _, _⟩ := hHeld2
    obtain ⟨x0, x1, x2, x3, x4, x5, x6, x7, x8, rfl⟩ := array9 hz
    obtain ⟨y0, y1, y2, y3, y4, y5, y6, y7, y8⟩ := cells9 h6
    have f0 := h6.frozen 0; have f1 := h6.frozen 1; have f2 := h6.frozen 2; have f3 := h6.frozen 3; have f4 := h6.frozen 4; have f5 := h6.frozen 5; have f6 := h6.frozen 6; have f7 := h6.frozen 7; have f8 := h6.frozen 8
    clear h6 hz
    go_simp
    refine hK.out _ _ KS.out (fun hHeld3 => ?_)
    clear hK K y0 y1 y2 y3 y4 y5 y6 y7 y8 f0 f1 f2 f3 f4 f5 f6 f7 f8
    (try simp only [Act.put, List.setIfInBounds_toArray, List.set_cons_zero, List.set_cons_succ])
    refine wpAnyH_take (i := 9) (oi := { dst := some 7, op := Op.assign (Operand.tmp 169), type := 4, pos := "law.go:98", after := #[{ on := 7, ground := Ground.data }, { on := 8, ground := Ground.chain }, { on := 0, ground := Ground.phase }, { on := 1, ground := Ground.phase }, { on := 2, ground := Ground.phase }, { on := 3, ground := Ground.phase }, { on := 4, ground := Ground.phase }, { on := 5, ground := Ground.phase }, { on := 6, ground := Ground.phase }, { on := 7, ground := Ground.phase }, { on := 8, ground := Ground.phase }], guard := none }) (v := ?_) rfl (by kernel_rfl) (by kernel_rfl) (by kernel_rfl) (fun _ _ _ h => h) (Or.inl ⟨by rfl, ?_⟩) (by assumption) ?_
    rotate_left
    · intro w hSw; clear hSw; go_simp; (try with_reducible rfl)
    (try simp only [Act.put, List.setIfInBounds_toArray, List.set_cons_zero, List.set_cons_succ])
    refine wpAnyH_done (by kernel_rfl) ?_ _
    (try simp only [Act.put, List.setIfInBounds_toArray, List.set_cons_zero, List.set_cons_succ])
    obtain ⟨_, ⟨cur', hz', hc'⟩, hdF, hsF⟩ := KS.out
    go_wp2
    refine bodyPost_ret (ret_box rfl _ _ (w.heap.size + 1 + 1) cur' rfl hc' hz') rfl ?_
    exact ⟨⟨_, _, rfl⟩, T1, D1, hdF, F1.out, A1.out, hsF⟩
set_option maxRecDepth 100000 in
set_option maxHeartbeats 8000000 in
theorem do_sync {w : World} {T : Nat → Nat} {p n : Nat} {D : ADisk} {t : Int} (hA : DiskAt w T p D) (hf : Fine n D) (hn : n ≤ 200000) (ha : Arm t D) (kind k : Int) (name text : ByteArray) (ao : Option Addr) (l c : Nat)
    (hnm : name.size ≤ 100) (htx : text.size ≤ 200) (hk1 : -9223372036854775808 ≤ k) (hk2 : k ≤ 9223372036854775807) (hk : kind = 4) :
    Calls Try.prog 12 #[.pointer (some ⟨p, 0, none⟩), refE, opV kind k name text ao l c] w (DoR t n p D w T) := by
  subst hk
  have hlow := hA.low
  have Z0 : ∀ b, w.heap.size ≤ b → T b = 0 := fun b hb => by
    rcases Nat.eq_zero_or_pos (T b) with h | h
    · exact h
    · have := hlow b (by omega); omega
  have B3 : Below w.heap.size w (((w.alloc (.cells rows9 37)).alloc (.cells #[.int .i64 4, .int .i64 k, .string name, .string text, .slice ao l c] 40)).alloc (.cells rows9 37)) :=
    (((Below.refl _ w).alloc (Nat.le_refl _) _).alloc (by simp) _).alloc (by simp <;> omega) _
  have C4 := ((Cells.new w 37 rows9).alloc (.cells #[.int .i64 4, .int .i64 k, .string name, .string text, .slice ao l c] 40)).alloc (.cells rows9 37)
  have C5 := (Cells.new (w.alloc (.cells rows9 37)) 40 #[.int .i64 4, .int .i64 k, .string name, .string text, .slice ao l c]).alloc (.cells rows9 37)
  have C6 := Cells.new ((w.alloc (.cells rows9 37)).alloc (.cells #[.int .i64 4, .int .i64 k, .string name, .string text, .slice ao l c] 40)) 37 rows9
  simp only [World.size_alloc] at C5 C6
  have hA0 := hA.below B3
  have S0 : Step w T _ T := Step.below B3
  have CA := Lib.hid (sync_arm hA0 hf hn ha name (by omega))
  have B3H := Lib.hid S0
  have C4H := Lib.hid C4
  have C5H := Lib.hid C5
  have C6H := Lib.hid C6
  have Z0H := Lib.hid Z0
  clear hA hA0 hlow B3 C4 C5 C6 Z0 S0
  rw [refE_is]
  unfold opV
  unfold rows9 at CA B3H C4H C5H C6H
  go_enter Try.func12, Try.ntmps12
  go_wp2_with fail
  refine CA.out.mono ?_
  rintro e w1 ⟨⟨en, hen, rfl⟩, T1, D1, hd1, hf1, ha1, hs1⟩
  have K4 := hs1.cells C4H.out (Z0H.out _ (by omega))
  have K5 := hs1.cells C5H.out (Z0H.out _ (by omega))
  have K6 := hs1.cells C6H.out (Z0H.out _ (by omega))
  have hsz := B3H.out.only.size
  have TZ : ∀ b, w.heap.size ≤ b → b < w.heap.size + 3 → T1 b = 0 := fun b hb hb3 => by
    rw [hs1.old b (by simp; omega)]; exact Z0H.out b hb
  have TZ4 := Lib.hid (TZ w.heap.size (by omega) (by omega))
  have TZ6 := Lib.hid (TZ (w.heap.size + 1 + 1) (by omega) (by omega))
  have S1 := Lib.hid (B3H.out.trans hs1)
  have D1H := Lib.hid hd1
  have F1 := Lib.hid hf1
  have A1 := Lib.hid ha1
  clear TZ hs1 hd1 hf1 ha1 CA B3H C4H C5H C6H Z0H
  obtain ⟨b0, b1, b2, b3, b4, b5, b6, b7, b8, bl, _⟩ := Box9.of K4
  have d0 := K5.cell 0
  have d1 := K5.cell 1
  have d2 := K5.cell 2
  have d3 := K5.cell 3
  simp only [List.getElem?_toArray, List.getElem?_cons_zero, List.getElem?_cons_succ] at d0 d1 d2 d3
  have K4H := Lib.hid K4
  have K6H := Lib.hid K6
  have k5 := K5.lt
  clear K4 K5 K6
  have RF := Lib.hid (refsync_e name (by omega) w1)
  rw [refE_is] at RF
  go_wp2_with fail
  refine RF.out.mono ?_
  intro e w2 h2
  obtain ⟨⟨c0, c1, c2, c3, c4, c5, c6, c7, c8, rn, hone, rfl⟩, hb2⟩ := h2.nine
  obtain ⟨o0, o1, o2, o3, o4, o5, o6, o7, o8⟩ := all9 hone
  have r0 := fun w a m => run_store Try.prog w a c0 m o0
  have r1 := fun w a m => run_store Try.prog w a c1 m o1
  have r2 := fun w a m => run_store Try.prog w a c2 m o2
  have r3 := fun w a m => run_store Try.prog w a c3 m o3
  have r4 := fun w a m => run_store Try.prog w a c4 m o4
  have r5 := fun w a m => run_store Try.prog w a c5 m o5
  have r6 := fun w a m => run_store Try.prog w a c6 m o6
  have r7 := fun w a m => run_store Try.prog w a c7 m o7
  have r8 := fun w a m => run_store Try.prog w a c8 m o8
  clear hone o0 o1 o2 o3 o4 o5 o6 o7 o8
  have L4 := K4H.out.below hb2 K4H.out.lt
  have L6 := K6H.out.below hb2 K6H.out.lt
  have HD2 := D1H.out.below hb2
  have HS2 := S1.out.trans (Step.below hb2)
  clear b0 b1 b2 b3 b4 b5 b6 b7 b8 bl d0 d1 d2 d3 hb2 h2 K4H K6H D1H S1 RF k5
  obtain ⟨b0, b1, b2, b3, b4, b5, b6, b7, b8, bl, f0, f1, f2, f3, f4, f5, f6, f7, f8⟩ := Box9.of L4
  have X4 := setBox_to L4 c0 c1 c2 c3 c4 c5 c6 c7 c8
  have X6' := setBox_other L6 (b := w.heap.size) (by omega) c0 c1 c2 c3 c4 c5 c6 c7 c8
  have HD' := setBox_disk HD2 TZ4.out c0 c1 c2 c3 c4 c5 c6 c7 c8
  have HS' := setBox_step HS2 (b := w.heap.size) (Nat.le_refl _) c0 c1 c2 c3 c4 c5 c6 c7 c8
  have X4H := Lib.hid X4
  have X6 := Lib.hid X6'
  have HD := Lib.hid HD'
  have HS := Lib.hid HS'
  clear L4 L6 HD2 HS2 X4 X6' HD' HS'
  go_upto_region 37 with fail
  obtain ⟨W3, hW3⟩ : ∃ W, setBox w2 w.heap.size c0 c1 c2 c3 c4 c5 c6 c7 c8 = W := ⟨_, rfl⟩
  have X4 := X4H.out
  have X6' := X6.out
  have HD' := HD.out
  have HS' := HS.out
  rw [hW3] at X4 X6' HD' HS'
  clear X4H X6 HD HS
  have X6 := Lib.hid X6'
  have HD := Lib.hid HD'
  have HS := Lib.hid HS'
  unfold setBox at hW3
  rw [hW3]
  clear hW3 b0 b1 b2 b3 b4 b5 b6 b7 b8 bl f0 f1 f2 f3 f4 f5 f6 f7 f8 X6' HD' HS' TZ4
  have KD : Hid (Kept w T T1 p D1 c0 c1 c2 c3 c4 c5 c6 c7 c8 W3) := ⟨X4, ⟨rows9, rfl, X6.out⟩, HD.out, HS.out⟩
  clear X4 X6 HD HS
  have hqq : (((en : Int) == rn) = true ∧ (en : Int) = rn) ∨ (((en : Int) == rn) = false ∧ ¬ (en : Int) = rn) := by
    by_cases h : (en : Int) = rn
    · exact .inl ⟨by simpa using h, h⟩
    · exact .inr ⟨by simpa using h, h⟩
  rcases hqq with ⟨hq1, hq⟩ | ⟨hq1, hq⟩
  · refine wp_region_held_drew (S := Kept w T T1 p D1 c0 c1 c2 c3 c4 c5 c6 c7 c8) (by kernel_rfl) KD.out.drew (fun hHeld => ?_)
    clear KD
    generalize W3.drew = W4 at *
    refine wpAnyH_take (i := 0) (oi := { dst := some 162, op := Op.load 37 (Operand.tmp 4), type := 37, pos := "law.go:98", after := #[], guard := none }) (v := ?_) rfl (by kernel_rfl) (by kernel_rfl) (by kernel_rfl) (fun _ _ _ h => h) (Or.inl ⟨by rfl, ?_⟩) (by assumption) ?_
    rotate_left
    · intro w hSw; obtain ⟨h4, _⟩ := hSw; obtain ⟨b0, b1, b2, b3, b4, b5, b6, b7, b8⟩ := cells9 h4; clear h4; go_simp; (try with_reducible rfl)
    (try simp only [Act.put, List.setIfInBounds_toArray, List.set_cons_zero, List.set_cons_succ])
    refine wpAnyH_take (i := 1) (oi := { dst := some 163, op := Op.move (Operand.tmp 8), type := 27, pos := "law.go:98", after := #[], guard := none }) (v := ?_) rfl (by kernel_rfl) (by kernel_rfl) (by kernel_rfl) (fun _ _ _ h => h) (Or.inl ⟨by rfl, ?_⟩) (by assumption) ?_
    rotate_left
    · intro w hSw; clear hSw; go_simp; (try with_reducible rfl)
    (try simp only [Act.put, List.setIfInBounds_toArray, List.set_cons_zero, List.set_cons_succ])
    refine wpAnyH_take (i := 3) (oi := { dst := some 165, op := Op.move (Operand.tmp 9), type := 3, pos := "law.go:98", after := #[], guard := none }) (v := ?_) rfl (by kernel_rfl) (by kernel_rfl) (by kernel_rfl) (fun _ _ _ h => h) (Or.inl ⟨by rfl, ?_⟩) (by assumption) ?_
    rotate_left
    · intro w hSw; clear hSw; go_simp; (try with_reducible rfl)
    (try simp only [Act.put, List.setIfInBounds_toArray, List.set_cons_zero, List.set_cons_succ])
    refine wpAnyH_ready (rs := [2]) (by kernel_rfl) (by simp) ?_
    refine AllReadyH.cons (o := { dst := some 164, op := Op.call { callee := Callee.value (Operand.func 32), args := #[Operand.tmp 163], argTypes := #[27] }, type := 3, pos := "law.go:98", after := #[{ on := 1, ground := Ground.data }], guard := none }) rfl (fun K hK => ?_) AllReadyH.nil
    go_simp
    go_at_call 32
    refine (num_any en (by omega) _).mono ?_
    rintro e w5 ⟨rfl, rfl⟩
    refine hK.out _ _ hHeld (fun hHeld2 => ?_)
    clear hK K hHeld
    (try simp only [Act.put, List.setIfInBounds_toArray, List.set_cons_zero, List.set_cons_succ])
    refine wpAnyH_take (i := 4) (oi := { dst := some 166, op := Op.binOp BinOp.eql 3 (Operand.tmp 164) (Operand.tmp 165) 3, type := 4, pos := "law.go:98", after := #[{ on := 2, ground := Ground.data }, { on := 3, ground := Ground.data }], guard := none }) (v := ?_) rfl (by kernel_rfl) (by kernel_rfl) (by kernel_rfl) (fun _ _ _ h => h) (Or.inl ⟨by rfl, ?_⟩) (by assumption) ?_
    rotate_left
    · intro w hSw; clear hSw; go_simp; (try with_reducible rfl)
    (try simp only [Act.put, List.setIfInBounds_toArray, List.set_cons_zero, List.set_cons_succ])
    refine wpAnyH_take (i := 5) (oi := { dst := some 167, op := Op.move (Operand.tmp 166), type := 4, pos := "law.go:98", after := #[{ on := 4, ground := Ground.data }, { on := 2, ground := Ground.chain }], guard := none }) (v := ?_) rfl (by kernel_rfl) (by kernel_rfl) (by kernel_rfl) (fun _ _ _ h => h) (Or.inl ⟨by rfl, ?_⟩) (by assumption) ?_
    rotate_left
    · intro w hSw; clear hSw; go_simp; (try with_reducible rfl)
    (try simp only [Act.put, List.setIfInBounds_toArray, List.set_cons_zero, List.set_cons_succ])
    refine wpAnyH_take (i := 6) (oi := { dst := some 168, op := Op.move (Operand.tmp 10), type := 4, pos := "law.go:98", after := #[{ on := 5, ground := Ground.guard }, { on := 8, ground := Ground.gcOnly Departure.lateStores }], guard := some (5, true) }) (v := ?_) rfl (by kernel_rfl) (by kernel_rfl) (by kernel_rfl) (fun _ _ _ h => h) (Or.inl ⟨by rfl, ?_⟩) (by assumption) ?_
    rotate_left
    · intro w hSw; clear hSw; go_simp; (try with_reducible rfl)
    (try simp only [Act.put, List.setIfInBounds_toArray, List.set_cons_zero, List.set_cons_succ])
    refine wpAnyH_take (i := 7) (oi := { dst := some 169, op := Op.pick (Operand.tmp 167) (Operand.tmp 168) (Operand.const (Value.bool false)), type := 4, pos := "law.go:98", after := #[{ on := 5, ground := Ground.data }, { on := 6, ground := Ground.data }, { on := 8, ground := Ground.gcOnly Departure.lateStores }], guard := none }) (v := ?_) rfl (by kernel_rfl) (by kernel_rfl) (by kernel_rfl) (fun _ _ _ h => h) (Or.inl ⟨by rfl, ?_⟩) (by assumption) ?_
    rotate_left
    · intro w hSw; clear hSw; go_simp; (try with_reducible rfl)
    (try simp only [Act.put, List.setIfInBounds_toArray, List.set_cons_zero, List.set_cons_succ])
    refine wpAnyH_ready (rs := [8]) (by kernel_rfl) (by simp) ?_
    refine AllReadyH.cons (o := { dst := none, op := Op.store 37 (Operand.tmp 6) (Operand.tmp 162), type := 0, pos := "law.go:98", after := #[{ on := 0, ground := Ground.data }, { on := 5, ground := Ground.chain }, { on := 0, ground := Ground.phase }, { on := 1, ground := Ground.textOnly Departure.lateStores }, { on := 2, ground := Ground.textOnly Departure.lateStoresUnsure }, { on := 3, ground := Ground.textOnly Departure.lateStores }, { on := 4, ground := Ground.textOnly Departure.lateStores }, { on := 5, ground := Ground.textOnly Departure.lateStores }, { on := 6, ground := Ground.textOnly Departure.lateStores }, { on := 7, ground := Ground.textOnly Departure.lateStores }], guard := none }) rfl (fun K hK => ?_) AllReadyH.nil
    have KS := Lib.hid (Kept.store hHeld2 TZ6.out)
    obtain ⟨_, ⟨cur, hz, h6⟩, _, _⟩ := hHeld2
    obtain ⟨x0, x1, x2, x3, x4, x5, x6, x7, x8, rfl⟩ := array9 hz
    obtain ⟨y0, y1, y2, y3, y4, y5, y6, y7, y8⟩ := cells9 h6
    have f0 := h6.frozen 0; have f1 := h6.frozen 1; have f2 := h6.frozen 2; have f3 := h6.frozen 3; have f4 := h6.frozen 4; have f5 := h6.frozen 5; have f6 := h6.frozen 6; have f7 := h6.frozen 7; have f8 := h6.frozen 8
    clear h6 hz
    go_simp
    refine hK.out _ _ KS.out (fun hHeld3 => ?_)
    clear hK K y0 y1 y2 y3 y4 y5 y6 y7 y8 f0 f1 f2 f3 f4 f5 f6 f7 f8
    (try simp only [Act.put, List.setIfInBounds_toArray, List.set_cons_zero, List.set_cons_succ])
    refine wpAnyH_take (i := 9) (oi := { dst := some 7, op := Op.assign (Operand.tmp 169), type := 4, pos := "law.go:98", after := #[{ on := 7, ground := Ground.data }, { on := 8, ground := Ground.chain }, { on := 0, ground := Ground.phase }, { on := 1, ground := Ground.phase }, { on := 2, ground := Ground.phase }, { on := 3, ground := Ground.phase }, { on := 4, ground := Ground.phase }, { on := 5, ground := Ground.phase }, { on := 6, ground := Ground.phase }, { on := 7, ground := Ground.phase }, { on := 8, ground := Ground.phase }], guard := none }) (v := ?_) rfl (by kernel_rfl) (by kernel_rfl) (by kernel_rfl) (fun _ _ _ h => h) (Or.inl ⟨by rfl, ?_⟩) (by assumption) ?_
    rotate_left
    · intro w hSw; clear hSw; go_simp; (try with_reducible rfl)
    (try simp only [Act.put, List.setIfInBounds_toArray, List.set_cons_zero, List.set_cons_succ])
    refine wpAnyH_done (by kernel_rfl) ?_ _
    (try simp only [Act.put, List.setIfInBounds_toArray, List.set_cons_zero, List.set_cons_succ])
    obtain ⟨_, ⟨cur', hz', hc'⟩, hdF, hsF⟩ := KS.out
    go_wp2
    refine bodyPost_ret (ret_box rfl _ _ (w.heap.size + 1 + 1) cur' rfl hc' hz') rfl ?_
    exact ⟨⟨_, _, rfl⟩, T1, D1, hdF, F1.out, A1.out, hsF⟩
  · refine wp_region_held_drew (S := Kept w T T1 p D1 c0 c1 c2 c3 c4 c5 c6 c7 c8) (by kernel_rfl) KD.out.drew (fun hHeld => ?_)
    clear KD
    generalize W3.drew = W4 at *
    refine wpAnyH_take (i := 0) (oi := { dst := some 162, op := Op.load 37 (Operand.tmp 4), type := 37, pos := "law.go:98", after := #[], guard := none }) (v := ?_) rfl (by kernel_rfl) (by kernel_rfl) (by kernel_rfl) (fun _ _ _ h => h) (Or.inl ⟨by rfl, ?_⟩) (by assumption) ?_
    rotate_left
    · intro w hSw; obtain ⟨h4, _⟩ := hSw; obtain ⟨b0, b1, b2, b3, b4, b5, b6, b7, b8⟩ := cells9 h4; clear h4; go_simp; (try with_reducible rfl)
    (try simp only [Act.put, List.setIfInBounds_toArray, List.set_cons_zero, List.set_cons_succ])
    refine wpAnyH_take (i := 1) (oi := { dst := some 163, op := Op.move (Operand.tmp 8), type := 27, pos := "law.go:98", after := #[], guard := none }) (v := ?_) rfl (by kernel_rfl) (by kernel_rfl) (by kernel_rfl) (fun _ _ _ h => h) (Or.inl ⟨by rfl, ?_⟩) (by assumption) ?_
    rotate_left
    · intro w hSw; clear hSw; go_simp; (try with_reducible rfl)
    (try simp only [Act.put, List.setIfInBounds_toArray, List.set_cons_zero, List.set_cons_succ])
    refine wpAnyH_take (i := 3) (oi := { dst := some 165, op := Op.move (Operand.tmp 9), type := 3, pos := "law.go:98", after := #[], guard := none }) (v := ?_) rfl (by kernel_rfl) (by kernel_rfl) (by kernel_rfl) (fun _ _ _ h => h) (Or.inl ⟨by rfl, ?_⟩) (by assumption) ?_
    rotate_left
    · intro w hSw; clear hSw; go_simp; (try with_reducible rfl)
    (try simp only [Act.put, List.setIfInBounds_toArray, List.set_cons_zero, List.set_cons_succ])
    refine wpAnyH_ready (rs := [2]) (by kernel_rfl) (by simp) ?_
    refine AllReadyH.cons (o := { dst := some 164, op := Op.call { callee := Callee.value (Operand.func 32), args := #[Operand.tmp 163], argTypes := #[27] }, type := 3, pos := "law.go:98", after := #[{ on := 1, ground := Ground.data }], guard := none }) rfl (fun K hK => ?_) AllReadyH.nil
    go_simp
    go_at_call 32
    refine (num_any en (by omega) _).mono ?_
    rintro e w5 ⟨rfl, rfl⟩
    refine hK.out _ _ hHeld (fun hHeld2 => ?_)
    clear hK K hHeld
    (try simp only [Act.put, List.setIfInBounds_toArray, List.set_cons_zero, List.set_cons_succ])
    refine wpAnyH_take (i := 4) (oi := { dst := some 166, op := Op.binOp BinOp.eql 3 (Operand.tmp 164) (Operand.tmp 165) 3, type := 4, pos := "law.go:98", after := #[{ on := 2, ground := Ground.data }, { on := 3, ground := Ground.data }], guard := none }) (v := ?_) rfl (by kernel_rfl) (by kernel_rfl) (by kernel_rfl) (fun _ _ _ h => h) (Or.inl ⟨by rfl, ?_⟩) (by assumption) ?_
    rotate_left
    · intro w hSw; clear hSw; go_simp; (try with_reducible rfl)
    (try simp only [Act.put, List.setIfInBounds_toArray, List.set_cons_zero, List.set_cons_succ])
    refine wpAnyH_take (i := 5) (oi := { dst := some 167, op := Op.move (Operand.tmp 166), type := 4, pos := "law.go:98", after := #[{ on := 4, ground := Ground.data }, { on := 2, ground := Ground.chain }], guard := none }) (v := ?_) rfl (by kernel_rfl) (by kernel_rfl) (by kernel_rfl) (fun _ _ _ h => h) (Or.inl ⟨by rfl, ?_⟩) (by assumption) ?_
    rotate_left
    · intro w hSw; clear hSw; go_simp; (try with_reducible rfl)
    (try simp only [Act.put, List.setIfInBounds_toArray, List.set_cons_zero, List.set_cons_succ])
    refine wpAnyH_take (i := 6) (oi := { dst := some 168, op := Op.move (Operand.tmp 10), type := 4, pos := "law.go:98", after := #[{ on := 5, ground := Ground.guard }, { on := 8, ground := Ground.gcOnly Departure.lateStores }], guard := some (5, true) }) (v := undef) rfl (by kernel_rfl) (by kernel_rfl) (by kernel_rfl) (fun _ _ _ h => h) (Or.inr ⟨by rfl, rfl⟩) (by assumption) ?_
    (try simp only [Act.put, List.setIfInBounds_toArray, List.set_cons_zero, List.set_cons_succ])
    refine wpAnyH_take (i := 7) (oi := { dst := some 169, op := Op.pick (Operand.tmp 167) (Operand.tmp 168) (Operand.const (Value.bool false)), type := 4, pos := "law.go:98", after := #[{ on := 5, ground := Ground.data }, { on := 6, ground := Ground.data }, { on := 8, ground := Ground.gcOnly Departure.lateStores }], guard := none }) (v := ?_) rfl (by kernel_rfl) (by kernel_rfl) (by kernel_rfl) (fun _ _ _ h => h) (Or.inl ⟨by rfl, ?_⟩) (by assumption) ?_
    rotate_left
    · intro w hSw; clear hSw; go_simp; (try with_reducible rfl)
    (try simp only [Act.put, List.setIfInBounds_toArray, List.set_cons_zero, List.set_cons_succ])
    refine wpAnyH_ready (rs := [8]) (by kernel_rfl) (by simp) ?_
    refine AllReadyH.cons (o := { dst := none, op := Op.store 37 (Operand.tmp 6) (Operand.tmp 162), type := 0, pos := "law.go:98", after := #[{ on := 0, ground := Ground.data }, { on := 5, ground := Ground.chain }, { on := 0, ground := Ground.phase }, { on := 1, ground := Ground.textOnly Departure.lateStores }, { on := 2, ground := Ground.textOnly Departure.lateStoresUnsure }, { on := 3, ground := Ground.textOnly Departure.lateStores }, { on := 4, ground := Ground.textOnly Departure.lateStores }, { on := 5, ground := Ground.textOnly Departure.lateStores }, { on := 6, ground := Ground.textOnly Departure.lateStores }, { on := 7, ground := Ground.textOnly Departure.lateStores }], guard := none }) rfl (fun K hK => ?_) AllReadyH.nil
    have KS := Lib.hid (Kept.store hHeld2 TZ6.out)
    obtain ⟨_, ⟨cur, hz, h6⟩, _, _⟩ := hHeld2
    obtain ⟨x0, x1, x2, x3, x4, x5, x6, x7, x8, rfl⟩ := array9 hz
    obtain ⟨y0, y1, y2, y3, y4, y5, y6, y7, y8⟩ := cells9 h6
    have f0 := h6.frozen 0; have f1 := h6.frozen 1; have f2 := h6.frozen 2; have f3 := h6.frozen 3; have f4 := h6.frozen 4; have f5 := h6.frozen 5; have f6 := h6.frozen 6; have f7 := h6.frozen 7; have f8 := h6.frozen 8
    clear h6 hz
    go_simp
    refine hK.out _ _ KS.out (fun hHeld3 => ?_)
    clear hK K y0 y1 y2 y3 y4 y5 y6 y7 y8 f0 f1 f2 f3 f4 f5 f6 f7 f8
    (try simp only [Act.put, List.setIfInBounds_toArray, List.set_cons_zero, List.set_cons_succ])
    refine wpAnyH_take (i := 9) (oi := { dst := some 7, op := Op.assign (Operand.tmp 169), type := 4, pos := "law.go:98", after := #[{ on := 7, ground := Ground.data }, { on := 8, ground := Ground.chain }, { on := 0, ground := Ground.phase }, { on := 1, ground := Ground.phase }, { on := 2, ground := Ground.phase }, { on := 3, ground := Ground.phase }, { on := 4, ground := Ground.phase }, { on := 5, ground := Ground.phase }, { on := 6, ground := Ground.phase }, { on := 7, ground := Ground.phase }, { on := 8, ground := Ground.phase }], guard := none }) (v := ?_) rfl (by kernel_rfl) (by kernel_rfl) (by kernel_rfl) (fun _ _ _ h => h) (Or.inl ⟨by rfl, ?_⟩) (by assumption) ?_
    rotate_left
    · intro w hSw; clear hSw; go_simp; (try with_reducible rfl)
    (try simp only [Act.put, List.setIfInBounds_toArray, List.set_cons_zero, List.set_cons_succ])
    refine wpAnyH_done (by kernel_rfl) ?_ _
    (try simp only [Act.put, List.setIfInBounds_toArray, List.set_cons_zero, List.set_cons_succ])
    obtain ⟨_, ⟨cur', hz', hc'⟩, hdF, hsF⟩ := KS.out
    go_wp2
    refine bodyPost_ret (ret_box rfl _ _ (w.heap.size + 1 + 1) cur' rfl hc' hz') rfl ?_
    exact ⟨⟨_, _, rfl⟩, T1, D1, hdF, F1.out, A1.out, hsF⟩
end Go.Proofs.Ytdfjkcdmbbmipaa
