/- Texts put together: EP, EQ, ES, EL. -/
import Derived.Test.YtflnlenkgbphpaaGreatDoorBaf11
import Derived.Test.YtflnlenkgbphpaaGreatDoorBaf19
import Derived.Test.YtflnlenkgbphpaaGreatDoorBaf21
set_option linter.unusedVariables false
namespace Go.Proofs.YtflnlenkgbphpaaGreatDoor
open Go.RowKit Go.Shelf
attribute [local go_sem] Oper.semAt_some

def stepWas (l : LS) (ed : Ed) : List Fld := if ed.kind = 1 ∨ ed.kind = 2 then wasE l.es ed.id else []
def stepAhead (l : LS) (ed : Ed) : Int := if ed.kind = 2 then aheadZ (szE l.es) ed.id else 0
def stepGiven (l : LS) (ed : Ed) : Int := if ed.kind = 3 then l.next else 0
theorem fldR_none (w : World) : FldR w (.slice none 0 0) [] := ⟨⟨none, 0, rfl, Nat.le_refl _, fun i f h => by simp at h⟩, fun n c h => by cases h; rfl⟩
theorem set6 (c0 c1 c2 c3 c4 c5 v0 v1 v2 v3 v4 v5 : Value) : ((((((#[c0, c1, c2, c3, c4, c5].setIfInBounds 0 v0).setIfInBounds 1 v1).setIfInBounds 2 v2).setIfInBounds 3 v3).setIfInBounds 4 v4).setIfInBounds 5 v5) = #[v0, v1, v2, v3, v4, v5] := by rfl
abbrev six9 (W : World) (b : Nat) (v0 v1 v2 v3 v4 v5 : Value) : World := (((((W.setCell ⟨b, 0, none⟩ v0).setCell ⟨b, 1, none⟩ v1).setCell ⟨b, 2, none⟩ v2).setCell ⟨b, 3, none⟩ v3).setCell ⟨b, 4, none⟩ v4).setCell ⟨b, 5, none⟩ v5
theorem only_six (W : World) (b : Nat) (v0 v1 v2 v3 v4 v5 : Value) : Only (· = b) W (six9 W b v0 v1 v2 v3 v4 v5) :=
  ((((((Only.refl (· = b) W).cellS 0 v0).cellS 1 v1).cellS 2 v2).cellS 3 v3).cellS 4 v4).cellS 5 v5
/-- What look comes to. -/
def LookG (w : World) (ed : Ed) (fv : Value) (was : List Fld) (ah gv : Int) (e : Ending) (w' : World) : Prop :=
  ∃ A c, e = .returned (.agg #[.int .i64 ed.kind, .int .i64 ed.id, fv, .slice A was.length c, .int .i64 ah, .int .i64 gv]) ∧ FldR w' (.slice A was.length c) was ∧ (∀ b, (Value.slice A was.length c).ownBlock = some b → w.heap.size ≤ b) ∧ Below w.heap.size w w'
def wasK (ed : Ed) (fs : List Fld) : List Fld := if ed.kind = 1 ∨ ed.kind = 2 then fs else []
def ahK (ed : Ed) (a : Int) : Int := if ed.kind = 2 then a else 0
def gvK (ed : Ed) (n : Int) : Int := if ed.kind = 3 then n else 0
set_option maxRecDepth 100000 in
set_option maxHeartbeats 4000000 in
theorem look_gen {w : World} (lq : Option Addr) (ed : Ed) (hkd : ed.kind = 1 ∨ ed.kind = 2 ∨ ed.kind = 3) (fa : Option Addr) (fn fc : Nat) (fs : List Fld) (ah nx : Int)
    (hG : ∀ W, Below w.heap.size w W → Calls Tryz.prog 81 #[.pointer lq, .int .i64 ed.id] W fun e w' => ∃ A c b, e = .returned (.tuple #[.slice A fs.length c, .bool b]) ∧ FldR w' (.slice A fs.length c) fs ∧ (∀ b, (Value.slice A fs.length c).ownBlock = some b → W.heap.size ≤ b) ∧ Below W.heap.size W w')
    (hA : ∀ W, Below w.heap.size w W → Calls Tryz.prog 82 #[.pointer lq, .int .i64 ed.id] W fun e w' => e = .returned (.int .i64 ah) ∧ Below W.heap.size W w')
    (hN : ∀ W, Below w.heap.size w W → Calls Tryz.prog 29 #[.pointer lq] W fun e w' => e = .returned (.int .i64 nx) ∧ W = w') :
    Calls Tryz.prog 58 #[.pointer lq, .agg #[.int .i64 ed.kind, .int .i64 ed.id, .slice fa fn fc]] w fun e w' => LookG w ed (.slice fa fn fc) (wasK ed fs) (ahK ed ah) (gvK ed nx) e w' := by
  obtain ⟨wa, hwa⟩ : ∃ wa, wa = ((w.alloc (.cells #[.int .i64 ed.kind, .int .i64 ed.id, .slice fa fn fc] 33)).alloc (.cells #[.int .i64 0, .int .i64 0, .slice none 0 0, .slice none 0 0, .int .i64 0, .int .i64 0] 109)).alloc (.cells #[.int .i64 ed.kind, .int .i64 ed.id, .slice fa fn fc, .slice none 0 0, .int .i64 0, .int .i64 0] 109) := ⟨_, rfl⟩
  have hba : Below w.heap.size w wa := by rw [hwa]; exact (((Below.refl _ w).alloc (Nat.le_refl _) _).alloc (by simp) _).alloc (by simp; omega) _
  have hza : wa.heap.size = w.heap.size + 3 := by rw [hwa]; simp
  have cE : Cells wa w.heap.size 33 #[.int .i64 ed.kind, .int .i64 ed.id, .slice fa fn fc] := by rw [hwa]; exact ((Cells.new w _ _).alloc _).alloc _
  have cR : Cells wa (w.heap.size + 1) 109 #[.int .i64 0, .int .i64 0, .slice none 0 0, .slice none 0 0, .int .i64 0, .int .i64 0] := by
    rw [hwa]
    have := (Cells.new (w.alloc (.cells #[.int .i64 ed.kind, .int .i64 ed.id, .slice fa fn fc] 33)) 109 #[.int .i64 0, .int .i64 0, .slice none 0 0, .slice none 0 0, .int .i64 0, .int .i64 0])
    simp only [World.size_alloc] at this
    exact this.alloc _
  have cS : Cells wa (w.heap.size + 1 + 1) 109 #[.int .i64 ed.kind, .int .i64 ed.id, .slice fa fn fc, .slice none 0 0, .int .i64 0, .int .i64 0] := by
    rw [hwa]
    have := (Cells.new ((w.alloc (.cells #[.int .i64 ed.kind, .int .i64 ed.id, .slice fa fn fc] 33)).alloc (.cells #[.int .i64 0, .int .i64 0, .slice none 0 0, .slice none 0 0, .int .i64 0, .int .i64 0] 109)) 109 #[.int .i64 ed.kind, .int .i64 ed.id, .slice fa fn fc, .slice none 0 0, .int .i64 0, .int .i64 0])
    simp only [World.size_alloc] at this
    exact this
  have FE : Hid (∀ W, Below wa.heap.size wa W → W.cell? ⟨w.heap.size, 0, none⟩ = some (.int .i64 ed.kind) ∧ W.cell? ⟨w.heap.size, 1, none⟩ = some (.int .i64 ed.id) ∧ W.cell? ⟨w.heap.size, 2, none⟩ = some (.slice fa fn fc)) := fun W hW => by
    have h := cells_kept cE hW (by omega)
    exact ⟨by rw [h.cell]; rfl, by rw [h.cell]; rfl, by rw [h.cell]; rfl⟩
  have FC : Hid (∀ W, Below wa.heap.size wa W → W.cell? ⟨w.heap.size + 1 + 1, 0, none⟩ = some (.int .i64 ed.kind) ∧ W.cell? ⟨w.heap.size + 1 + 1, 1, none⟩ = some (.int .i64 ed.id) ∧ W.cell? ⟨w.heap.size + 1 + 1, 2, none⟩ = some (.slice fa fn fc) ∧ W.cell? ⟨w.heap.size + 1 + 1, 3, none⟩ = some (.slice none 0 0) ∧ W.cell? ⟨w.heap.size + 1 + 1, 4, none⟩ = some (.int .i64 0) ∧ W.cell? ⟨w.heap.size + 1 + 1, 5, none⟩ = some (.int .i64 0) ∧
      W.frozen? ⟨w.heap.size + 1 + 1, 0, none⟩ = false ∧ W.frozen? ⟨w.heap.size + 1 + 1, 1, none⟩ = false ∧ W.frozen? ⟨w.heap.size + 1 + 1, 2, none⟩ = false ∧ W.frozen? ⟨w.heap.size + 1 + 1, 3, none⟩ = false ∧ W.frozen? ⟨w.heap.size + 1 + 1, 4, none⟩ = false ∧ W.frozen? ⟨w.heap.size + 1 + 1, 5, none⟩ = false) := fun W hW => by
    have h := cells_kept cS hW (by omega)
    exact ⟨by rw [h.cell]; rfl, by rw [h.cell]; rfl, by rw [h.cell]; rfl, by rw [h.cell]; rfl, by rw [h.cell]; rfl, by rw [h.cell]; rfl, h.frozen 0, h.frozen 1, h.frozen 2, h.frozen 3, h.frozen 4, h.frozen 5⟩
  have FR : Hid (∀ W, Below wa.heap.size wa W → W.cell? ⟨w.heap.size + 1, 0, none⟩ = some (.int .i64 0) ∧ W.cell? ⟨w.heap.size + 1, 1, none⟩ = some (.int .i64 0) ∧ W.cell? ⟨w.heap.size + 1, 2, none⟩ = some (.slice none 0 0) ∧ W.cell? ⟨w.heap.size + 1, 3, none⟩ = some (.slice none 0 0) ∧ W.cell? ⟨w.heap.size + 1, 4, none⟩ = some (.int .i64 0) ∧ W.cell? ⟨w.heap.size + 1, 5, none⟩ = some (.int .i64 0) ∧
      W.frozen? ⟨w.heap.size + 1, 0, none⟩ = false ∧ W.frozen? ⟨w.heap.size + 1, 1, none⟩ = false ∧ W.frozen? ⟨w.heap.size + 1, 2, none⟩ = false ∧ W.frozen? ⟨w.heap.size + 1, 3, none⟩ = false ∧ W.frozen? ⟨w.heap.size + 1, 4, none⟩ = false ∧ W.frozen? ⟨w.heap.size + 1, 5, none⟩ = false) := fun W hW => by
    have h := cells_kept cR hW (by omega)
    exact ⟨by rw [h.cell]; rfl, by rw [h.cell]; rfl, by rw [h.cell]; rfl, by rw [h.cell]; rfl, by rw [h.cell]; rfl, by rw [h.cell]; rfl, h.frozen 0, h.frozen 1, h.frozen 2, h.frozen 3, h.frozen 4, h.frozen 5⟩
  have FIN : Hid (∀ (W1 W : World) (A : Option Addr) (c : Nat) (fs : List Fld) (v0 v1 v2 v4 v5 : Value), Below wa.heap.size wa W1 → Only (· = w.heap.size + 1 + 1) W1 W → (∀ b, (Value.slice A fs.length c).ownBlock = some b → wa.heap.size ≤ b) → FldR W1 (.slice A fs.length c) fs →
      Cells (six9 W (w.heap.size + 1) v0 v1 v2 (.slice A fs.length c) v4 v5) (w.heap.size + 1) 109 #[v0, v1, v2, .slice A fs.length c, v4, v5] ∧ FldR (six9 W (w.heap.size + 1) v0 v1 v2 (.slice A fs.length c) v4 v5) (.slice A fs.length c) fs ∧ Below w.heap.size w (six9 W (w.heap.size + 1) v0 v1 v2 (.slice A fs.length c) v4 v5)) := by
    intro W1 W A c fs v0 v1 v2 v4 v5 hW ho hv hfl
    have b1 : Below w.heap.size w W1 := hba.trans (hW.mono hba.size)
    have h1 : Cells W1 (w.heap.size + 1) 109 #[.int .i64 0, .int .i64 0, .slice none 0 0, .slice none 0 0, .int .i64 0, .int .i64 0] := cells_kept cR hW (by omega)
    have h2 : Cells W (w.heap.size + 1) 109 #[.int .i64 0, .int .i64 0, .slice none 0 0, .slice none 0 0, .int .i64 0, .int .i64 0] := h1.only ho (fun e => by omega)
    have h3 := (((((h2.set 0 v0).set 1 v1).set 2 v2).set 3 (.slice A fs.length c)).set 4 v4).set 5 v5
    rw [set6] at h3
    have o2 := only_six W (w.heap.size + 1) v0 v1 v2 (.slice A fs.length c) v4 v5
    refine ⟨h3, ?_, ?_⟩
    · exact (hfl.only ho (fun _ b e q => by have := hv b e; omega)).only o2 (fun _ b e q => by have := hv b e; omega)
    · exact b1.trans ((ho.to_below b1.size (fun r hr e => by omega)).trans (o2.to_below (Nat.le_trans b1.size ho.size) (fun r hr e => by omega)))
  have CR9 : Hid (∀ (w1 : World), Below wa.heap.size wa w1 → ∀ u : Value, Cells (w1.setCell ⟨w.heap.size + 1 + 1, 3, none⟩ u) (w.heap.size + 1) 109 #[.int .i64 0, .int .i64 0, .slice none 0 0, .slice none 0 0, .int .i64 0, .int .i64 0]) := fun w1 b1 u => (cells_kept cR b1 (by omega)).other (p := ⟨w.heap.size + 1 + 1, 3, none⟩) (by show w.heap.size + 1 ≠ w.heap.size + 1 + 1; omega) u
  have CS9 : Hid (∀ (w1 : World), Below wa.heap.size wa w1 → ∀ u : Value, Cells (w1.setCell ⟨w.heap.size + 1 + 1, 3, none⟩ u) (w.heap.size + 1 + 1) 109 #[.int .i64 ed.kind, .int .i64 ed.id, .slice fa fn fc, u, .int .i64 0, .int .i64 0]) := fun w1 b1 u => (cells_kept cS b1 (by omega)).set 3 u
  by_cases h1 : ed.kind = 1
  · have GT := hG wa hba
    have e1 : wasK ed fs = fs := if_pos (.inl h1)
    have e2 : ahK ed ah = 0 := if_neg (by omega)
    have e3 : gvK ed nx = 0 := if_neg (by omega)
    unfold LookG
    rw [e1, e2, e3]
    clear cE cS cR hba CR9 CS9
    rw [h1] at hwa FE FC ⊢
    have GT := Lib.hid GT
    clear hG hA hN e1 e2 e3
    subst hwa
    go_enter Tryz.func58, Tryz.ntmps58
    go_wp2_with fail
    refine GT.out.mono ?_
    rintro e w1 ⟨A, c, b, rfl, hx, hxb, b1⟩
    obtain ⟨f0, f1, f2, f3, f4, f5, g0, g1, g2, g3, g4, g5⟩ := FC.out w1 b1
    obtain ⟨q0, q1, q2, q3, q4, q5, h0, h1', h2, h3, h4, h5⟩ := FR.out w1 b1
    obtain ⟨hcE, _, _⟩ := FE.out w1 b1
    obtain ⟨r1, r2, r3⟩ := FIN.out w1 (w1.setCell ⟨w.heap.size + 1 + 1, 3, none⟩ (.slice A (fs).length c)) A c (fs) (.int .i64 1) (.int .i64 ed.id) (.slice fa fn fc) (.int .i64 0) (.int .i64 0) b1 ((Only.refl _ w1).cellS 3 _) hxb hx
    have R1 := Lib.hid r1
    have R2 := Lib.hid r2
    have R3 := Lib.hid r3
    have HXB : Hid (∀ b, (Value.slice A (fs).length c).ownBlock = some b → w.heap.size ≤ b) := fun b e => by have := hxb b e; omega
    clear hx b1 GT FC FR FE FIN r1 r2 r3 hxb
    go_wp2_with fail
    refine bodyPost_ret (ret_step rfl _ _ (w.heap.size + 1) _ rfl R1.out rfl) rfl ?_
    exact ⟨A, c, rfl, R2.out, HXB.out, R3.out⟩
  · have q1 : (ed.kind == 1) = false := by simpa using h1
    by_cases h2 : ed.kind = 2
    · have GT := hG wa hba
      have e1 : wasK ed fs = fs := if_pos (.inr h2)
      have e2 : ahK ed ah = ah := if_pos h2
      have e3 : gvK ed nx = 0 := if_neg (by omega)
      have AH : Hid (∀ (w1 : World) (u : Value), Below wa.heap.size wa w1 → Calls Tryz.prog 82 #[.pointer lq, .int .i64 ed.id] (w1.setCell ⟨w.heap.size + 1 + 1, 3, none⟩ u) fun e w' => e = .returned (.int .i64 ah) ∧ Below (w1.setCell ⟨w.heap.size + 1 + 1, 3, none⟩ u).heap.size (w1.setCell ⟨w.heap.size + 1 + 1, 3, none⟩ u) w') := by
        intro w1 u b1
        exact hA _ ((hba.trans (b1.mono hba.size)).setCell (p := ⟨w.heap.size + 1 + 1, 3, none⟩) (by show w.heap.size ≤ w.heap.size + 1 + 1; omega) u)
      unfold LookG
      rw [e1, e2, e3]
      clear cE cS cR hba
      rw [h2] at hwa FE FC CS9 ⊢
      have GT := Lib.hid GT
      clear hG hA hN e1 e2 e3
      subst hwa
      go_enter Tryz.func58, Tryz.ntmps58
      go_wp2_with fail
      refine GT.out.mono ?_
      rintro e w1 ⟨A, c, b, rfl, hx, hxb, b1⟩
      obtain ⟨f0, f1, f2, f3, f4, f5, g0, g1, g2, g3, g4, g5⟩ := FC.out w1 b1
      obtain ⟨hcE, hcE1, _⟩ := FE.out w1 b1
      have AH1 := Lib.hid (AH.out w1 (.slice A (fs).length c) b1)
      have KP : Hid (∀ w2, Below (w1.setCell ⟨w.heap.size + 1 + 1, 3, none⟩ (.slice A (fs).length c)).heap.size (w1.setCell ⟨w.heap.size + 1 + 1, 3, none⟩ (.slice A (fs).length c)) w2 → ∀ p : Addr, p.block < w.heap.size + 3 → w2.cell? p = (w1.setCell ⟨w.heap.size + 1 + 1, 3, none⟩ (.slice A (fs).length c)).cell? p ∧ w2.frozen? p = (w1.setCell ⟨w.heap.size + 1 + 1, 3, none⟩ (.slice A (fs).length c)).frozen? p) := by
        intro w2 b2 p hp
        have hz := b1.size
        have hz2 := ((Only.refl (· = w.heap.size + 1 + 1) w1).cellS 3 (.slice A (fs).length c)).size
        exact ⟨b2.cell (by omega), b2.frozen (by omega)⟩
      have HB1 := Lib.hid b1
      have HXB := Lib.hid hxb
      have HX := Lib.hid hx
      have HCR : Hid (Cells (w1.setCell ⟨w.heap.size + 1 + 1, 3, none⟩ (.slice A (fs).length c)) (w.heap.size + 1) 109 #[.int .i64 0, .int .i64 0, .slice none 0 0, .slice none 0 0, .int .i64 0, .int .i64 0]) := by
        obtain ⟨q0, q1, q2, q3, q4, q5, h0, h1', h2, h3, h4, h5⟩ := FR.out w1 b1
        exact CR9.out w1 b1 _
      have HCS : Hid (Cells (w1.setCell ⟨w.heap.size + 1 + 1, 3, none⟩ (.slice A (fs).length c)) (w.heap.size + 1 + 1) 109 #[.int .i64 2, .int .i64 ed.id, .slice fa fn fc, .slice A (fs).length c, .int .i64 0, .int .i64 0]) := CS9.out w1 b1 _
      clear hx hxb b1 GT FC FR FE AH CR9 CS9
      go_wp2_with fail
      refine AH1.out.mono ?_
      rintro e w2 ⟨rfl, b2⟩
      have h9 := HB1.out.size
      rw [hza] at h9
      have hz : w.heap.size + 3 ≤ (w1.setCell ⟨w.heap.size + 1 + 1, 3, none⟩ (.slice A (fs).length c)).heap.size := Nat.le_trans h9 ((Only.refl (· = w.heap.size + 1 + 1) w1).cellS 3 (.slice A (fs).length c)).size
      have cS2 := cells_kept HCS.out b2 (by omega)
      have cR2 := cells_kept HCR.out b2 (by omega)
      have k0 : w2.cell? ⟨w.heap.size + 1 + 1, 0, none⟩ = some (.int .i64 2) := by rw [cS2.cell]; rfl
      have k1 : w2.cell? ⟨w.heap.size + 1 + 1, 1, none⟩ = some (.int .i64 ed.id) := by rw [cS2.cell]; rfl
      have k2 : w2.cell? ⟨w.heap.size + 1 + 1, 2, none⟩ = some (.slice fa fn fc) := by rw [cS2.cell]; rfl
      have k3 : w2.cell? ⟨w.heap.size + 1 + 1, 3, none⟩ = some (.slice A (fs).length c) := by rw [cS2.cell]; rfl
      have k4 : w2.cell? ⟨w.heap.size + 1 + 1, 4, none⟩ = some (.int .i64 0) := by rw [cS2.cell]; rfl
      have k5 : w2.cell? ⟨w.heap.size + 1 + 1, 5, none⟩ = some (.int .i64 0) := by rw [cS2.cell]; rfl
      have m4 := cS2.frozen 4
      have j0 : w2.cell? ⟨w.heap.size + 1, 0, none⟩ = some (.int .i64 0) := by rw [cR2.cell]; rfl
      have j1 : w2.cell? ⟨w.heap.size + 1, 1, none⟩ = some (.int .i64 0) := by rw [cR2.cell]; rfl
      have j2 : w2.cell? ⟨w.heap.size + 1, 2, none⟩ = some (.slice none 0 0) := by rw [cR2.cell]; rfl
      have j3 : w2.cell? ⟨w.heap.size + 1, 3, none⟩ = some (.slice none 0 0) := by rw [cR2.cell]; rfl
      have j4 : w2.cell? ⟨w.heap.size + 1, 4, none⟩ = some (.int .i64 0) := by rw [cR2.cell]; rfl
      have j5 : w2.cell? ⟨w.heap.size + 1, 5, none⟩ = some (.int .i64 0) := by rw [cR2.cell]; rfl
      have n0 := cR2.frozen 0
      have n1 := cR2.frozen 1
      have n2 := cR2.frozen 2
      have n3 := cR2.frozen 3
      have n4 := cR2.frozen 4
      have n5 := cR2.frozen 5
      have o2 : Only (· = w.heap.size + 1 + 1) w1 (w2.setCell ⟨w.heap.size + 1 + 1, 4, none⟩ (.int .i64 (ah))) := (((Only.refl (· = w.heap.size + 1 + 1) w1).cellS 3 (.slice A (fs).length c)).below b2 ((Only.refl (· = w.heap.size + 1 + 1) w1).cellS 3 (.slice A (fs).length c)).size).cellS 4 _
      obtain ⟨r1, r2, r3⟩ := FIN.out w1 _ A c (fs) (.int .i64 2) (.int .i64 ed.id) (.slice fa fn fc) (.int .i64 (ah)) (.int .i64 0) HB1.out o2 HXB.out HX.out
      have R1 := Lib.hid r1
      have R2 := Lib.hid r2
      have R3 := Lib.hid r3
      have HXB2 : Hid (∀ b, (Value.slice A (fs).length c).ownBlock = some b → w.heap.size ≤ b) := fun b e => by have := HXB.out b e; omega
      clear cS2 cR2 o2 r1 r2 r3 FIN b2 HB1 HX HXB HCR HCS KP AH1
      clear f0 f1 f2 f3 f4 f5 g0 g1 g2 g3 g4 g5 hcE hcE1
      go_wp2_with fail
      refine bodyPost_ret (ret_step rfl _ _ (w.heap.size + 1) _ rfl R1.out rfl) rfl ?_
      exact ⟨A, c, rfl, R2.out, HXB2.out, R3.out⟩
    · have q2 : (ed.kind == 2) = false := by simpa using h2
      have e1 : wasK ed fs = [] := if_neg (by omega)
      have e2 : ahK ed ah = 0 := if_neg h2
      obtain ⟨f0, f1, f2, f3, f4, f5, g0, g1, g2', g3, g4, g5⟩ := FC.out wa (Below.refl _ _)
      obtain ⟨j0, j1, j2, j3, j4, j5, n0, n1, n2, n3, n4, n5⟩ := FR.out wa (Below.refl _ _)
      have hn := fldR_none wa
      have h3 : ed.kind = 3 := by omega
      have e3 : gvK ed nx = nx := if_pos h3
      have NX := Lib.hid (hN wa hba)
      obtain ⟨wz, hwz⟩ : ∃ wz, wz = ((w.alloc (.cells #[.int .i64 3, .int .i64 ed.id, .slice fa fn fc] 33)).alloc (.cells #[.int .i64 3, .int .i64 ed.id, .slice fa fn fc, .slice none 0 0, .int .i64 0, .int .i64 nx] 109)).alloc (.cells #[.int .i64 3, .int .i64 ed.id, .slice fa fn fc, .slice none 0 0, .int .i64 0, .int .i64 nx] 109) := ⟨_, rfl⟩
      have R1 : Hid (Cells wz (w.heap.size + 1) 109 #[.int .i64 3, .int .i64 ed.id, .slice fa fn fc, .slice none 0 0, .int .i64 0, .int .i64 nx]) := by
        show Cells _ _ _ _
        rw [hwz]
        have := (Cells.new (w.alloc (.cells #[.int .i64 3, .int .i64 ed.id, .slice fa fn fc] 33)) 109 #[.int .i64 3, .int .i64 ed.id, .slice fa fn fc, .slice none 0 0, .int .i64 0, .int .i64 nx])
        simp only [World.size_alloc] at this
        exact this.alloc _
      have R2 := Lib.hid (fldR_none wz)
      have R3 : Hid (Below w.heap.size w wz) := by
        show Below _ _ _
        rw [hwz]
        exact (((Below.refl _ w).alloc (Nat.le_refl _) _).alloc (by simp) _).alloc (by simp; omega) _
      unfold LookG
      rw [e1, e2, e3]
      clear cE cS cR hba FE FC FR FIN hn CR9 CS9
      rw [h3] at hwa f0 ⊢
      clear hG hA hN e1 e2 e3
      subst hwa
      go_enter Tryz.func58, Tryz.ntmps58
      go_wp2_with fail
      refine NX.out.mono ?_
      rintro e w1 ⟨rfl, rfl⟩
      go_wp2_with fail
      rw [← hwz]
      refine bodyPost_ret (ret_step rfl _ _ (w.heap.size + 1) _ rfl R1.out rfl) rfl ?_
      exact ⟨none, 0, rfl, R2.out, (fun b e => by cases e), R3.out⟩
set_option maxRecDepth 100000 in
set_option maxHeartbeats 4000000 in
theorem ahead_none (id : Int) (w : World) : Calls Tryz.prog 82 #[.pointer none, .int .i64 id] w fun e w' => e = .returned (.int .i64 0) ∧ Below w.heap.size w w' := by
  have PL := Lib.hid (nilPlace id w)
  go_enter Tryz.func82, Tryz.ntmps82
  go_wp2_with fail
  refine PL.out.mono ?_
  rintro e w1 ⟨rfl, b1⟩
  go_wp2_with fail
  go_ret
  exact ⟨rfl, b1⟩
/-- On no list. -/
theorem look_none (ed : Ed) (hkd : ed.kind = 1 ∨ ed.kind = 2 ∨ ed.kind = 3) (fa : Option Addr) (fn fc : Nat) (w : World) :
    Calls Tryz.prog 58 #[.pointer none, .agg #[.int .i64 ed.kind, .int .i64 ed.id, .slice fa fn fc]] w fun e w' => LookG w ed (.slice fa fn fc) (wasK ed []) (ahK ed 0) (gvK ed 0) e w' :=
  look_gen none ed hkd fa fn fc [] 0 0
    (fun W hW => (nilGet ed.id W).mono fun e w' ⟨he, hb⟩ => ⟨none, 0, false, he, fldR_none _, (fun b h => by cases h), hb⟩) (fun W _ => ahead_none ed.id W) (fun W _ => next_none W)
end Go.Proofs.YtflnlenkgbphpaaGreatDoor

namespace Go.Proofs.YtflnlenkgbphpaaGreatDoor
open Go.RowKit Go.Shelf
attribute [local go_sem] Oper.semAt_some

structure StC where
  k : Int
  i : Int
  ah : Int
  gv : Int
  fv : Value
  wv : Value
  fs : List Fld
def stRow (cs : List StC) : List Value := cs.flatMap fun c => [.int .i64 c.k, .int .i64 c.i, c.fv, c.wv, .int .i64 c.ah, .int .i64 c.gv]
/-- The blocks of the steps. -/
def zOf (sb : Nat) (sv : Value) (cs : List StC) (r : Nat) : Prop := r = sb ∨ sv.ownBlock = some r ∨ ∃ c ∈ cs, c.fs ≠ [] ∧ c.wv.ownBlock = some r
structure StOk (l0 : LS) (eds : List Ed) (N : Nat) (W : World) (i : Nat) (c : StC) (ed : Ed) : Prop where
  at_ : eds[i]? = some ed
  k : c.k = ed.kind
  id_ : c.i = ed.id
  ah : c.ah = stepAhead (lsOn l0 (eds.take i)) ed
  gv : c.gv = stepGiven (lsOn l0 (eds.take i)) ed
  fs : c.fs = stepWas (lsOn l0 (eds.take i)) ed
  flds : FldR W c.wv c.fs
  low : c.fs ≠ [] → ∀ b, c.wv.ownBlock = some b → N ≤ b
  form : (∃ A n m, c.fv = .slice A n m) ∧ ∃ A m, c.wv = .slice A c.fs.length m
def StepsP (sb N : Nat) (l0 : LS) (eds : List Ed) (j : Nat) (W : World) (Z : Nat → Prop) : Prop :=
  ∃ sv cs, Z = zOf sb sv cs ∧ cs.length = j ∧ N ≤ sb ∧ Cells W sb 107 #[sv] ∧ W.ownsRow N 109 6 sv j (stRow cs) ∧ ∀ (i : Nat) (c : StC), cs[i]? = some c → ∃ ed, StOk l0 eds N W i c ed
theorem StepsP.lt {sb N : Nat} {l0 : LS} {eds : List Ed} {j : Nat} {W : World} {Z : Nat → Prop} (h : StepsP sb N l0 eds j W Z) {r : Nat} (hr : Z r) : N ≤ r ∧ r < W.heap.size := by
  obtain ⟨sv, cs, rfl, hl, hn, hc, ho, he⟩ := h
  rcases hr with rfl | hr | ⟨c, hcm, hne, hb⟩
  · exact ⟨hn, hc.lt⟩
  · exact ho.lt r hr
  · obtain ⟨i, hi⟩ := List.getElem?_of_mem hcm
    obtain ⟨ed, ok⟩ := he i c hi
    exact ⟨ok.low hne r hb, ok.flds.1.lt hne r hb⟩
theorem StepsP.keep {sb N : Nat} {l0 : LS} {eds : List Ed} {j : Nat} {W W' : World} {Z S : Nat → Prop} (h : StepsP sb N l0 eds j W Z) (g : Only S W W') (hs : ∀ r, Z r → ¬ S r) : StepsP sb N l0 eds j W' Z := by
  obtain ⟨sv, cs, rfl, hl, hn, hc, ho, he⟩ := h
  refine ⟨sv, cs, rfl, hl, hn, hc.only g (hs sb (.inl rfl)), row_only ho g (fun b hb => hs b (.inr (.inl hb))), fun i c hi => ?_⟩
  obtain ⟨ed, ok⟩ := he i c hi
  exact ⟨ed, ok.at_, ok.k, ok.id_, ok.ah, ok.gv, ok.fs, ok.flds.only g (fun hne b hb => hs b (.inr (.inr ⟨c, List.mem_of_getElem? hi, hne, hb⟩))), ok.low, ok.form⟩
theorem infoStep9 : (Tryz.prog.info? 109).map (fun i => (i.zero, i.size, i.bytes)) = some (some (.agg #[.int .i64 0, .int .i64 0, .slice none 0 0, .slice none 0 0, .int .i64 0, .int .i64 0]), 6, 80) := by kernel_rfl
set_option maxRecDepth 100000 in
set_option maxHeartbeats 8000000 in
/-- Back's closure, whatever look comes to. -/
theorem back1_gen {N sb j : Nat} {W : World} (lq : Option Addr) (ed : Ed) (fa : Option Addr) (fn fc : Nat) (was : List Fld) (ah gv : Int) (sv : Value) (xs : List Value) (hj : j ≤ 100) (hN : N ≤ W.heap.size) (hc : Cells W sb 107 #[sv]) (ho : W.ownsRow N 109 6 sv j xs)
    (hL : ∀ W', Below W.heap.size W W' → Calls Tryz.prog 58 #[.pointer lq, .agg #[.int .i64 ed.kind, .int .i64 ed.id, .slice fa fn fc]] W' fun e w' => LookG W' ed (.slice fa fn fc) was ah gv e w') :
    Calls Tryz.prog 57 #[.pointer lq, .agg #[.int .i64 ed.kind, .int .i64 ed.id, .slice fa fn fc], .pointer (some ⟨sb, 0, none⟩)] W fun e W' => e = .returned (.tuple #[]) ∧
      ∃ sv' A c w2, Below W.heap.size W w2 ∧ FldR w2 (.slice A was.length c) was ∧ (∀ b, (Value.slice A was.length c).ownBlock = some b → W.heap.size ≤ b) ∧ ∃ w3, w2.grownBy w3 sv.ownBlock ∧ w3.ownsRow N 109 6 sv' (j + 1) (xs ++ [.int .i64 ed.kind, .int .i64 ed.id, .slice fa fn fc, .slice A was.length c, .int .i64 ah, .int .i64 gv]) ∧ (sv'.ownBlock = sv.ownBlock ∨ sv'.ownBlock = some w2.heap.size) ∧ W' = w3.setCell ⟨sb, 0, none⟩ sv' := by
  obtain ⟨i0, hi, hz0, hz1, hz2⟩ := info_parts infoStep9
  obtain ⟨wa, hwa⟩ : ∃ wa, wa = W.alloc (.cells #[.int .i64 ed.kind, .int .i64 ed.id, .slice fa fn fc] 33) := ⟨_, rfl⟩
  have hba : Below W.heap.size W wa := by rw [hwa]; exact (Below.refl _ W).alloc (Nat.le_refl _) _
  have hza : wa.heap.size = W.heap.size + 1 := by rw [hwa]; simp
  have cE : Cells wa W.heap.size 33 #[.int .i64 ed.kind, .int .i64 ed.id, .slice fa fn fc] := by rw [hwa]; exact Cells.new _ _ _
  have hsb := hc.lt
  obtain ⟨sa, scap, rfl⟩ : ∃ A c, sv = .slice A j c := by
    rcases ho.2 with ⟨rfl, hn⟩ | ⟨g', cap', cur', rfl, _⟩
    · exact ⟨none, 0, by rw [hn]⟩
    · exact ⟨_, _, rfl⟩
  have HS9 : Hid (∀ W', Below wa.drew.heap.size wa.drew W' → W'.cell? ⟨sb, 0, none⟩ = some (.slice sa j scap)) := fun W' hW' => by
    have := cells_kept hc (hba.drew.trans (hW'.mono hba.size)) hsb
    rw [this.cell]; rfl
  have HE9 : Hid (∀ W', Below wa.drew.heap.size wa.drew W' → W'.cell? ⟨W.heap.size, 0, none⟩ = some (.int .i64 ed.kind) ∧ W'.cell? ⟨W.heap.size, 1, none⟩ = some (.int .i64 ed.id) ∧ W'.cell? ⟨W.heap.size, 2, none⟩ = some (.slice fa fn fc)) := fun W' hW' => by
    have := cells_kept cE.drew hW' (by show W.heap.size < wa.heap.size; omega)
    exact ⟨by rw [this.cell]; rfl, by rw [this.cell]; rfl, by rw [this.cell]; rfl⟩
  have HL9 : Hid (N ≤ wa.drew.heap.size) := show N ≤ wa.heap.size by omega
  have HL := Lib.hid hL
  have HBA := Lib.hid hba
  have HC := Lib.hid hc
  have HO := Lib.hid ho
  have HE := Lib.hid cE
  clear hL hba hc ho cE
  subst hwa
  go_enter Tryz.func57, Tryz.ntmps57
  go_upto_region 1 with fail
  refine wp_region_any (by kernel_rfl) ?_
  refine region_bk1 _ (W.alloc (.cells #[.int .i64 ed.kind, .int .i64 ed.id, .slice fa fn fc] 33)).drew sb W.heap.size N (.slice sa j scap) (.pointer lq) ed.kind ed.id fa fn fc
    (fun v w => ∃ A c, v = .agg #[.int .i64 ed.kind, .int .i64 ed.id, .slice fa fn fc, .slice A was.length c, .int .i64 ah, .int .i64 gv] ∧ FldR w (.slice A was.length c) was ∧ ∀ b, (Value.slice A was.length c).ownBlock = some b → W.heap.size ≤ b) _ rfl rfl rfl rfl
    ?hS ?hlo ?hE ?hPM ?hPF ?hCL ?hQ
  case hS => exact HS9.out
  case hlo => exact HL9.out
  case hE => exact HE9.out
  case hPM =>
    rintro v x y hb ⟨A, c, e, h1, h2⟩
    exact ⟨A, c, e, h1.below hb (Nat.le_refl _), h2⟩
  case hPF =>
    rintro v w ⟨A, c, e, _, _⟩
    exact ⟨_, _, _, _, _, _, _, _, _, _, e⟩
  case hCL =>
    intro W' hW'
    have hB' : Below W.heap.size W W' := HBA.out.drew.trans (hW'.mono HBA.out.size)
    refine (HL.out W' hB').mono ?_
    rintro e w' ⟨A, c, rfl, h1, h2, h3⟩
    exact ⟨_, rfl, ⟨A, c, rfl, h1, fun b e => by have := h2 b e; have := hB'.size; omega⟩, h3⟩
  case hQ =>
    intro y0 y1 y2 y3 y4 w2 hb2 hy0 hy4
    subst hy0
    obtain ⟨b, u, cs, rfl, ⟨A, c, rfl, h1, h2⟩, hlob, hu, hcb⟩ := hy4
    obtain rfl := Value.agg.inj hu
    have hB2 : Below W.heap.size W w2 := HBA.out.drew.trans (hb2.mono HBA.out.size)
    have HV : Hid (∀ (i : Nat) (u : Value), [Value.int .i64 ed.kind, .int .i64 ed.id, .slice fa fn fc, .slice A was.length c, .int .i64 ah, .int .i64 gv][i]? = some u → w2.cell? ((⟨b, 0, none⟩ : Addr).add i) = some u) := fun i u h => by
      have ea : (⟨b, 0, none⟩ : Addr).add i = ⟨b, i, none⟩ := by unfold Addr.add; split <;> simp_all
      rw [ea, hcb.cell i]; simpa using h
    have HR := Lib.hid (row_below HO.out hB2 (Nat.le_refl _))
    have HB2 := Lib.hid hB2
    have H1 := Lib.hid h1
    have H2 := Lib.hid h2
    have H3 := Lib.hid (cells_kept HC.out hB2 hsb)
    have hlo2 : N ≤ w2.heap.size := by have := hB2.size; omega
    clear h1 h2 hcb hb2 hB2 HL HBA HO HE HC hu
    simp only [List.foldl, List.setIfInBounds_toArray, List.set_cons_zero, List.set_cons_succ]
    go_wp2_with (at_builtin; refine wpList_append_at rfl _ _ 107 rfl N 109 i0 _ 6 80 Tryz.underlying107 hi hz0 hz1 hz2 rfl (by decide) _ _ _ rfl HR.out ⟨b, 0, none⟩ 1 1 _ rfl rfl HV.out (by intro u hu; simp at hu; rcases hu with rfl | rfl | rfl | rfl | rfl | rfl <;> rfl) (by unfold maxLen; omega) (by omega) hlo2 ?_)
    intro sv' w3 own3 grow3 at3
    have at3' := at3.out
    have hne : (Value.slice sa j scap).ownBlock ≠ some sb := own_cells_ne HR.out H3.out (by decide)
    have C3 := H3.out.grown grow3 (fun e => hne e.symm)
    have c3 : w3.cell? ⟨sb, 0, none⟩ = some (.slice sa j scap) := by rw [C3.cell]; rfl
    have f3 := C3.frozen 0
    have FIN : Hid (∃ sv'' A c w2', Below W.heap.size W w2' ∧ FldR w2' (.slice A was.length c) was ∧ (∀ b, (Value.slice A was.length c).ownBlock = some b → W.heap.size ≤ b) ∧ ∃ w3', w2'.grownBy w3' (Value.slice sa j scap).ownBlock ∧ w3'.ownsRow N 109 6 sv'' (j + 1) (xs ++ [.int .i64 ed.kind, .int .i64 ed.id, .slice fa fn fc, .slice A was.length c, .int .i64 ah, .int .i64 gv]) ∧ (sv''.ownBlock = (Value.slice sa j scap).ownBlock ∨ sv''.ownBlock = some w2'.heap.size) ∧ w3.setCell ⟨sb, 0, none⟩ sv' = w3'.setCell ⟨sb, 0, none⟩ sv'') :=
      ⟨sv', A, c, w2, HB2.out, H1.out, H2.out, w3, grow3, own3, at3', rfl⟩
    obtain ⟨g3, n3, q3, rfl⟩ : ∃ A n c, sv' = .slice A n c := by
      rcases own3.2 with ⟨rfl, _⟩ | ⟨g', cap', cur', rfl, _⟩
      · exact ⟨none, 0, 0, rfl⟩
      · exact ⟨_, _, _, rfl⟩
    clear own3 grow3 at3 at3' HR HV H1 H2 H3 HB2 C3
    go_wp2_with fail
    go_end0
    exact ⟨rfl, FIN.out⟩
end Go.Proofs.YtflnlenkgbphpaaGreatDoor

namespace Go.Proofs.YtflnlenkgbphpaaGreatDoor
open Go.RowKit Go.Shelf
attribute [local go_sem] Oper.semAt_some

set_option maxRecDepth 100000 in
set_option maxHeartbeats 4000000 in
theorem refGood_any (ed : Ed) (fv : Value) (w : World) (h : Flds w fv ed.fields) (hf : Fine7 ed.fields) :
    Calls Tryz.prog 40 #[.agg #[.int .i64 ed.kind, .int .i64 ed.id, fv]] w fun e w' => e = .returned (.int .i64 (goodE ed : Nat)) ∧ Below w.heap.size w w' := by
  obtain ⟨fa, fc, rfl, _, _⟩ := _root_.id h
  obtain ⟨wa, hwa⟩ : ∃ wa, wa = w.alloc (.cells #[.int .i64 ed.kind, .int .i64 ed.id, .slice fa ed.fields.length fc] 33) := ⟨_, rfl⟩
  have hba : Below w.heap.size w wa := by rw [hwa]; exact (Below.refl _ w).alloc (Nat.le_refl _) _
  have HC := Lib.hid (refChk_any ed.fields (.slice fa ed.fields.length fc) wa (h.below hba (Nat.le_refl _)) (by have := hf.len; omega) (fun f hm => by have := hf.each f hm; omega))
  have HB := Lib.hid hba
  have GE := Lib.hid (show goodE ed = if ed.kind = 1 ∨ ed.kind = 3 then chkN ed.fields else if ed.kind = 2 ∧ ed.fields.length = 0 then 0 else 2 from rfl)
  clear hba h
  generalize goodE ed = ge at *
  generalize chkN ed.fields = cn at *
  generalize chkAt ed.fields = ca at *
  generalize ed.fields.length = fl at *
  generalize ed.kind = kk at *
  generalize ed.id = ii at *
  by_cases hlo : kk < 1
  · have hg : ge = 2 := by rw [GE.out, if_neg (by omega), if_neg (by omega)]
    subst hg hwa
    go_enter Tryz.func40, Tryz.ntmps40
    go_wp2_with fail
    go_ret
    exact ⟨rfl, HB.out⟩
  · by_cases hhi : 3 < kk
    · have hg : ge = 2 := by rw [GE.out, if_neg (by omega), if_neg (by omega)]
      subst hg hwa
      go_enter Tryz.func40, Tryz.ntmps40
      go_wp2_with fail
      go_ret
      exact ⟨rfl, HB.out⟩
    · by_cases h2 : kk = 2
      · subst h2
        by_cases h0 : fl = 0
        · have hg : ge = 0 := by rw [GE.out, if_neg (by omega), if_pos ⟨rfl, h0⟩]
          subst hg h0 hwa
          go_enter Tryz.func40, Tryz.ntmps40
          go_wp2_with fail
          go_ret
          exact ⟨rfl, HB.out⟩
        · have hg : ge = 2 := by rw [GE.out, if_neg (by omega), if_neg (by omega)]
          have hp : (0 : Int) < (fl : Int) := by omega
          subst hg hwa
          go_enter Tryz.func40, Tryz.ntmps40
          go_wp2_with fail
          go_ret
          exact ⟨rfl, HB.out⟩
      · have hg : ge = cn := by rw [GE.out, if_pos (by omega)]
        have q2 : (kk == 2) = false := by simpa using h2
        subst hg hwa
        go_enter Tryz.func40, Tryz.ntmps40
        go_wp2_with fail
        refine HC.out.mono ?_
        rintro e w2 ⟨rfl, b2⟩
        have B2 := Lib.hid (HB.out.trans (b2.mono HB.out.size))
        clear b2 HC
        go_wp2_with fail
        go_ret
        exact ⟨rfl, B2.out⟩
set_option maxRecDepth 100000 in
set_option maxHeartbeats 4000000 in
theorem refCheckB_any (eds : List Ed) (v : Value) (w : World) (h : EdV w v eds) (hl : eds.length ≤ 1000000) (hf : Fines eds) :
    Calls Tryz.prog 12 #[v] w fun e w' => e = .returned (.tuple #[.int .i64 (chkB eds).1, .int .i64 (chkB eds).2]) ∧ Below w.heap.size w w' := by
  obtain ⟨A, cap, rfl, hle, hc⟩ := h
  have PC := Lib.hid hc
  have HF := Lib.hid hf
  clear hc hf
  by_cases h0 : eds.length < 1
  · have e0 : chkB eds = (-9, 1) := by unfold chkB; rw [if_pos (by omega)]
    have z0 : eds.length = 0 := by omega
    rw [e0, z0]
    go_enter Tryz.func12, Tryz.ntmps12
    go_wp2_with fail
    go_ret2
    exact ⟨rfl, Below.refl _ _⟩
  have q0 : ¬ ((eds.length : Int) < 1) := by omega
  by_cases h40 : 40 < eds.length
  · have e0 : chkB eds = (-9, 1) := by unfold chkB; rw [if_pos (by omega)]
    rw [e0]
    go_enter Tryz.func12, Tryz.ntmps12
    go_wp2_with fail
    go_ret2
    exact ⟨rfl, Below.refl _ _⟩
  have e1 : chkB eds = chkOn 0 eds := by unfold chkB; rw [if_neg (by omega)]
  rw [e1]
  go_enter Tryz.func12, Tryz.ntmps12
  go_wp2_with fail
  go_loopw [4] (fun i wr => ∃ k : Nat, k ≤ eds.length ∧ i = .int .i64 k ∧ (∀ x ∈ eds.take k, goodE x = 0) ∧ Below w.heap.size w wr) (fun i _ => eds.length - (intOf i).toNat)
  case atStart => exact ⟨0, Nat.zero_le _, rfl, (fun x hx => by simp at hx), Below.refl _ _⟩
  case round =>
    obtain ⟨k, hk, rfl, hsm, hb⟩ := hrel
    by_cases hlt : k < eds.length
    · obtain ⟨ed, hed⟩ : ∃ ed, eds[k]? = some ed := ⟨_, List.getElem?_eq_getElem hlt⟩
      obtain ⟨b, off, fv, rfl, hbb, c0, c1, c2, hfl⟩ := PC.out k ed hed
      obtain ⟨fa, fc, rfl, _, _⟩ := _root_.id hfl.1
      replace c0 := (hb.cell (p := ⟨b, off + k * 3, none⟩) hbb).trans c0
      replace c1 := (hb.cell (p := ⟨b, off + k * 3 + 1, none⟩) hbb).trans c1
      replace c2 := (hb.cell (p := ⟨b, off + k * 3 + 1 + 1, none⟩) hbb).trans c2
      have CK := Lib.hid (refGood_any ed (.slice fa ed.fields.length fc) wr (hfl.1.below hb (Nat.le_refl _)) (HF.out ed (List.mem_of_getElem? hed)))
      have SM : Hid (goodE ed = 0 → ∀ x ∈ eds.take (k + 1), goodE x = 0) := fun hz x hx => by
        rw [take_snoc hed] at hx
        rcases List.mem_append.1 hx with hx | hx
        · exact hsm x hx
        · rw [List.mem_singleton.1 hx]; exact hz
      have AT : Hid (goodE ed ≠ 0 → chkOn 0 eds = (((k : Nat) : Int), goodE ed)) := fun hz => by rw [chkOn_at eds 0 k ed hsm hed hz, Nat.zero_add]
      have HBA := Lib.hid hb
      clear hed hsm hfl hb
      generalize goodE ed = ge at *
      go_wp2_with fail
      refine CK.out.mono ?_
      rintro e w2 ⟨rfl, b2⟩
      have B2 := Lib.hid (HBA.out.trans (b2.mono HBA.out.size))
      clear b2 CK
      by_cases hg0 : ge = 0
      · subst hg0
        have SM1 := Lib.hid (SM.out rfl)
        clear SM AT
        go_wp2_with fail
        go_roundw
        case rel => exact ⟨k + 1, hlt, by go_num, SM1.out, B2.out⟩
        case measure => simp [intOf]; omega
      · have AT1 := Lib.hid (AT.out hg0)
        have qn : ((ge : Int) == 0) = false := by simpa using hg0
        have FIN : Hid (Ending.returned (.tuple #[.int .i64 (k : Nat), .int .i64 (ge : Nat)]) = .returned (.tuple #[.int .i64 (chkOn 0 eds).1, .int .i64 (chkOn 0 eds).2])) := by
          show _ = _
          rw [AT1.out]
        clear SM AT AT1
        go_wp2_with fail
        go_ret2
        exact ⟨FIN.out, B2.out⟩
    · obtain rfl : k = eds.length := by omega
      rw [List.take_length] at hsm
      have FIN : Hid (Ending.returned (.tuple #[.int .i64 (-9), .int .i64 0]) = .returned (.tuple #[.int .i64 (chkOn 0 eds).1, .int .i64 (chkOn 0 eds).2])) := by
        show _ = _
        rw [chkOn_all eds 0 hsm]; rfl
      clear PC hsm
      go_wp2_with fail
      go_ret2
      exact ⟨FIN.out, hb⟩
end Go.Proofs.YtflnlenkgbphpaaGreatDoor

namespace Go.Proofs.YtflnlenkgbphpaaGreatDoor
open Go.RowKit Go.Shelf
attribute [local go_sem] Oper.semAt_some

def edsA9 : List Ed := [⟨2, 1, []⟩, ⟨1, 1, [([65], [])]⟩]
theorem doA9 : doB ⟨[(⟨3, [65, 58, 32, 49, 10], [([65], [49])]⟩, 1)], 2⟩ edsA9 = (1, 7) := by decide +kernel
theorem okA9 : OkL ⟨[(⟨3, [65, 58, 32, 49, 10], [([65], [49])]⟩, 1)], 2⟩ := ⟨wfA7, by decide, by decide, by decide, by decide⟩
set_option maxRecDepth 100000 in
set_option maxHeartbeats 4000000 in
theorem alive9_any (w : World) (hg : ErrT w) : Calls Tryz.prog 8 #[] w fun e w' => e = .returned (.bool true) ∧ Below w.heap.size w w' := by
  have OF := Lib.hid (of_any ⟨#[65, 58, 32, 49, 10]⟩ (by decide) w)
  have HG := Lib.hid hg
  clear hg
  go_enter Tryz.func8, Tryz.ntmps8
  go_wp2_with fail
  refine OF.out.mono ?_
  rintro e w1 hof
  obtain ⟨b1, lb, ev, ps, rfl, hlb, hev, hla, hps⟩ := hof.yes parseA7
  rw [fromA7] at hla hps
  dsimp only at hla hps
  obtain ⟨wa, hwa⟩ : ∃ wa, wa = (w1.alloc (.cells #[.string ⟨#[65]⟩, .string ⟨#[]⟩] 35)).alloc (.cells #[.int .i64 2, .int .i64 1, .slice none 0 0, .int .i64 1, .int .i64 1, .slice (some ⟨w1.heap.size, 0, none⟩) 1 1] 33) := ⟨_, rfl⟩
  have hba : Below w1.heap.size w1 wa := by rw [hwa]; exact ((Below.refl _ w1).alloc (Nat.le_refl _) _).alloc (by simp) _
  have hB : Below w.heap.size w wa := b1.trans (hba.mono b1.size)
  have cE : Cells wa (w1.heap.size + 1) 33 #[.int .i64 2, .int .i64 1, .slice none 0 0, .int .i64 1, .int .i64 1, .slice (some ⟨w1.heap.size, 0, none⟩) 1 1] := by
    rw [hwa]
    have := Cells.new (w1.alloc (.cells #[.string ⟨#[65]⟩, .string ⟨#[]⟩] 35)) 33 #[.int .i64 2, .int .i64 1, .slice none 0 0, .int .i64 1, .int .i64 1, .slice (some ⟨w1.heap.size, 0, none⟩) 1 1]
    simpa using this
  have hfs : wa.ownsRow w1.heap.size 35 2 (sl w1.heap.size 1 1) 1 (cellsF [([65], [])]) := by
    refine ⟨rfl, .inr ⟨w1.heap.size, 1, _, rfl, Nat.le_refl _, by rw [hwa]; exact (Cells.new w1 _ _).alloc _, Nat.le_refl _, by decide, rfl, rfl⟩⟩
  have hV : EdV wa (.slice (some ⟨w1.heap.size + 1, 0, none⟩) 2 2) edsA9 := by
    refine ⟨_, 2, rfl, Nat.le_refl _, fun i ed hi => ?_⟩
    have hlt : w1.heap.size + 1 < wa.heap.size := cE.lt
    match i, hi with
    | 0, hi =>
      simp [edsA9] at hi; subst hi
      exact ⟨_, 0, .slice none 0 0, rfl, hlt, by rw [cE.cell]; rfl, by rw [cE.cell]; rfl, by rw [cE.cell]; rfl, ⟨none, 0, rfl, Nat.le_refl _, fun i f h => by simp at h⟩, fun n c h => by cases h; rfl⟩
    | 1, hi =>
      simp [edsA9] at hi; subst hi
      exact ⟨_, 0, sl w1.heap.size 1 1, rfl, hlt, by rw [cE.cell]; rfl, by rw [cE.cell]; rfl, by rw [cE.cell]; rfl, FldR.own hfs⟩
    | i + 2, hi => simp [edsA9] at hi
  have C : Carry w.heap.size wa lb ev ps ⟨[(⟨3, [65, 58, 32, 49, 10], [([65], [49])]⟩, 1)], 2⟩ 10 := by
    refine ⟨hla.below hba (Nat.le_refl _), hps, okA9, fun e he => ?_, hlb, hev, by decide, by decide⟩
    rw [List.mem_singleton.1 he]; decide
  have DO := Do_any edsA9 _ hV (by decide) (fun ed he => by
      rcases List.mem_cons.1 he with rfl | he
      · exact ⟨by decide, fun f hf => by cases hf⟩
      · rw [List.mem_singleton.1 he]; exact ⟨by decide, fun f hf => by rw [List.mem_singleton.1 hf]; decide⟩) (fun ed he => by
      rcases List.mem_cons.1 he with rfl | he
      · decide
      · rw [List.mem_singleton.1 he]; decide) (HG.out.below hB (Nat.le_refl _)) C (by decide)
  have LN : Hid (∀ W, Below wa.heap.size wa W → Calls Tryz.prog 35 #[ptr lb] W fun e w' => e = .returned (.int .i64 1) ∧ Below W.heap.size W w') := by
    intro W hW
    have := len_R lb ev ps 2 W ((hla.below hba (Nat.le_refl _)).lr.below hW (Nat.le_refl _)) (by rw [hps]; exact wfA7) (by have := congrArg List.length hps; simp at this; omega)
    rw [hps] at this
    exact this
  have HDO := Lib.hid DO
  have HB := Lib.hid hB
  clear DO hB hV C hfs cE hba hps hla hof b1 OF
  unfold ptr at HDO LN
  unfold ptr
  subst hwa
  go_wp2_with fail
  refine HDO.out.mono ?_
  rintro e w2 ⟨b2, ⟨h0, u, rfl, hz⟩ | ⟨h1, _⟩⟩
  rotate_left
  · rw [doA9] at h1; cases h1
  rw [doA9] at hz
  have LN2 := Lib.hid (LN.out w2 b2)
  have B2 := Lib.hid (HB.out.trans (b2.mono HB.out.size))
  have NU := Lib.hid (num_z hz)
  have AT := Lib.hid (at_z hz)
  have IS : Hid (Calls Tryz.prog 34 #[u, .int .i64 7] w2 fun e w' => e = .returned (.bool true) ∧ w2 = w') := by
    show Calls _ _ _ _ _
    go_enter Tryz.func34, Tryz.ntmps34
    go_wp2_with fail
    refine NU.out.mono ?_
    rintro e w' ⟨rfl, rfl⟩
    go_wp2_with fail
    go_ret
    exact ⟨rfl, rfl⟩
  clear hz b2 HDO LN NU h0
  go_wp2_with fail
  refine IS.out.mono ?_
  rintro e w' ⟨rfl, rfl⟩
  go_wp2_with fail
  refine AT.out.mono ?_
  rintro e w' ⟨rfl, rfl⟩
  go_wp2_with fail
  refine LN2.out.mono ?_
  rintro e w4 ⟨rfl, b4⟩
  have B4 := Lib.hid (B2.out.trans (b4.mono B2.out.size))
  clear LN2 b4
  go_wp2_with fail
  go_ret
  exact ⟨rfl, B4.out⟩
end Go.Proofs.YtflnlenkgbphpaaGreatDoor

