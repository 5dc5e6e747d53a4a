/- Texts put together: EP, EQ, KP, KH, KI. -/
import Derived.Maps.Views
import Derived.Maps.OwnSet
import Derived.Maps.RangeWalk
import Derived.Test.YtfjklpgmnakcaaaGreatDoorBae1
import Derived.Test.YtfjklpgmnakcaaaGreatDoorBae19
import Derived.Test.YtfjklpgmnakcaaaGreatDoorBae21
import Derived.Test.YtfjklpgmnakcaaaGreatDoorBae22
set_option linter.unusedVariables false
set_option maxRecDepth 100000
set_option maxHeartbeats 16000000
namespace Go.Proofs.YtfjklpgmnakcaaaGreatDoor
open Go.RowKit Go.Shelf
attribute [local go_sem] Oper.semAt_some
def stepWas (l : LS) (ed : Ed) : List Fld := if ed.kind = 1 \/ ed.kind = 2 then wasE l.es ed.id else []
def stepAhead (l : LS) (ed : Ed) : Int := if ed.kind = 2 then aheadZ (szE l.es) ed.id else 0
def stepGiven (l : LS) (ed : Ed) : Int := if ed.kind = 3 then l.next else 0
theorem fldR_none (w : World) : FldR w (.slice none 0 0) [] := ⟨⟨none, 0, rfl, Nat.le_refl _, fun i f h => by simp at h⟩, fun n c h => by cases h; rfl⟩
theorem get_was {S0 : Nat} {w : World} {lb : Nat} {ev : Value} {ps : List Pr} {l : LS} {m : Nat} (C : Carry S0 w lb ev ps l m) (hm : m <= 10000) (id : Int) :
    Calls Tryz.prog 43 #[ptr lb, .int .i64 id] w fun e w' => ∃ A c b, e = .returned (.tuple #[.slice A (wasE l.es id).length c, .bool b]) /\ FldR w' (.slice A (wasE l.es id).length c) (wasE l.es id) /\ (∀ b, (Value.slice A (wasE l.es id).length c).ownBlock = some b -> w.heap.size <= b) /\ Below w.heap.size w w' := by
  have hl := C.plen
  have hfR := findP_R C.wf id
  rw [C.es] at hfR
  cases hf : findR l.es id with
  | none =>
    rw [hf] at hfR
    have e0 : wasE l.es id = [] := by unfold wasE; rw [hf]; rfl
    rw [e0]
    refine (get_none lb ev ps l.next id w C.la.lr (by omega) hfR).mono ?_
    rintro e w' ⟨rfl, hb⟩
    exact ⟨none, 0, false, rfl, fldR_none _, (fun b h => by cases h), hb⟩
  | some k =>
  rw [hf] at hfR
  obtain ⟨p, hp, h3, _⟩ := findP_lt hfR
  have hes : l.es[k]? = some p.1 := by rw [<- C.es, List.getElem?_map, hp]; rfl
  have e0 : wasE l.es id = p.1.1.fields := was_found hf hes
  rw [e0]
  have hs := (C.sz _ (List.mem_of_getElem? hes)).2
  refine (get_some lb ev ps l.next id w C.la.lr (by omega) hfR hp (by omega)).mono ?_
  rintro e w' ⟨x, rfl, hx, hb⟩
  obtain ⟨A, c, rfl, _⟩ := own_slice hx
  exact ⟨A, c, true, rfl, FldR.own hx, fun b h => (hx.lt b h).1, hb⟩
theorem set6 (c0 c1 c2 c3 c4 c5 v0 v1 v2 v3 v4 v5 : Value) : ((((((#[c0, c1, c2, c3, c4, c5].setIfInBounds 0 v0).setIfInBounds 1 v1).setIfInBounds 2 v2).setIfInBounds 3 v3).setIfInBounds 4 v4).setIfInBounds 5 v5) = #[v0, v1, v2, v3, v4, v5] := by rfl
abbrev six9 (W : World) (b : Nat) (v0 v1 v2 v3 v4 v5 : Value) : World := (((((W.setCell ⟨b, 0, none⟩ v0).setCell ⟨b, 1, none⟩ v1).setCell ⟨b, 2, none⟩ v2).setCell ⟨b, 3, none⟩ v3).setCell ⟨b, 4, none⟩ v4).setCell ⟨b, 5, none⟩ v5
theorem only_six (W : World) (b : Nat) (v0 v1 v2 v3 v4 v5 : Value) : Only (· = b) W (six9 W b v0 v1 v2 v3 v4 v5) :=
  ((((((Only.refl (· = b) W).cellS 0 v0).cellS 1 v1).cellS 2 v2).cellS 3 v3).cellS 4 v4).cellS 5 v5
def LookG (w : World) (ed : Ed) (fv : Value) (was : List Fld) (ah gv : Int) (e : Ending) (w' : World) : Prop :=
  ∃ A c, e = .returned (.agg #[.int .i64 ed.kind, .int .i64 ed.id, fv, .slice A was.length c, .int .i64 ah, .int .i64 gv]) /\ FldR w' (.slice A was.length c) was /\ (∀ b, (Value.slice A was.length c).ownBlock = some b -> w.heap.size <= b) /\ Below w.heap.size w w'
def wasK (ed : Ed) (fs : List Fld) : List Fld := if ed.kind = 1 \/ ed.kind = 2 then fs else []
def ahK (ed : Ed) (a : Int) : Int := if ed.kind = 2 then a else 0
def gvK (ed : Ed) (n : Int) : Int := if ed.kind = 3 then n else 0
theorem look_gen {w : World} (lq : Option Addr) (ed : Ed) (hkd : ed.kind = 1 \/ ed.kind = 2 \/ ed.kind = 3) (fa : Option Addr) (fn fc : Nat) (fs : List Fld) (ah nx : Int)
    (hG : ∀ W, Below w.heap.size w W -> Calls Tryz.prog 43 #[.pointer lq, .int .i64 ed.id] W fun e w' => ∃ A c b, e = .returned (.tuple #[.slice A fs.length c, .bool b]) /\ FldR w' (.slice A fs.length c) fs /\ (∀ b, (Value.slice A fs.length c).ownBlock = some b -> W.heap.size <= b) /\ Below W.heap.size W w')
    (hA : ∀ W, Below w.heap.size w W -> Calls Tryz.prog 44 #[.pointer lq, .int .i64 ed.id] W fun e w' => e = .returned (.int .i64 ah) /\ Below W.heap.size W w')
    (hN : ∀ W, Below w.heap.size w W -> Calls Tryz.prog 25 #[.pointer lq] W fun e w' => e = .returned (.int .i64 nx) /\ W = w') :
    Calls Tryz.prog 23 #[.pointer lq, .agg #[.int .i64 ed.kind, .int .i64 ed.id, .slice fa fn fc]] w fun e w' => LookG w ed (.slice fa fn fc) (wasK ed fs) (ahK ed ah) (gvK ed nx) e w' := by
  obtain ⟨wa, hwa⟩ : ∃ wa, wa = ((w.alloc (.cells #[.int .i64 ed.kind, .int .i64 ed.id, .slice fa fn fc] 53)).alloc (.cells #[.int .i64 0, .int .i64 0, .slice none 0 0, .slice none 0 0, .int .i64 0, .int .i64 0] 65)).alloc (.cells #[.int .i64 ed.kind, .int .i64 ed.id, .slice fa fn fc, .slice none 0 0, .int .i64 0, .int .i64 0] 65) := ⟨_, rfl⟩
  have hba : Below w.heap.size w wa := by rw [hwa]; exact (((Below.refl _ w).alloc (Nat.le_refl _) _).alloc (by simp) _).alloc (by simp; omega) _
  have hza : wa.heap.size = w.heap.size + 3 := by rw [hwa]; simp
  have cE : Cells wa w.heap.size 53 #[.int .i64 ed.kind, .int .i64 ed.id, .slice fa fn fc] := by rw [hwa]; exact ((Cells.new w _ _).alloc _).alloc _
  have cR : Cells wa (w.heap.size + 1) 65 #[.int .i64 0, .int .i64 0, .slice none 0 0, .slice none 0 0, .int .i64 0, .int .i64 0] := by
    rw [hwa]
    have := (Cells.new (w.alloc (.cells #[.int .i64 ed.kind, .int .i64 ed.id, .slice fa fn fc] 53)) 65 #[.int .i64 0, .int .i64 0, .slice none 0 0, .slice none 0 0, .int .i64 0, .int .i64 0])
    simp only [World.size_alloc] at this
    exact this.alloc _
  have cS : Cells wa (w.heap.size + 1 + 1) 65 #[.int .i64 ed.kind, .int .i64 ed.id, .slice fa fn fc, .slice none 0 0, .int .i64 0, .int .i64 0] := by
    rw [hwa]
    have := (Cells.new ((w.alloc (.cells #[.int .i64 ed.kind, .int .i64 ed.id, .slice fa fn fc] 53)).alloc (.cells #[.int .i64 0, .int .i64 0, .slice none 0 0, .slice none 0 0, .int .i64 0, .int .i64 0] 65)) 65 #[.int .i64 ed.kind, .int .i64 ed.id, .slice fa fn fc, .slice none 0 0, .int .i64 0, .int .i64 0])
    simp only [World.size_alloc] at this
    exact this
  have FE : Hid (∀ W, Below wa.heap.size wa W -> W.cell? ⟨w.heap.size, 0, none⟩ = some (.int .i64 ed.kind) /\ W.cell? ⟨w.heap.size, 1, none⟩ = some (.int .i64 ed.id) /\ W.cell? ⟨w.heap.size, 2, none⟩ = some (.slice fa fn fc)) := fun W hW => by
    have h := cells_kept cE hW (by omega)
    exact ⟨by rw [h.cell]; rfl, by rw [h.cell]; rfl, by rw [h.cell]; rfl⟩
  have FC : Hid (∀ W, Below wa.heap.size wa W -> W.cell? ⟨w.heap.size + 1 + 1, 0, none⟩ = some (.int .i64 ed.kind) /\ W.cell? ⟨w.heap.size + 1 + 1, 1, none⟩ = some (.int .i64 ed.id) /\ W.cell? ⟨w.heap.size + 1 + 1, 2, none⟩ = some (.slice fa fn fc) /\ W.cell? ⟨w.heap.size + 1 + 1, 3, none⟩ = some (.slice none 0 0) /\ W.cell? ⟨w.heap.size + 1 + 1, 4, none⟩ = some (.int .i64 0) /\ W.cell? ⟨w.heap.size + 1 + 1, 5, none⟩ = some (.int .i64 0) /\
      W.frozen? ⟨w.heap.size + 1 + 1, 0, none⟩ = false /\ W.frozen? ⟨w.heap.size + 1 + 1, 1, none⟩ = false /\ W.frozen? ⟨w.heap.size + 1 + 1, 2, none⟩ = false /\ W.frozen? ⟨w.heap.size + 1 + 1, 3, none⟩ = false /\ W.frozen? ⟨w.heap.size + 1 + 1, 4, none⟩ = false /\ W.frozen? ⟨w.heap.size + 1 + 1, 5, none⟩ = false) := fun W hW => by
    have h := cells_kept cS hW (by omega)
    exact ⟨by rw [h.cell]; rfl, by rw [h.cell]; rfl, by rw [h.cell]; rfl, by rw [h.cell]; rfl, by rw [h.cell]; rfl, by rw [h.cell]; rfl, h.frozen 0, h.frozen 1, h.frozen 2, h.frozen 3, h.frozen 4, h.frozen 5⟩
  have FR : Hid (∀ W, Below wa.heap.size wa W -> W.cell? ⟨w.heap.size + 1, 0, none⟩ = some (.int .i64 0) /\ W.cell? ⟨w.heap.size + 1, 1, none⟩ = some (.int .i64 0) /\ W.cell? ⟨w.heap.size + 1, 2, none⟩ = some (.slice none 0 0) /\ W.cell? ⟨w.heap.size + 1, 3, none⟩ = some (.slice none 0 0) /\ W.cell? ⟨w.heap.size + 1, 4, none⟩ = some (.int .i64 0) /\ W.cell? ⟨w.heap.size + 1, 5, none⟩ = some (.int .i64 0) /\
      W.frozen? ⟨w.heap.size + 1, 0, none⟩ = false /\ W.frozen? ⟨w.heap.size + 1, 1, none⟩ = false /\ W.frozen? ⟨w.heap.size + 1, 2, none⟩ = false /\ W.frozen? ⟨w.heap.size + 1, 3, none⟩ = false /\ W.frozen? ⟨w.heap.size + 1, 4, none⟩ = false /\ W.frozen? ⟨w.heap.size + 1, 5, none⟩ = false) := fun W hW => by
    have h := cells_kept cR hW (by omega)
    exact ⟨by rw [h.cell]; rfl, by rw [h.cell]; rfl, by rw [h.cell]; rfl, by rw [h.cell]; rfl, by rw [h.cell]; rfl, by rw [h.cell]; rfl, h.frozen 0, h.frozen 1, h.frozen 2, h.frozen 3, h.frozen 4, h.frozen 5⟩
  have FIN : Hid (∀ (W1 W : World) (A : Option Addr) (c : Nat) (fs : List Fld) (v0 v1 v2 v4 v5 : Value), Below wa.heap.size wa W1 -> Only (· = w.heap.size + 1 + 1) W1 W -> (∀ b, (Value.slice A fs.length c).ownBlock = some b -> wa.heap.size <= b) -> FldR W1 (.slice A fs.length c) fs ->
      Cells (six9 W (w.heap.size + 1) v0 v1 v2 (.slice A fs.length c) v4 v5) (w.heap.size + 1) 65 #[v0, v1, v2, .slice A fs.length c, v4, v5] /\ FldR (six9 W (w.heap.size + 1) v0 v1 v2 (.slice A fs.length c) v4 v5) (.slice A fs.length c) fs /\ Below w.heap.size w (six9 W (w.heap.size + 1) v0 v1 v2 (.slice A fs.length c) v4 v5)) := by
    intro W1 W A c fs v0 v1 v2 v4 v5 hW ho hv hfl
    have b1 : Below w.heap.size w W1 := hba.trans (hW.mono hba.size)
    have h1 : Cells W1 (w.heap.size + 1) 65 #[.int .i64 0, .int .i64 0, .slice none 0 0, .slice none 0 0, .int .i64 0, .int .i64 0] := cells_kept cR hW (by omega)
    have h2 : Cells W (w.heap.size + 1) 65 #[.int .i64 0, .int .i64 0, .slice none 0 0, .slice none 0 0, .int .i64 0, .int .i64 0] := h1.only ho (fun e => by omega)
    have h3 := (((((h2.set 0 v0).set 1 v1).set 2 v2).set 3 (.slice A fs.length c)).set 4 v4).set 5 v5
    rw [set6] at h3
    have o2 := only_six W (w.heap.size + 1) v0 v1 v2 (.slice A fs.length c) v4 v5
    refine ⟨h3, ?_, ?_⟩
    . exact (hfl.only ho (fun _ b e q => by have := hv b e; omega)).only o2 (fun _ b e q => by have := hv b e; omega)
    exact b1.trans ((ho.to_below b1.size (fun r hr e => by omega)).trans (o2.to_below (Nat.le_trans b1.size ho.size) (fun r hr e => by omega)))
  have CR9 : Hid (∀ (w1 : World), Below wa.heap.size wa w1 -> ∀ u : Value, Cells (w1.setCell ⟨w.heap.size + 1 + 1, 3, none⟩ u) (w.heap.size + 1) 65 #[.int .i64 0, .int .i64 0, .slice none 0 0, .slice none 0 0, .int .i64 0, .int .i64 0]) := fun w1 b1 u => (cells_kept cR b1 (by omega)).other (p := ⟨w.heap.size + 1 + 1, 3, none⟩) (by show w.heap.size + 1 ≠ w.heap.size + 1 + 1; omega) u
  have CS9 : Hid (∀ (w1 : World), Below wa.heap.size wa w1 -> ∀ u : Value, Cells (w1.setCell ⟨w.heap.size + 1 + 1, 3, none⟩ u) (w.heap.size + 1 + 1) 65 #[.int .i64 ed.kind, .int .i64 ed.id, .slice fa fn fc, u, .int .i64 0, .int .i64 0]) := fun w1 b1 u => (cells_kept cS b1 (by omega)).set 3 u
  by_cases h1 : ed.kind = 1
  . have GT := hG wa hba
    have e1 : wasK ed fs = fs := if_pos (.inl h1)
    have e2 : ahK ed ah = 0 := if_neg (by omega)
    have e3 : gvK ed nx = 0 := if_neg (by omega)
    unfold LookG
    rw [e1, e2, e3]
    clear cE cS cR hba CR9 CS9
    rw [h1] at hwa FE FC ⊢
    have GT := Lib.hid GT
    clear hG hA hN e1 e2 e3
    subst hwa
    go_enter Tryz.func23, Tryz.ntmps23
    go_wp2_with fail
    refine GT.out.mono ?_
    rintro e w1 ⟨A, c, b, rfl, hx, hxb, b1⟩
    obtain ⟨f0, f1, f2, f3, f4, f5, g0, g1, g2, g3, g4, g5⟩ := FC.out w1 b1
    obtain ⟨q0, q1, q2, q3, q4, q5, h0, h1', h2, h3, h4, h5⟩ := FR.out w1 b1
    obtain ⟨hcE, _, _⟩ := FE.out w1 b1
    obtain ⟨r1, r2, r3⟩ := FIN.out w1 (w1.setCell ⟨w.heap.size + 1 + 1, 3, none⟩ (.slice A (fs).length c)) A c (fs) (.int .i64 1) (.int .i64 ed.id) (.slice fa fn fc) (.int .i64 0) (.int .i64 0) b1 ((Only.refl _ w1).cellS 3 _) hxb hx
    have R1 := Lib.hid r1
    have R2 := Lib.hid r2
    have R3 := Lib.hid r3
    have HXB : Hid (∀ b, (Value.slice A (fs).length c).ownBlock = some b -> w.heap.size <= b) := fun b e => by have := hxb b e; omega
    clear hx b1 GT FC FR FE FIN r1 r2 r3 hxb
    go_wp2_with fail
    refine bodyPost_ret (ret_step rfl _ _ (w.heap.size + 1) _ rfl R1.out rfl) rfl ?_
    exact ⟨A, c, rfl, R2.out, HXB.out, R3.out⟩
  have q1 : (ed.kind == 1) = false := by simpa using h1
  by_cases h2 : ed.kind = 2
  . have GT := hG wa hba
    have e1 : wasK ed fs = fs := if_pos (.inr h2)
    have e2 : ahK ed ah = ah := if_pos h2
    have e3 : gvK ed nx = 0 := if_neg (by omega)
    have AH : Hid (∀ (w1 : World) (u : Value), Below wa.heap.size wa w1 -> Calls Tryz.prog 44 #[.pointer lq, .int .i64 ed.id] (w1.setCell ⟨w.heap.size + 1 + 1, 3, none⟩ u) fun e w' => e = .returned (.int .i64 ah) /\ Below (w1.setCell ⟨w.heap.size + 1 + 1, 3, none⟩ u).heap.size (w1.setCell ⟨w.heap.size + 1 + 1, 3, none⟩ u) w') := by
      intro w1 u b1
      exact hA _ ((hba.trans (b1.mono hba.size)).setCell (p := ⟨w.heap.size + 1 + 1, 3, none⟩) (by show w.heap.size <= w.heap.size + 1 + 1; omega) u)
    unfold LookG
    rw [e1, e2, e3]
    clear cE cS cR hba
    rw [h2] at hwa FE FC CS9 ⊢
    have GT := Lib.hid GT
    clear hG hA hN e1 e2 e3
    subst hwa
    go_enter Tryz.func23, Tryz.ntmps23
    go_wp2_with fail
    refine GT.out.mono ?_
    rintro e w1 ⟨A, c, b, rfl, hx, hxb, b1⟩
    obtain ⟨f0, f1, f2, f3, f4, f5, g0, g1, g2, g3, g4, g5⟩ := FC.out w1 b1
    obtain ⟨hcE, hcE1, _⟩ := FE.out w1 b1
    have AH1 := Lib.hid (AH.out w1 (.slice A (fs).length c) b1)
    have KP : Hid (∀ w2, Below (w1.setCell ⟨w.heap.size + 1 + 1, 3, none⟩ (.slice A (fs).length c)).heap.size (w1.setCell ⟨w.heap.size + 1 + 1, 3, none⟩ (.slice A (fs).length c)) w2 -> ∀ p : Addr, p.block < w.heap.size + 3 -> w2.cell? p = (w1.setCell ⟨w.heap.size + 1 + 1, 3, none⟩ (.slice A (fs).length c)).cell? p /\ w2.frozen? p = (w1.setCell ⟨w.heap.size + 1 + 1, 3, none⟩ (.slice A (fs).length c)).frozen? p) := by
      intro w2 b2 p hp
      have hz := b1.size
      have hz2 := ((Only.refl (· = w.heap.size + 1 + 1) w1).cellS 3 (.slice A (fs).length c)).size
      exact ⟨b2.cell (by omega), b2.frozen (by omega)⟩
    have HB1 := Lib.hid b1
    have HXB := Lib.hid hxb
    have HX := Lib.hid hx
    have HCR : Hid (Cells (w1.setCell ⟨w.heap.size + 1 + 1, 3, none⟩ (.slice A (fs).length c)) (w.heap.size + 1) 65 #[.int .i64 0, .int .i64 0, .slice none 0 0, .slice none 0 0, .int .i64 0, .int .i64 0]) := by
      obtain ⟨q0, q1, q2, q3, q4, q5, h0, h1', h2, h3, h4, h5⟩ := FR.out w1 b1
      exact CR9.out w1 b1 _
    have HCS : Hid (Cells (w1.setCell ⟨w.heap.size + 1 + 1, 3, none⟩ (.slice A (fs).length c)) (w.heap.size + 1 + 1) 65 #[.int .i64 2, .int .i64 ed.id, .slice fa fn fc, .slice A (fs).length c, .int .i64 0, .int .i64 0]) := CS9.out w1 b1 _
    clear hx hxb b1 GT FC FR FE AH CR9 CS9
    go_wp2_with fail
    refine AH1.out.mono ?_
    rintro e w2 ⟨rfl, b2⟩
    have h9 := HB1.out.size
    rw [hza] at h9
    have hz : w.heap.size + 3 <= (w1.setCell ⟨w.heap.size + 1 + 1, 3, none⟩ (.slice A (fs).length c)).heap.size := Nat.le_trans h9 ((Only.refl (· = w.heap.size + 1 + 1) w1).cellS 3 (.slice A (fs).length c)).size
    have cS2 := cells_kept HCS.out b2 (by omega)
    have cR2 := cells_kept HCR.out b2 (by omega)
    have k0 : w2.cell? ⟨w.heap.size + 1 + 1, 0, none⟩ = some (.int .i64 2) := by rw [cS2.cell]; rfl
    have k1 : w2.cell? ⟨w.heap.size + 1 + 1, 1, none⟩ = some (.int .i64 ed.id) := by rw [cS2.cell]; rfl
    have k2 : w2.cell? ⟨w.heap.size + 1 + 1, 2, none⟩ = some (.slice fa fn fc) := by rw [cS2.cell]; rfl
    have k3 : w2.cell? ⟨w.heap.size + 1 + 1, 3, none⟩ = some (.slice A (fs).length c) := by rw [cS2.cell]; rfl
    have k4 : w2.cell? ⟨w.heap.size + 1 + 1, 4, none⟩ = some (.int .i64 0) := by rw [cS2.cell]; rfl
    have k5 : w2.cell? ⟨w.heap.size + 1 + 1, 5, none⟩ = some (.int .i64 0) := by rw [cS2.cell]; rfl
    have m4 := cS2.frozen 4
    have j0 : w2.cell? ⟨w.heap.size + 1, 0, none⟩ = some (.int .i64 0) := by rw [cR2.cell]; rfl
    have j1 : w2.cell? ⟨w.heap.size + 1, 1, none⟩ = some (.int .i64 0) := by rw [cR2.cell]; rfl
    have j2 : w2.cell? ⟨w.heap.size + 1, 2, none⟩ = some (.slice none 0 0) := by rw [cR2.cell]; rfl
    have j3 : w2.cell? ⟨w.heap.size + 1, 3, none⟩ = some (.slice none 0 0) := by rw [cR2.cell]; rfl
    have j4 : w2.cell? ⟨w.heap.size + 1, 4, none⟩ = some (.int .i64 0) := by rw [cR2.cell]; rfl
    have j5 : w2.cell? ⟨w.heap.size + 1, 5, none⟩ = some (.int .i64 0) := by rw [cR2.cell]; rfl
    have n0 := cR2.frozen 0
    have n1 := cR2.frozen 1
    have n2 := cR2.frozen 2
    have n3 := cR2.frozen 3
    have n4 := cR2.frozen 4
    have n5 := cR2.frozen 5
    have o2 : Only (· = w.heap.size + 1 + 1) w1 (w2.setCell ⟨w.heap.size + 1 + 1, 4, none⟩ (.int .i64 (ah))) := (((Only.refl (· = w.heap.size + 1 + 1) w1).cellS 3 (.slice A (fs).length c)).below b2 ((Only.refl (· = w.heap.size + 1 + 1) w1).cellS 3 (.slice A (fs).length c)).size).cellS 4 _
    obtain ⟨r1, r2, r3⟩ := FIN.out w1 _ A c (fs) (.int .i64 2) (.int .i64 ed.id) (.slice fa fn fc) (.int .i64 (ah)) (.int .i64 0) HB1.out o2 HXB.out HX.out
    have R1 := Lib.hid r1
    have R2 := Lib.hid r2
    have R3 := Lib.hid r3
    have HXB2 : Hid (∀ b, (Value.slice A (fs).length c).ownBlock = some b -> w.heap.size <= b) := fun b e => by have := HXB.out b e; omega
    clear cS2 cR2 o2 r1 r2 r3 FIN b2 HB1 HX HXB HCR HCS KP AH1
    clear f0 f1 f2 f3 f4 f5 g0 g1 g2 g3 g4 g5 hcE hcE1
    go_wp2_with fail
    refine bodyPost_ret (ret_step rfl _ _ (w.heap.size + 1) _ rfl R1.out rfl) rfl ?_
    exact ⟨A, c, rfl, R2.out, HXB2.out, R3.out⟩
  have q2 : (ed.kind == 2) = false := by simpa using h2
  have e1 : wasK ed fs = [] := if_neg (by omega)
  have e2 : ahK ed ah = 0 := if_neg h2
  obtain ⟨f0, f1, f2, f3, f4, f5, g0, g1, g2', g3, g4, g5⟩ := FC.out wa (Below.refl _ _)
  obtain ⟨j0, j1, j2, j3, j4, j5, n0, n1, n2, n3, n4, n5⟩ := FR.out wa (Below.refl _ _)
  have hn := fldR_none wa
  have h3 : ed.kind = 3 := by omega
  have e3 : gvK ed nx = nx := if_pos h3
  have NX := Lib.hid (hN wa hba)
  obtain ⟨wz, hwz⟩ : ∃ wz, wz = ((w.alloc (.cells #[.int .i64 3, .int .i64 ed.id, .slice fa fn fc] 53)).alloc (.cells #[.int .i64 3, .int .i64 ed.id, .slice fa fn fc, .slice none 0 0, .int .i64 0, .int .i64 nx] 65)).alloc (.cells #[.int .i64 3, .int .i64 ed.id, .slice fa fn fc, .slice none 0 0, .int .i64 0, .int .i64 nx] 65) := ⟨_, rfl⟩
  have R1 : Hid (Cells wz (w.heap.size + 1) 65 #[.int .i64 3, .int .i64 ed.id, .slice fa fn fc, .slice none 0 0, .int .i64 0, .int .i64 nx]) := by
    show Cells _ _ _ _
    rw [hwz]
    have := (Cells.new (w.alloc (.cells #[.int .i64 3, .int .i64 ed.id, .slice fa fn fc] 53)) 65 #[.int .i64 3, .int .i64 ed.id, .slice fa fn fc, .slice none 0 0, .int .i64 0, .int .i64 nx])
    simp only [World.size_alloc] at this
    exact this.alloc _
  have R2 := Lib.hid (fldR_none wz)
  have R3 : Hid (Below w.heap.size w wz) := by
    show Below _ _ _
    rw [hwz]
    exact (((Below.refl _ w).alloc (Nat.le_refl _) _).alloc (by simp) _).alloc (by simp; omega) _
  unfold LookG
  rw [e1, e2, e3]
  clear cE cS cR hba FE FC FR FIN hn CR9 CS9
  rw [h3] at hwa f0 ⊢
  clear hG hA hN e1 e2 e3
  subst hwa
  go_enter Tryz.func23, Tryz.ntmps23
  go_wp2_with fail
  refine NX.out.mono ?_
  rintro e w1 ⟨rfl, rfl⟩
  go_wp2_with fail
  rw [<- hwz]
  refine bodyPost_ret (ret_step rfl _ _ (w.heap.size + 1) _ rfl R1.out rfl) rfl ?_
  exact ⟨none, 0, rfl, R2.out, (fun b e => by cases e), R3.out⟩
theorem look_any {S0 : Nat} {w : World} {lb : Nat} {ev : Value} {ps : List Pr} {l : LS} {m : Nat} (C : Carry S0 w lb ev ps l m) (hm : m <= 10000) (ed : Ed) (hkd : ed.kind = 1 \/ ed.kind = 2 \/ ed.kind = 3) (fa : Option Addr) (fn fc : Nat) :
    Calls Tryz.prog 23 #[ptr lb, .agg #[.int .i64 ed.kind, .int .i64 ed.id, .slice fa fn fc]] w fun e w' => LookG w ed (.slice fa fn fc) (stepWas l ed) (stepAhead l ed) (stepGiven l ed) e w' :=
  look_gen (some ⟨lb, 0, none⟩) ed hkd fa fn fc (wasE l.es ed.id) (aheadZ (szE l.es) ed.id) l.next
    (fun W hW => get_was (C.below hW (Nat.le_refl _)) hm ed.id) (fun W hW => ahead_any (C.below hW (Nat.le_refl _)) hm ed.id)
    (fun W hW => next_any lb ev ps l.next W (C.la.lr.below hW (Nat.le_refl _)) (by have := C.nx; have := C.ok.pos; omega))
end Go.Proofs.YtfjklpgmnakcaaaGreatDoor
namespace Go.Proofs.YtfjklpgmnakcaaaGreatDoor
open Go.RowKit Go.Shelf
attribute [local go_sem] Oper.semAt_some
structure StC where
  k : Int
  i : Int
  ah : Int
  gv : Int
  fv : Value
  wv : Value
  fs : List Fld
def stRow (cs : List StC) : List Value := cs.flatMap fun c => [.int .i64 c.k, .int .i64 c.i, c.fv, c.wv, .int .i64 c.ah, .int .i64 c.gv]
theorem stRow_snoc (cs : List StC) (c : StC) : stRow (cs ++ [c]) = stRow cs ++ [.int .i64 c.k, .int .i64 c.i, c.fv, c.wv, .int .i64 c.ah, .int .i64 c.gv] := by unfold stRow; simp
def zOf (sb : Nat) (sv : Value) (cs : List StC) (r : Nat) : Prop := r = sb \/ sv.ownBlock = some r \/ ∃ c ∈ cs, c.fs ≠ [] /\ c.wv.ownBlock = some r
structure StOk (l0 : LS) (eds : List Ed) (N : Nat) (W : World) (i : Nat) (c : StC) (ed : Ed) : Prop where
  at_ : eds[i]? = some ed
  k : c.k = ed.kind
  id_ : c.i = ed.id
  ah : c.ah = stepAhead (lsOn l0 (eds.take i)) ed
  gv : c.gv = stepGiven (lsOn l0 (eds.take i)) ed
  fs : c.fs = stepWas (lsOn l0 (eds.take i)) ed
  flds : FldR W c.wv c.fs
  low : c.fs ≠ [] -> ∀ b, c.wv.ownBlock = some b -> N <= b
  form : (∃ A n m, c.fv = .slice A n m) /\ ∃ A m, c.wv = .slice A c.fs.length m
def StepsP (sb N : Nat) (l0 : LS) (eds : List Ed) (j : Nat) (W : World) (Z : Nat -> Prop) : Prop :=
  ∃ sv cs, Z = zOf sb sv cs /\ cs.length = j /\ N <= sb /\ Cells W sb 62 #[sv] /\ W.ownsRow N 65 6 sv j (stRow cs) /\ ∀ (i : Nat) (c : StC), cs[i]? = some c -> ∃ ed, StOk l0 eds N W i c ed
theorem StepsP.lt {sb N : Nat} {l0 : LS} {eds : List Ed} {j : Nat} {W : World} {Z : Nat -> Prop} (h : StepsP sb N l0 eds j W Z) {r : Nat} (hr : Z r) : N <= r /\ r < W.heap.size := by
  obtain ⟨sv, cs, rfl, hl, hn, hc, ho, he⟩ := h
  rcases hr with rfl | hr | ⟨c, hcm, hne, hb⟩
  . exact ⟨hn, hc.lt⟩
  . exact ho.lt r hr
  obtain ⟨i, hi⟩ := List.getElem?_of_mem hcm
  obtain ⟨ed, ok⟩ := he i c hi
  exact ⟨ok.low hne r hb, ok.flds.1.lt hne r hb⟩
theorem infoStep9 : (Tryz.prog.info? 65).map (fun i => (i.zero, i.size, i.bytes)) = some (some (.agg #[.int .i64 0, .int .i64 0, .slice none 0 0, .slice none 0 0, .int .i64 0, .int .i64 0]), 6, 80) := by kernel_rfl
theorem back1_gen {N sb j : Nat} {W : World} (lq : Option Addr) (ed : Ed) (fa : Option Addr) (fn fc : Nat) (was : List Fld) (ah gv : Int) (sv : Value) (xs : List Value) (hj : j <= 100) (hN : N <= W.heap.size) (hc : Cells W sb 62 #[sv]) (ho : W.ownsRow N 65 6 sv j xs)
    (hL : ∀ W', Below W.heap.size W W' -> Calls Tryz.prog 23 #[.pointer lq, .agg #[.int .i64 ed.kind, .int .i64 ed.id, .slice fa fn fc]] W' fun e w' => LookG W' ed (.slice fa fn fc) was ah gv e w') :
    Calls Tryz.prog 22 #[.pointer lq, .agg #[.int .i64 ed.kind, .int .i64 ed.id, .slice fa fn fc], .pointer (some ⟨sb, 0, none⟩)] W fun e W' => e = .returned (.tuple #[]) /\
      ∃ sv' A c w2, Below W.heap.size W w2 /\ FldR w2 (.slice A was.length c) was /\ (∀ b, (Value.slice A was.length c).ownBlock = some b -> W.heap.size <= b) /\ ∃ w3, w2.grownBy w3 sv.ownBlock /\ w3.ownsRow N 65 6 sv' (j + 1) (xs ++ [.int .i64 ed.kind, .int .i64 ed.id, .slice fa fn fc, .slice A was.length c, .int .i64 ah, .int .i64 gv]) /\ (sv'.ownBlock = sv.ownBlock \/ sv'.ownBlock = some w2.heap.size) /\ W' = w3.setCell ⟨sb, 0, none⟩ sv' := by
  obtain ⟨i0, hi, hz0, hz1, hz2⟩ := info_parts infoStep9
  obtain ⟨wa, hwa⟩ : ∃ wa, wa = W.alloc (.cells #[.int .i64 ed.kind, .int .i64 ed.id, .slice fa fn fc] 53) := ⟨_, rfl⟩
  have hba : Below W.heap.size W wa := by rw [hwa]; exact (Below.refl _ W).alloc (Nat.le_refl _) _
  have hza : wa.heap.size = W.heap.size + 1 := by rw [hwa]; simp
  have cE : Cells wa W.heap.size 53 #[.int .i64 ed.kind, .int .i64 ed.id, .slice fa fn fc] := by rw [hwa]; exact Cells.new _ _ _
  have hsb := hc.lt
  obtain ⟨sa, scap, rfl⟩ : ∃ A c, sv = .slice A j c := by
    rcases ho.2 with ⟨rfl, hn⟩ | ⟨g', cap', cur', rfl, _⟩
    . exact ⟨none, 0, by rw [hn]⟩
    exact ⟨_, _, rfl⟩
  have HS9 : Hid (∀ W', Below wa.drew.heap.size wa.drew W' -> W'.cell? ⟨sb, 0, none⟩ = some (.slice sa j scap)) := fun W' hW' => by
    have := cells_kept hc (hba.drew.trans (hW'.mono hba.size)) hsb
    rw [this.cell]; rfl
  have HE9 : Hid (∀ W', Below wa.drew.heap.size wa.drew W' -> W'.cell? ⟨W.heap.size, 0, none⟩ = some (.int .i64 ed.kind) /\ W'.cell? ⟨W.heap.size, 1, none⟩ = some (.int .i64 ed.id) /\ W'.cell? ⟨W.heap.size, 2, none⟩ = some (.slice fa fn fc)) := fun W' hW' => by
    have := cells_kept cE.drew hW' (by show W.heap.size < wa.heap.size; omega)
    exact ⟨by rw [this.cell]; rfl, by rw [this.cell]; rfl, by rw [this.cell]; rfl⟩
  have HL9 : Hid (N <= wa.drew.heap.size) := show N <= wa.heap.size by omega
  have HL := Lib.hid hL
  have HBA := Lib.hid hba
  have HC := Lib.hid hc
  have HO := Lib.hid ho
  have HE := Lib.hid cE
  clear hL hba hc ho cE
  subst hwa
  go_enter Tryz.func22, Tryz.ntmps22
  go_upto_region 1 with fail
  refine wp_region_any (by kernel_rfl) ?_
  refine region_bk1 _ (W.alloc (.cells #[.int .i64 ed.kind, .int .i64 ed.id, .slice fa fn fc] 53)).drew sb W.heap.size N (.slice sa j scap) (.pointer lq) ed.kind ed.id fa fn fc
    (fun v w => ∃ A c, v = .agg #[.int .i64 ed.kind, .int .i64 ed.id, .slice fa fn fc, .slice A was.length c, .int .i64 ah, .int .i64 gv] /\ FldR w (.slice A was.length c) was /\ ∀ b, (Value.slice A was.length c).ownBlock = some b -> W.heap.size <= b) _ rfl rfl rfl rfl
    ?hS ?hlo ?hE ?hPM ?hPF ?hCL ?hQ
  case hS => exact HS9.out
  case hlo => exact HL9.out
  case hE => exact HE9.out
  case hPM =>
    rintro v x y hb ⟨A, c, e, h1, h2⟩
    exact ⟨A, c, e, h1.below hb (Nat.le_refl _), h2⟩
  case hPF =>
    rintro v w ⟨A, c, e, _, _⟩
    exact ⟨_, _, _, _, _, _, _, _, _, _, e⟩
  case hCL =>
    intro W' hW'
    have hB' : Below W.heap.size W W' := HBA.out.drew.trans (hW'.mono HBA.out.size)
    refine (HL.out W' hB').mono ?_
    rintro e w' ⟨A, c, rfl, h1, h2, h3⟩
    exact ⟨_, rfl, ⟨A, c, rfl, h1, fun b e => by have := h2 b e; have := hB'.size; omega⟩, h3⟩
  case hQ =>
  intro y0 y1 y2 y3 y4 w2 hb2 hy0 hy4
  subst hy0
  obtain ⟨b, u, cs, rfl, ⟨A, c, rfl, h1, h2⟩, hlob, hu, hcb⟩ := hy4
  obtain rfl := Value.agg.inj hu
  have hB2 : Below W.heap.size W w2 := HBA.out.drew.trans (hb2.mono HBA.out.size)
  have HV : Hid (∀ (i : Nat) (u : Value), [Value.int .i64 ed.kind, .int .i64 ed.id, .slice fa fn fc, .slice A was.length c, .int .i64 ah, .int .i64 gv][i]? = some u -> w2.cell? ((⟨b, 0, none⟩ : Addr).add i) = some u) := fun i u h => by
    have ea : (⟨b, 0, none⟩ : Addr).add i = ⟨b, i, none⟩ := by unfold Addr.add; split <;> simp_all
    rw [ea, hcb.cell i]; simpa using h
  have HR := Lib.hid (row_below HO.out hB2 (Nat.le_refl _))
  have HB2 := Lib.hid hB2
  have H1 := Lib.hid h1
  have H2 := Lib.hid h2
  have H3 := Lib.hid (cells_kept HC.out hB2 hsb)
  have hlo2 : N <= w2.heap.size := by have := hB2.size; omega
  clear h1 h2 hcb hb2 hB2 HL HBA HO HE HC hu
  simp only [List.foldl, List.setIfInBounds_toArray, List.set_cons_zero, List.set_cons_succ]
  go_wp2_with (at_builtin; refine wpList_append_at rfl _ _ 62 rfl N 65 i0 _ 6 80 Tryz.underlying62 hi hz0 hz1 hz2 rfl (by decide) _ _ _ rfl HR.out ⟨b, 0, none⟩ 1 1 _ rfl rfl HV.out (by intro u hu; simp at hu; rcases hu with rfl | rfl | rfl | rfl | rfl | rfl <;> rfl) (by unfold maxLen; omega) (by omega) hlo2 ?_)
  intro sv' w3 own3 grow3 at3
  have at3' := at3.out
  have hne : (Value.slice sa j scap).ownBlock ≠ some sb := own_cells_ne HR.out H3.out (by decide)
  have C3 := H3.out.grown grow3 (fun e => hne e.symm)
  have c3 : w3.cell? ⟨sb, 0, none⟩ = some (.slice sa j scap) := by rw [C3.cell]; rfl
  have f3 := C3.frozen 0
  have FIN : Hid (∃ sv'' A c w2', Below W.heap.size W w2' /\ FldR w2' (.slice A was.length c) was /\ (∀ b, (Value.slice A was.length c).ownBlock = some b -> W.heap.size <= b) /\ ∃ w3', w2'.grownBy w3' (Value.slice sa j scap).ownBlock /\ w3'.ownsRow N 65 6 sv'' (j + 1) (xs ++ [.int .i64 ed.kind, .int .i64 ed.id, .slice fa fn fc, .slice A was.length c, .int .i64 ah, .int .i64 gv]) /\ (sv''.ownBlock = (Value.slice sa j scap).ownBlock \/ sv''.ownBlock = some w2'.heap.size) /\ w3.setCell ⟨sb, 0, none⟩ sv' = w3'.setCell ⟨sb, 0, none⟩ sv'') :=
    ⟨sv', A, c, w2, HB2.out, H1.out, H2.out, w3, grow3, own3, at3', rfl⟩
  obtain ⟨g3, n3, q3, rfl⟩ : ∃ A n c, sv' = .slice A n c := by
    rcases own3.2 with ⟨rfl, _⟩ | ⟨g', cap', cur', rfl, _⟩
    . exact ⟨none, 0, 0, rfl⟩
    exact ⟨_, _, _, rfl⟩
  clear own3 grow3 at3 at3' HR HV H1 H2 H3 HB2 C3
  go_wp2_with fail
  go_end0
  exact ⟨rfl, FIN.out⟩
end Go.Proofs.YtfjklpgmnakcaaaGreatDoor
namespace Go.Proofs.YtfjklpgmnakcaaaGreatDoor
open Go.RowKit Go.Shelf
attribute [local go_sem] Oper.semAt_some
def StepsD (sb N : Nat) (l0 : LS) (eds : List Ed) (j : Nat) (W : World) (Z : Nat -> Prop) : Prop :=
  ∃ sv cs, Z = zOf sb sv cs /\ cs.length = j /\ N <= sb /\ Cells W sb 62 #[sv] /\ W.ownsRow N 65 6 sv j (stRow cs) /\ (∀ (i : Nat) (c : StC), cs[i]? = some c -> ∃ ed, StOk l0 eds N W i c ed) /\
    ∀ c ∈ cs, c.fs ≠ [] -> ∀ b, c.wv.ownBlock = some b -> b ≠ sb /\ sv.ownBlock ≠ some b
theorem StepsD.steps {sb N : Nat} {l0 : LS} {eds : List Ed} {j : Nat} {W : World} {Z : Nat -> Prop} (h : StepsD sb N l0 eds j W Z) : StepsP sb N l0 eds j W Z := by
  obtain ⟨sv, cs, h0, h1, h2, h3, h4, h5, _⟩ := h
  exact ⟨sv, cs, h0, h1, h2, h3, h4, h5⟩
theorem StOk.only {l0 : LS} {eds : List Ed} {N : Nat} {W W' : World} {i : Nat} {c : StC} {ed : Ed} {S : Nat -> Prop} (ok : StOk l0 eds N W i c ed) (g : Only S W W') (hs : c.fs ≠ [] -> ∀ b, c.wv.ownBlock = some b -> ¬ S b) : StOk l0 eds N W' i c ed :=
  ⟨ok.at_, ok.k, ok.id_, ok.ah, ok.gv, ok.fs, ok.flds.only g hs, ok.low, ok.form⟩
theorem StepsD.keep {sb N : Nat} {l0 : LS} {eds : List Ed} {j : Nat} {W W' : World} {Z S : Nat -> Prop} (h : StepsD sb N l0 eds j W Z) (g : Only S W W') (hs : ∀ r, Z r -> ¬ S r) : StepsD sb N l0 eds j W' Z := by
  obtain ⟨sv, cs, rfl, hl, hn, hc, ho, he, hd⟩ := h
  refine ⟨sv, cs, rfl, hl, hn, hc.only g (hs sb (.inl rfl)), row_only ho g (fun b hb => hs b (.inr (.inl hb))), fun i c hi => ?_, hd⟩
  obtain ⟨ed, ok⟩ := he i c hi
  exact ⟨ed, ok.only g (fun hne b hb => hs b (.inr (.inr ⟨c, List.mem_of_getElem? hi, hne, hb⟩)))⟩
theorem shows_steps {w0 : World} {N1 sb N : Nat} {l0 : LS} {eds : List Ed} (hN : w0.heap.size <= N) (hl : eds.length <= 100) : Shows 22 #[.pointer (some ⟨sb, 0, none⟩)] w0 N1 l0 eds (StepsD sb N l0 eds) := by
  refine ⟨enters_of Tryz.func22 (by kernel_rfl) rfl, fun j W Z h r hr => ⟨Nat.le_trans hN (h.steps.lt hr).1, (h.steps.lt hr).2⟩, fun j W W' Z S h g hs => h.keep g hs, ?_⟩
  intro j ed fv W Z lb ev ps m hed hg hP hB hC hm hZ hfl hform
  obtain ⟨fa, fc, rfl⟩ := hform
  have hkd : ed.kind = 1 \/ ed.kind = 2 \/ ed.kind = 3 := by
    unfold goodE at hg
    by_cases h1 : ed.kind = 1 \/ ed.kind = 3
    . rcases h1 with h | h
      . exact .inl h
      exact .inr (.inr h)
    by_cases h2 : ed.kind = 2
    . exact .inr (.inl h2)
    simp [h1, h2] at hg
  obtain ⟨sv, cs, rfl, hlen, hnsb, hc, ho, he, hd⟩ := hP
  have hj : j < eds.length := (List.getElem?_eq_some_iff.1 hed).1
  have hNW : N <= W.heap.size := Nat.le_trans hnsb (Nat.le_of_lt hc.lt)
  refine (back1_gen (some ⟨lb, 0, none⟩) ed fa ed.fields.length fc (stepWas (lsOn l0 (eds.take j)) ed) (stepAhead (lsOn l0 (eds.take j)) ed) (stepGiven (lsOn l0 (eds.take j)) ed) sv (stRow cs) (by omega) hNW hc ho (fun W' hW' => look_any (hC.below hW' (Nat.le_refl _)) hm ed hkd fa ed.fields.length fc)).mono ?_
  rintro e W' ⟨rfl, sv', A, c, w2, hb2, hf2, hlo2, w3, hg3, own3, hat, rfl⟩
  refine ⟨rfl, ?_⟩
  have hs2 := hb2.size
  have hsbl := hc.lt
  have hnes := own_cells_ne ho hc (by decide)
  have hsvl : ∀ b, sv.ownBlock = some b -> b < W.heap.size := fun b e => (ho.lt b e).2
  have hne' : sv'.ownBlock ≠ some sb := by
    rcases hat with h | h
    . rw [h]; exact hnes
    rw [h]; intro e; have := Option.some.inj e; omega
  have o2 : Only (fun r => r = sb \/ sv.ownBlock = some r) w2 (w3.setCell ⟨sb, 0, none⟩ sv') := ((Only.refl _ w2).grown hg3 (fun k hk => .inl (.inr hk))).setCell (p := ⟨sb, 0, none⟩) (.inl (.inl rfl)) _
  have o1 : Only (fun r => r = sb \/ sv.ownBlock = some r) W (w3.setCell ⟨sb, 0, none⟩ sv') := ((Only.of_below hb2 (Nat.le_refl _)).grown hg3 (fun k hk => .inl (.inr hk))).setCell (p := ⟨sb, 0, none⟩) (.inl (.inl rfl)) _
  have c3 := (hc.below hb2 hsbl).grown hg3 (fun e => hnes e.symm)
  have c4 : Cells (w3.setCell ⟨sb, 0, none⟩ sv') sb 62 #[sv'] := by
    have := c3.set 0 sv'
    simpa using this
  have r4 := row_cell own3 (p := ⟨sb, 0, none⟩) hne' sv'
  refine ⟨zOf sb sv' (cs ++ [⟨ed.kind, ed.id, stepAhead (lsOn l0 (eds.take j)) ed, stepGiven (lsOn l0 (eds.take j)) ed, .slice fa ed.fields.length fc, .slice A (stepWas (lsOn l0 (eds.take j)) ed).length c, stepWas (lsOn l0 (eds.take j)) ed⟩]), ⟨sv', _, rfl, by simp [hlen], hnsb, c4, by rw [stRow_snoc]; exact r4, fun i d hi => ?_, fun d hdm hne b hb => ?_⟩, o1.mono (fun r _ h => ?_), fun r hr => ?_⟩
  . rw [List.getElem?_append] at hi
    split at hi
    . obtain ⟨ed', ok⟩ := he i d hi
      refine ⟨ed', ok.only o1 (fun hne b hb => ?_)⟩
      have := hd d (List.mem_of_getElem? hi) hne b hb
      rintro (q | q)
      . exact this.1 q
      exact this.2 q
    rename_i hge
    obtain ⟨q, rfl⟩ : i = cs.length /\ _ = d := by
      rw [List.getElem?_singleton] at hi
      split at hi
      . exact ⟨by omega, Option.some.inj hi⟩
      cases hi
    rw [q, hlen]
    refine ⟨ed, hed, rfl, rfl, rfl, rfl, rfl, hf2.only o2 (fun hne b hb => ?_), fun hne b hb => by have := hlo2 b hb; omega, ⟨fa, _, fc, rfl⟩, A, c, rfl⟩
    have h1 := hlo2 b hb
    rintro (q | q)
    . omega
    have := hsvl b q; omega
  . rcases List.mem_append.1 hdm with hm' | hm'
    . have h1 := hd d hm' hne b hb
      refine ⟨h1.1, fun e => ?_⟩
      rcases hat with h | h
      . exact h1.2 (h ▸ e)
      rw [h] at e
      obtain ⟨i, hi⟩ := List.getElem?_of_mem hm'
      obtain ⟨ed', ok⟩ := he i d hi
      have := ok.flds.1.lt hne b hb
      have := Option.some.inj e
      omega
    obtain rfl := List.mem_singleton.1 hm'
    have h1 := hlo2 b hb
    refine ⟨by omega, fun e => ?_⟩
    rcases hat with h | h
    . rw [h] at e; have := hsvl b e; omega
    rw [h] at e
    have := hf2.1.lt hne b hb
    have := Option.some.inj e
    omega
  . rcases h with h | h
    . exact .inl h
    exact .inr (.inl h)
  rcases hr with h | h | ⟨d, hdm, hne, hb⟩
  . exact .inl (.inl h)
  . rcases hat with q | q
    . exact .inl (.inr (.inl (q ▸ h)))
    rw [q] at h; have := Option.some.inj h; exact .inr (by omega)
  rcases List.mem_append.1 hdm with hm' | hm'
  . exact .inl (.inr (.inr ⟨d, hm', hne, hb⟩))
  obtain rfl := List.mem_singleton.1 hm'
  exact .inr (hlo2 r hb)
end Go.Proofs.YtfjklpgmnakcaaaGreatDoor
namespace Go.Proofs.YtfjklpgmnakcaaaGreatDoor
open Go.RowKit Go.Maps
theorem keyI9 : Keyed Tryz.prog 3 := int_keyed Tryz.underlying3
theorem litI9 {a : Int} (h : (Lit.int .i64 a).wf = true) : WideAt.IsKeyLit (.int .i64 a) := by first | exact trivial | exact h | exact rfl
theorem lit_int9 {a b : Int} (h : (.lit (.int .i64 a) : DataW Unit) = .lit (.int .i64 b)) : a = b := by
  injection h with h
  injection h with _ h
def RenM (w : World) (b n : Nat) (f : Int -> Option Int) : Prop :=
  ∃ D : DataW Unit, w.ownsMap Tryz.prog 3 (plainElem Tryz.prog 3) b n D /\ (∀ k, has D (.int .i64 k) = (f k).isSome) /\ ∀ k c, f k = some c -> ∀ z, D.atKey (.int .i64 k) z = .lit (.int .i64 c)
theorem RenM.lt {w : World} {b n : Nat} {f : Int -> Option Int} (h : RenM w b n f) : b < w.heap.size := by obtain ⟨D, h, _⟩ := h; exact h.lt
theorem RenM.same {w w' : World} {b n : Nat} {f : Int -> Option Int} (h : RenM w b n f) (hs : w'.heap[b]? = w.heap[b]?) : RenM w' b n f := by
  obtain ⟨D, ⟨es, clock, hb, r⟩, h2⟩ := h
  exact ⟨D, ⟨es, clock, hs.trans hb, r⟩, h2⟩
theorem RenM.below {w w' : World} {b n : Nat} {f : Int -> Option Int} (h : RenM w b n f) (hb : Below w.heap.size w w') : RenM w' b n f := h.same (hb.block b h.lt)
theorem RenM.made (w : World) : RenM (w.alloc (.map #[] 0)) w.heap.size 0 (fun _ => none) :=
  ⟨.map [], World.ownsMap_made w _ _ _, (fun k => rfl), fun k c h => by cases h⟩
theorem RenM.look {w : World} {b n : Nat} {f : Int -> Option Int} (h : RenM w b n f) (id : Int) (hw : (Lit.int .i64 id).wf = true) :
    (Instr.lookup 113 (.map (some b)) (.int .i64 id) true).run Tryz.prog w = .ok (.tuple #[.int .i64 ((f id).getD 0), .bool (f id).isSome]) w := by
  obtain ⟨D, ho, h1, h2⟩ := h
  obtain ⟨v, ps, hrun, hat⟩ := ho.look_ok keyI9 Tryz.underlying113 (show (zeroValue 3).run Tryz.prog w = .ok (.int .i64 0) w by kernel_rfl) (plainElem_int (H := Unit) Tryz.underlying3 (a := 0) (by decide)) (Maps.keyOf_int_mk Tryz.underlying3 hw)
  obtain ⟨c, rfl, hc, _⟩ := plainElem_int_inv Tryz.underlying3 hat
  rw [hrun, h1 id]
  have hc1 := (Prod.mk.inj hc).1
  cases q : f id with
  | some d =>
    rw [h2 id d q] at hc1
    rw [lit_int9 hc1.symm]
    rfl
  | none =>
  have := h1 id
  rw [q] at this
  rw [Maps.atKey_of_not_has this] at hc1
  rw [lit_int9 hc1.symm]
  rfl
theorem RenM.store {w : World} {b n : Nat} {f : Int -> Option Int} (h : RenM w b n f) (hn : n < maxLen) (id : Int) (hw : (Lit.int .i64 id).wf = true) (c : Int) (hcw : (Lit.int .i64 c).wf = true) :
    ∃ w', (Instr.mapUpdate 113 (.map (some b)) (.int .i64 id) (.int .i64 c)).run Tryz.prog w = .ok () w' /\ RenM w' b (n + 1) (fun k => if k = id then some c else f k) /\ Only (· = b) w w' /\ w'.heap.size = w.heap.size := by
  obtain ⟨D, ho, h1, h2⟩ := h
  have hm := ho.isMap
  obtain ⟨w', hrun, ho', ht'⟩ := ho.store keyI9 Tryz.underlying113 hn (Maps.keyOf_int_mk Tryz.underlying3 hw) (plainElem_int (H := Unit) Tryz.underlying3 hcw)
  refine ⟨w', hrun, ⟨_, ho', fun k => ?_, fun k d hk z => ?_⟩, (Only.refl _ w).grown ht'.grown (fun k hk => .inl (by cases hk; rfl)), ?_⟩
  . dsimp only
    by_cases q : k = id
    . subst q
      rw [Maps.has_put_same hm (litI9 hw), if_pos rfl]; rfl
    rw [Maps.has_put_other (fun e => q (by injection e)), if_neg q, h1]
  . dsimp only at hk ⊢
    by_cases q : k = id
    . subst q
      rw [if_pos rfl] at hk
      cases hk
      exact Maps.atKey_put_same hm (litI9 hw) _ _
    rw [if_neg q] at hk
    rw [Maps.atKey_put_other (fun e => q (by injection e))]
    exact h2 k d hk z
  obtain ⟨es, clock, es', clock', hb, rfl⟩ := ht'
  show (w.heap.setIfInBounds b (.map es' clock')).size = _
  exact Array.size_setIfInBounds
def nowOf (f : Int -> Option Int) (id : Int) : Int := (f id).getD id
theorem now_any {w : World} {rb mb n : Nat} {f : Int -> Option Int} (hm : RenM w mb n f) (hc : Cells w rb 113 #[.map (some mb)]) (id : Int) (hw : (Lit.int .i64 id).wf = true) :
    Calls Tryz.prog 45 #[.int .i64 id, .pointer (some ⟨rb, 0, none⟩)] w fun e w' => e = .returned (.int .i64 (nowOf f id)) /\ w' = w := by
  have L := hm.look id hw
  have c0 : w.cell? ⟨rb, 0, none⟩ = some (.map (some mb)) := hc.cell 0
  unfold nowOf
  cases hf : f id with
  | none =>
    rw [hf] at L
    simp only [Option.getD_none, Option.isSome_none] at L ⊢
    go_enter Tryz.func45, Tryz.ntmps45
    go_wp2
    go_ret
    exact ⟨rfl, rfl⟩
  | some d =>
  rw [hf] at L
  simp only [Option.getD_some, Option.isSome_some] at L ⊢
  go_enter Tryz.func45, Tryz.ntmps45
  go_wp2
  go_ret
  exact ⟨rfl, rfl⟩
end Go.Proofs.YtfjklpgmnakcaaaGreatDoor
namespace Go.Proofs.YtfjklpgmnakcaaaGreatDoor
open Go.RowKit Go.Shelf
attribute [local go_sem] Oper.semAt_some
theorem results_cellE {fn : Func} {p : Tmp} {ty : TypeId} (h : fn.results = #[.cell p ty]) (tmps : Array Value) (P : Program) (w : World) :
    (results fn tmps).run P w = ((asAddr (tmps.getD p undef)).run P w).andThen fun a w₁ => (loadVar ty a).run P w₁ := by
  simp only [results, h]
  simp [Sem.run_bind, Result.andThen]
theorem ret_editE {fn : Func} {p : Tmp} (h : fn.results = #[.cell p 53]) (tmps : Array Value) (w : World) (b : Nat) (cur : Array Value) (hp : tmps.getD p undef = .pointer (some ⟨b, 0, none⟩))
    (hc : Cells w b 53 cur) (hz : cur.size = 3) : (results fn tmps).run Tryz.prog w = .ok (.agg cur) w := by
  have L := run_loadVar_row (P := Tryz.prog) w b 53 53 cur (0, 0) _ hc Tryz.underlying53 rfl (by rw [hz]; kernel_rfl)
  rw [results_cellE h, hp]
  show (loadVar _ _).run _ _ = _
  exact L
def undoV (f : Int -> Option Int) (k i p q : Int) (ga : Option Addr) (gn gc : Nat) : Array Value :=
  if k = 1 then #[.int .i64 1, .int .i64 (nowOf f i), .slice ga gn gc] else if k = 2 then #[.int .i64 3, .int .i64 (nowOf f p), .slice ga gn gc] else #[.int .i64 2, .int .i64 (nowOf f q), .slice none 0 0]
theorem edit3_to {w : World} {b : Nat} {c0 c1 c2 : Value} (h : Cells w b 53 #[c0, c1, c2]) (v0 v1 v2 : Value) : Cells (((w.setCell ⟨b, 0, none⟩ v0).setCell ⟨b, 1, none⟩ v1).setCell ⟨b, 2, none⟩ v2) b 53 #[v0, v1, v2] := by
  have h2 := ((h.set 0 v0).set 1 v1).set 2 v2
  have e : ((#[c0, c1, c2].setIfInBounds 0 v0).setIfInBounds 1 v1).setIfInBounds 2 v2 = #[v0, v1, v2] := by simp [List.setIfInBounds_toArray, List.set]
  rw [e] at h2
  exact h2
theorem undo_any {w : World} {rb mb n : Nat} {f : Int -> Option Int} (hm : RenM w mb n f) (hc : Cells w rb 113 #[.map (some mb)]) (k i p q : Int) (hk : k = 1 \/ k = 2 \/ k = 3) (wi : (Lit.int .i64 i).wf = true) (wp : (Lit.int .i64 p).wf = true) (wq : (Lit.int .i64 q).wf = true) (fa ga : Option Addr) (fn fc gn gc : Nat) :
    Calls Tryz.prog 47 #[.agg #[.int .i64 k, .int .i64 i, .slice fa fn fc, .slice ga gn gc, .int .i64 p, .int .i64 q], .func (.func 45) #[] #[.pointer (some ⟨rb, 0, none⟩)]] w fun e w' => e = .returned (.agg (undoV f k i p q ga gn gc)) /\ Below w.heap.size w w' := by
  have NOW := Lib.hid (fun (W : World) (hb : Below w.heap.size w W) (id : Int) (hw : (Lit.int .i64 id).wf = true) => now_any (hm.below hb) (cells_kept hc hb hc.lt) id hw)
  obtain ⟨wa, hwa⟩ : ∃ wa, wa = (w.alloc (.cells #[.int .i64 k, .int .i64 i, .slice fa fn fc, .slice ga gn gc, .int .i64 p, .int .i64 q] 65)).alloc (.cells #[.int .i64 0, .int .i64 0, .slice none 0 0] 53) := ⟨_, rfl⟩
  have hba : Below w.heap.size w wa := by rw [hwa]; exact ((Below.refl _ w).alloc (Nat.le_refl _) _).alloc (by simp) _
  have hza : wa.heap.size = w.heap.size + 1 + 1 := by rw [hwa]; simp
  have cS : Cells wa w.heap.size 65 #[.int .i64 k, .int .i64 i, .slice fa fn fc, .slice ga gn gc, .int .i64 p, .int .i64 q] := by rw [hwa]; exact (Cells.new w _ _).alloc _
  have cR : Cells wa (w.heap.size + 1) 53 #[.int .i64 0, .int .i64 0, .slice none 0 0] := by
    rw [hwa]
    have := Cells.new (w.alloc (.cells #[.int .i64 k, .int .i64 i, .slice fa fn fc, .slice ga gn gc, .int .i64 p, .int .i64 q] 65)) 53 #[.int .i64 0, .int .i64 0, .slice none 0 0]
    rw [World.size_alloc] at this
    exact this
  have FS9 : Hid (∀ W, Below wa.heap.size wa W -> W.cell? ⟨w.heap.size, 0, none⟩ = some (.int .i64 k) /\ W.cell? ⟨w.heap.size, 1, none⟩ = some (.int .i64 i) /\ W.cell? ⟨w.heap.size, 3, none⟩ = some (.slice ga gn gc) /\ W.cell? ⟨w.heap.size, 4, none⟩ = some (.int .i64 p) /\ W.cell? ⟨w.heap.size, 5, none⟩ = some (.int .i64 q)) := fun W hW => by
    have h := cells_kept cS hW (by omega)
    exact ⟨by rw [h.cell]; rfl, by rw [h.cell]; rfl, by rw [h.cell]; rfl, by rw [h.cell]; rfl, by rw [h.cell]; rfl⟩
  have FR9 := Lib.hid (fun W (hW : Below wa.heap.size wa W) => cells_kept cR hW (by omega))
  have HBA := Lib.hid hba
  have FIN : Hid (∀ W (hW : Below wa.heap.size wa W) (v0 v1 v2 : Value), Cells (((W.setCell ⟨w.heap.size + 1, 0, none⟩ v0).setCell ⟨w.heap.size + 1, 1, none⟩ v1).setCell ⟨w.heap.size + 1, 2, none⟩ v2) (w.heap.size + 1) 53 #[v0, v1, v2] /\ Below w.heap.size w (((W.setCell ⟨w.heap.size + 1, 0, none⟩ v0).setCell ⟨w.heap.size + 1, 1, none⟩ v1).setCell ⟨w.heap.size + 1, 2, none⟩ v2)) := fun W hW v0 v1 v2 =>
    ⟨edit3_to (FR9.out W hW) v0 v1 v2, (((hba.trans (hW.mono hba.size)).setCell (Nat.le_succ _) _).setCell (Nat.le_succ _) _).setCell (Nat.le_succ _) _⟩
  have eg := enters_of (P := Tryz.prog) Tryz.func45 (by kernel_rfl) rfl
  clear cS cR hba hm hc
  subst hwa
  unfold undoV
  rcases hk with rfl | rfl | rfl
  . rw [if_pos rfl]
    go_enter Tryz.func47, Tryz.ntmps47
    go_upto_region 4 with fail
    refine wp_region_any (by kernel_rfl) ?_
    refine region_un4 _ _ w.heap.size 45 #[.pointer (some ⟨rb, 0, none⟩)] i (nowOf f i) ga gn gc _ rfl rfl rfl ?hE ?hN eg ?hQ
    case hE =>
      intro W hb
      obtain ⟨_, c1, c3, _, _⟩ := FS9.out W ((Below.refl _ _).drew.trans hb)
      exact ⟨c1, c3⟩
    case hN =>
      intro W hb
      refine (NOW.out W (HBA.out.drew.trans (hb.mono HBA.out.size)) i wi).mono ?_
      rintro e w' ⟨rfl, rfl⟩
      exact ⟨_, rfl, rfl, Below.refl _ _⟩
    case hQ =>
    intro y0 y1 y2 y3 y4 y5 y6 y7 W hb hy
    try dsimp only at hy
    subst hy
    have hb' := (Below.refl _ _).drew.trans hb
    have R9 := FR9.out W hb'
    obtain ⟨F1, F2⟩ := FIN.out W hb' (.int .i64 1) (.int .i64 (nowOf f i)) (.slice ga gn gc)
    have r0 : W.cell? ⟨w.heap.size + 1, 0, none⟩ = some (.int .i64 0) := by rw [R9.cell]; rfl
    have r1 : W.cell? ⟨w.heap.size + 1, 1, none⟩ = some (.int .i64 0) := by rw [R9.cell]; rfl
    have r2 : W.cell? ⟨w.heap.size + 1, 2, none⟩ = some (.slice none 0 0) := by rw [R9.cell]; rfl
    have g0 := R9.frozen 0; have g1 := R9.frozen 1; have g2 := R9.frozen 2
    have F1 := Lib.hid F1
    have F2 := Lib.hid F2
    clear R9 hb hb' FR9 FIN FS9 NOW HBA hza
    simp only [List.foldl, List.setIfInBounds_toArray, List.set_cons_zero, List.set_cons_succ]
    go_wp2_with fail
    refine bodyPost_ret (ret_editE rfl _ _ (w.heap.size + 1) _ rfl F1.out rfl) rfl ?_
    exact ⟨rfl, F2.out⟩
  . rw [if_neg (by decide), if_pos rfl]
    go_enter Tryz.func47, Tryz.ntmps47
    go_upto_region 6 with fail
    refine wp_region_any (by kernel_rfl) ?_
    refine region_un6 _ _ w.heap.size 45 #[.pointer (some ⟨rb, 0, none⟩)] p (nowOf f p) ga gn gc _ rfl rfl rfl ?hE ?hN eg ?hQ
    case hE =>
      intro W hb
      obtain ⟨_, _, c3, c4, _⟩ := FS9.out W ((Below.refl _ _).drew.trans hb)
      exact ⟨c4, c3⟩
    case hN =>
      intro W hb
      refine (NOW.out W (HBA.out.drew.trans (hb.mono HBA.out.size)) p wp).mono ?_
      rintro e w' ⟨rfl, rfl⟩
      exact ⟨_, rfl, rfl, Below.refl _ _⟩
    case hQ =>
    intro y0 y1 y2 y3 y4 y5 y6 W hb hy
    try dsimp only at hy
    subst hy
    have hb' := (Below.refl _ _).drew.trans hb
    have R9 := FR9.out W hb'
    obtain ⟨F1, F2⟩ := FIN.out W hb' (.int .i64 3) (.int .i64 (nowOf f p)) (.slice ga gn gc)
    have r0 : W.cell? ⟨w.heap.size + 1, 0, none⟩ = some (.int .i64 0) := by rw [R9.cell]; rfl
    have r1 : W.cell? ⟨w.heap.size + 1, 1, none⟩ = some (.int .i64 0) := by rw [R9.cell]; rfl
    have r2 : W.cell? ⟨w.heap.size + 1, 2, none⟩ = some (.slice none 0 0) := by rw [R9.cell]; rfl
    have g0 := R9.frozen 0; have g1 := R9.frozen 1; have g2 := R9.frozen 2
    have F1 := Lib.hid F1
    have F2 := Lib.hid F2
    clear R9 hb hb' FR9 FIN FS9 NOW HBA hza
    simp only [List.foldl, List.setIfInBounds_toArray, List.set_cons_zero, List.set_cons_succ]
    go_wp2_with fail
    refine bodyPost_ret (ret_editE rfl _ _ (w.heap.size + 1) _ rfl F1.out rfl) rfl ?_
    exact ⟨rfl, F2.out⟩
  rw [if_neg (by decide), if_neg (by decide)]
  obtain ⟨c0, c1, c3, c4, c5⟩ := FS9.out _ (Below.refl _ _)
  have NQ := Lib.hid (NOW.out _ HBA.out q wq)
  have R9 := FR9.out _ (Below.refl _ _)
  obtain ⟨F1, F2⟩ := FIN.out _ (Below.refl _ _) (.int .i64 2) (.int .i64 (nowOf f q)) (.slice none 0 0)
  have F1 := Lib.hid F1
  have F2 := Lib.hid F2
  clear R9 FR9 FIN FS9 NOW HBA hza c0 c1 c3 c4 c5
  go_enter Tryz.func47, Tryz.ntmps47
  go_wp2_with fail
  refine NQ.out.mono ?_
  rintro e w' ⟨rfl, rfl⟩
  have FW : Hid (Cells ((w.alloc (.cells #[.int .i64 3, .int .i64 i, .slice fa fn fc, .slice ga gn gc, .int .i64 p, .int .i64 q] 65)).alloc (.cells #[.int .i64 2, .int .i64 (nowOf f q), .slice none 0 0] 53)) (w.heap.size + 1) 53 #[.int .i64 2, .int .i64 (nowOf f q), .slice none 0 0] /\ Below w.heap.size w ((w.alloc (.cells #[.int .i64 3, .int .i64 i, .slice fa fn fc, .slice ga gn gc, .int .i64 p, .int .i64 q] 65)).alloc (.cells #[.int .i64 2, .int .i64 (nowOf f q), .slice none 0 0] 53))) := by
    have := Cells.new (w.alloc (.cells #[.int .i64 3, .int .i64 i, .slice fa fn fc, .slice ga gn gc, .int .i64 p, .int .i64 q] 65)) 53 #[.int .i64 2, .int .i64 (nowOf f q), .slice none 0 0]
    rw [World.size_alloc] at this
    exact ⟨this, ((Below.refl _ w).alloc (Nat.le_refl _) _).alloc (by simp) _⟩
  clear NQ
  go_wp2_with fail
  first
    | (refine bodyPost_ret (ret_editE rfl _ _ (w.heap.size + 1) _ rfl F1.out rfl) rfl ?_
       exact ⟨rfl, F2.out⟩)
    | (refine bodyPost_ret (ret_editE rfl _ _ (w.heap.size + 1) _ rfl FW.out.1 rfl) rfl ?_
       exact ⟨rfl, FW.out.2⟩)
end Go.Proofs.YtfjklpgmnakcaaaGreatDoor
