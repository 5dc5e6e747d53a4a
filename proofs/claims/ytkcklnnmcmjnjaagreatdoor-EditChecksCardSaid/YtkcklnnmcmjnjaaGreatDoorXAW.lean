/- edit.Copy of a batch that is held. -/
import Derived.Test.YtkcklnnmcmjnjaaGreatDoorBam0
import Derived.WideShapes
import Derived.Lib.SliceRun
set_option linter.unusedVariables false
namespace Go.Proofs.YtkcklnnmcmjnjaaGreatDoor
open Go.RowKit Go.Shelf
attribute [local go_sem] Oper.semAt_some

theorem row_put {W : World} {base size n g cap i : Nat} {e : TypeId} {xs : List Value} (h : W.ownsRow base e size (.slice (some ⟨g, 0, none⟩) n cap) n xs) (u : Value) : (W.setCell ⟨g, i, none⟩ u).ownsRow base e size (.slice (some ⟨g, 0, none⟩) n cap) n (xs.set i u) := by
  refine ⟨by rw [List.length_set]; exact h.1, ?_⟩
  rcases h.2 with ⟨q, hn⟩ | ⟨g', cap', cur, q, hb, hc, hle, hm, hs, ht⟩
  · cases q
  · cases q
    refine .inr ⟨g, cap, cur.setIfInBounds i u, rfl, hb, ?_, hle, hm, by simp [hs], ?_⟩
    · show (W.heap.modify g _)[g]? = _
      rw [Array.getElem?_modify]; simp [hc]
    · rw [← ht]; simp [List.take_set]
theorem edRow_set : ∀ (a : List Ed) (f : List Value) (k : Nat) (u : Value), f.length = a.length → (edRow a f).set (k * 3 + 1 + 1) u = edRow a (f.set k u)
  | [], [], _, _, _ => rfl
  | x :: a, y :: f, 0, u, _ => rfl
  | x :: a, y :: f, k + 1, u, h => by
    rw [show (k + 1) * 3 + 1 + 1 = (k * 3 + 1 + 1) + 1 + 1 + 1 by omega]
    have := edRow_set a f k u (by simpa using h)
    show (_ :: _ :: _ :: edRow a f).set _ u = _ :: _ :: _ :: edRow a (f.set k u)
    simp only [List.set_cons_succ, this]
  | [], _ :: _, _, _, h => by simp at h
  | _ :: _, [], _, _, h => by simp at h
theorem edRow_one {a : List Ed} {f : List Value} (hl : f.length = a.length) (hf : ∀ (i : Nat) ed fv, a[i]? = some ed → f[i]? = some fv → fv.oneCell' = true) : ∀ u ∈ edRow a f, u.oneCell' = true := by
  intro u hu
  obtain ⟨j, hj⟩ := List.getElem?_of_mem hu
  have hjl : j < a.length * 3 := by
    rw [← edRow_len a f hl]
    exact (List.getElem?_eq_some_iff.1 hj).1
  obtain ⟨ed, hed⟩ : ∃ ed, a[j / 3]? = some ed := ⟨_, List.getElem?_eq_getElem (by omega)⟩
  obtain ⟨fv, hfv⟩ : ∃ fv, f[j / 3]? = some fv := ⟨_, List.getElem?_eq_getElem (by omega)⟩
  obtain ⟨a0, a1, a2⟩ := edRow_at a f (j / 3) ed fv hed hfv
  rcases (by omega : j = j / 3 * 3 ∨ j = j / 3 * 3 + 1 ∨ j = j / 3 * 3 + 1 + 1) with q | q | q
  · rw [q, a0] at hj; cases hj; rfl
  · rw [q, a1] at hj; cases hj; rfl
  · rw [q, a2] at hj; cases hj; exact hf _ _ _ hed hfv
set_option maxRecDepth 100000 in
set_option maxHeartbeats 4000000 in
theorem cloneE_any {lo : Nat} (eds : List Ed) (fvs : List Value) (v : Value) (w : World) (h : OwnE lo w v eds fvs) (hn : eds.length ≤ 1000000) :
    Calls Tryz.prog 47 #[v] w fun e w' => ∃ v', e = .returned v' ∧ w'.ownsRow w.heap.size 33 3 v' eds.length (edRow eds fvs) ∧ Below w.heap.size w w' := by
  obtain ⟨i0, hi, hz0, hz1, hz2⟩ := info_parts infoEd9
  have eN : ∀ (a : Option Addr) n c w, (binOp .eql 22 (.slice a n c) (.slice none 0 0)).run Tryz.prog w = .ok (.bool a.isNone) w := fun a n c w => Lib.run_eql_slice_nil w _ _ a n c 0 0 Tryz.underlying22
  have hrow := h.row
  rcases _root_.id hrow.2 with ⟨rfl, h0⟩ | ⟨g, cap, cur, rfl, hb, hc, hle, hm, hs, ht⟩
  · have hrow' := hrow
    rw [h0]
    have he : edRow eds fvs = [] := List.length_eq_zero_iff.1 (by have := hrow'.1; omega)
    clear hrow hrow' h
    rw [he]
    go_enter Tryz.func47, Tryz.ntmps47
    go_wp2_with fail
    go_ret
    exact ⟨_, rfl, ⟨rfl, .inl ⟨rfl, rfl⟩⟩, Below.refl _ _⟩
  · have hoN : (w.alloc (.cells #[] 33)).ownsRow w.heap.size 33 3 (.slice (some ⟨w.heap.size, 0, none⟩) 0 0) 0 [] := World.ownsRow_lit w #[] 0 (Nat.le_refl _) (by decide) rfl
    have hba := (Below.refl w.heap.size w).alloc (Nat.le_refl _) (.cells #[] 33)
    have hlen := edRow_len eds fvs h.len
    have HC : Hid (∀ (j : Nat) u, (edRow eds fvs)[j]? = some u → (w.alloc (.cells #[] 33)).cell? ((⟨g, 0, none⟩ : Addr).add j) = some u) := fun j u hj => by
      have hjl : j < eds.length * 3 := by rw [← hlen]; exact (List.getElem?_eq_some_iff.1 hj).1
      have hgl := (Array.getElem?_eq_some_iff.1 hc).1
      rw [WideShapes.add_plain, World.cell?_alloc_old _ _ _ (Nat.ne_of_lt hgl)]
      have := World.ownsRow.cellAt hrow j (by omega)
      rw [Nat.zero_add, this]; exact hj
    have hone := edRow_one h.len (fun i ed fv h1 h2 => by
      obtain ⟨A, c, e, _⟩ := own_slice (h.each i ed fv h1 h2)
      rw [e]; rfl)
    clear hrow h hc hs ht
    generalize edRow eds fvs = cf at *
    go_enter Tryz.func47, Tryz.ntmps47
    go_wp2_with (at_builtin; refine wpList_append_own _ rfl _ _ 22 rfl w.heap.size 33 i0 _ 3 40 Tryz.underlying22 hi hz0 hz1 hz2 rfl (by decide) _ 0 [] rfl hoN ⟨g, 0, none⟩ eds.length cap cf rfl hlen HC.out hone ?c3 ?c4 ?c5 ?_)
    case c3 => unfold maxLen; omega
    case c4 => omega
    case c5 => simp
    intro v' w3 hown' hgrow _
    have hb3 : Below w.heap.size w w3 := hba.grown hgrow (by simp) (fun j ej => (World.ownsRow.lt hoN j ej).1)
    go_wp2_with fail
    go_ret
    exact ⟨_, rfl, hown', hb3⟩
set_option maxRecDepth 100000 in
set_option maxHeartbeats 8000000 in
theorem copyB_any {lo : Nat} (eds : List Ed) (fvs : List Value) (v : Value) (w : World) (h : OwnE lo w v eds fvs) (hn : eds.length ≤ 1000000) (hf : Fines eds) :
    Calls Tryz.prog 14 #[v] w fun e w' => ∃ v' fvs', e = .returned v' ∧ OwnE w.heap.size w' v' eds fvs' ∧ Below w.heap.size w w' := by
  have CE := Lib.hid (cloneE_any eds fvs v w h hn)
  have HF := Lib.hid hf
  have HO := Lib.hid h
  obtain ⟨va, vc, rfl, _⟩ := own_slice h.row
  clear h hf
  go_enter Tryz.func14, Tryz.ntmps14
  go_wp2_with fail
  refine CE.out.mono ?_
  rintro e w1 ⟨v1, rfl, row1, b1⟩
  by_cases h0 : eds.length = 0
  · have he : eds = [] := List.length_eq_zero_iff.1 h0
    subst he
    obtain ⟨oa, oc, rfl, _⟩ := own_slice row1
    have R1 := Lib.hid row1
    have HLF := Lib.hid HO.out.len
    have B1 := Lib.hid b1
    simp only [List.length_nil] at *
    clear CE HO row1 b1
    go_wp2_with fail
    go_loopw [9] (fun i wr => i = .int .i64 0 ∧ wr = w1) (fun i _ => 1 - (intOf i).toNat)
    case atStart => exact ⟨rfl, rfl⟩
    case round =>
      obtain ⟨rfl, rfl⟩ := hrel
      go_wp2_with fail
      go_ret
      exact ⟨_, fvs, rfl, ⟨R1.out, HLF.out, fun i ed fv h1 _ => by simp at h1⟩, B1.out⟩
  · obtain ⟨og, oc, rfl⟩ := Joins.ownsRow_form row1 (by omega)
    have START : Hid (w1.ownsRow w.heap.size 33 3 (.slice (some ⟨og, 0, none⟩) eds.length oc) eds.length (edRow eds fvs) ∧ fvs.length = eds.length ∧ (∀ (i : Nat) ed fv, i < 0 → eds[i]? = some ed → fvs[i]? = some fv → w1.ownsRow w.heap.size 35 2 fv ed.fields.length (cellsF ed.fields)) ∧ Below w.heap.size w w1) :=
      ⟨row1, HO.out.len, fun i ed fv q => absurd q (Nat.not_lt_zero i), b1⟩
    clear CE row1 b1
    go_wp2_with fail
    go_loopw [9] (fun i wr => ∃ (k : Nat) (fs : List Value), k ≤ eds.length ∧ i = .int .i64 k ∧ wr.ownsRow w.heap.size 33 3 (.slice (some ⟨og, 0, none⟩) eds.length oc) eds.length (edRow eds fs) ∧ fs.length = eds.length ∧ (∀ i : Nat, k ≤ i → fs[i]? = fvs[i]?) ∧ (∀ (i : Nat) ed fv, i < k → eds[i]? = some ed → fs[i]? = some fv → wr.ownsRow w.heap.size 35 2 fv ed.fields.length (cellsF ed.fields)) ∧ Below w.heap.size w wr) (fun i _ => eds.length - (intOf i).toNat)
    case atStart => exact ⟨0, fvs, Nat.zero_le _, rfl, START.out.1, START.out.2.1, fun i _ => rfl, START.out.2.2⟩
    case round =>
      obtain ⟨k, fs, hk, rfl, hrow, hfl, hre, hdn, hb⟩ := hrel
      by_cases hlt : k < eds.length
      · obtain ⟨ed, hed⟩ : ∃ ed, eds[k]? = some ed := ⟨_, List.getElem?_eq_getElem hlt⟩
        obtain ⟨fv, hfv⟩ : ∃ fv, fs[k]? = some fv := ⟨_, List.getElem?_eq_getElem (by omega)⟩
        obtain ⟨a0, a1, a2⟩ := edRow_at eds fs k ed fv hed hfv
        have c2 : wr.cell? ⟨og, k * 3 + 2, none⟩ = some fv := by rw [World.ownsRow.cellAt hrow (k * 3 + 2) (by omega)]; exact a2
        have hfv0 := hfv
        rw [hre k (Nat.le_refl _)] at hfv0
        have hR := (FldR.own (HO.out.each k ed fv hed hfv0)).below hb (Nat.le_refl _)
        have hm := (HF.out ed (List.mem_of_getElem? hed)).len
        have CL := Lib.hid (clone_any ed.fields fv wr hR.1 hR.2 (by omega))
        obtain ⟨fa, fc, rfl⟩ := hR.form
        have HR0 := Lib.hid hrow
        have HRE := Lib.hid hre
        have HDN := Lib.hid hdn
        have HB := Lib.hid hb
        have HED := Lib.hid hed
        clear hrow hre hdn hb a0 a1 a2 hR hfv hfv0 START hed HO
        go_wp2_with fail
        refine CL.out.mono ?_
        rintro e w2 ⟨u, rfl, ow2, b2⟩
        obtain ⟨ua, uc, rfl, _⟩ := own_slice ow2
        have HR2 := Lib.hid (row_below HR0.out b2 (Nat.le_refl _))
        have cw : ∃ x, w2.cell? ⟨og, k * 3 + 2, none⟩ = some x := ⟨_, (b2.cell (p := ⟨og, k * 3 + 2, none⟩) (HR0.out.lt og rfl).2).trans c2⟩
        obtain ⟨x, cw⟩ := cw
        have fw : w2.frozen? ⟨og, k * 3 + 2, none⟩ = false := by
          rcases HR2.out.2 with ⟨q, _⟩ | ⟨g', cap', cur, q, _, hc, _⟩
          · cases q
          · cases q; simp [World.frozen?, hc]
        have HB2 := Lib.hid (HB.out.trans (b2.mono HB.out.size))
        have hog := (HR0.out.lt og rfl).1
        have DN2 : Hid (∀ (i : Nat) ed' fv', i < k + 1 → eds[i]? = some ed' → (fs.set k (.slice ua ed.fields.length uc))[i]? = some fv' → (w2.setCell ⟨og, k * 3 + 2, none⟩ (.slice ua ed.fields.length uc)).ownsRow w.heap.size 35 2 fv' ed'.fields.length (cellsF ed'.fields)) := fun i ed' fv' hik h1 h2 => by
          by_cases q : i = k
          · subst q
            rw [List.getElem?_set_self (by omega)] at h2
            cases h2
            rw [HED.out] at h1
            cases h1
            exact row_cell (rowBase ow2 HB.out.size) (fun e => own_own_ne HR2.out ow2 (by decide) og rfl e) _
          · rw [List.getElem?_set_ne (fun e => q e.symm)] at h2
            have hx := row_below (HDN.out i ed' fv' (by omega) h1 h2) b2 (Nat.le_refl _)
            exact row_cell hx (fun e => own_own_ne HR2.out hx (by decide) og rfl e) _
        have RP : Hid ((w2.setCell ⟨og, k * 3 + 2, none⟩ (.slice ua ed.fields.length uc)).ownsRow w.heap.size 33 3 (.slice (some ⟨og, 0, none⟩) eds.length oc) eds.length (edRow eds (fs.set k (.slice ua ed.fields.length uc)))) := by
          show _
          rw [← edRow_set eds fs k _ hfl]
          exact row_put HR2.out _
        clear CL ow2 b2 c2
        go_wp2_with fail
        go_roundw
        case rel =>
          refine ⟨k + 1, _, hlt, by go_num, RP.out, by rw [List.length_set]; exact hfl, fun i hi => ?_, DN2.out, HB2.out.setCell hog _⟩
          rw [List.getElem?_set_ne (by omega)]
          exact HRE.out i (by omega)
        case measure => simp [intOf]; omega
      · obtain rfl : k = eds.length := by omega
        have HO2 : Hid (OwnE w.heap.size wr (.slice (some ⟨og, 0, none⟩) eds.length oc) eds fs) := ⟨hrow, hfl, fun i ed fv h1 h2 => hdn i ed fv (List.getElem?_eq_some_iff.1 h1).1 h1 h2⟩
        have HB := Lib.hid hb
        clear hrow hre hdn hb START HO
        go_wp2_with fail
        go_ret
        exact ⟨_, fs, rfl, HO2.out, HB.out⟩
end Go.Proofs.YtkcklnnmcmjnjaaGreatDoor
