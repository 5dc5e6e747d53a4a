/- Texts put together: ER, EV, NS, NT, NU, NV, NL, NM, NP, NW. -/
import Derived.Test.YtflnlenkgbphpaaGreatDoorBaf2
import Derived.Test.YtflnlenkgbphpaaGreatDoorBaf3
import Derived.Test.YtflnlenkgbphpaaGreatDoorBaf10
import Derived.Test.YtflnlenkgbphpaaGreatDoorBaf11
import Derived.Test.YtflnlenkgbphpaaGreatDoorBaf13
import Derived.Test.YtflnlenkgbphpaaGreatDoorBaf15
import Derived.Test.YtflnlenkgbphpaaGreatDoorBaf16
import Derived.Test.YtflnlenkgbphpaaGreatDoorBaf18
import Derived.Test.YtflnlenkgbphpaaGreatDoorBaf20
import Derived.Test.YtflnlenkgbphpaaGreatDoorBaf21
import Derived.Test.YtflnlenkgbphpaaGreatDoorBaf22
set_option linter.unusedVariables false
namespace Go.Proofs.YtflnlenkgbphpaaGreatDoor
open Go.RowKit Go.Shelf
attribute [local go_sem] Oper.semAt_some

set_option maxRecDepth 100000 in
set_option maxHeartbeats 4000000 in
/-- Back on no list. -/
theorem back_none (eds : List Ed) (v : Value) (w : World) (hv : EdV w v eds) (hl : eds.length ≤ 51) (hf : Fines eds) (hg : ErrT w) :
    Calls Tryz.prog 30 #[.pointer none, v] w fun e w' => Below w.heap.size w w' ∧ ∃ u, e = .returned (.tuple #[.slice none 0 0, u]) ∧ ErrZ w.heap.size w' u (noB eds).1 (noB eds).2 ∧ (noB eds).2 ≠ 0 := by
  obtain ⟨w1, hw1⟩ : ∃ w1, w1 = w.alloc (.cells #[.slice none 0 0] 107) := ⟨_, rfl⟩
  have hb1 : Below w.heap.size w w1 := by rw [hw1]; exact (Below.refl _ w).alloc (Nat.le_refl _) _
  have hz1 : w1.heap.size = w.heap.size + 1 := by rw [hw1]; simp
  have hc1 : Cells w1 w.heap.size 107 #[.slice none 0 0] := by rw [hw1]; exact Cells.new _ _ _
  have PL := play_none hb1 eds v hv hl hf hg 57 #[.pointer (some ⟨w.heap.size, 0, none⟩)] (enters_of Tryz.func57 (by kernel_rfl) rfl) (fun W ed fa fc hge hW => by
    have hk := goodE_kind hge
    have hC : Cells W w.heap.size 107 #[.slice none 0 0] := cells_kept hc1 hW (by omega)
    have hzW := hW.size
    refine (back1_gen (N := w.heap.size) (j := 0) none ed fa ed.fields.length fc (wasK ed []) (ahK ed 0) (gvK ed 0) (.slice none 0 0) [] (by decide) (by omega) hC ⟨rfl, .inl ⟨rfl, rfl⟩⟩ (fun W' _ => look_none ed hk fa ed.fields.length fc W')).mono ?_
    rintro e W' ⟨rfl, sv', A, c, w2, b2, _, _, w3, g3, _, _, rfl⟩
    refine ⟨rfl, ?_⟩
    have o2 : Only (fun r => w.heap.size ≤ r ∧ r < w1.heap.size) W w3 := (Only.of_below (S := fun r => w.heap.size ≤ r ∧ r < w1.heap.size) b2 (Nat.le_refl _)).grown g3 (fun k e => by cases e)
    exact o2.setCell (p := ⟨w.heap.size, 0, none⟩) (.inl ⟨Nat.le_refl _, by show w.heap.size < w1.heap.size; omega⟩) _)
  obtain ⟨A, cap, rfl, _⟩ := hv
  have PL := Lib.hid PL
  clear hb1 hc1 hf hg hz1
  subst hw1
  go_enter Tryz.func30, Tryz.ntmps30
  go_wp2_with fail
  refine PL.out.mono ?_
  rintro e w2 ⟨b2, u, rfl, hz, hn⟩
  have FIN : Hid (Below w.heap.size w w2 ∧ ∃ u', Ending.returned (.tuple #[.slice none 0 0, u]) = .returned (.tuple #[.slice none 0 0, u']) ∧ ErrZ w.heap.size w2 u' (noB eds).1 (noB eds).2 ∧ (noB eds).2 ≠ 0) := ⟨b2, u, rfl, hz, hn⟩
  have hform : (∃ z, u = .iface 70 (.int .i64 z)) ∨ ∃ q, u = .iface 77 (.pointer (some ⟨q, 0, none⟩)) := by
    obtain ⟨_, ⟨rfl, _⟩ | ⟨_, ⟨q, _, rfl, _⟩, _, _⟩⟩ := hz
    · rw [errV_pos _ (by omega)]; exact .inl ⟨_, rfl⟩
    · exact .inr ⟨q, rfl⟩
  clear hz hn b2 PL
  rcases hform with ⟨z, rfl⟩ | ⟨q, rfl⟩
  all_goals
    go_wp2_with fail
    go_ret2
    exact FIN.out
set_option maxRecDepth 100000 in
set_option maxHeartbeats 4000000 in
/-- Do on no list. -/
theorem Do_none (eds : List Ed) (v : Value) (w : World) (hv : EdV w v eds) (hl : eds.length ≤ 51) (hf : Fines eds) (hg : ErrT w) :
    Calls Tryz.prog 21 #[.pointer none, v] w fun e w' => Below w.heap.size w w' ∧ ∃ u, e = .returned (.tuple #[.pointer none, .slice none 0 0, u]) ∧ ErrZ w.heap.size w' u (noB eds).1 (noB eds).2 ∧ (noB eds).2 ≠ 0 := by
  have PL := Lib.hid (play_none (Below.refl _ w) eds v hv hl hf hg 48 #[] (enters_of Tryz.func48 (by kernel_rfl) rfl) (fun W ed fa fc _ _ => by
    have hb : Below W.heap.size W (W.alloc (.cells #[.int .i64 ed.kind, .int .i64 ed.id, .slice fa ed.fields.length fc] 33)) := (Below.refl _ W).alloc (Nat.le_refl _) _
    have H := Lib.hid (Only.of_below (S := fun r => w.heap.size ≤ r ∧ r < w.heap.size) hb (Nat.le_refl _))
    clear hb
    show Calls _ _ #[.pointer none, .agg #[.int .i64 ed.kind, .int .i64 ed.id, .slice fa ed.fields.length fc]] _ _
    go_enter Tryz.func48, Tryz.ntmps48
    go_wp2_with fail
    go_end0
    exact ⟨rfl, H.out⟩))
  obtain ⟨A, cap, rfl, _⟩ := hv
  clear hf hg
  go_enter Tryz.func21, Tryz.ntmps21
  go_wp2_with fail
  refine PL.out.mono ?_
  rintro e w2 ⟨b2, u, rfl, hz, hn⟩
  have FIN : Hid (Below w.heap.size w w2 ∧ ∃ u', Ending.returned (.tuple #[.pointer none, .slice none 0 0, u]) = .returned (.tuple #[.pointer none, .slice none 0 0, u']) ∧ ErrZ w.heap.size w2 u' (noB eds).1 (noB eds).2 ∧ (noB eds).2 ≠ 0) := ⟨b2, u, rfl, hz, hn⟩
  clear hz hn b2 PL
  go_wp2_with fail
  go_ret3
  exact FIN.out
set_option maxRecDepth 100000 in
set_option maxHeartbeats 4000000 in
theorem noneLaw (eds : List Ed) (v : Value) (w : World) (h : EdsIn w v eds) (hg : ErrT w) :
    Calls Tryz.prog 7 #[v] w fun e w' => e = .returned (.bool true) ∧ Below w.heap.size w w' := by
  have AL := Lib.hid (alive9_any w hg)
  have HE := Lib.hid h
  have HG := Lib.hid hg
  obtain ⟨va, vc, rfl, _⟩ : ∃ A c, v = .slice A eds.length c ∧ True := by obtain ⟨_, A, c, e, _⟩ := h; exact ⟨A, c, e, trivial⟩
  clear h hg
  go_enter Tryz.func7, Tryz.ntmps7
  go_wp2_with fail
  refine AL.out.mono ?_
  rintro e w1 ⟨rfl, b1⟩
  have B1 := Lib.hid b1
  have HV := Lib.hid (heavy_any eds _ w1 (HE.out.below b1 (Nat.le_refl _)))
  clear AL b1
  go_wp2_with fail
  refine HV.out.mono ?_
  rintro e w2 ⟨⟨q, rfl, hq⟩, b2⟩
  have B2 := Lib.hid (B1.out.trans (b2.mono B1.out.size))
  have HQ := Lib.hid hq
  clear HV b2 hq
  cases q with
  | true =>
    go_wp2_with fail
    go_ret
    exact ⟨rfl, B2.out⟩
  | false =>
    have LI : Hid (Light eds) := HQ.out (by first | exact rfl | trivial)
    have hlen : eds.length ≤ 51 := LI.out.1
    have EV : Hid (∀ W, Below w.heap.size w W → EdV W (.slice va eds.length vc) eds ∧ ErrT W) := fun W hW => ⟨HE.out.edv.below hW (Nat.le_refl _), HG.out.below hW (Nat.le_refl _)⟩
    have RC := Lib.hid (refCheckB_any eds _ w2 (EV.out w2 B2.out).1 (by omega) LI.out.fines)
    clear HQ
    go_wp2_with fail
    refine RC.out.mono ?_
    rintro e w3 ⟨rfl, b3⟩
    have B3 := Lib.hid (B2.out.trans (b3.mono B2.out.size))
    have DO := Lib.hid (Do_none eds _ w3 (EV.out w3 B3.out).1 hlen LI.out.fines (EV.out w3 B3.out).2)
    have BK : Hid (∀ W, Below w.heap.size w W → Calls Tryz.prog 30 #[.pointer none, .slice va eds.length vc] W fun e w' => Below W.heap.size W w' ∧ ∃ u, e = .returned (.tuple #[.slice none 0 0, u]) ∧ ErrZ W.heap.size w' u (noB eds).1 (noB eds).2 ∧ (noB eds).2 ≠ 0) := fun W hW => back_none eds _ W (EV.out W hW).1 hlen LI.out.fines (EV.out W hW).2
    have NO : Hid (noB eds = if (chkB eds).2 = 0 then (0, 7) else chkB eds) := rfl
    clear b3 RC EV LI
    generalize hnb : noB eds = nb at *
    generalize hcb : chkB eds = cb at *
    clear hnb hcb
    obtain ⟨ca, cn⟩ := cb
    obtain ⟨na, nn⟩ := nb
    dsimp only at *
    have fin : ∀ (w4 w5 : World) (u1 u2 : Value), ErrZ w3.heap.size w4 u1 na nn → Below w4.heap.size w4 w5 → ErrZ w4.heap.size w5 u2 na nn →
        Hid (Calls Tryz.prog 14 #[u1] w5 fun e w' => e = .returned (.int .i64 (nn : Nat)) ∧ w5 = w') ∧ Hid (Calls Tryz.prog 15 #[u1] w5 fun e w' => e = .returned (.int .i64 na) ∧ w5 = w') ∧ Hid (Calls Tryz.prog 14 #[u2] w5 fun e w' => e = .returned (.int .i64 (nn : Nat)) ∧ w5 = w') := fun w4 w5 u1 u2 z1 b5 z2 =>
      ⟨num_z (z1.below b5 (Nat.le_refl _)), at_z (z1.below b5 (Nat.le_refl _)), num_z z2⟩
    have FIN := Lib.hid fin
    clear fin
    by_cases h0 : cn = 0
    · have NO1 : ((na, nn) : Int × Nat) = (0, 7) := by rw [NO.out, if_pos h0]
      obtain ⟨rfl, rfl⟩ := Prod.mk.inj NO1
      subst h0
      clear NO NO1
      go_wp2_with fail
      refine DO.out.mono ?_
      rintro e w4 ⟨b4, u1, rfl, z1, _⟩
      have B4 := Lib.hid (B3.out.trans (b4.mono B3.out.size))
      have BK1 := Lib.hid (BK.out w4 B4.out)
      have Z1 := Lib.hid z1
      clear b4 z1 DO BK
      go_wp2_with fail
      refine BK1.out.mono ?_
      rintro e w5 ⟨b5, u2, rfl, z2, _⟩
      have B5 := Lib.hid (B4.out.trans (b5.mono B4.out.size))
      obtain ⟨N1, A1, N2⟩ := FIN.out w4 w5 u1 u2 Z1.out b5 z2
      clear b5 z2 Z1 BK1 FIN
      go_wp2_with fail
      refine N1.out.mono ?_
      rintro e w' ⟨rfl, rfl⟩
      go_wp2_with fail
      refine A1.out.mono ?_
      rintro e w' ⟨rfl, rfl⟩
      go_wp2_with fail
      refine N2.out.mono ?_
      rintro e w' ⟨rfl, rfl⟩
      go_wp2_with fail
      go_ret
      exact ⟨rfl, B5.out⟩
    · have NO1 : ((na, nn) : Int × Nat) = (ca, cn) := by rw [NO.out, if_neg h0]
      obtain ⟨rfl, rfl⟩ := Prod.mk.inj NO1
      have qn : ((nn : Int) == 0) = false := by simpa using h0
      clear NO NO1
      go_wp2_with fail
      refine DO.out.mono ?_
      rintro e w4 ⟨b4, u1, rfl, z1, _⟩
      have B4 := Lib.hid (B3.out.trans (b4.mono B3.out.size))
      have BK1 := Lib.hid (BK.out w4 B4.out)
      have Z1 := Lib.hid z1
      clear b4 z1 DO BK
      go_wp2_with fail
      refine BK1.out.mono ?_
      rintro e w5 ⟨b5, u2, rfl, z2, _⟩
      have B5 := Lib.hid (B4.out.trans (b5.mono B4.out.size))
      obtain ⟨N1, A1, N2⟩ := FIN.out w4 w5 u1 u2 Z1.out b5 z2
      clear b5 z2 Z1 BK1 FIN
      go_wp2_with fail
      refine N1.out.mono ?_
      rintro e w' ⟨rfl, rfl⟩
      go_wp2_with fail
      refine A1.out.mono ?_
      rintro e w' ⟨rfl, rfl⟩
      go_wp2_with fail
      refine N2.out.mono ?_
      rintro e w' ⟨rfl, rfl⟩
      go_wp2_with fail
      go_ret
      exact ⟨rfl, B5.out⟩
open Go.Maps Go.ChangeShapes Go.Joins Go.WideShapes in
set_option maxRecDepth 100000 in
/-- .. at a batch that came in. -/
theorem noneCall {H : Type} {enc : TypeId × Value → H} (v : Value) (d : DataW H) (p : List MemPlace) (W : World) {b0 : Nat} (hval : Value.okWide Tryz.prog W .any b0 22 v) {base : Nat} {sp : Nat → Bool} {held : Bool} (h : DataW.Trod enc Tryz.prog W base sp held 22 v d p) (hg : ErrT W) :
    Calls Tryz.prog 7 #[v] W fun e w' => e = .returned (.bool true) ∧ Below W.heap.size W w' := by
  obtain ⟨n, hn⟩ := h
  obtain ⟨ao, len, cap, rfl⟩ := okWide_slice Tryz.underlying22 hval
  obtain ⟨eds, hr⟩ := edits_in (v := .slice ao len cap) hn
  exact noneLaw eds _ W hr hg
end Go.Proofs.YtflnlenkgbphpaaGreatDoor

namespace Go.Proofs.YtflnlenkgbphpaaGreatDoor
open Go.RowKit Go.Shelf
attribute [local go_sem] Oper.semAt_some

def edRow : List Ed → List Value → List Value
  | ed :: r, fv :: q => .int .i64 ed.kind :: .int .i64 ed.id :: fv :: edRow r q
  | _, _ => []
theorem edRow_snoc : ∀ (l : List Ed) (vs : List Value) (ed : Ed) (v : Value), vs.length = l.length → edRow (l ++ [ed]) (vs ++ [v]) = edRow l vs ++ [.int .i64 ed.kind, .int .i64 ed.id, v]
  | [], [], ed, v, _ => rfl
  | a :: l, b :: vs, ed, v, h => by
    show _ :: _ :: _ :: edRow (l ++ [ed]) (vs ++ [v]) = _
    rw [edRow_snoc l vs ed v (by simpa using h)]; rfl
  | [], _ :: _, _, _, h => by simp at h
  | _ :: _, [], _, _, h => by simp at h
theorem edRow_at : ∀ (l : List Ed) (vs : List Value) (i : Nat) (ed : Ed) (v : Value), l[i]? = some ed → vs[i]? = some v → (edRow l vs)[i * 3]? = some (.int .i64 ed.kind) ∧ (edRow l vs)[i * 3 + 1]? = some (.int .i64 ed.id) ∧ (edRow l vs)[i * 3 + 1 + 1]? = some v
  | [], _, i, _, _, h, _ => by simp at h
  | _ :: _, [], i, _, _, _, h => by simp at h
  | a :: l, b :: vs, 0, ed, v, h1, h2 => by simp at h1 h2; subst h1 h2; exact ⟨rfl, rfl, rfl⟩
  | a :: l, b :: vs, i + 1, ed, v, h1, h2 => by
    obtain ⟨x, y, z⟩ := edRow_at l vs i ed v (by simpa using h1) (by simpa using h2)
    rw [show (i + 1) * 3 = i * 3 + 3 by omega]
    exact ⟨x, y, z⟩
/-- Edits in a row that is owned, each one's fields in a row that is owned. -/
structure OwnE (lo : Nat) (w : World) (v : Value) (eds : List Ed) (fvs : List Value) : Prop where
  row : w.ownsRow lo 33 3 v eds.length (edRow eds fvs)
  len : fvs.length = eds.length
  each : ∀ (i : Nat) ed fv, eds[i]? = some ed → fvs[i]? = some fv → w.ownsRow lo 35 2 fv ed.fields.length (cellsF ed.fields)
theorem OwnE.below {lo : Nat} {w w' : World} {v : Value} {eds : List Ed} {fvs : List Value} {N : Nat} (h : OwnE lo w v eds fvs) (hb : Below N w w') (hN : w.heap.size ≤ N) : OwnE lo w' v eds fvs :=
  ⟨row_below h.row hb hN, h.len, fun i ed fv h1 h2 => row_below (h.each i ed fv h1 h2) hb hN⟩
theorem OwnE.edv {lo : Nat} {w : World} {v : Value} {eds : List Ed} {fvs : List Value} (h : OwnE lo w v eds fvs) : EdV w v eds := by
  by_cases h0 : eds = []
  · subst h0
    obtain ⟨A, c, rfl, hle⟩ := own_slice h.row
    exact ⟨A, c, rfl, hle, fun i ed hi => by simp at hi⟩
  · have hn : eds.length ≠ 0 := fun e => h0 (List.length_eq_zero_iff.1 e)
    have hrow := h.row
    obtain ⟨g, cap, hug⟩ := Joins.ownsRow_form hrow (by omega)
    have hle : eds.length ≤ cap := by
      obtain ⟨A, c, e, hle⟩ := own_slice h.row
      rw [hug] at e; cases e; exact hle
    rw [hug] at hrow
    refine ⟨_, cap, hug, hle, fun i ed hi => ?_⟩
    have hil := (List.getElem?_eq_some_iff.1 hi).1
    obtain ⟨fv, hfv⟩ : ∃ fv, fvs[i]? = some fv := ⟨_, List.getElem?_eq_getElem (by rw [h.len]; exact hil)⟩
    obtain ⟨a0, a1, a2⟩ := edRow_at eds fvs i ed fv hi hfv
    refine ⟨g, 0, fv, rfl, (hrow.lt g rfl).2, ?_, ?_, ?_, FldR.own (h.each i ed fv hi hfv)⟩
    · rw [Nat.zero_add, World.ownsRow.cellAt hrow (i * 3) (by omega), a0]
    · rw [Nat.zero_add, World.ownsRow.cellAt hrow (i * 3 + 1) (by omega), a1]
    · rw [Nat.zero_add, World.ownsRow.cellAt hrow (i * 3 + 1 + 1) (by omega), a2]
theorem infoEd9 : (Tryz.prog.info? 33).map (fun i => (i.zero, i.size, i.bytes)) = some (some (.agg #[.int .i64 0, .int .i64 0, .slice none 0 0]), 3, 40) := by kernel_rfl
set_option maxRecDepth 100000 in
set_option maxHeartbeats 8000000 in
theorem own_any (eds : List Ed) (v : Value) (w : World) (h : EdV w v eds) (hl : eds.length ≤ 51) (hf : Fines eds) :
    Calls Tryz.prog 10 #[v] w fun e w' => ∃ v' fvs, e = .returned v' ∧ OwnE w.heap.size w' v' eds fvs ∧ Below w.heap.size w w' := by
  obtain ⟨i0, hi, hz0, hz1, hz2⟩ := info_parts infoEd9
  obtain ⟨A, cap, rfl, hle, hc⟩ := h
  have PC := Lib.hid hc
  have HF := Lib.hid hf
  clear hc hf
  have hoN : Hid ((w.alloc (.cells #[] 33)).ownsRow w.heap.size 33 3 (.slice (some ⟨w.heap.size, 0, none⟩) 0 0) 0 []) := World.ownsRow_lit w #[] 0 (Nat.le_refl _) (by decide) rfl
  have hba := Lib.hid ((Below.refl w.heap.size w).alloc (Nat.le_refl _) (.cells #[] 33))
  go_enter Tryz.func10, Tryz.ntmps10
  go_wp2_with fail
  go_loopw [3, 9] (fun ox i wr => ∃ (k : Nat) (ov : Value) (fvs : List Value), ov = ox ∧ k ≤ eds.length ∧ i = .int .i64 k ∧ OwnE w.heap.size wr ov (eds.take k) fvs ∧ Below w.heap.size w wr) (fun _ i _ => eds.length - (intOf i).toNat)
  case atStart => exact ⟨0, _, [], rfl, Nat.zero_le _, rfl, ⟨hoN.out, rfl, fun i ed fv h1 _ => by simp at h1⟩, hba.out⟩
  case round =>
    obtain ⟨k, ov, fvs, rfl, hk, rfl, hO, hB⟩ := hrel
    by_cases hlt : k < eds.length
    · obtain ⟨ed, hed⟩ : ∃ ed, eds[k]? = some ed := ⟨_, List.getElem?_eq_getElem hlt⟩
      obtain ⟨b, off, fv, rfl, hbb, c0, c1, c2, hfl⟩ := PC.out k ed hed
      obtain ⟨fa, fc, rfl⟩ := hfl.form
      replace c0 := (hB.cell (p := ⟨b, off + k * 3, none⟩) hbb).trans c0
      replace c1 := (hB.cell (p := ⟨b, off + k * 3 + 1, none⟩) hbb).trans c1
      replace c2 := (hB.cell (p := ⟨b, off + k * 3 + 1 + 1, none⟩) hbb).trans c2
      obtain ⟨wa, hwa⟩ : ∃ wa, wa = wr.alloc (.cells #[.int .i64 ed.kind, .int .i64 ed.id, .slice fa ed.fields.length fc] 33) := ⟨_, rfl⟩
      have hb9 : Below wr.heap.size wr wa := by rw [hwa]; exact (Below.refl _ wr).alloc (Nat.le_refl _) _
      have hza : wa.heap.size = wr.heap.size + 1 := by rw [hwa]; simp
      have cE : Cells wa wr.heap.size 33 #[.int .i64 ed.kind, .int .i64 ed.id, .slice fa ed.fields.length fc] := by rw [hwa]; exact Cells.new _ _ _
      have hBa : Below w.heap.size w wa := hB.trans (hb9.mono hB.size)
      have hlen : (eds.take k).length = k := take_len hed
      obtain ⟨oa, oc, rfl⟩ : ∃ A c, ov = .slice A k c := by
        obtain ⟨A, c, e, _⟩ := own_slice hO.row
        rw [hlen] at e
        exact ⟨A, c, e⟩
      have HE9 : Hid (∀ W', Below wa.drew.heap.size wa.drew W' → W'.cell? ⟨wr.heap.size, 0, none⟩ = some (.int .i64 ed.kind) ∧ W'.cell? ⟨wr.heap.size, 1, none⟩ = some (.int .i64 ed.id) ∧ W'.cell? ⟨wr.heap.size, 2, none⟩ = some (.slice fa ed.fields.length fc)) := fun W' hW' => by
        have := cells_kept cE.drew hW' (by show wr.heap.size < wa.heap.size; omega)
        exact ⟨by rw [this.cell]; rfl, by rw [this.cell]; rfl, by rw [this.cell]; rfl⟩
      have HL9 : Hid (w.heap.size ≤ wa.drew.heap.size) := show w.heap.size ≤ wa.heap.size from hBa.size
      have CP : Hid (∀ W', Below wa.drew.heap.size wa.drew W' → Calls Tryz.prog 37 #[.slice fa ed.fields.length fc] W' fun e w' => ∃ v', e = .returned v' ∧ (∃ A c, v' = .slice A ed.fields.length c ∧ w'.ownsRow w.heap.size 35 2 v' ed.fields.length (cellsF ed.fields)) ∧ Below W'.heap.size W' w') := fun W' hW' => by
        have hB' : Below w.heap.size w W' := hBa.drew.trans (hW'.mono hBa.size)
        have hfl' := hfl.below hB' (Nat.le_refl _)
        refine (copies_own ed.fields _ W' hfl'.1 hfl'.2 (by have := (HF.out ed (List.mem_of_getElem? hed)).len; omega)).mono ?_
        rintro e w' ⟨v', rfl, ho, hb⟩
        obtain ⟨A, c, e, _⟩ := own_slice ho
        exact ⟨v', rfl, ⟨A, c, e, rowBase ho hB'.size⟩, hb⟩
      have SN : Hid (eds.take (k + 1) = eds.take k ++ [ed]) := take_snoc hed
      have HO := Lib.hid hO
      have HBA := Lib.hid hBa
      have HB9 := Lib.hid hb9
      have HLEN := Lib.hid hlen
      clear hed hO hB hb9 cE hBa hfl
      subst hwa
      go_upto_region 5 with fail
      refine wp_region_any (by kernel_rfl) ?_
      refine region_ow5 _ (wr.alloc (.cells #[.int .i64 ed.kind, .int .i64 ed.id, .slice fa ed.fields.length fc] 33)).drew wr.heap.size w.heap.size (.slice oa k oc) ed.kind ed.id fa ed.fields.length fc
        (fun v w2 => ∃ A c, v = .slice A ed.fields.length c ∧ w2.ownsRow w.heap.size 35 2 v ed.fields.length (cellsF ed.fields)) _ rfl rfl rfl HE9.out HL9.out ?hPM ?hPF CP.out ?hQ
      case hPM =>
        rintro v x y hb ⟨A, c, e, h1⟩
        exact ⟨A, c, e, row_below h1 hb (Nat.le_refl _)⟩
      case hPF =>
        rintro v w ⟨A, c, e, _⟩
        exact ⟨_, _, _, e⟩
      case hQ =>
        intro y0 y1 y2 y3 y4 y5 y6 y7 y8 y9 w2 hb2 hy0 hy9
        subst hy0
        obtain ⟨b9, u, rfl, ⟨A9, c9, rfl, hown9⟩, hlo9, hcb⟩ := hy9
        have hB2r : Below wr.heap.size wr w2 := HB9.out.drew.trans (hb2.mono HB9.out.size)
        have hB2 : Below w.heap.size w w2 := HBA.out.drew.trans (hb2.mono HBA.out.size)
        have HV : Hid (∀ (i : Nat) (u : Value), [Value.int .i64 ed.kind, .int .i64 ed.id, .slice A9 ed.fields.length c9][i]? = some u → w2.cell? ((⟨b9, 0, none⟩ : Addr).add i) = some u) := fun i u h => by
          have ea : (⟨b9, 0, none⟩ : Addr).add i = ⟨b9, i, none⟩ := by unfold Addr.add; split <;> simp_all
          rw [ea, hcb.cell i]; simpa using h
        have hO2 := HO.out.below hB2r (Nat.le_refl _)
        have hrow2 := hO2.row
        rw [HLEN.out] at hrow2
        have HR := Lib.hid hrow2
        have HB2 := Lib.hid hB2
        have HO2 := Lib.hid hO2
        have HOWN := Lib.hid hown9
        have hlo2 := hB2.size
        clear hcb hb2 hB2r hB2 hO2 hrow2 hown9 HE9 HL9 CP HO HBA HB9
        simp only [List.foldl, List.setIfInBounds_toArray, List.set_cons_zero, List.set_cons_succ]
        go_wp2_with (at_builtin; refine wpList_append_at rfl _ _ 22 rfl w.heap.size 33 i0 _ 3 40 Tryz.underlying22 hi hz0 hz1 hz2 rfl (by decide) _ _ _ rfl HR.out ⟨b9, 0, none⟩ 1 1 _ rfl rfl HV.out (by intro u hu; simp at hu; rcases hu with rfl | rfl | rfl <;> rfl) (by unfold maxLen; omega) (by omega) hlo2 ?_)
        intro ov' w3 own3 grow3 at3
        have hge : ∀ r, (Value.slice oa k oc).ownBlock = some r → w.heap.size ≤ r := fun r e => (HR.out.lt r e).1
        have B3 : Below w.heap.size w w3 := HB2.out.grown grow3 HB2.out.size hge
        have hty : ∀ (fx : Value) (n : Nat) (xs : List Value), w2.ownsRow w.heap.size 35 2 fx n xs → w3.ownsRow w.heap.size 35 2 fx n xs := fun fx n xs hx =>
          row_same hx (fun r e => grow3.block r (hx.lt r e).2 (fun q => own_own_ne HR.out hx (by decide) r q.symm e))
        have OE : OwnE w.heap.size w3 ov' (eds.take (k + 1)) (fvs ++ [.slice A9 ed.fields.length c9]) := by
          have hl0 := HO2.out.len
          refine ⟨?_, by rw [SN.out, List.length_append, List.length_append, hl0]; rfl, fun i x fx h1 h2 => ?_⟩
          · rw [SN.out, edRow_snoc _ _ _ _ hl0, List.length_append, HLEN.out]; exact own3
          · rw [SN.out] at h1
            rcases Nat.lt_or_ge i (eds.take k).length with q | q
            · rw [List.getElem?_append_left q] at h1
              rw [List.getElem?_append_left (by omega)] at h2
              exact hty _ _ _ (HO2.out.each i x fx h1 h2)
            · rw [List.getElem?_append_right q] at h1
              rw [List.getElem?_append_right (by omega), hl0] at h2
              rcases hq : i - (eds.take k).length with _ | j
              · rw [hq] at h1 h2
                simp at h1 h2
                subst h1 h2
                exact hty _ _ _ HOWN.out
              · rw [hq] at h1; simp at h1
        have HOE := Lib.hid OE
        have HB3 := Lib.hid B3
        obtain ⟨oa', on', oc', rfl⟩ : ∃ A n c, ov' = .slice A n c := by
          obtain ⟨A, c, e, _⟩ := own_slice own3
          exact ⟨A, _, c, e⟩
        clear own3 grow3 at3 OE B3 hty hge HR HV HO2 HOWN HB2
        go_wp2_with fail
        go_roundw
        case rel => exact ⟨k + 1, _, _, rfl, hlt, by go_num, HOE.out, HB3.out⟩
        case measure => simp [intOf]; omega
    · obtain rfl : k = eds.length := by omega
      rw [List.take_length] at hO
      obtain ⟨oa, oc, rfl⟩ : ∃ A c, ov = .slice A eds.length c := by
        obtain ⟨A, c, e, _⟩ := own_slice hO.row
        exact ⟨A, c, e⟩
      have HO := Lib.hid hO
      clear PC hO
      go_wp2_with fail
      go_ret
      exact ⟨_, fvs, rfl, HO.out, hB⟩
end Go.Proofs.YtflnlenkgbphpaaGreatDoor

namespace Go.Proofs.YtflnlenkgbphpaaGreatDoor
open Go.RowKit Go.Shelf
attribute [local go_sem] Oper.semAt_some

/-- A slice of stanzas, readable. -/
def Szs (w : World) (v : Value) (rs : List Stz) : Prop :=
  ∃ A cap, v = .slice A rs.length cap ∧ rs.length ≤ cap ∧ ∀ (i : Nat) (s : Stz), rs[i]? = some s → ∃ b off fv, A = some ⟨b, off, none⟩ ∧ b < w.heap.size ∧ w.cell? ⟨b, off + i * 2, none⟩ = some (.int .i64 s.1) ∧ w.cell? ⟨b, off + i * 2 + 1, none⟩ = some fv ∧ Flds w fv s.2
theorem Szs.below {w w' : World} {v : Value} {rs : List Stz} {n : Nat} (h : Szs w v rs) (hb : Below n w w') (hn : w.heap.size ≤ n) : Szs w' v rs := by
  obtain ⟨A, cap, hv, hle, hc⟩ := h
  refine ⟨A, cap, hv, hle, fun i s hi => ?_⟩
  obtain ⟨b, off, fv, hA, hlt, c0, c1, hf⟩ := hc i s hi
  have hlt' := Nat.lt_of_lt_of_le hlt hn
  exact ⟨b, off, fv, hA, Nat.lt_of_lt_of_le hlt hb.size, (hb.cell (p := ⟨b, off + i * 2, none⟩) hlt').trans c0, (hb.cell (p := ⟨b, off + i * 2 + 1, none⟩) hlt').trans c1, hf.below hb hn⟩
theorem szs_of_own {w : World} {base : Nat} {v : Value} {rs : List Stz} {fvs : List Value} (h : w.ownsRow base 65 2 v rs.length (stzCells rs fvs)) (hl : fvs.length = rs.length) (he : ∀ (j : Nat) s x, rs[j]? = some s → fvs[j]? = some x → Flds w x s.2) : Szs w v rs := by
  rcases Joins.ownsRow_forms h with ⟨rfl, hn⟩ | ⟨g, cap, rfl⟩
  · have : rs = [] := List.length_eq_zero_iff.1 hn
    subst this
    exact ⟨none, 0, rfl, Nat.le_refl _, fun i s h => by simp at h⟩
  · refine ⟨_, cap, rfl, (by rcases h.2 with ⟨q, _⟩ | ⟨g', cap', cur, q, _, _, q2, _⟩; · cases q
                             · cases q; exact q2), fun i s hi => ?_⟩
    have hlt : i < rs.length := (List.getElem?_eq_some_iff.1 hi).1
    obtain ⟨x, hx⟩ : ∃ x, fvs[i]? = some x := ⟨_, List.getElem?_eq_getElem (by omega)⟩
    obtain ⟨a0, a1⟩ := stzCells_at rs fvs i s x hi hx
    exact ⟨g, 0, x, rfl, (World.ownsRow.lt h g rfl).2, by rw [Nat.zero_add, World.ownsRow.cellAt h (i * 2) (by omega)]; exact a0, by rw [Nat.zero_add, World.ownsRow.cellAt h (i * 2 + 1) (by omega)]; exact a1, he i s x hi hx⟩
theorem AccZ.szs {lo : Nat} {w wr : World} {v : Value} {fvs : List Value} {rs : List Stz} (h : AccZ lo w wr v fvs rs) : Szs wr v rs :=
  szs_of_own h.row h.len fun j s x h1 h2 => flds_of_own (h.each j s x h1 h2)
set_option maxRecDepth 100000 in
set_option maxHeartbeats 8000000 in
theorem stanzas_quiet (rs : List Stz) (v v' : Value) (w : World) (h : Szs w v rs) (h' : Szs w v' rs) (hn : rs.length ≤ 1000000) (hf : ∀ s ∈ rs, s.2.length ≤ 1000000) :
    Calls Tryz.prog 26 #[v, v'] w fun e w' => e = .returned (.bool true) ∧ ∃ m, w' = w.drewN m := by
  obtain ⟨A, cap, rfl, hle, hc⟩ := h
  obtain ⟨A', cap', rfl, hle', hc'⟩ := h'
  have PC := Lib.hid hc
  have PC' := Lib.hid hc'
  have HF := Lib.hid hf
  clear hc hc' hf
  go_enter Tryz.func26, Tryz.ntmps26
  go_wp2_with fail
  go_loopw [13] (fun i wr => ∃ k : Nat, k ≤ rs.length ∧ i = .int .i64 k ∧ ∃ m, wr = w.drewN m) (fun i _ => rs.length - (intOf i).toNat)
  case atStart => exact ⟨0, Nat.zero_le _, rfl, 0, rfl⟩
  case round =>
    obtain ⟨k, hk, rfl, nd, hwr⟩ := hrel
    by_cases hlt : k < rs.length
    · obtain ⟨st, hst⟩ : ∃ st, rs[k]? = some st := ⟨_, List.getElem?_eq_getElem hlt⟩
      obtain ⟨b, off, fv, rfl, hbb, c0, c1, hfl⟩ := PC.out k st hst
      obtain ⟨b', off', fv', rfl, hbb', c0', c1', hfl'⟩ := PC'.out k st hst
      have hm := HF.out st (List.mem_of_getElem? hst)
      have FQ0 : ∀ n, Calls Tryz.prog 32 #[fv, fv'] (wr.drewN n) fun e w' => e = .returned (.bool true) ∧ ∃ m, w' = (wr.drewN n).drewN m := by
        intro n
        rw [hwr]
        exact fields_quiet st.2 fv fv' ((w.drewN nd).drewN n) ((hfl.drewN nd).drewN n) ((hfl'.drewN nd).drewN n) hm
      have FQ := Lib.hid FQ0
      clear FQ0
      replace c0 : wr.cell? ⟨b, off + k * 2, none⟩ = some (.int .i64 st.1) := by rw [hwr]; exact c0
      replace c1 : wr.cell? ⟨b, off + k * 2 + 1, none⟩ = some fv := by rw [hwr]; exact c1
      replace c0' : wr.cell? ⟨b', off' + k * 2, none⟩ = some (.int .i64 st.1) := by rw [hwr]; exact c0'
      replace c1' : wr.cell? ⟨b', off' + k * 2 + 1, none⟩ = some fv' := by rw [hwr]; exact c1'
      have HW := Lib.hid hwr
      clear hst PC PC' hwr hfl hfl' HF
      generalize st.1 = K at *
      go_wp2_with (go_quiet ((go_at_call 32; exact Calls.quiet_of (FQ.out _))))
      go_roundw
      case rel => exact ⟨k + 1, hlt, by go_num, _, by rw [HW.out]; exact World.drewN_drewN _ _ _⟩
      case measure => simp [intOf]; omega
    · obtain rfl : k = rs.length := by omega
      clear PC PC'
      go_wp2_with fail
      go_ret
      exact ⟨rfl, nd, by first | rfl | exact hwr⟩
end Go.Proofs.YtflnlenkgbphpaaGreatDoor

namespace Go.Proofs.YtflnlenkgbphpaaGreatDoor
open Go.RowKit Go.Shelf
attribute [local go_sem] Oper.semAt_some

/-- The stanzas so far, of which each one's fields lie where they lay. -/
structure AccY (w wr : World) (v : Value) (fvs : List Value) (rs : List Stz) : Prop where
  row : wr.ownsRow w.heap.size 65 2 v rs.length (stzCells rs fvs)
  len : fvs.length = rs.length
  each : ∀ (j : Nat) s x, rs[j]? = some s → fvs[j]? = some x → Flds w x s.2
  below : Below w.heap.size w wr
theorem AccY.szs {w wr : World} {v : Value} {fvs : List Value} {rs : List Stz} (h : AccY w wr v fvs rs) : Szs wr v rs :=
  szs_of_own h.row h.len fun j s x h1 h2 => (h.each j s x h1 h2).below h.below (Nat.le_refl _)
theorem AccY.kept {w wr w2 : World} {v : Value} {fvs : List Value} {rs : List Stz} (h : AccY w wr v fvs rs) (hb : Below wr.heap.size wr w2) : AccY w w2 v fvs rs :=
  ⟨own_kept h.row hb (Nat.le_refl _), h.len, h.each, h.below.trans (hb.mono h.below.size)⟩
theorem AccY.snoc {w W W1 w3 : World} {v v' x : Value} {fvs : List Value} {rs : List Stz} {s : Stz} (h : AccY w W v fvs rs) (hx : Flds w x s.2) (ho : w3.ownsRow w.heap.size 65 2 v' (rs.length + 1) (stzCells rs fvs ++ [.int .i64 s.1, x])) (h1 : Below W.heap.size W W1) (hg : W1.grownBy w3 v.ownBlock) : AccY w w3 v' (fvs ++ [x]) (rs ++ [s]) := by
  have h' := h.kept h1
  refine ⟨by rw [List.length_append, stzCells_snoc _ _ _ _ h.len]; exact ho, by simp [h.len], fun j y z hy hz => ?_, h'.below.grown hg h'.below.size (fun k e => (h.row.lt k e).1)⟩
  rcases snoc_at hy with ⟨q, hy⟩ | ⟨q, rfl⟩
  · rw [List.getElem?_append_left (by rw [h.len]; exact q)] at hz
    exact h.each j y z hy hz
  · rw [q, ← h.len, List.getElem?_append_right (Nat.le_refl _)] at hz
    simp at hz
    subst hz; exact hx
end Go.Proofs.YtflnlenkgbphpaaGreatDoor

namespace Go.Proofs.YtflnlenkgbphpaaGreatDoor
open Go.RowKit Go.Shelf

end Go.Proofs.YtflnlenkgbphpaaGreatDoor

namespace Go.Proofs.YtflnlenkgbphpaaGreatDoor
open Go.RowKit Go.Shelf
attribute [local go_sem] Oper.semAt_some

end Go.Proofs.YtflnlenkgbphpaaGreatDoor

namespace Go.Proofs.YtflnlenkgbphpaaGreatDoor

/-- A blank line's item. -/
structure BlankI (it : It) : Prop where
  kind : it.kind = 1
  fields : it.fields = []
  raw : ∃ l, it.raw = l ++ [10] ∧ (10 : UInt8) ∉ l ∧ kindL l = 1
/-- An item that stands alone. -/
def Itm (it : It) : Prop := Blk it ∨ BlankI it

/-- What a run has made since its beginning isn't taken back. -/
def Made (n : Nat) (p : PS) : Prop := n ≤ p.items.length ∧ (n < p.items.length ∨ p.said ≠ [] ∨ p.fields ≠ [])
theorem Made.endField {n : Nat} {p : PS} (h : Made n p) : Made n (endFieldP p) := by
  unfold endFieldP
  split
  · exact h
  · exact ⟨h.1, .inr (.inr (by simp))⟩
theorem Made.went {n : Nat} {p : PS} (h : Made n p) (x : Ln) : Made n (wentP p x) := by
  unfold wentP
  split
  · exact ⟨h.1, .inr (.inl (by simp))⟩
  · exact h
theorem Made.then_ {n : Nat} {p : PS} (h : Made n p) (x : Ln) : Made n (thenP p x) := by
  unfold thenP
  split
  · exact (h.went x).endField
  · exact h.went x
theorem endBlock_more (t : List UInt8) (p : PS) (e : Nat) : p.items.length ≤ (endBlockP t p e).items.length := by
  unfold endBlockP
  split
  · exact Nat.le_refl _
  · split
    · simp [endItemP]
    · simp [endItemP]
theorem Made.put {n : Nat} {t : List UInt8} {p : PS} (h : Made n p) (x : Ln) : Made n (putP t p x) := by
  unfold putP
  split
  · exact ⟨h.1, .inr (.inl (by simp))⟩
  · split
    · have h1 := endBlock_more t p x.at_
      have h2 : (endItemP t (endBlockP t p x.at_) 1 (x.at_ + x.text.length + 1)).items.length = (endBlockP t p x.at_).items.length + 1 := by simp [endItemP]
      have h3 := h.1
      exact ⟨by omega, .inl (by omega)⟩
    · exact h
theorem Made.take {n : Nat} {t : List UInt8} {p q : PS} {x : Ln} (h : Made n p) (he : takeP t p x = .ok q) : Made n q := by
  obtain ⟨_, _, rfl⟩ := take_parts he
  exact (h.then_ x).put x
theorem Made.run {n : Nat} (t : List UInt8) : ∀ (xs : List Ln) (p q : PS), Made n p → runP t p xs = .ok q → Made n q
  | [], p, q, h, he => by cases he; exact h
  | x :: xs, p, q, h, he => by
    unfold runP at he
    cases ht : takeP t p x with
    | error e => rw [ht] at he; cases he
    | ok p1 =>
      rw [ht] at he
      exact Made.run t xs p1 q (h.take ht) he
theorem made_not {b st a n : Nat} {its : List It} (hn : its.length = n) : ¬ Made n ⟨b, [], its, st, a, []⟩ := by
  rintro ⟨_, h | h | h⟩
  · simp only at h; omega
  · exact h rfl
  · exact h rfl
theorem then_clean {b st a no c : Nat} {its : List It} {l : List UInt8} {e : Bool} (hk : kindL l ≠ 3) : thenP ⟨b, [], its, st, a, []⟩ ⟨no, c, l, e⟩ = ⟨b, [], its, st, a, []⟩ := by
  have hg : goesP ⟨b, [], its, st, a, []⟩ ⟨no, c, l, e⟩ = false := goes_kind hk
  unfold thenP wentP
  rw [hg]
  simp [endFieldP]
/-- Lines that make nothing do nothing, with however many stanzas behind them. -/
theorem run_notes {t : List UInt8} : ∀ (ts : List (List UInt8)) (b st a no c : Nat) (its : List It) (b' : Nat), runP t ⟨b, [], its, st, a, []⟩ (num no c ts) = .ok ⟨b', [], its, st, a, []⟩ →
    ∀ (t' : List UInt8) (b2 st2 a2 no2 c2 : Nat) (its2 : List It), runP t' ⟨b2, [], its2, st2, a2, []⟩ (num no2 c2 ts) = .ok ⟨b2, [], its2, st2, a2, []⟩
  | [], b, st, a, no, c, its, b', h, t', b2, st2, a2, no2, c2, its2 => rfl
  | l :: r, b, st, a, no, c, its, b', h, t', b2, st2, a2, no2, c2, its2 => by
    have h' : (match takeP t ⟨b, [], its, st, a, []⟩ ⟨no, c, l, true⟩ with | .error e => Except.error e | .ok q' => runP t q' (num (no + 1) (c + l.length + 1) r)) = .ok ⟨b', [], its, st, a, []⟩ := h
    cases ht : takeP t ⟨b, [], its, st, a, []⟩ ⟨no, c, l, true⟩ with
    | error e => rw [ht] at h'; cases h'
    | ok q =>
      rw [ht] at h'
      dsimp only at h'
      obtain ⟨g1, g2, hq⟩ := take_parts ht
      have hk3 : kindL l ≠ 3 := by
        intro e
        unfold wrongP goesP at g2
        simp [e] at g2
      have hk5 : kindL l ≠ 5 := by
        intro e
        unfold wrongP at g2
        simp [e] at g2
      rw [then_clean hk3] at hq
      have hk4 : kindL l ≠ 4 := by
        intro e
        have hm : Made its.length q := by
          rw [hq]; unfold putP
          rw [if_pos (by exact e)]
          exact ⟨Nat.le_refl _, .inr (.inl (by simp))⟩
        exact made_not rfl (Made.run t _ _ _ hm h')
      have hk1 : kindL l ≠ 1 := by
        intro e
        have hm : Made its.length q := by
          rw [hq]; unfold putP
          rw [if_neg (by exact hk4), if_pos (by exact e)]
          have h1 := endBlock_more t ⟨b, [], its, st, a, []⟩ c
          have h2 : (endItemP t (endBlockP t ⟨b, [], its, st, a, []⟩ c) 1 (c + l.length + 1)).items.length = (endBlockP t ⟨b, [], its, st, a, []⟩ c).items.length + 1 := by simp [endItemP]
          simp only at h1
          exact ⟨by show its.length ≤ (endItemP t (endBlockP t ⟨b, [], its, st, a, []⟩ c) 1 (c + l.length + 1)).items.length; omega, .inl (by show its.length < (endItemP t (endBlockP t ⟨b, [], its, st, a, []⟩ c) 1 (c + l.length + 1)).items.length; omega)⟩
        exact made_not rfl (Made.run t _ _ _ hm h')
      have hput : ∀ (t : List UInt8) (p : PS) (no c : Nat), putP t p ⟨no, c, l, true⟩ = p := fun t p no c => by
        unfold putP
        rw [if_neg (by exact hk4), if_neg (by exact hk1)]
      rw [hput] at hq
      subst hq
      have ih := run_notes r b st a (no + 1) (c + l.length + 1) its b' h' t' b2 st2 a2 (no2 + 1) (c2 + l.length + 1) its2
      have tk := take_else (t := t') (p := ⟨b2, [], its2, st2, a2, []⟩) (no := no2) (c := c2) hk3 hk5 rfl
      rw [show endFieldP ⟨b2, [], its2, st2, a2, []⟩ = ⟨b2, [], its2, st2, a2, []⟩ from rfl, hput] at tk
      show runP t' _ (⟨no2, c2, l, true⟩ :: num (no2 + 1) (c2 + l.length + 1) r) = _
      rw [run_cons tk]
      exact ih
/-- A block that stands alone, wherever it stands. -/
theorem Blk.here {it : It} (h : Blk it) : ∃ ts said fields, it.raw = textL ts ∧ (∀ l ∈ ts, (10 : UInt8) ∉ l) ∧ ∀ (t : List UInt8) (b st a no c e : Nat) (its : List It), (it.kind = 3 → st ≤ 399) → (t.take e).drop a = it.raw → a < e →
    ∃ b', runP t ⟨b, [], its, st, a, []⟩ (num no c ts) = .ok ⟨b', said, its, st, a, fields⟩ ∧ endFieldN ⟨b', said, its, st, a, fields⟩ = 0 ∧ endBlockP t (endFieldP ⟨b', said, its, st, a, fields⟩) e = ⟨b', [], its ++ [it], st + (if it.kind = 3 then 1 else 0), e, []⟩ := by
  obtain ⟨kind, raw, fs⟩ := it
  have hk := h.kind
  obtain ⟨ts, said, fields, d1, d2, d3, d4, d5⟩ := h.does
  dsimp only at hk d1 d5 ⊢
  by_cases hf : fs = []
  · rw [if_pos hf] at hk
    subst hf hk
    have hs : said = [] ∧ fields = [] := by
      unfold endFieldP at d5
      split at d5
      · rename_i hs; exact ⟨hs, d5⟩
      · simp at d5
    obtain ⟨rfl, rfl⟩ := hs
    obtain ⟨b0, h0⟩ := d3 [] 0 0 0 0 0 [] (by decide)
    refine ⟨ts, [], [], d1, d2, fun t b st a no c e its _ hr hae => ⟨b, run_notes ts 0 0 0 0 0 [] b0 h0 t b st a no c its, rfl, ?_⟩⟩
    rw [show endFieldP ⟨b, [], its, st, a, []⟩ = ⟨b, [], its, st, a, []⟩ from rfl]
    unfold endBlockP
    rw [if_neg (by show ¬ a = e; omega), if_pos (show (⟨b, [], its, st, a, []⟩ : PS).fields.length = 0 from rfl)]
    unfold endItemP
    dsimp only
    rw [hr]; rfl
  · rw [if_neg hf] at hk
    subst hk
    refine ⟨ts, said, fields, d1, d2, fun t b st a no c e its hst hr hae => ?_⟩
    obtain ⟨b', hrun⟩ := d3 t b st a no c its (hst rfl)
    have e0 := mv_endFieldN b' st a its ⟨0, said, [], 0, 0, fields⟩ (hst rfl) d4
    have e1 := mv_endField b' st a its ⟨0, said, [], 0, 0, fields⟩
    refine ⟨b', hrun, e0, ?_⟩
    rw [show (⟨b', said, its, st, a, fields⟩ : PS) = mv b' st a its ⟨0, said, [], 0, 0, fields⟩ from rfl, e1]
    have es := endField_said ⟨0, said, [], 0, 0, fields⟩
    generalize endFieldP ⟨0, said, [], 0, 0, fields⟩ = p at *
    unfold endBlockP
    rw [show (mv b' st a its p).at_ = a from rfl, show (mv b' st a its p).fields = p.fields from rfl, d5, if_neg (by omega), if_neg (fun q => hf (List.length_eq_zero_iff.1 q))]
    show (⟨b', p.said, its ++ [⟨3, (t.take e).drop a, p.fields⟩], st + 1, e, []⟩ : PS) = _
    rw [es, hr, d5]; rfl
/-- Of what is parsed: its blank lines. -/
structure MidB (t : List UInt8) (p : PS) (c : Nat) : Prop where
  at_ : p.at_ ≤ c
  bl : ∀ it ∈ p.items, it.kind = 1 → BlankI it
  cur : p.at_ = c → p.fields = [] ∧ p.said = []
theorem MidB.endBlock {t : List UInt8} {p : PS} {c : Nat} (h : MidB t p c) : (∀ it ∈ (endBlockP t (endFieldP p) c).items, it.kind = 1 → BlankI it) ∧ (endBlockP t (endFieldP p) c).fields = [] := by
  unfold endBlockP
  rw [endField_at]
  split
  · rename_i hac
    obtain ⟨h1, h2⟩ := h.cur hac
    refine ⟨by rw [endField_items]; exact h.bl, ?_⟩
    unfold endFieldP
    rw [if_pos h2]; exact h1
  · have key : ∀ (k : Nat), k ≠ 1 → ∀ it ∈ (endItemP t (endFieldP p) k c).items, it.kind = 1 → BlankI it := by
      intro k hk it hi h1
      rcases List.mem_append.1 (show it ∈ (endFieldP p).items ++ [_] from hi) with q | q
      · rw [endField_items] at q; exact h.bl it q h1
      · rw [List.mem_singleton.1 q] at h1
        exact absurd (show ((k : Nat) : Int) = 1 from h1) (by omega)
    split
    · exact ⟨key 2 (by decide), rfl⟩
    · exact ⟨key 3 (by decide), rfl⟩
theorem MidB.take {t : List UInt8} {p q : PS} {x : Ln} (h : MidB t p x.at_) (hen : x.ended = true) (hcl : (10 : UInt8) ∉ x.text) (hrest : ∃ r, t.drop x.at_ = x.bytes ++ r) (hct : x.at_ ≤ t.length) (he : takeP t p x = .ok q) : MidB t q (x.at_ + x.bytes.length) := by
  have hat := h.at_
  obtain ⟨r, hr⟩ := hrest
  have hb : x.bytes = x.text ++ [10] := by unfold Ln.bytes; rw [hen]; simp
  have hbl : x.bytes.length = x.text.length + 1 := by rw [hb]; simp
  by_cases hk : kindL x.text = 1
  · obtain ⟨g1, _, rfl⟩ := take_parts he
    have hg : goesP p x = false := goes_kind (by omega)
    have hw : wentP p x = p := by unfold wentP; rw [hg]; rfl
    have hE : endsP p x = true := by unfold endsP; rw [hg]; simp
    have hth : thenP p x = endFieldP p := by unfold thenP; rw [hE, hw]; rfl
    obtain ⟨l1, l2⟩ := h.endBlock
    have ha : (endBlockP t (endFieldP p) x.at_).at_ = x.at_ := endBlock_at t _ _ (by rw [endField_at]; exact hat)
    unfold putP
    rw [if_neg (by omega), if_pos hk, hth]
    refine ⟨by show x.at_ + x.text.length + 1 ≤ _; omega, fun it hi h1 => ?_, fun _ => ⟨rfl, ?_⟩⟩
    · rcases List.mem_append.1 (show it ∈ (endBlockP t (endFieldP p) x.at_).items ++ [_] from hi) with hi | hi
      · exact l1 it hi h1
      · rw [List.mem_singleton.1 hi]
        refine ⟨rfl, l2, x.text, ?_, hcl, hk⟩
        show (t.take (x.at_ + x.text.length + 1)).drop (endBlockP t (endFieldP p) x.at_).at_ = _
        rw [ha, Nat.add_assoc, List.take_add, hr, ← hbl, List.drop_append_of_le_length (by rw [List.length_take]; omega), List.drop_of_length_le (by rw [List.length_take]; omega), List.take_left' rfl, hb]; rfl
    · show (endBlockP t (endFieldP p) x.at_).said = []
      rw [endBlock_said, endField_said]
  · obtain ⟨k1, k2, k3⟩ := take_keeps hk he
    exact ⟨by rw [k3]; omega, by rw [k1]; exact h.bl, fun q => by rw [k3] at q; omega⟩
theorem MidB.run (t : List UInt8) : ∀ (xs : List Ln) (no c : Nat) (p q : PS), Runs no c xs → no ≤ c → Inv p c → MidB t p c → t.drop c = xs.flatMap Ln.bytes → c ≤ t.length → (∀ x ∈ xs, (10 : UInt8) ∉ x.text) → runP t p xs = .ok q → MidB t q t.length
  | [], no, c, p, q, _, _, _, hm, hr, hct, _, he => by
    cases he
    have : c = t.length := by
      have := congrArg List.length hr
      simp at this; omega
    rw [← this]; exact hm
  | x :: xs, no, c, p, q, hrun, hn, hi, hm, hr, hct, hcl, he => by
    obtain ⟨r1, r2, r3, r4⟩ := hrun
    unfold runP at he
    cases ht : takeP t p x with
    | error e => rw [ht] at he; cases he
    | ok p1 =>
      rw [ht] at he
      dsimp only at he
      rw [List.flatMap_cons] at hr
      rw [← r2] at hi hm hr hct
      obtain ⟨i1, e1⟩ := Inv.take hi (by omega) ht
      have m1 := hm.take e1 (hcl x List.mem_cons_self) ⟨_, hr⟩ hct ht
      have hr2 : t.drop (x.at_ + x.bytes.length) = xs.flatMap Ln.bytes := by
        rw [← List.drop_drop, hr]; simp
      have hct2 : x.at_ + x.bytes.length ≤ t.length := by
        have := congrArg List.length hr
        simp only [List.length_drop, List.length_append] at this
        omega
      rw [r2] at i1 m1 hr2 hct2
      exact MidB.run t xs (no + 1) (c + x.bytes.length) p1 q r4 (by omega) i1 m1 hr2 hct2 (fun y hy => hcl y (List.mem_cons_of_mem _ hy)) he
end Go.Proofs.YtflnlenkgbphpaaGreatDoor

namespace Go.Proofs.YtflnlenkgbphpaaGreatDoor
open Go.RowKit Go.Shelf

/-- Entries whose items stand alone. -/
def ItmL (es : List En) : Prop := ∀ e ∈ es, Itm e.1
theorem ItmL.edit {l : LS} (h : ItmL l.es) (kind id : Int) (fs : List Fld) : ItmL (editR l kind id fs).ls.es := fun e he => by
  rcases edit_mem l kind id fs e he with q | ⟨q, hc⟩
  · exact h e q
  · rw [q]; exact .inl (blk_item hc)
theorem itsP_es {ps : List Pr} {es : List En} (h : ps.map Prod.fst = es) : itsP ps = es.map Prod.fst := by
  rw [← h, List.map_map]; rfl
end Go.Proofs.YtflnlenkgbphpaaGreatDoor

namespace Go.Proofs.YtflnlenkgbphpaaGreatDoor
open Go.RowKit Go.Shelf

end Go.Proofs.YtflnlenkgbphpaaGreatDoor

namespace Go.Proofs.YtflnlenkgbphpaaGreatDoor
open Go.RowKit Go.Shelf
attribute [local go_sem] Oper.semAt_some

theorem Mine.below {lo n : Nat} {w w' : World} {v : Value} (h : Mine w lo v n) (hb : Below w.heap.size w w') : Mine w' lo v n := by
  rcases h with h | ⟨g, cap, cur, e, h0, h1, h2, h3⟩
  · exact .inl h
  · have hg : g < w.heap.size := (Array.getElem?_eq_some_iff.1 h2).1
    exact .inr ⟨g, cap, cur, e, h0, h1, (hb.block g hg).trans h2, h3⟩
theorem itsP_E (ps : List Pr) : itsP ps = (ps.map Prod.fst).map Prod.fst := by unfold itsP; rw [List.map_map]; rfl
structure StandIn (w : World) (lb : Nat) (ev v : Value) (ps qs : List Pr) (nx : Int) : Prop where
  st : StR w lb ev ps nx v qs
  es : qs.map Prod.fst = ps.map Prod.fst
  wf : WF (ps.map Prod.fst)
  nd : (nums (ps.map Prod.fst)).Nodup
  ok : EntsOk ps
  nx : -1000000 ≤ nx ∧ nx ≤ 1000000
theorem StandIn.below {w w' : World} {lb : Nat} {ev v : Value} {ps qs : List Pr} {nx : Int} {N : Nat} (h : StandIn w lb ev v ps qs nx) (hb : Below N w w') (hN : w.heap.size ≤ N) : StandIn w' lb ev v ps qs nx :=
  ⟨h.st.below hb hN, h.es, h.wf, h.nd, h.ok, h.nx⟩
theorem StandIn.its {w : World} {lb : Nat} {ev v : Value} {ps qs : List Pr} {nx : Int} (h : StandIn w lb ev v ps qs nx) : itsP qs = itsP ps := by
  rw [itsP_E, itsP_E, h.es]
-- the calls, in whatever world behind
section
variable {w : World} {lb : Nat} {ev v : Value} {ps qs : List Pr} {nx : Int}
end
theorem cSame {rs : List Stz} {x y : Value} {w : World} (hx : Szs w x rs) (hy : Szs w y rs) (hn : rs.length ≤ 1000000) (hf : ∀ s ∈ rs, s.2.length ≤ 1000000) : Calls Tryz.prog 26 #[x, y] w fun e w' => ∃ u, e = .returned u ∧ u = .bool true ∧ Below w.heap.size w w' :=
  (stanzas_quiet rs x y w hx hy hn hf).mono fun e w' ⟨he, m, hw⟩ => ⟨_, he, rfl, by rw [hw]; exact drewN_below (Below.refl _ _) m⟩
end Go.Proofs.YtflnlenkgbphpaaGreatDoor

