/- Texts put together: ES, EL, FT, FU, FV, WQ. -/
import Derived.Test.YtkcklnnmcmjnjaaGreatDoorBam12
import Derived.Test.YtkcklnnmcmjnjaaGreatDoorBam19
import Derived.Test.YtkcklnnmcmjnjaaGreatDoorBam22
import Derived.Test.YtkcklnnmcmjnjaaGreatDoorBam23
set_option linter.unusedVariables false
namespace Go.Proofs.YtkcklnnmcmjnjaaGreatDoor
open Go.RowKit Go.Shelf
attribute [local go_sem] Oper.semAt_some

set_option maxRecDepth 100000 in
set_option maxHeartbeats 4000000 in
theorem refGood_any (ed : Ed) (fv : Value) (w : World) (h : Flds w fv ed.fields) (hf : Fine7 ed.fields) :
    Calls Tryz.prog 46 #[.agg #[.int .i64 ed.kind, .int .i64 ed.id, fv]] w fun e w' => e = .returned (.int .i64 (goodE ed : Nat)) ∧ Below w.heap.size w w' := by
  obtain ⟨fa, fc, rfl, _, _⟩ := _root_.id h
  obtain ⟨wa, hwa⟩ : ∃ wa, wa = w.alloc (.cells #[.int .i64 ed.kind, .int .i64 ed.id, .slice fa ed.fields.length fc] 33) := ⟨_, rfl⟩
  have hba : Below w.heap.size w wa := by rw [hwa]; exact (Below.refl _ w).alloc (Nat.le_refl _) _
  have HC := Lib.hid (refChk_any ed.fields (.slice fa ed.fields.length fc) wa (h.below hba (Nat.le_refl _)) (by have := hf.len; omega) (fun f hm => by have := hf.each f hm; omega))
  have HB := Lib.hid hba
  have GE := Lib.hid (show goodE ed = if ed.kind = 1 ∨ ed.kind = 3 then chkN ed.fields else if ed.kind = 2 ∧ ed.fields.length = 0 then 0 else 2 from rfl)
  clear hba h
  generalize goodE ed = ge at *
  generalize chkN ed.fields = cn at *
  generalize chkAt ed.fields = ca at *
  generalize ed.fields.length = fl at *
  generalize ed.kind = kk at *
  generalize ed.id = ii at *
  by_cases hlo : kk < 1
  · have hg : ge = 2 := by rw [GE.out, if_neg (by omega), if_neg (by omega)]
    subst hg hwa
    go_enter Tryz.func46, Tryz.ntmps46
    go_wp2_with fail
    go_ret
    exact ⟨rfl, HB.out⟩
  · by_cases hhi : 3 < kk
    · have hg : ge = 2 := by rw [GE.out, if_neg (by omega), if_neg (by omega)]
      subst hg hwa
      go_enter Tryz.func46, Tryz.ntmps46
      go_wp2_with fail
      go_ret
      exact ⟨rfl, HB.out⟩
    · by_cases h2 : kk = 2
      · subst h2
        by_cases h0 : fl = 0
        · have hg : ge = 0 := by rw [GE.out, if_neg (by omega), if_pos ⟨rfl, h0⟩]
          subst hg h0 hwa
          go_enter Tryz.func46, Tryz.ntmps46
          go_wp2_with fail
          go_ret
          exact ⟨rfl, HB.out⟩
        · have hg : ge = 2 := by rw [GE.out, if_neg (by omega), if_neg (by omega)]
          have hp : (0 : Int) < (fl : Int) := by omega
          subst hg hwa
          go_enter Tryz.func46, Tryz.ntmps46
          go_wp2_with fail
          go_ret
          exact ⟨rfl, HB.out⟩
      · have hg : ge = cn := by rw [GE.out, if_pos (by omega)]
        have q2 : (kk == 2) = false := by simpa using h2
        subst hg hwa
        go_enter Tryz.func46, Tryz.ntmps46
        go_wp2_with fail
        refine HC.out.mono ?_
        rintro e w2 ⟨rfl, b2⟩
        have B2 := Lib.hid (HB.out.trans (b2.mono HB.out.size))
        clear b2 HC
        go_wp2_with fail
        go_ret
        exact ⟨rfl, B2.out⟩
set_option maxRecDepth 100000 in
set_option maxHeartbeats 4000000 in
theorem refCheckB_any (eds : List Ed) (v : Value) (w : World) (h : EdV w v eds) (hl : eds.length ≤ 1000000) (hf : Fines eds) :
    Calls Tryz.prog 13 #[v] w fun e w' => e = .returned (.tuple #[.int .i64 (chkB eds).1, .int .i64 (chkB eds).2]) ∧ Below w.heap.size w w' := by
  obtain ⟨A, cap, rfl, hle, hc⟩ := h
  have PC := Lib.hid hc
  have HF := Lib.hid hf
  clear hc hf
  by_cases h0 : eds.length < 1
  · have e0 : chkB eds = (-9, 1) := by unfold chkB; rw [if_pos (by omega)]
    have z0 : eds.length = 0 := by omega
    rw [e0, z0]
    go_enter Tryz.func13, Tryz.ntmps13
    go_wp2_with fail
    go_ret2
    exact ⟨rfl, Below.refl _ _⟩
  have q0 : ¬ ((eds.length : Int) < 1) := by omega
  by_cases h40 : 40 < eds.length
  · have e0 : chkB eds = (-9, 1) := by unfold chkB; rw [if_pos (by omega)]
    rw [e0]
    go_enter Tryz.func13, Tryz.ntmps13
    go_wp2_with fail
    go_ret2
    exact ⟨rfl, Below.refl _ _⟩
  have e1 : chkB eds = chkOn 0 eds := by unfold chkB; rw [if_neg (by omega)]
  rw [e1]
  go_enter Tryz.func13, Tryz.ntmps13
  go_wp2_with fail
  go_loopw [4] (fun i wr => ∃ k : Nat, k ≤ eds.length ∧ i = .int .i64 k ∧ (∀ x ∈ eds.take k, goodE x = 0) ∧ Below w.heap.size w wr) (fun i _ => eds.length - (intOf i).toNat)
  case atStart => exact ⟨0, Nat.zero_le _, rfl, (fun x hx => by simp at hx), Below.refl _ _⟩
  case round =>
    obtain ⟨k, hk, rfl, hsm, hb⟩ := hrel
    by_cases hlt : k < eds.length
    · obtain ⟨ed, hed⟩ : ∃ ed, eds[k]? = some ed := ⟨_, List.getElem?_eq_getElem hlt⟩
      obtain ⟨b, off, fv, rfl, hbb, c0, c1, c2, hfl⟩ := PC.out k ed hed
      obtain ⟨fa, fc, rfl, _, _⟩ := _root_.id hfl.1
      replace c0 := (hb.cell (p := ⟨b, off + k * 3, none⟩) hbb).trans c0
      replace c1 := (hb.cell (p := ⟨b, off + k * 3 + 1, none⟩) hbb).trans c1
      replace c2 := (hb.cell (p := ⟨b, off + k * 3 + 1 + 1, none⟩) hbb).trans c2
      have CK := Lib.hid (refGood_any ed (.slice fa ed.fields.length fc) wr (hfl.1.below hb (Nat.le_refl _)) (HF.out ed (List.mem_of_getElem? hed)))
      have SM : Hid (goodE ed = 0 → ∀ x ∈ eds.take (k + 1), goodE x = 0) := fun hz x hx => by
        rw [take_snoc hed] at hx
        rcases List.mem_append.1 hx with hx | hx
        · exact hsm x hx
        · rw [List.mem_singleton.1 hx]; exact hz
      have AT : Hid (goodE ed ≠ 0 → chkOn 0 eds = (((k : Nat) : Int), goodE ed)) := fun hz => by rw [chkOn_at eds 0 k ed hsm hed hz, Nat.zero_add]
      have HBA := Lib.hid hb
      clear hed hsm hfl hb
      generalize goodE ed = ge at *
      go_wp2_with fail
      refine CK.out.mono ?_
      rintro e w2 ⟨rfl, b2⟩
      have B2 := Lib.hid (HBA.out.trans (b2.mono HBA.out.size))
      clear b2 CK
      by_cases hg0 : ge = 0
      · subst hg0
        have SM1 := Lib.hid (SM.out rfl)
        clear SM AT
        go_wp2_with fail
        go_roundw
        case rel => exact ⟨k + 1, hlt, by go_num, SM1.out, B2.out⟩
        case measure => simp [intOf]; omega
      · have AT1 := Lib.hid (AT.out hg0)
        have qn : ((ge : Int) == 0) = false := by simpa using hg0
        have FIN : Hid (Ending.returned (.tuple #[.int .i64 (k : Nat), .int .i64 (ge : Nat)]) = .returned (.tuple #[.int .i64 (chkOn 0 eds).1, .int .i64 (chkOn 0 eds).2])) := by
          show _ = _
          rw [AT1.out]
        clear SM AT AT1
        go_wp2_with fail
        go_ret2
        exact ⟨FIN.out, B2.out⟩
    · obtain rfl : k = eds.length := by omega
      rw [List.take_length] at hsm
      have FIN : Hid (Ending.returned (.tuple #[.int .i64 (-9), .int .i64 0]) = .returned (.tuple #[.int .i64 (chkOn 0 eds).1, .int .i64 (chkOn 0 eds).2])) := by
        show _ = _
        rw [chkOn_all eds 0 hsm]; rfl
      clear PC hsm
      go_wp2_with fail
      go_ret2
      exact ⟨FIN.out, hb⟩
end Go.Proofs.YtkcklnnmcmjnjaaGreatDoor

namespace Go.Proofs.YtkcklnnmcmjnjaaGreatDoor
open Go.RowKit Go.Shelf
attribute [local go_sem] Oper.semAt_some

def edsA9 : List Ed := [⟨2, 1, []⟩, ⟨1, 1, [([65], [])]⟩]
theorem doA9 : doB ⟨[(⟨3, [65, 58, 32, 49, 10], [([65], [49])]⟩, 1)], 2⟩ edsA9 = (1, 7) := by decide +kernel
theorem okA9 : OkL ⟨[(⟨3, [65, 58, 32, 49, 10], [([65], [49])]⟩, 1)], 2⟩ := ⟨wfA7, by decide, by decide, by decide, by decide⟩
set_option maxRecDepth 100000 in
set_option maxHeartbeats 4000000 in
theorem alive9_any (w : World) (hg : ErrT w) : Calls Tryz.prog 9 #[] w fun e w' => e = .returned (.bool true) ∧ Below w.heap.size w w' := by
  have OF := Lib.hid (of_any ⟨#[65, 58, 32, 49, 10]⟩ (by decide) w)
  have HG := Lib.hid hg
  clear hg
  go_enter Tryz.func9, Tryz.ntmps9
  go_wp2_with fail
  refine OF.out.mono ?_
  rintro e w1 hof
  obtain ⟨b1, lb, ev, ps, rfl, hlb, hev, hla, hps⟩ := hof.yes parseA7
  rw [fromA7] at hla hps
  dsimp only at hla hps
  obtain ⟨wa, hwa⟩ : ∃ wa, wa = (w1.alloc (.cells #[.string ⟨#[65]⟩, .string ⟨#[]⟩] 35)).alloc (.cells #[.int .i64 2, .int .i64 1, .slice none 0 0, .int .i64 1, .int .i64 1, .slice (some ⟨w1.heap.size, 0, none⟩) 1 1] 33) := ⟨_, rfl⟩
  have hba : Below w1.heap.size w1 wa := by rw [hwa]; exact ((Below.refl _ w1).alloc (Nat.le_refl _) _).alloc (by simp) _
  have hB : Below w.heap.size w wa := b1.trans (hba.mono b1.size)
  have cE : Cells wa (w1.heap.size + 1) 33 #[.int .i64 2, .int .i64 1, .slice none 0 0, .int .i64 1, .int .i64 1, .slice (some ⟨w1.heap.size, 0, none⟩) 1 1] := by
    rw [hwa]
    have := Cells.new (w1.alloc (.cells #[.string ⟨#[65]⟩, .string ⟨#[]⟩] 35)) 33 #[.int .i64 2, .int .i64 1, .slice none 0 0, .int .i64 1, .int .i64 1, .slice (some ⟨w1.heap.size, 0, none⟩) 1 1]
    simpa using this
  have hfs : wa.ownsRow w1.heap.size 35 2 (sl w1.heap.size 1 1) 1 (cellsF [([65], [])]) := by
    refine ⟨rfl, .inr ⟨w1.heap.size, 1, _, rfl, Nat.le_refl _, by rw [hwa]; exact (Cells.new w1 _ _).alloc _, Nat.le_refl _, by decide, rfl, rfl⟩⟩
  have hV : EdV wa (.slice (some ⟨w1.heap.size + 1, 0, none⟩) 2 2) edsA9 := by
    refine ⟨_, 2, rfl, Nat.le_refl _, fun i ed hi => ?_⟩
    have hlt : w1.heap.size + 1 < wa.heap.size := cE.lt
    match i, hi with
    | 0, hi =>
      simp [edsA9] at hi; subst hi
      exact ⟨_, 0, .slice none 0 0, rfl, hlt, by rw [cE.cell]; rfl, by rw [cE.cell]; rfl, by rw [cE.cell]; rfl, ⟨none, 0, rfl, Nat.le_refl _, fun i f h => by simp at h⟩, fun n c h => by cases h; rfl⟩
    | 1, hi =>
      simp [edsA9] at hi; subst hi
      exact ⟨_, 0, sl w1.heap.size 1 1, rfl, hlt, by rw [cE.cell]; rfl, by rw [cE.cell]; rfl, by rw [cE.cell]; rfl, FldR.own hfs⟩
    | i + 2, hi => simp [edsA9] at hi
  have C : Carry w.heap.size wa lb ev ps ⟨[(⟨3, [65, 58, 32, 49, 10], [([65], [49])]⟩, 1)], 2⟩ 10 := by
    refine ⟨hla.below hba (Nat.le_refl _), hps, okA9, fun e he => ?_, hlb, hev, by decide, by decide⟩
    rw [List.mem_singleton.1 he]; decide
  have DO := Do_any edsA9 _ hV (by decide) (fun ed he => by
      rcases List.mem_cons.1 he with rfl | he
      · exact ⟨by decide, fun f hf => by cases hf⟩
      · rw [List.mem_singleton.1 he]; exact ⟨by decide, fun f hf => by rw [List.mem_singleton.1 hf]; decide⟩) (fun ed he => by
      rcases List.mem_cons.1 he with rfl | he
      · decide
      · rw [List.mem_singleton.1 he]; decide) (HG.out.below hB (Nat.le_refl _)) C (by decide)
  have LN : Hid (∀ W, Below wa.heap.size wa W → Calls Tryz.prog 41 #[ptr lb] W fun e w' => e = .returned (.int .i64 1) ∧ Below W.heap.size W w') := by
    intro W hW
    have := len_R lb ev ps 2 W ((hla.below hba (Nat.le_refl _)).lr.below hW (Nat.le_refl _)) (by rw [hps]; exact wfA7) (by have := congrArg List.length hps; simp at this; omega)
    rw [hps] at this
    exact this
  have HDO := Lib.hid DO
  have HB := Lib.hid hB
  clear DO hB hV C hfs cE hba hps hla hof b1 OF
  unfold ptr at HDO LN
  unfold ptr
  subst hwa
  go_wp2_with fail
  refine HDO.out.mono ?_
  rintro e w2 ⟨b2, ⟨h0, u, rfl, hz⟩ | ⟨h1, _⟩⟩
  rotate_left
  · rw [doA9] at h1; cases h1
  rw [doA9] at hz
  have LN2 := Lib.hid (LN.out w2 b2)
  have B2 := Lib.hid (HB.out.trans (b2.mono HB.out.size))
  have NU := Lib.hid (num_z hz)
  have AT := Lib.hid (at_z hz)
  have IS : Hid (Calls Tryz.prog 34 #[u, .int .i64 7] w2 fun e w' => e = .returned (.bool true) ∧ w2 = w') := by
    show Calls _ _ _ _ _
    go_enter Tryz.func34, Tryz.ntmps34
    go_wp2_with fail
    refine NU.out.mono ?_
    rintro e w' ⟨rfl, rfl⟩
    go_wp2_with fail
    go_ret
    exact ⟨rfl, rfl⟩
  clear hz b2 HDO LN NU h0
  go_wp2_with fail
  refine IS.out.mono ?_
  rintro e w' ⟨rfl, rfl⟩
  go_wp2_with fail
  refine AT.out.mono ?_
  rintro e w' ⟨rfl, rfl⟩
  go_wp2_with fail
  refine LN2.out.mono ?_
  rintro e w4 ⟨rfl, b4⟩
  have B4 := Lib.hid (B2.out.trans (b4.mono B2.out.size))
  clear LN2 b4
  go_wp2_with fail
  go_ret
  exact ⟨rfl, B4.out⟩
end Go.Proofs.YtkcklnnmcmjnjaaGreatDoor

namespace Go.Proofs.YtkcklnnmcmjnjaaGreatDoor
open Go.RowKit Go.Shelf

theorem joinNl_snocs : ∀ (xs : List (List UInt8)) (y : List UInt8), xs ≠ [] → joinNl (xs ++ [y]) = joinNl xs ++ 10 :: y
  | [], _, h => absurd rfl h
  | [p], y, _ => rfl
  | p :: q :: r, y, _ => by
    show p ++ 10 :: joinNl ((q :: r) ++ [y]) = (p ++ 10 :: joinNl (q :: r)) ++ 10 :: y
    rw [joinNl_snocs (q :: r) y (by simp)]; simp
theorem joinNl_mono : ∀ (xs ys : List (List UInt8)), (joinNl xs).length ≤ (joinNl (xs ++ ys)).length
  | [], ys => by simp [joinNl]
  | [p], [] => by simp
  | [p], q :: r => by show p.length ≤ (p ++ 10 :: joinNl (q :: r)).length; simp
  | p :: q :: r, ys => by
    show (p ++ 10 :: joinNl (q :: r)).length ≤ (p ++ 10 :: joinNl ((q :: r) ++ ys)).length
    have := joinNl_mono (q :: r) ys
    simp only [List.length_append, List.length_cons] at this ⊢; omega
/-- What is said up to k further lines. -/
def accV (a : List UInt8) (r : List (List UInt8)) (k : Nat) : List UInt8 := joinNl (dropSp (afterC a) :: (r.take k).map fun l => dropDot l.tail)
theorem accV_step (a : List UInt8) (r : List (List UInt8)) (k : Nat) (x : List UInt8) (hx : r[k]? = some x) : accV a r (k + 1) = accV a r k ++ 10 :: dropDot x.tail := by
  unfold accV
  rw [List.take_add_one, hx, show (some x).toList = [x] from rfl, List.map_append, ← List.cons_append]
  exact joinNl_snocs _ _ (by simp)
theorem accV_le (a : List UInt8) (r : List (List UInt8)) (k : Nat) : (accV a r k).length ≤ (saidV (a :: r)).length := by
  unfold accV saidV saidP
  simp only [List.headD_cons, List.tail_cons]
  have := joinNl_mono (dropSp (afterC a) :: (r.take k).map fun l => dropDot l.tail) ((r.drop k).map fun l => dropDot l.tail)
  rw [List.cons_append, ← List.map_append, List.take_append_drop] at this
  exact this
theorem accV_all (a : List UInt8) (r : List (List UInt8)) : accV a r r.length = saidV (a :: r) := by
  unfold accV saidV saidP
  rw [List.take_length]; rfl
theorem allK_drop (r : List (List UInt8)) (k : Nat) (x : List UInt8) (h : r[k]? = some x) : sayG 3 (r.drop k) = ((kindL x == 3) && sayG 3 (r.drop (k + 1))) := sayG_drop r k 3 x h
theorem sayF_cons {a : List UInt8} {r : List (List UInt8)} (h : kindL a = 4) : sayF (a :: r) = sayG 3 r := by
  rw [sayF_eq]
  show (decide (0 < (a :: r).length) && ((kindL a == 4) && sayG 3 r)) = _
  simp [h]

set_option maxRecDepth 100000 in
set_option maxHeartbeats 4000000 in
theorem refUnfold_no (ls : List (List UInt8)) (v : Value) (w : World) (hs : Strs w v (ls.map B)) (hl : ∀ l ∈ ls, l.length ≤ 100000) (hn : ls.length ≤ 100000) (h0 : ls = [] ∨ ∃ a r, ls = a :: r ∧ kindL a ≠ 4) :
    Calls Tryz.prog 76 #[v] w fun e w' => e = .returned (.tuple #[.agg #[.string ⟨#[]⟩, .string ⟨#[]⟩], .int .i64 2]) ∧ Below w.heap.size w w' := by
  obtain ⟨A, cap, rfl, hle, hc⟩ := hs
  have hcb := cellB hc
  clear hc
  rcases h0 with rfl | ⟨a, r, rfl, hka⟩
  · clear hcb
    rw [List.length_map, List.length_nil]
    go_enter Tryz.func76, Tryz.ntmps76
    go_wp2_with fail
    have RE := Cells.new w 35 #[.string ⟨#[]⟩, .string ⟨#[]⟩]
    refine bodyPost_ret (ret_f2 rfl _ _ w.heap.size _ rfl RE rfl) rfl ?_
    exact ⟨rfl, (Below.refl _ _).alloc (Nat.le_refl _) _⟩
  · obtain ⟨b, off, rfl, hbb, hca⟩ := hcb 0 a rfl
    rw [Nat.add_zero] at hca
    clear hcb
    have hal := hl a (by simp)
    have RK := fun w => refKind_any (B a) (by rw [B_size]; omega) w
    rw [B_data] at RK
    have hki : ((kindL a : Int) != 4) = true := by simp; omega
    rw [List.length_map, List.length_cons] at *
    have hnz : ((r.length : Int) + 1 == 0) = false := by rw [beq_eq_false_iff_ne]; omega
    clear hka
    generalize kindL a = ka at *
    generalize B a = X at *
    go_enter Tryz.func76, Tryz.ntmps76
    go_wp2_with fail
    refine (RK _).mono ?_
    rintro e w1 ⟨rfl, b1⟩
    have R1 := cells_kept (Cells.new w 35 #[.string ⟨#[]⟩, .string ⟨#[]⟩]) b1 (by simp)
    have c0 := R1.cell 0
    have c1 := R1.cell 1
    have f0 := R1.frozen 0
    have f1 := R1.frozen 1
    have hb1 : Below w.heap.size w w1 := ((Below.refl _ _).alloc (Nat.le_refl _) _).trans (b1.mono (by simp))
    simp only [List.getElem?_toArray, List.getElem?_cons_zero, List.getElem?_cons_succ] at c0 c1
    have RE := (R1.set 0 (.string ⟨#[]⟩)).set 1 (.string ⟨#[]⟩)
    rw [set2] at RE
    clear b1
    go_wp2_with fail
    refine bodyPost_ret (ret_f2 rfl _ _ w.heap.size _ rfl RE rfl) rfl ?_
    exact ⟨rfl, (hb1.setCell (Nat.le_refl _) _).setCell (Nat.le_refl _) _⟩
end Go.Proofs.YtkcklnnmcmjnjaaGreatDoor

namespace Go.Proofs.YtkcklnnmcmjnjaaGreatDoor
open Go.RowKit Go.Shelf

set_option maxRecDepth 100000 in
set_option maxHeartbeats 8000000 in
theorem refUnfold_yes (a : List UInt8) (r : List (List UInt8)) (v : Value) (w : World) (hs : Strs w v ((a :: r).map B)) (hl : ∀ l ∈ a :: r, l.length ≤ 100000) (hn : (a :: r).length ≤ 100000) (hj : (saidV (a :: r)).length ≤ 1000000) (hka : kindL a = 4) :
    Calls Tryz.prog 76 #[v] w fun e w' => e = .returned (.tuple #[fieldV (unfoldK (a :: r)) (unfoldV (a :: r)), .int .i64 (unfoldN (a :: r) : Nat)]) ∧ Below w.heap.size w w' := by
  obtain ⟨A, cap, rfl, hle, hc⟩ := hs
  have hcb := cellB hc
  clear hc
  obtain ⟨b, off, rfl, hbb, hca⟩ := hcb 0 a rfl
  have PCH := Lib.hid (fun (j : Nat) x (hx : r[j]? = some x) => (show w.cell? ⟨b, off + (j + 1), none⟩ = some (.string (B x)) by
    obtain ⟨b', off', e, _, h⟩ := hcb (j + 1) x (by simpa using hx)
    cases e; exact h))
  rw [Nat.add_zero] at hca
  clear hcb
  have hal := hl a (by simp)
  have hlr : ∀ x ∈ r, x.length ≤ 100000 := fun x hx => hl x (List.mem_cons_of_mem _ hx)
  have RK := fun w => refKind_any (B a) (by rw [B_size]; omega) w
  rw [B_data, hka] at RK
  obtain ⟨k1, k2, k3⟩ := kind4 hka
  have RC := fun w => refCut_yes (B a) (by rw [B_size]; omega) w (by rw [B_data]; exact k1) (by rw [B_data]; exact k2) (by rw [B_data]; exact k3)
  rw [pre_B, post_B] at RC
  rw [List.length_map, List.length_cons] at *
  have hnz : ((r.length : Int) + 1 == 0) = false := by rw [beq_eq_false_iff_ne]; omega
  have haz : (afterC a).length ≤ a.length := by unfold afterC; rw [List.length_drop]; omega
  have hA0 : B (accV a r 0) = B (dropSp (afterC a)) := by unfold accV; rfl
  unfold fieldV
  clear k1 k2 k3 hl
  generalize hX : B a = X at *
  clear hX
  generalize hK : B (before a) = KB at *
  have HK := Lib.hid hK
  clear hK
  go_enter Tryz.func76, Tryz.ntmps76
  go_wp2_with fail
  refine (RK _).mono ?_
  rintro e w1 ⟨rfl, b1⟩
  have R1 := cells_kept (Cells.new w 35 #[.string ⟨#[]⟩, .string ⟨#[]⟩]) b1 (by simp)
  have hb1 : Below w.heap.size w w1 := ((Below.refl _ _).alloc (Nat.le_refl _) _).trans (b1.mono (by simp))
  have hca1 := (hb1.cell (p := ⟨b, off, none⟩) hbb).trans hca
  have hs1 := b1.size
  simp only [World.size_alloc] at hs1
  clear b1 hca RK
  go_wp2_with fail
  refine (RC _).mono ?_
  rintro e w2 ⟨rfl, b2⟩
  have R2 := cells_kept R1 b2 (by omega)
  have BW := Lib.hid (hb1.trans (b2.mono (by omega)))
  clear b2 R1 hb1 hca1 RC
  rcases hac : afterC a with _ | ⟨c, t⟩
  · rw [hac] at hA0
    have HA0 : Hid (B (accV a r 0) = ⟨#[]⟩) := hA0
    rw [show B [] = ⟨#[]⟩ from rfl]
    clear hA0 hac
    go_wp2_with fail
    go_loopw [5, 7] (fun s i wr => ∃ n : Nat, n ≤ r.length ∧ i = .int .i64 ((n : Int) + 1) ∧ s = .string (B (accV a r n)) ∧ sayG 3 r = sayG 3 (r.drop n) ∧ Cells wr w.heap.size 35 #[.string ⟨#[]⟩, .string ⟨#[]⟩] ∧ Below w.heap.size w wr) (fun _ i _ => r.length + 1 - (intOf i).toNat)
    case atStart => exact ⟨0, Nat.zero_le _, rfl, by rw [HA0.out], rfl, R2, BW.out⟩
    case round =>
      obtain ⟨n, hnr, rfl, rfl, hG, hR, hb⟩ := hrel
      have hal := accV_le a r n
      have hs3 := hb.size
      have hRl := hR.lt
      by_cases hlt : n < r.length
      · obtain ⟨x, hx⟩ : ∃ x, r[n]? = some x := ⟨_, List.getElem?_eq_getElem hlt⟩
        have hcx := (hb.cell (p := ⟨b, off + (n + 1), none⟩) hbb).trans (PCH.out n x hx)
        have hxl := hlr x (List.mem_of_getElem? hx)
        have hxz := B_size x
        have RK := fun w => refKind_any (B x) (by omega) w
        rw [B_data] at RK
        have STEP := accV_step a r n x hx
        rw [allK_drop r n x hx] at hG
        by_cases hk3 : kindL x = 3
        · obtain ⟨c, d, t, rfl⟩ := kind3 hk3
          have G2 : Hid (sayG 3 r = sayG 3 (r.drop (n + 1))) := by show _ = _; rw [hG, hk3]; simp
          rw [hk3] at RK
          rw [List.tail_cons] at STEP
          have hex := tail_B c (d :: t)
          have hex2 := tail_B d t
          have z1 : (B (c :: d :: t)).size = t.length + 2 := by rw [B_size]; rfl
          have z2 : (B (d :: t)).size = t.length + 1 := by rw [B_size]; rfl
          have z3 : (B t).size = t.length := B_size t
          have htl : t.length ≤ 1000000 := by simp only [List.length_cons] at hxl; omega
          rw [z1] at hex
          rw [z2] at hex2
          have hd0 : ∀ h : 0 < (B (d :: t)).size, (B (d :: t))[0]'h = d := fun _ => rfl
          have hdp : 0 < (B (d :: t)).size := by omega
          have hcp : 0 < (B (c :: d :: t)).size := by omega
          have q2 := byte_eq (c := d) (d := 46) 46 rfl
          have y1 := B_size (accV a r n)
          have y2 : (B (accV a r n) ++ ⟨#[10]⟩).size = (accV a r n).length + 1 := by rw [show (⟨#[10]⟩ : ByteArray) = B [10] from rfl, B_append, B_size]; simp
          have hal2 : (accV a r n).length ≤ 1000000 := by omega
          clear hx hG hk3 hxz hal
          by_cases hd : d = 46
          · have SB : Hid (B (accV a r (n + 1)) = (B (accV a r n) ++ ⟨#[10]⟩) ++ B t) := by
              show _ = _
              rw [STEP, show (⟨#[10]⟩ : ByteArray) = B [10] from rfl, B_append, B_append]; simp [dropDot, hd]
            have hdb : (d == 46) = true := by simp [hd]
            rw [hdb] at q2
            clear STEP hd
            generalize B (accV a r n) = acc at *
            generalize B (c :: d :: t) = X at *
            generalize B (d :: t) = Y at *
            generalize B t = Z at *
            go_wp2_with fail
            refine (RK _).mono ?_
            rintro e w4 ⟨rfl, b4⟩
            have hcx4 := (b4.cell (p := ⟨b, off + (n + 1), none⟩) (Nat.lt_of_lt_of_le hbb hs3)).trans hcx
            have R4 := cells_kept hR b4 (by omega)
            have hb4 := hb.trans (b4.mono hs3)
            clear hR b4 hcx hb
            go_wp2_with fail
            go_roundw
            case rel => exact ⟨n + 1, hlt, by go_num, by rw [SB.out], G2.out, R4, hb4⟩
            case measure => simp [intOf]; omega
          · have SB : Hid (B (accV a r (n + 1)) = (B (accV a r n) ++ ⟨#[10]⟩) ++ B (d :: t)) := by
              show _ = _
              rw [STEP, show (⟨#[10]⟩ : ByteArray) = B [10] from rfl, B_append, B_append]; simp [dropDot, hd]
            have hdb : (d == 46) = false := by simp [hd]
            rw [hdb] at q2
            clear STEP hd
            generalize B (accV a r n) = acc at *
            generalize B (c :: d :: t) = X at *
            generalize B (d :: t) = Y at *
            generalize B t = Z at *
            go_wp2_with fail
            refine (RK _).mono ?_
            rintro e w4 ⟨rfl, b4⟩
            have hcx4 := (b4.cell (p := ⟨b, off + (n + 1), none⟩) (Nat.lt_of_lt_of_le hbb hs3)).trans hcx
            have R4 := cells_kept hR b4 (by omega)
            have hb4 := hb.trans (b4.mono hs3)
            clear hR b4 hcx hb
            go_wp2_with fail
            go_roundw
            case rel => exact ⟨n + 1, hlt, by go_num, by rw [SB.out], G2.out, R4, hb4⟩
            case measure => simp [intOf]; omega
        · have hF : sayF (a :: r) = false := by
            rw [sayF_cons hka, hG]; simp [hk3]
          obtain ⟨e1, e2, e3⟩ := unfold_no hF
          have ET : Hid (unfoldN (a :: r) = 2 ∧ unfoldK (a :: r) = [] ∧ unfoldV (a :: r) = []) := ⟨e1, e2, e3⟩
          have hki : ((kindL x : Int) != 3) = true := by simp; omega
          clear hx hG hk3 e1 e2 e3 hF STEP
          generalize kindL x = kx at *
          generalize B (accV a r n) = acc at *
          generalize B x = X at *
          go_wp2_with fail
          refine (RK _).mono ?_
          rintro e w4 ⟨rfl, b4⟩
          have R4 := cells_kept hR b4 (by omega)
          have hb4 := hb.trans (b4.mono hs3)
          have c0 := R4.cell 0
          have c1 := R4.cell 1
          have f0 := R4.frozen 0
          have f1 := R4.frozen 1
          simp only [List.getElem?_toArray, List.getElem?_cons_zero, List.getElem?_cons_succ] at c0 c1
          have RE := (R4.set 0 (.string ⟨#[]⟩)).set 1 (.string ⟨#[]⟩)
          rw [set2] at RE
          clear hR b4 hcx hb
          go_wp2_with fail
          refine bodyPost_ret (ret_f2 rfl _ _ w.heap.size _ rfl RE rfl) rfl ?_
          obtain ⟨e1, e2, e3⟩ := ET.out
          exact ⟨by rw [e1, e2, e3]; rfl, (hb4.setCell (Nat.le_refl _) _).setCell (Nat.le_refl _) _⟩
      · obtain rfl : n = r.length := by omega
        rw [accV_all] at *
        rw [List.drop_length] at hG
        have hF : sayF (a :: r) = true := by rw [sayF_cons hka, hG]; rfl
        have c0 := hR.cell 0
        have c1 := hR.cell 1
        have f0 := hR.frozen 0
        have f1 := hR.frozen 1
        simp only [List.getElem?_toArray, List.getElem?_cons_zero, List.getElem?_cons_succ] at c0 c1
        have hvz := B_size (saidV (a :: r))
        by_cases hlen : (saidV (a :: r)).length ≤ 1000
        · have ET : Hid _ := unfold_yes hF hlen
          have RE := (hR.set 0 (.string KB)).set 1 (.string (B (saidV (a :: r))))
          rw [set2] at RE
          rw [← hvz] at hlen
          clear hF hG
          generalize hV : B (saidV (a :: r)) = V at *
          have HV := Lib.hid hV
          clear hV
          go_wp2_with fail
          refine bodyPost_ret (ret_f2 rfl _ _ w.heap.size _ rfl RE rfl) rfl ?_
          obtain ⟨e1, e2, e3⟩ := ET.out
          exact ⟨by rw [e1, e2, e3, HV.out, HK.out]; rfl, (hb.setCell (Nat.le_refl _) _).setCell (Nat.le_refl _) _⟩
        · have ET : Hid _ := unfold_long hF hlen
          have RE := (hR.set 0 (.string ⟨#[]⟩)).set 1 (.string ⟨#[]⟩)
          rw [set2] at RE
          rw [← hvz] at hlen
          clear hF hG
          generalize B (saidV (a :: r)) = V at *
          go_wp2_with fail
          refine bodyPost_ret (ret_f2 rfl _ _ w.heap.size _ rfl RE rfl) rfl ?_
          obtain ⟨e1, e2, e3⟩ := ET.out
          exact ⟨by rw [e1, e2, e3]; rfl, (hb.setCell (Nat.le_refl _) _).setCell (Nat.le_refl _) _⟩
  · rw [hac] at hA0 haz
    have hyz := B_size (c :: t)
    have htl : t.length ≤ 1000000 := by simp only [List.length_cons] at haz; omega
    have z1 : (B (c :: t)).size = t.length + 1 := hyz
    have hex := tail_B c t
    rw [z1] at hex
    have hd0 : ∀ h : 0 < (B (c :: t)).size, (B (c :: t))[0]'h = c := fun _ => rfl
    have hdp : 0 < (B (c :: t)).size := by omega
    have q2 := byte_eq (c := c) (d := 32) 32 rfl
    have hAA : (c = 32 ∧ B (accV a r 0) = B t) ∨ (c ≠ 32 ∧ B (accV a r 0) = B (c :: t)) := by
      by_cases h : c = 32
      · exact .inl ⟨h, by rw [hA0]; unfold dropSp; rw [h]; rfl⟩
      · exact .inr ⟨h, by rw [hA0]; unfold dropSp; simp [h]⟩
    clear hA0 hac hyz haz
    have y1 := B_size t
    generalize B (c :: t) = Y0 at *
    generalize B t = Z0 at *
    rcases hAA with ⟨hc, hA0⟩ | ⟨hc, hA0⟩
    · have hcb : (c == 32) = true := by simp [hc]
      rw [hcb] at q2
      have HA0 := Lib.hid hA0
      clear hA0 hc
      go_wp2_with fail
      go_loopw [5, 7] (fun s i wr => ∃ n : Nat, n ≤ r.length ∧ i = .int .i64 ((n : Int) + 1) ∧ s = .string (B (accV a r n)) ∧ sayG 3 r = sayG 3 (r.drop n) ∧ Cells wr w.heap.size 35 #[.string ⟨#[]⟩, .string ⟨#[]⟩] ∧ Below w.heap.size w wr) (fun _ i _ => r.length + 1 - (intOf i).toNat)
      case atStart => exact ⟨0, Nat.zero_le _, rfl, by rw [HA0.out], rfl, R2, BW.out⟩
      case round =>
        obtain ⟨n, hnr, rfl, rfl, hG, hR, hb⟩ := hrel
        have hal := accV_le a r n
        have hs3 := hb.size
        have hRl := hR.lt
        by_cases hlt : n < r.length
        · obtain ⟨x, hx⟩ : ∃ x, r[n]? = some x := ⟨_, List.getElem?_eq_getElem hlt⟩
          have hcx := (hb.cell (p := ⟨b, off + (n + 1), none⟩) hbb).trans (PCH.out n x hx)
          have hxl := hlr x (List.mem_of_getElem? hx)
          have hxz := B_size x
          have RK := fun w => refKind_any (B x) (by omega) w
          rw [B_data] at RK
          have STEP := accV_step a r n x hx
          rw [allK_drop r n x hx] at hG
          by_cases hk3 : kindL x = 3
          · obtain ⟨c, d, t, rfl⟩ := kind3 hk3
            have G2 : Hid (sayG 3 r = sayG 3 (r.drop (n + 1))) := by show _ = _; rw [hG, hk3]; simp
            rw [hk3] at RK
            rw [List.tail_cons] at STEP
            have hex := tail_B c (d :: t)
            have hex2 := tail_B d t
            have z1 : (B (c :: d :: t)).size = t.length + 2 := by rw [B_size]; rfl
            have z2 : (B (d :: t)).size = t.length + 1 := by rw [B_size]; rfl
            have z3 : (B t).size = t.length := B_size t
            have htl : t.length ≤ 1000000 := by simp only [List.length_cons] at hxl; omega
            rw [z1] at hex
            rw [z2] at hex2
            have hd0 : ∀ h : 0 < (B (d :: t)).size, (B (d :: t))[0]'h = d := fun _ => rfl
            have hdp : 0 < (B (d :: t)).size := by omega
            have hcp : 0 < (B (c :: d :: t)).size := by omega
            have q2 := byte_eq (c := d) (d := 46) 46 rfl
            have y1 := B_size (accV a r n)
            have y2 : (B (accV a r n) ++ ⟨#[10]⟩).size = (accV a r n).length + 1 := by rw [show (⟨#[10]⟩ : ByteArray) = B [10] from rfl, B_append, B_size]; simp
            have hal2 : (accV a r n).length ≤ 1000000 := by omega
            clear hx hG hk3 hxz hal
            by_cases hd : d = 46
            · have SB : Hid (B (accV a r (n + 1)) = (B (accV a r n) ++ ⟨#[10]⟩) ++ B t) := by
                show _ = _
                rw [STEP, show (⟨#[10]⟩ : ByteArray) = B [10] from rfl, B_append, B_append]; simp [dropDot, hd]
              have hdb : (d == 46) = true := by simp [hd]
              rw [hdb] at q2
              clear STEP hd
              generalize B (accV a r n) = acc at *
              generalize B (c :: d :: t) = X at *
              generalize B (d :: t) = Y at *
              generalize B t = Z at *
              go_wp2_with fail
              refine (RK _).mono ?_
              rintro e w4 ⟨rfl, b4⟩
              have hcx4 := (b4.cell (p := ⟨b, off + (n + 1), none⟩) (Nat.lt_of_lt_of_le hbb hs3)).trans hcx
              have R4 := cells_kept hR b4 (by omega)
              have hb4 := hb.trans (b4.mono hs3)
              clear hR b4 hcx hb
              go_wp2_with fail
              go_roundw
              case rel => exact ⟨n + 1, hlt, by go_num, by rw [SB.out], G2.out, R4, hb4⟩
              case measure => simp [intOf]; omega
            · have SB : Hid (B (accV a r (n + 1)) = (B (accV a r n) ++ ⟨#[10]⟩) ++ B (d :: t)) := by
                show _ = _
                rw [STEP, show (⟨#[10]⟩ : ByteArray) = B [10] from rfl, B_append, B_append]; simp [dropDot, hd]
              have hdb : (d == 46) = false := by simp [hd]
              rw [hdb] at q2
              clear STEP hd
              generalize B (accV a r n) = acc at *
              generalize B (c :: d :: t) = X at *
              generalize B (d :: t) = Y at *
              generalize B t = Z at *
              go_wp2_with fail
              refine (RK _).mono ?_
              rintro e w4 ⟨rfl, b4⟩
              have hcx4 := (b4.cell (p := ⟨b, off + (n + 1), none⟩) (Nat.lt_of_lt_of_le hbb hs3)).trans hcx
              have R4 := cells_kept hR b4 (by omega)
              have hb4 := hb.trans (b4.mono hs3)
              clear hR b4 hcx hb
              go_wp2_with fail
              go_roundw
              case rel => exact ⟨n + 1, hlt, by go_num, by rw [SB.out], G2.out, R4, hb4⟩
              case measure => simp [intOf]; omega
          · have hF : sayF (a :: r) = false := by
              rw [sayF_cons hka, hG]; simp [hk3]
            obtain ⟨e1, e2, e3⟩ := unfold_no hF
            have ET : Hid (unfoldN (a :: r) = 2 ∧ unfoldK (a :: r) = [] ∧ unfoldV (a :: r) = []) := ⟨e1, e2, e3⟩
            have hki : ((kindL x : Int) != 3) = true := by simp; omega
            clear hx hG hk3 e1 e2 e3 hF STEP
            generalize kindL x = kx at *
            generalize B (accV a r n) = acc at *
            generalize B x = X at *
            go_wp2_with fail
            refine (RK _).mono ?_
            rintro e w4 ⟨rfl, b4⟩
            have R4 := cells_kept hR b4 (by omega)
            have hb4 := hb.trans (b4.mono hs3)
            have c0 := R4.cell 0
            have c1 := R4.cell 1
            have f0 := R4.frozen 0
            have f1 := R4.frozen 1
            simp only [List.getElem?_toArray, List.getElem?_cons_zero, List.getElem?_cons_succ] at c0 c1
            have RE := (R4.set 0 (.string ⟨#[]⟩)).set 1 (.string ⟨#[]⟩)
            rw [set2] at RE
            clear hR b4 hcx hb
            go_wp2_with fail
            refine bodyPost_ret (ret_f2 rfl _ _ w.heap.size _ rfl RE rfl) rfl ?_
            obtain ⟨e1, e2, e3⟩ := ET.out
            exact ⟨by rw [e1, e2, e3]; rfl, (hb4.setCell (Nat.le_refl _) _).setCell (Nat.le_refl _) _⟩
        · obtain rfl : n = r.length := by omega
          rw [accV_all] at *
          rw [List.drop_length] at hG
          have hF : sayF (a :: r) = true := by rw [sayF_cons hka, hG]; rfl
          have c0 := hR.cell 0
          have c1 := hR.cell 1
          have f0 := hR.frozen 0
          have f1 := hR.frozen 1
          simp only [List.getElem?_toArray, List.getElem?_cons_zero, List.getElem?_cons_succ] at c0 c1
          have hvz := B_size (saidV (a :: r))
          by_cases hlen : (saidV (a :: r)).length ≤ 1000
          · have ET : Hid _ := unfold_yes hF hlen
            have RE := (hR.set 0 (.string KB)).set 1 (.string (B (saidV (a :: r))))
            rw [set2] at RE
            rw [← hvz] at hlen
            clear hF hG
            generalize hV : B (saidV (a :: r)) = V at *
            have HV := Lib.hid hV
            clear hV
            go_wp2_with fail
            refine bodyPost_ret (ret_f2 rfl _ _ w.heap.size _ rfl RE rfl) rfl ?_
            obtain ⟨e1, e2, e3⟩ := ET.out
            exact ⟨by rw [e1, e2, e3, HV.out, HK.out]; rfl, (hb.setCell (Nat.le_refl _) _).setCell (Nat.le_refl _) _⟩
          · have ET : Hid _ := unfold_long hF hlen
            have RE := (hR.set 0 (.string ⟨#[]⟩)).set 1 (.string ⟨#[]⟩)
            rw [set2] at RE
            rw [← hvz] at hlen
            clear hF hG
            generalize B (saidV (a :: r)) = V at *
            go_wp2_with fail
            refine bodyPost_ret (ret_f2 rfl _ _ w.heap.size _ rfl RE rfl) rfl ?_
            obtain ⟨e1, e2, e3⟩ := ET.out
            exact ⟨by rw [e1, e2, e3]; rfl, (hb.setCell (Nat.le_refl _) _).setCell (Nat.le_refl _) _⟩
    · have hcb : (c == 32) = false := by simp [hc]
      rw [hcb] at q2
      have HA0 := Lib.hid hA0
      clear hA0 hc
      go_wp2_with fail
      go_loopw [5, 7] (fun s i wr => ∃ n : Nat, n ≤ r.length ∧ i = .int .i64 ((n : Int) + 1) ∧ s = .string (B (accV a r n)) ∧ sayG 3 r = sayG 3 (r.drop n) ∧ Cells wr w.heap.size 35 #[.string ⟨#[]⟩, .string ⟨#[]⟩] ∧ Below w.heap.size w wr) (fun _ i _ => r.length + 1 - (intOf i).toNat)
      case atStart => exact ⟨0, Nat.zero_le _, rfl, by rw [HA0.out], rfl, R2, BW.out⟩
      case round =>
        obtain ⟨n, hnr, rfl, rfl, hG, hR, hb⟩ := hrel
        have hal := accV_le a r n
        have hs3 := hb.size
        have hRl := hR.lt
        by_cases hlt : n < r.length
        · obtain ⟨x, hx⟩ : ∃ x, r[n]? = some x := ⟨_, List.getElem?_eq_getElem hlt⟩
          have hcx := (hb.cell (p := ⟨b, off + (n + 1), none⟩) hbb).trans (PCH.out n x hx)
          have hxl := hlr x (List.mem_of_getElem? hx)
          have hxz := B_size x
          have RK := fun w => refKind_any (B x) (by omega) w
          rw [B_data] at RK
          have STEP := accV_step a r n x hx
          rw [allK_drop r n x hx] at hG
          by_cases hk3 : kindL x = 3
          · obtain ⟨c, d, t, rfl⟩ := kind3 hk3
            have G2 : Hid (sayG 3 r = sayG 3 (r.drop (n + 1))) := by show _ = _; rw [hG, hk3]; simp
            rw [hk3] at RK
            rw [List.tail_cons] at STEP
            have hex := tail_B c (d :: t)
            have hex2 := tail_B d t
            have z1 : (B (c :: d :: t)).size = t.length + 2 := by rw [B_size]; rfl
            have z2 : (B (d :: t)).size = t.length + 1 := by rw [B_size]; rfl
            have z3 : (B t).size = t.length := B_size t
            have htl : t.length ≤ 1000000 := by simp only [List.length_cons] at hxl; omega
            rw [z1] at hex
            rw [z2] at hex2
            have hd0 : ∀ h : 0 < (B (d :: t)).size, (B (d :: t))[0]'h = d := fun _ => rfl
            have hdp : 0 < (B (d :: t)).size := by omega
            have hcp : 0 < (B (c :: d :: t)).size := by omega
            have q2 := byte_eq (c := d) (d := 46) 46 rfl
            have y1 := B_size (accV a r n)
            have y2 : (B (accV a r n) ++ ⟨#[10]⟩).size = (accV a r n).length + 1 := by rw [show (⟨#[10]⟩ : ByteArray) = B [10] from rfl, B_append, B_size]; simp
            have hal2 : (accV a r n).length ≤ 1000000 := by omega
            clear hx hG hk3 hxz hal
            by_cases hd : d = 46
            · have SB : Hid (B (accV a r (n + 1)) = (B (accV a r n) ++ ⟨#[10]⟩) ++ B t) := by
                show _ = _
                rw [STEP, show (⟨#[10]⟩ : ByteArray) = B [10] from rfl, B_append, B_append]; simp [dropDot, hd]
              have hdb : (d == 46) = true := by simp [hd]
              rw [hdb] at q2
              clear STEP hd
              generalize B (accV a r n) = acc at *
              generalize B (c :: d :: t) = X at *
              generalize B (d :: t) = Y at *
              generalize B t = Z at *
              go_wp2_with fail
              refine (RK _).mono ?_
              rintro e w4 ⟨rfl, b4⟩
              have hcx4 := (b4.cell (p := ⟨b, off + (n + 1), none⟩) (Nat.lt_of_lt_of_le hbb hs3)).trans hcx
              have R4 := cells_kept hR b4 (by omega)
              have hb4 := hb.trans (b4.mono hs3)
              clear hR b4 hcx hb
              go_wp2_with fail
              go_roundw
              case rel => exact ⟨n + 1, hlt, by go_num, by rw [SB.out], G2.out, R4, hb4⟩
              case measure => simp [intOf]; omega
            · have SB : Hid (B (accV a r (n + 1)) = (B (accV a r n) ++ ⟨#[10]⟩) ++ B (d :: t)) := by
                show _ = _
                rw [STEP, show (⟨#[10]⟩ : ByteArray) = B [10] from rfl, B_append, B_append]; simp [dropDot, hd]
              have hdb : (d == 46) = false := by simp [hd]
              rw [hdb] at q2
              clear STEP hd
              generalize B (accV a r n) = acc at *
              generalize B (c :: d :: t) = X at *
              generalize B (d :: t) = Y at *
              generalize B t = Z at *
              go_wp2_with fail
              refine (RK _).mono ?_
              rintro e w4 ⟨rfl, b4⟩
              have hcx4 := (b4.cell (p := ⟨b, off + (n + 1), none⟩) (Nat.lt_of_lt_of_le hbb hs3)).trans hcx
              have R4 := cells_kept hR b4 (by omega)
              have hb4 := hb.trans (b4.mono hs3)
              clear hR b4 hcx hb
              go_wp2_with fail
              go_roundw
              case rel => exact ⟨n + 1, hlt, by go_num, by rw [SB.out], G2.out, R4, hb4⟩
              case measure => simp [intOf]; omega
          · have hF : sayF (a :: r) = false := by
              rw [sayF_cons hka, hG]; simp [hk3]
            obtain ⟨e1, e2, e3⟩ := unfold_no hF
            have ET : Hid (unfoldN (a :: r) = 2 ∧ unfoldK (a :: r) = [] ∧ unfoldV (a :: r) = []) := ⟨e1, e2, e3⟩
            have hki : ((kindL x : Int) != 3) = true := by simp; omega
            clear hx hG hk3 e1 e2 e3 hF STEP
            generalize kindL x = kx at *
            generalize B (accV a r n) = acc at *
            generalize B x = X at *
            go_wp2_with fail
            refine (RK _).mono ?_
            rintro e w4 ⟨rfl, b4⟩
            have R4 := cells_kept hR b4 (by omega)
            have hb4 := hb.trans (b4.mono hs3)
            have c0 := R4.cell 0
            have c1 := R4.cell 1
            have f0 := R4.frozen 0
            have f1 := R4.frozen 1
            simp only [List.getElem?_toArray, List.getElem?_cons_zero, List.getElem?_cons_succ] at c0 c1
            have RE := (R4.set 0 (.string ⟨#[]⟩)).set 1 (.string ⟨#[]⟩)
            rw [set2] at RE
            clear hR b4 hcx hb
            go_wp2_with fail
            refine bodyPost_ret (ret_f2 rfl _ _ w.heap.size _ rfl RE rfl) rfl ?_
            obtain ⟨e1, e2, e3⟩ := ET.out
            exact ⟨by rw [e1, e2, e3]; rfl, (hb4.setCell (Nat.le_refl _) _).setCell (Nat.le_refl _) _⟩
        · obtain rfl : n = r.length := by omega
          rw [accV_all] at *
          rw [List.drop_length] at hG
          have hF : sayF (a :: r) = true := by rw [sayF_cons hka, hG]; rfl
          have c0 := hR.cell 0
          have c1 := hR.cell 1
          have f0 := hR.frozen 0
          have f1 := hR.frozen 1
          simp only [List.getElem?_toArray, List.getElem?_cons_zero, List.getElem?_cons_succ] at c0 c1
          have hvz := B_size (saidV (a :: r))
          by_cases hlen : (saidV (a :: r)).length ≤ 1000
          · have ET : Hid _ := unfold_yes hF hlen
            have RE := (hR.set 0 (.string KB)).set 1 (.string (B (saidV (a :: r))))
            rw [set2] at RE
            rw [← hvz] at hlen
            clear hF hG
            generalize hV : B (saidV (a :: r)) = V at *
            have HV := Lib.hid hV
            clear hV
            go_wp2_with fail
            refine bodyPost_ret (ret_f2 rfl _ _ w.heap.size _ rfl RE rfl) rfl ?_
            obtain ⟨e1, e2, e3⟩ := ET.out
            exact ⟨by rw [e1, e2, e3, HV.out, HK.out]; rfl, (hb.setCell (Nat.le_refl _) _).setCell (Nat.le_refl _) _⟩
          · have ET : Hid _ := unfold_long hF hlen
            have RE := (hR.set 0 (.string ⟨#[]⟩)).set 1 (.string ⟨#[]⟩)
            rw [set2] at RE
            rw [← hvz] at hlen
            clear hF hG
            generalize B (saidV (a :: r)) = V at *
            go_wp2_with fail
            refine bodyPost_ret (ret_f2 rfl _ _ w.heap.size _ rfl RE rfl) rfl ?_
            obtain ⟨e1, e2, e3⟩ := ET.out
            exact ⟨by rw [e1, e2, e3]; rfl, (hb.setCell (Nat.le_refl _) _).setCell (Nat.le_refl _) _⟩
end Go.Proofs.YtkcklnnmcmjnjaaGreatDoor

namespace Go.Proofs.YtkcklnnmcmjnjaaGreatDoor
open Go.RowKit Go.Shelf

theorem refUnfold_any (ls : List (List UInt8)) (v : Value) (w : World) (hs : Strs w v (ls.map B)) (hl : ∀ l ∈ ls, l.length ≤ 100000) (hn : ls.length ≤ 100000) (hj : (saidV ls).length ≤ 1000000) :
    Calls Tryz.prog 76 #[v] w fun e w' => e = .returned (.tuple #[fieldV (unfoldK ls) (unfoldV ls), .int .i64 (unfoldN ls : Nat)]) ∧ Below w.heap.size w w' := by
  cases ls with
  | nil =>
    have hF : sayF [] = false := rfl
    obtain ⟨e1, e2, e3⟩ := unfold_no hF
    rw [e1, e2, e3]
    exact refUnfold_no [] v w hs hl hn (.inl rfl)
  | cons a r =>
    by_cases hka : kindL a = 4
    · exact refUnfold_yes a r v w hs hl hn hj hka
    · have hF : sayF (a :: r) = false := by
        rw [sayF_eq]
        show (decide (0 < (a :: r).length) && ((kindL a == 4) && sayG 3 r)) = _
        simp [hka]
      obtain ⟨e1, e2, e3⟩ := unfold_no hF
      rw [e1, e2, e3]
      exact refUnfold_no (a :: r) v w hs hl hn (.inr ⟨a, r, rfl, hka⟩)
end Go.Proofs.YtkcklnnmcmjnjaaGreatDoor

namespace Go.Proofs.YtkcklnnmcmjnjaaGreatDoor
open Go.RowKit Go.Shelf

theorem mkText (a b : List UInt8) (j : ByteArray) : (⟨a.toArray⟩ : ByteArray) ++ j ++ ⟨b.toArray⟩ = ⟨(a ++ j.data.toList ++ b).toArray⟩ := by
  rw [← mkAppend, ← mkAppend, Lib.mk_data j]
theorem go_idx (pre : List Ln) (x : Ln) : Value.int .i64 ((pre.length : Int) + 1) = Value.int .i64 ((pre ++ [x]).length : Nat) := by rw [List.length_append]; rfl
theorem bytes_le (l : List UInt8) : ∀ x ∈ linesOf l, x.bytes.length ≤ l.length := by
  intro x hx
  have e := linesOf_join l
  obtain ⟨a, b, hab⟩ := List.append_of_mem hx
  rw [hab, List.flatMap_append, List.flatMap_cons] at e
  have := congrArg List.length e
  simp only [List.length_append] at this
  omega
theorem rowCells {W : World} {base g cap : Nat} {xs pre post : List Ln} {x : Ln} (h : W.ownsRow base 137 4 (.slice (some ⟨g, 0, none⟩) xs.length cap) xs.length (cellsOf xs)) (hx : xs = pre ++ x :: post) :
    W.cell? ⟨g, pre.length * 4, none⟩ = some (.int .i64 x.no) ∧ W.cell? ⟨g, pre.length * 4 + 1, none⟩ = some (.int .i64 x.at_) ∧ W.cell? ⟨g, pre.length * 4 + 1 + 1, none⟩ = some (.string ⟨x.text.toArray⟩) ∧ W.cell? ⟨g, pre.length * 4 + 1 + 1 + 1, none⟩ = some (.bool x.ended) := by
  have hrow : ∀ j u, j < 4 → (lineV x).toList[j]? = some u → W.cell? ⟨g, pre.length * 4 + j, none⟩ = some u := fun j u hj hu => by
    have := h.cells (g := g) rfl (pre.length * 4 + j) u (by rw [hx, cellsOf_at _ _ _ _ hj]; exact hu)
    have hadd : (⟨g, 0, none⟩ : Addr).add (pre.length * 4 + j) = ⟨g, pre.length * 4 + j, none⟩ := by unfold Addr.add; split <;> simp_all
    rwa [hadd] at this
  exact ⟨hrow 0 _ (by omega) rfl, hrow 1 _ (by omega) rfl, hrow 2 _ (by omega) rfl, hrow 3 _ (by omega) rfl⟩

set_option maxRecDepth 100000 in
set_option maxHeartbeats 4000000 in
theorem refIndent_any (s j : ByteArray) (hs : s.size ≤ 1000000) (hj : j.size ≤ 1000000) (w : World) :
    Calls Tryz.prog 72 #[.string s, .string j] w fun e w' => e = .returned (.string ⟨(indL j.data.toList (linesOf s.data.toList)).toArray⟩) ∧ Below w.heap.size w w' := by
  obtain ⟨xs, hxs⟩ : ∃ xs, linesOf s.data.toList = xs := ⟨_, rfl⟩
  have hll := linesOf_length s.data.toList
  rw [← Lib.size_eq] at hll
  have hpos := bytes_le s.data.toList
  rw [← Lib.size_eq] at hpos
  rw [hxs] at hll hpos ⊢
  have HPOS := Lib.hid hpos
  have HXS := Lib.hid hxs
  clear hxs hpos
  go_enter Tryz.func72, Tryz.ntmps72
  go_wp2_with fail
  refine (refSplit_any s hs w).mono ?_
  rintro e w2 ⟨v, rfl, hown, a2⟩
  rw [HXS.out] at hown
  obtain ⟨ao, cap, rfl⟩ := rowForm hown
  go_wp2_with fail
  go_loopw [5, 11] (fun o i wr => ∃ (pre post : List Ln), xs = pre ++ post ∧ o = .string ⟨(indL j.data.toList pre).toArray⟩ ∧ i = .int .i64 (pre.length : Nat) ∧ wr.ownsRow w.heap.size 137 4 (.slice ao xs.length cap) xs.length (cellsOf xs) ∧ Below w.heap.size w wr)
    (fun _ i _ => xs.length - (intOf i).toNat)
  case atStart => exact ⟨[], xs, rfl, rfl, rfl, hown, a2⟩
  case round =>
    obtain ⟨pre, post, hx, rfl, rfl, hw, hb⟩ := hrel
    cases post with
    | nil =>
      have e : pre.length = xs.length := by rw [hx]; simp
      have HX := Lib.hid hx
      clear hx
      go_wp2
      go_ret
      refine ⟨?_, hb⟩
      rw [HX.out, List.append_nil]
      rfl
    | cons x post =>
      have hlt : pre.length < xs.length := by rw [hx]; simp
      obtain ⟨g, rfl⟩ : ∃ g, ao = some ⟨g, 0, none⟩ := by
        rcases hw.2 with ⟨_, h0⟩ | ⟨g, cap, cur, hv, _⟩
        · omega
        · exact ⟨g, by cases hv; rfl⟩
      obtain ⟨r0, r1, r2, r3⟩ := rowCells hw hx
      have hlen : (indL j.data.toList (pre ++ [x])).length ≤ 1000000 * (2 * 1000000) := by
        refine indL_len _ 1000000 1000000 _ (fun y hy => Nat.le_trans (HPOS.out y ?_) hs) ?_ (by rw [← Lib.size_eq]; exact hj)
        · rw [hx]
          rcases List.mem_append.1 hy with h | h
          · exact List.mem_append_left _ h
          · rw [List.mem_singleton.1 h]; simp
        · simp; omega
      rw [indL_snoc] at hlen
      simp only [List.length_append, ← Lib.size_eq] at hlen
      have hen : (endS x.ended).size ≤ 1 := by unfold endS; cases x.ended <;> decide
      have hjn : (indL j.data.toList pre).length + j.size + x.text.length + 1 ≤ 2000000000001 := by omega
      clear hlen hen
      have HX := Lib.hid hx
      clear hx
      have HS := Lib.hid (indL_snoc j.data.toList pre x)
      have hmt := mkText (indL j.data.toList pre) x.text j
      have HMT := Lib.hid hmt
      clear hmt
      cases he : x.ended
      · rw [he] at r3
        have hn : indL j.data.toList (pre ++ [x]) = indL j.data.toList pre ++ j.data.toList ++ x.text := by rw [HS.out, he]; simp [endS]
        have HN := Lib.hid hn
        clear hn
        go_wp2
        go_roundw
        case rel =>
          refine ⟨pre ++ [x], post, HX.out.trans (by simp), ?_, go_idx pre x, hw.alloc _, hb.alloc hb.size _⟩
          rw [HMT.out, HN.out]
        case measure => simp [intOf] <;> omega
      · rw [he] at r3
        have hn : indL j.data.toList (pre ++ [x]) = (indL j.data.toList pre ++ j.data.toList ++ x.text) ++ [10] := by rw [HS.out, he]; simp [endS]
        have HN := Lib.hid hn
        clear hn
        go_wp2
        go_roundw
        case rel =>
          refine ⟨pre ++ [x], post, HX.out.trans (by simp), ?_, go_idx pre x, hw.alloc _, hb.alloc hb.size _⟩
          rw [HMT.out, HN.out]
          exact congrArg Value.string (mkAppend _ [10])
        case measure => simp [intOf] <;> omega
end Go.Proofs.YtkcklnnmcmjnjaaGreatDoor

