/- Texts put together: EL, EZ, AS, AT, AU, FT. -/
import Derived.WideShapes
import Derived.Test.YtkcklnnmcmjnjaaGreatDoorBam11
import Derived.Test.YtkcklnnmcmjnjaaGreatDoorBam12
import Derived.Test.YtkcklnnmcmjnjaaGreatDoorBam17
import Derived.Test.YtkcklnnmcmjnjaaGreatDoorBam23
import Derived.Test.YtkcklnnmcmjnjaaGreatDoorBam24
import Derived.Test.YtkcklnnmcmjnjaaGreatDoorBam25
import Derived.Test.YtkcklnnmcmjnjaaGreatDoorBam26
import Derived.Test.YtkcklnnmcmjnjaaGreatDoorBam27
import Derived.Test.YtkcklnnmcmjnjaaGreatDoorBam28
set_option linter.unusedVariables false
namespace Go.Proofs.YtkcklnnmcmjnjaaGreatDoor
open Go.RowKit Go.Shelf
attribute [local go_sem] Oper.semAt_some

def edsA9 : List Ed := [⟨2, 1, []⟩, ⟨1, 1, [([65], [])]⟩]
theorem doA9 : doB ⟨[(⟨3, [65, 58, 32, 49, 10], [([65], [49])]⟩, 1)], 2⟩ edsA9 = (1, 7) := by decide +kernel
theorem okA9 : OkL ⟨[(⟨3, [65, 58, 32, 49, 10], [([65], [49])]⟩, 1)], 2⟩ := ⟨wfA7, by decide, by decide, by decide, by decide⟩
set_option maxRecDepth 100000 in
set_option maxHeartbeats 4000000 in
theorem alive9_any (w : World) (hg : ErrT w) : Calls Tryz.prog 9 #[] w fun e w' => e = .returned (.bool true) ∧ Below w.heap.size w w' := by
  have OF := Lib.hid (of_any ⟨#[65, 58, 32, 49, 10]⟩ (by decide) w)
  have HG := Lib.hid hg
  clear hg
  go_enter Tryz.func9, Tryz.ntmps9
  go_wp2_with fail
  refine OF.out.mono ?_
  rintro e w1 hof
  obtain ⟨b1, lb, ev, ps, rfl, hlb, hev, hla, hps⟩ := hof.yes parseA7
  rw [fromA7] at hla hps
  dsimp only at hla hps
  obtain ⟨wa, hwa⟩ : ∃ wa, wa = (w1.alloc (.cells #[.string ⟨#[65]⟩, .string ⟨#[]⟩] 35)).alloc (.cells #[.int .i64 2, .int .i64 1, .slice none 0 0, .int .i64 1, .int .i64 1, .slice (some ⟨w1.heap.size, 0, none⟩) 1 1] 33) := ⟨_, rfl⟩
  have hba : Below w1.heap.size w1 wa := by rw [hwa]; exact ((Below.refl _ w1).alloc (Nat.le_refl _) _).alloc (by simp) _
  have hB : Below w.heap.size w wa := b1.trans (hba.mono b1.size)
  have cE : Cells wa (w1.heap.size + 1) 33 #[.int .i64 2, .int .i64 1, .slice none 0 0, .int .i64 1, .int .i64 1, .slice (some ⟨w1.heap.size, 0, none⟩) 1 1] := by
    rw [hwa]
    have := Cells.new (w1.alloc (.cells #[.string ⟨#[65]⟩, .string ⟨#[]⟩] 35)) 33 #[.int .i64 2, .int .i64 1, .slice none 0 0, .int .i64 1, .int .i64 1, .slice (some ⟨w1.heap.size, 0, none⟩) 1 1]
    simpa using this
  have hfs : wa.ownsRow w1.heap.size 35 2 (sl w1.heap.size 1 1) 1 (cellsF [([65], [])]) := by
    refine ⟨rfl, .inr ⟨w1.heap.size, 1, _, rfl, Nat.le_refl _, by rw [hwa]; exact (Cells.new w1 _ _).alloc _, Nat.le_refl _, by decide, rfl, rfl⟩⟩
  have hV : EdV wa (.slice (some ⟨w1.heap.size + 1, 0, none⟩) 2 2) edsA9 := by
    refine ⟨_, 2, rfl, Nat.le_refl _, fun i ed hi => ?_⟩
    have hlt : w1.heap.size + 1 < wa.heap.size := cE.lt
    match i, hi with
    | 0, hi =>
      simp [edsA9] at hi; subst hi
      exact ⟨_, 0, .slice none 0 0, rfl, hlt, by rw [cE.cell]; rfl, by rw [cE.cell]; rfl, by rw [cE.cell]; rfl, ⟨none, 0, rfl, Nat.le_refl _, fun i f h => by simp at h⟩, fun n c h => by cases h; rfl⟩
    | 1, hi =>
      simp [edsA9] at hi; subst hi
      exact ⟨_, 0, sl w1.heap.size 1 1, rfl, hlt, by rw [cE.cell]; rfl, by rw [cE.cell]; rfl, by rw [cE.cell]; rfl, FldR.own hfs⟩
    | i + 2, hi => simp [edsA9] at hi
  have C : Carry w.heap.size wa lb ev ps ⟨[(⟨3, [65, 58, 32, 49, 10], [([65], [49])]⟩, 1)], 2⟩ 10 := by
    refine ⟨hla.below hba (Nat.le_refl _), hps, okA9, fun e he => ?_, hlb, hev, by decide, by decide⟩
    rw [List.mem_singleton.1 he]; decide
  have DO := Do_any edsA9 _ hV (by decide) (fun ed he => by
      rcases List.mem_cons.1 he with rfl | he
      · exact ⟨by decide, fun f hf => by cases hf⟩
      · rw [List.mem_singleton.1 he]; exact ⟨by decide, fun f hf => by rw [List.mem_singleton.1 hf]; decide⟩) (fun ed he => by
      rcases List.mem_cons.1 he with rfl | he
      · decide
      · rw [List.mem_singleton.1 he]; decide) (HG.out.below hB (Nat.le_refl _)) C (by decide)
  have LN : Hid (∀ W, Below wa.heap.size wa W → Calls Tryz.prog 41 #[ptr lb] W fun e w' => e = .returned (.int .i64 1) ∧ Below W.heap.size W w') := by
    intro W hW
    have := len_R lb ev ps 2 W ((hla.below hba (Nat.le_refl _)).lr.below hW (Nat.le_refl _)) (by rw [hps]; exact wfA7) (by have := congrArg List.length hps; simp at this; omega)
    rw [hps] at this
    exact this
  have HDO := Lib.hid DO
  have HB := Lib.hid hB
  clear DO hB hV C hfs cE hba hps hla hof b1 OF
  unfold ptr at HDO LN
  unfold ptr
  subst hwa
  go_wp2_with fail
  refine HDO.out.mono ?_
  rintro e w2 ⟨b2, ⟨h0, u, rfl, hz⟩ | ⟨h1, _⟩⟩
  rotate_left
  · rw [doA9] at h1; cases h1
  rw [doA9] at hz
  have LN2 := Lib.hid (LN.out w2 b2)
  have B2 := Lib.hid (HB.out.trans (b2.mono HB.out.size))
  have NU := Lib.hid (num_z hz)
  have AT := Lib.hid (at_z hz)
  have IS : Hid (Calls Tryz.prog 34 #[u, .int .i64 7] w2 fun e w' => e = .returned (.bool true) ∧ w2 = w') := by
    show Calls _ _ _ _ _
    go_enter Tryz.func34, Tryz.ntmps34
    go_wp2_with fail
    refine NU.out.mono ?_
    rintro e w' ⟨rfl, rfl⟩
    go_wp2_with fail
    go_ret
    exact ⟨rfl, rfl⟩
  clear hz b2 HDO LN NU h0
  go_wp2_with fail
  refine IS.out.mono ?_
  rintro e w' ⟨rfl, rfl⟩
  go_wp2_with fail
  refine AT.out.mono ?_
  rintro e w' ⟨rfl, rfl⟩
  go_wp2_with fail
  refine LN2.out.mono ?_
  rintro e w4 ⟨rfl, b4⟩
  have B4 := Lib.hid (B2.out.trans (b4.mono B2.out.size))
  clear LN2 b4
  go_wp2_with fail
  go_ret
  exact ⟨rfl, B4.out⟩
end Go.Proofs.YtkcklnnmcmjnjaaGreatDoor

namespace Go.Proofs.YtkcklnnmcmjnjaaGreatDoor
open Go.RowKit Go.Shelf
attribute [local go_sem] Oper.semAt_some

theorem Tells.yes {p : Prop} {e : Ending} (h : Tells p e) (hp : p) : e = .returned (.bool true) := by
  obtain ⟨b, rfl, hb⟩ := h
  rw [hb.2 hp]
theorem Tells.no {p : Prop} {e : Ending} (h : Tells p e) (hp : ¬ p) : e = .returned (.bool false) := by
  obtain ⟨b, rfl, hb⟩ := h
  cases b with
  | true => exact absurd (hb.1 rfl) hp
  | false => rfl
theorem ed_ext {a b : Ed} (h1 : a.kind = b.kind) (h2 : a.id = b.id) (h3 : a.fields = b.fields) : a = b := by
  cases a; cases b; simp only at h1 h2 h3; subst h1 h2 h3; rfl
set_option maxRecDepth 100000 in
set_option maxHeartbeats 8000000 in
theorem editsG_quiet (es gs : List Ed) (v v' : Value) (w : World) (h : EdV w v es) (h' : EdV w v' gs) (hn : es.length ≤ 1000000) (hn' : gs.length ≤ 1000000) (hf : Fines es) (hf' : Fines gs) :
    Calls Tryz.prog 19 #[v, v'] w fun e w' => Tells (es = gs) e ∧ Below w.heap.size w w' := by
  obtain ⟨A, cap, rfl, hle, hc⟩ := h
  obtain ⟨A', cap', rfl, hle', hc'⟩ := h'
  have PC := Lib.hid hc
  have PC' := Lib.hid hc'
  have HF := Lib.hid hf
  have HF' := Lib.hid hf'
  clear hc hc' hf hf'
  by_cases hl : ¬ es.length = gs.length
  · have q : ¬ ((es.length : Int) = (gs.length : Int)) := by omega
    go_enter Tryz.func19, Tryz.ntmps19
    go_wp2_with fail
    go_ret
    exact ⟨⟨false, rfl, by simp; rintro rfl; exact hl rfl⟩, Below.refl _ _⟩
  replace hl := Classical.not_not.1 hl
  rw [← hl]
  have HL := Lib.hid hl
  clear hl hn'
  go_enter Tryz.func19, Tryz.ntmps19
  go_wp2_with fail
  go_loopw [13] (fun i wr => ∃ k : Nat, k ≤ es.length ∧ i = .int .i64 k ∧ es.take k = gs.take k ∧ ∃ m, wr = w.drewN m) (fun i _ => es.length - (intOf i).toNat)
  case atStart => exact ⟨0, Nat.zero_le _, rfl, rfl, 0, rfl⟩
  case round =>
    obtain ⟨k, hk, rfl, hsm, nd, hwr⟩ := hrel
    by_cases hlt : k < es.length
    · obtain ⟨f, hf⟩ : ∃ f, es[k]? = some f := ⟨_, List.getElem?_eq_getElem hlt⟩
      obtain ⟨g, hg⟩ : ∃ g, gs[k]? = some g := ⟨_, List.getElem?_eq_getElem (by rw [← HL.out]; exact hlt)⟩
      obtain ⟨b, off, fv, rfl, hbb, c0, c1, c2, hfl⟩ := PC.out k f hf
      obtain ⟨b', off', fv', rfl, hbb', c0', c1', c2', hfl'⟩ := PC'.out k g hg
      have hm := (HF.out f (List.mem_of_getElem? hf)).len
      have hm' := (HF'.out g (List.mem_of_getElem? hg)).len
      have FQ0 : ∀ n, Calls Tryz.prog 27 #[fv, fv'] (wr.drewN n) fun e w' => Tells (f.fields = g.fields) e ∧ ∃ m, w' = (wr.drewN n).drewN m := by
        intro n
        rw [hwr]
        exact fieldsG_quiet f.fields g.fields fv fv' ((w.drewN nd).drewN n) hfl.1 hfl'.1 (by omega) (by omega)
      replace c0 : wr.cell? ⟨b, off + k * 3, none⟩ = some (.int .i64 f.kind) := by rw [hwr]; exact c0
      replace c1 : wr.cell? ⟨b, off + k * 3 + 1, none⟩ = some (.int .i64 f.id) := by rw [hwr]; exact c1
      replace c2 : wr.cell? ⟨b, off + k * 3 + 1 + 1, none⟩ = some fv := by rw [hwr]; exact c2
      replace c0' : wr.cell? ⟨b', off' + k * 3, none⟩ = some (.int .i64 g.kind) := by rw [hwr]; exact c0'
      replace c1' : wr.cell? ⟨b', off' + k * 3 + 1, none⟩ = some (.int .i64 g.id) := by rw [hwr]; exact c1'
      replace c2' : wr.cell? ⟨b', off' + k * 3 + 1 + 1, none⟩ = some fv' := by rw [hwr]; exact c2'
      have HW := Lib.hid hwr
      have NE : Hid (f ≠ g → es ≠ gs) := fun hne => ne_at hf hg hne
      have EQ : Hid (f = g → es.take (k + 1) = gs.take (k + 1)) := fun e => take_same hsm hf (e ▸ hg)
      have hEH : ∀ (b off b' off' : Nat) (K K' X X' : Int), b < w.heap.size → b' < w.heap.size → wr.cell? ⟨b, off + k * 3, none⟩ = some (.int .i64 K) → wr.cell? ⟨b', off' + k * 3, none⟩ = some (.int .i64 K') → wr.cell? ⟨b, off + k * 3 + 1, none⟩ = some (.int .i64 X) → wr.cell? ⟨b', off' + k * 3 + 1, none⟩ = some (.int .i64 X') →
          ∀ W, Below wr.drew.heap.size wr.drew W → W.cell? ⟨b, off + k * 3, none⟩ = some (.int .i64 K) ∧ W.cell? ⟨b', off' + k * 3, none⟩ = some (.int .i64 K') ∧ W.cell? ⟨b, off + k * 3 + 1, none⟩ = some (.int .i64 X) ∧ W.cell? ⟨b', off' + k * 3 + 1, none⟩ = some (.int .i64 X') := fun b off b' off' K K' X X' h1 h2 d0 d0' d1 d1' W hW => by
        have hW' : Below wr.heap.size wr W := (Below.refl wr.heap.size wr).drew.trans hW
        have hsz : wr.heap.size = w.heap.size := by rw [hwr]; rfl
        exact ⟨(hW'.cell (p := ⟨b, off + k * 3, none⟩) (by rw [hsz]; exact h1)).trans d0, (hW'.cell (p := ⟨b', off' + k * 3, none⟩) (by rw [hsz]; exact h2)).trans d0', (hW'.cell (p := ⟨b, off + k * 3 + 1, none⟩) (by rw [hsz]; exact h1)).trans d1, (hW'.cell (p := ⟨b', off' + k * 3 + 1, none⟩) (by rw [hsz]; exact h2)).trans d1'⟩
      clear hf hg PC PC' hwr hsm HL HF HF' hfl hfl'
      by_cases hX : f.kind = g.kind
      · by_cases hY : f.id = g.id
        · by_cases hZ : f.fields = g.fields
          · have E1 := Lib.hid (EQ.out (ed_ext hX hY hZ))
            have FQ : Hid (∀ n, Calls Tryz.prog 27 #[fv, fv'] (wr.drewN n) fun e w' => e = .returned (.bool true) ∧ ∃ m, w' = (wr.drewN n).drewN m) := fun n => (FQ0 n).mono fun e w' ⟨a, b⟩ => ⟨a.yes hZ, b⟩
            rw [← hX] at c0'
            rw [← hY] at c1'
            clear EQ NE FQ0 hX hY hZ
            clear hEH
            generalize f.id = X at *
            generalize f.kind = K at *
            go_wp2_with (go_quiet ((go_at_call 27; exact Calls.quiet_of (FQ.out _))))
            go_roundw
            case rel => exact ⟨k + 1, hlt, by go_num, E1.out, _, by rw [HW.out]; exact World.drewN_drewN _ _ _⟩
            case measure => simp [intOf]; omega
          · have E1 := Lib.hid (NE.out (fun e => hZ (by rw [e])))
            have FQ : Hid (∀ n, Calls Tryz.prog 27 #[fv, fv'] (wr.drewN n) fun e w' => e = .returned (.bool false) ∧ ∃ m, w' = (wr.drewN n).drewN m) := fun n => (FQ0 n).mono fun e w' ⟨a, b⟩ => ⟨a.no hZ, b⟩
            rw [← hX] at c0'
            rw [← hY] at c1'
            clear EQ NE FQ0 hX hY hZ
            clear hEH
            generalize f.id = X at *
            generalize f.kind = K at *
            go_wp2_with (go_quiet ((go_at_call 27; exact Calls.quiet_of (FQ.out _))))
            go_ret
            exact ⟨⟨false, rfl, by simp; exact E1.out⟩, by rw [HW.out, World.drewN_drewN]; exact drewN_below (Below.refl _ _) _⟩
        · have E1 := Lib.hid (NE.out (fun e => hY (by rw [e])))
          rw [← hX] at c0'
          clear EQ NE FQ0 hX
          generalize f.id = X at *
          generalize g.id = X' at *
          generalize f.kind = K at *
          obtain ⟨K', hKK⟩ : ∃ K', K' = K := ⟨_, rfl⟩
          rw [← hKK] at c0'
          have hltk := hlt
          have HE := hEH b off b' off' K K' X X' hbb hbb' c0 c0' c1 c1'
          have q1 : (K != K') = false := by rw [hKK]; simp
          have q2 : (X != X') = true := by simpa using hY
          clear c0 c0' c1 c1' c2 c2' hKK hEH
          go_upto_region 6 with fail
          refine wp_region_any (by kernel_rfl) ?_
          refine region_edi _ wr.drew b off es.length cap b' off' es.length cap' k K K' X X' _ rfl rfl rfl rfl hltk hltk HE q1 q2 ?hQ
          case hQ =>
            intro y0 y1 y2 y3 y4 y5 y6 y7 y8 y9 y10 y11 y12 y13 y14 y15 y16 y17 y18 y19 y20 y21 y22 y23 y24 y25 y26 y27 y28 y29 y30 y31 y32 y33 y34 y35 y36 y37 w2 hb2 hy37
            have hy : y37 = .bool true := hy37
            subst hy
            have HB2 := Lib.hid (show Below w.heap.size w w2 by
              have h1 : Below w.heap.size w wr := by rw [HW.out]; exact drewN_below (Below.refl _ _) nd
              exact h1.drew.trans (hb2.mono h1.size))
            clear hb2 hy37 HE
            simp only [List.foldl, List.setIfInBounds_toArray, List.set_cons_zero, List.set_cons_succ]
            go_wp2_with fail
            go_ret
            exact ⟨⟨false, rfl, by simp; exact E1.out⟩, HB2.out⟩
      · have E1 := Lib.hid (NE.out (fun e => hX (by rw [e])))
        clear EQ NE FQ0
        generalize f.id = X at *
        generalize g.id = X' at *
        generalize f.kind = K at *
        generalize g.kind = K' at *
        have hltk := hlt
        have HE := hEH b off b' off' K K' X X' hbb hbb' c0 c0' c1 c1'
        have q1 : (K != K') = true := by simpa using hX
        clear c0 c0' c1 c1' c2 c2' hEH
        go_upto_region 6 with fail
        refine wp_region_any (by kernel_rfl) ?_
        refine region_edk _ wr.drew b off es.length cap b' off' es.length cap' k K K' X X' _ rfl rfl rfl rfl hltk hltk HE q1 ?hQ
        case hQ =>
          intro y0 y1 y2 y3 y4 y5 y6 y7 y8 y9 y10 y11 y12 y13 y14 y15 y16 y17 y18 y19 y20 y21 y22 y23 y24 y25 y26 y27 y28 y29 y30 y31 y32 y33 y34 y35 y36 y37 w2 hb2 hy37
          have hy : y37 = .bool true := hy37
          subst hy
          have HB2 := Lib.hid (show Below w.heap.size w w2 by
            have h1 : Below w.heap.size w wr := by rw [HW.out]; exact drewN_below (Below.refl _ _) nd
            exact h1.drew.trans (hb2.mono h1.size))
          clear hb2 hy37 HE
          simp only [List.foldl, List.setIfInBounds_toArray, List.set_cons_zero, List.set_cons_succ]
          go_wp2_with fail
          go_ret
          exact ⟨⟨false, rfl, by simp; exact E1.out⟩, HB2.out⟩
    · obtain rfl : k = es.length := by omega
      have E1 := Lib.hid (same_all HL.out hsm)
      clear PC PC' hsm
      go_wp2_with fail
      go_ret
      exact ⟨⟨true, rfl, by simpa using E1.out⟩, by first | exact drewN_below (Below.refl _ _) nd | (rw [hwr]; exact drewN_below (Below.refl _ _) nd)⟩
end Go.Proofs.YtkcklnnmcmjnjaaGreatDoor

namespace Go.Proofs.YtkcklnnmcmjnjaaGreatDoor
open Go.RowKit Go.Shelf
attribute [local go_sem] Oper.semAt_some

set_option maxRecDepth 100000 in
set_option maxHeartbeats 4000000 in
theorem sameE_any (a b : Ed) (fv gv : Value) (w : World) (h : Flds w fv a.fields) (h' : Flds w gv b.fields) (hn : a.fields.length ≤ 1000000) (hn' : b.fields.length ≤ 1000000) :
    Calls Tryz.prog 50 #[.agg #[.int .i64 a.kind, .int .i64 a.id, fv], .agg #[.int .i64 b.kind, .int .i64 b.id, gv]] w fun e w' => Tells (a = b) e ∧ Below w.heap.size w w' := by
  obtain ⟨ak, ai, af⟩ := a
  obtain ⟨bk, bi, bf⟩ := b
  dsimp only at h h' hn hn' ⊢
  obtain ⟨w1, hw1⟩ : ∃ w1, w1 = w.alloc (.cells #[.int .i64 ak, .int .i64 ai, fv] 33) := ⟨_, rfl⟩
  have B1 : Below w.heap.size w w1 := by rw [hw1]; exact (Below.refl _ w).alloc (Nat.le_refl _) _
  have z1 : w1.heap.size = w.heap.size + 1 := by rw [hw1]; simp
  obtain ⟨w2, hw2⟩ : ∃ w2, w2 = w1.alloc (.cells #[.int .i64 bk, .int .i64 bi, gv] 33) := ⟨_, rfl⟩
  have b2 : Below w1.heap.size w1 w2 := by rw [hw2]; exact (Below.refl _ w1).alloc (Nat.le_refl _) _
  have cA : Cells w2 w.heap.size 33 #[.int .i64 ak, .int .i64 ai, fv] := (hw1 ▸ Cells.new w 33 _ : Cells w1 w.heap.size 33 _).below b2 (by omega)
  have cB : Cells w2 w1.heap.size 33 #[.int .i64 bk, .int .i64 bi, gv] := by rw [hw2]; exact Cells.new _ _ _
  have B2 : Below w.heap.size w w2 := B1.trans (b2.mono B1.size)
  have HB := Lib.hid B2
  have a0 : w2.cell? ⟨w.heap.size, 0, none⟩ = some (.int .i64 ak) := by rw [cA.cell]; rfl
  have a1 : w2.cell? ⟨w.heap.size, 1, none⟩ = some (.int .i64 ai) := by rw [cA.cell]; rfl
  have a2 : w2.cell? ⟨w.heap.size, 2, none⟩ = some fv := by rw [cA.cell]; rfl
  have c0 : w2.cell? ⟨w.heap.size + 1, 0, none⟩ = some (.int .i64 bk) := by rw [← z1, cB.cell]; rfl
  have c1 : w2.cell? ⟨w.heap.size + 1, 1, none⟩ = some (.int .i64 bi) := by rw [← z1, cB.cell]; rfl
  have c2 : w2.cell? ⟨w.heap.size + 1, 2, none⟩ = some gv := by rw [← z1, cB.cell]; rfl
  have EQ : Hid (∀ n, Calls Tryz.prog 51 #[fv, gv] (w2.drewN n) fun e w' => Tells (af = bf) e ∧ ∃ m, w' = (w2.drewN n).drewN m) := fun n =>
    equalF_quiet af bf fv gv _ (h.below (drewN_below B2 n) (Nat.le_refl _)) (h'.below (drewN_below B2 n) (Nat.le_refl _)) hn hn'
  have HW1 := Lib.hid hw1
  have HW2 := Lib.hid hw2
  clear h h' hn hn' B1 b2 B2 cA cB
  by_cases hX : ak = bk
  · by_cases hY : ai = bi
    · have FQ : Hid (∀ n, Calls Tryz.prog 51 #[fv, gv] (w2.drewN n) fun e w' => Tells ((⟨ak, ai, af⟩ : Ed) = ⟨bk, bi, bf⟩) e ∧ ∃ m, w' = (w2.drewN n).drewN m) := fun n => (EQ.out n).mono fun e w' ⟨⟨t, ht, hq⟩, q⟩ => ⟨⟨t, ht, hq.trans ⟨fun e => ed_ext hX hY e, fun e => by injection e⟩⟩, q⟩
      clear EQ
      subst hX hY
      generalize ((⟨ak, ai, af⟩ : Ed) = ⟨ak, ai, bf⟩) = p at *
      rw [hw1] at hw2 z1
      clear hw1
      subst hw2
      have F0 := Lib.hid (FQ.out 0)
      clear FQ HW1
      go_enter Tryz.func50, Tryz.ntmps50
      go_wp2_with fail
      refine F0.out.mono ?_
      rintro e w' ⟨⟨t, rfl, ht⟩, m, rfl⟩
      have HT := Lib.hid ht
      clear ht F0
      go_wp2_with fail
      go_ret
      exact ⟨⟨t, rfl, HT.out⟩, by exact drewN_below HB.out _⟩
    · have E1 := Lib.hid (show ¬ (⟨ak, ai, af⟩ : Ed) = ⟨bk, bi, bf⟩ from fun e => hY (by injection e))
      subst hX
      clear EQ
      rw [hw1] at hw2 z1
      clear hw1 HW1
      subst hw2
      go_enter Tryz.func50, Tryz.ntmps50
      go_wp2_with fail
      go_ret
      exact ⟨⟨false, rfl, ⟨(fun q => by cases q), fun q => absurd q E1.out⟩⟩, HB.out⟩
  · have E1 := Lib.hid (show ¬ (⟨ak, ai, af⟩ : Ed) = ⟨bk, bi, bf⟩ from fun e => hX (by injection e))
    clear EQ
    rw [hw1] at hw2 z1
    clear hw1 HW1
    subst hw2
    go_enter Tryz.func50, Tryz.ntmps50
    go_wp2_with fail
    go_ret
    exact ⟨⟨false, rfl, ⟨(fun q => by cases q), fun q => absurd q E1.out⟩⟩, HB.out⟩
end Go.Proofs.YtkcklnnmcmjnjaaGreatDoor

namespace Go.Proofs.YtkcklnnmcmjnjaaGreatDoor
open Go.RowKit Go.Shelf
attribute [local go_sem] Oper.semAt_some

theorem mem_fine {es : List Ed} (hf : Fines es) {k : Nat} {f : Ed} (h : es[k]? = some f) : f.fields.length ≤ 1000000 := by
  have := (hf f (List.mem_of_getElem? h)).len; omega
set_option maxRecDepth 100000 in
set_option maxHeartbeats 8000000 in
theorem eqFunc_any (es gs : List Ed) (v v' : Value) (w : World) (h : EdV w v es) (h' : EdV w v' gs) (hn : es.length ≤ 1000000) (hn' : gs.length ≤ 1000000) (hf : Fines es) (hf' : Fines gs) :
    Calls Tryz.prog 49 #[v, v', .func (.func 50) #[] #[]] w fun e w' => Tells (es = gs) e ∧ Below w.heap.size w w' := by
  obtain ⟨A, cap, rfl, hle, hc⟩ := h
  obtain ⟨A', cap', rfl, hle', hc'⟩ := h'
  have PC := Lib.hid hc
  have PC' := Lib.hid hc'
  have HF := Lib.hid hf
  have HF' := Lib.hid hf'
  clear hc hc' hf hf'
  by_cases hl : ¬ es.length = gs.length
  · have q : ¬ ((es.length : Int) = (gs.length : Int)) := by omega
    go_enter Tryz.func49, Tryz.ntmps49
    go_wp2_with fail
    go_ret
    exact ⟨⟨false, rfl, by simp; rintro rfl; exact hl rfl⟩, Below.refl _ _⟩
  replace hl := Classical.not_not.1 hl
  rw [← hl]
  have HL := Lib.hid hl
  clear hl hn'
  go_enter Tryz.func49, Tryz.ntmps49
  go_wp2_with fail
  go_loopw [17] (fun i wr => ∃ k : Nat, k ≤ es.length ∧ i = .int .i64 k ∧ es.take k = gs.take k ∧ Below w.heap.size w wr) (fun i _ => es.length - (intOf i).toNat)
  case atStart => exact ⟨0, Nat.zero_le _, rfl, rfl, Below.refl _ _⟩
  case round =>
    obtain ⟨k, hk, rfl, hsm, hb⟩ := hrel
    by_cases hlt : k < es.length
    · obtain ⟨f, hf⟩ : ∃ f, es[k]? = some f := ⟨_, List.getElem?_eq_getElem hlt⟩
      obtain ⟨g, hg⟩ : ∃ g, gs[k]? = some g := ⟨_, List.getElem?_eq_getElem (by rw [← HL.out]; exact hlt)⟩
      obtain ⟨b, off, fv, rfl, hbb, c0, c1, c2, hfl⟩ := PC.out k f hf
      obtain ⟨b', off', fv', rfl, hbb', c0', c1', c2', hfl'⟩ := PC'.out k g hg
      obtain ⟨fa, fc, rfl⟩ := hfl.form
      obtain ⟨fa', fc', rfl⟩ := hfl'.form
      have hm := mem_fine HF.out hf
      have hm' := mem_fine HF'.out hg
      obtain ⟨X, hX⟩ : ∃ X, X = wr.alloc (.cells #[.int .i64 f.kind, .int .i64 f.id, (.slice fa f.fields.length fc)] 33) := ⟨_, rfl⟩
      obtain ⟨Y, hY⟩ : ∃ Y, Y = X.alloc (.cells #[.int .i64 g.kind, .int .i64 g.id, (.slice fa' g.fields.length fc')] 33) := ⟨_, rfl⟩
      have bX : Below wr.heap.size wr X := by rw [hX]; exact (Below.refl _ wr).alloc (Nat.le_refl _) _
      have bY : Below X.heap.size X Y := by rw [hY]; exact (Below.refl _ X).alloc (Nat.le_refl _) _
      have zX : X.heap.size = wr.heap.size + 1 := by rw [hX]; simp
      have BX := hb.trans (bX.mono hb.size)
      have BY := BX.trans (bY.mono BX.size)
      replace c0 := (hb.cell (p := ⟨b, off + k * 3, none⟩) hbb).trans c0
      replace c1 := (hb.cell (p := ⟨b, off + k * 3 + 1, none⟩) hbb).trans c1
      replace c2 := (hb.cell (p := ⟨b, off + k * 3 + 1 + 1, none⟩) hbb).trans c2
      replace c0' := (BX.cell (p := ⟨b', off' + k * 3, none⟩) hbb').trans c0'
      replace c1' := (BX.cell (p := ⟨b', off' + k * 3 + 1, none⟩) hbb').trans c1'
      replace c2' := (BX.cell (p := ⟨b', off' + k * 3 + 1 + 1, none⟩) hbb').trans c2'
      have cA : Cells Y wr.heap.size 33 #[.int .i64 f.kind, .int .i64 f.id, (.slice fa f.fields.length fc)] := (hX ▸ Cells.new wr 33 _ : Cells X wr.heap.size 33 _).below bY (by omega)
      have cB : Cells Y (wr.heap.size + 1) 33 #[.int .i64 g.kind, .int .i64 g.id, (.slice fa' g.fields.length fc')] := by rw [← zX, hY]; exact Cells.new _ _ _
      have a0 : Y.cell? ⟨wr.heap.size, 0, none⟩ = some (.int .i64 f.kind) := by rw [cA.cell]; rfl
      have a1 : Y.cell? ⟨wr.heap.size, 1, none⟩ = some (.int .i64 f.id) := by rw [cA.cell]; rfl
      have a2 : Y.cell? ⟨wr.heap.size, 1 + 1, none⟩ = some (.slice fa f.fields.length fc) := by rw [cA.cell]; rfl
      have d0 : Y.cell? ⟨wr.heap.size + 1, 0, none⟩ = some (.int .i64 g.kind) := by rw [cB.cell]; rfl
      have d1 : Y.cell? ⟨wr.heap.size + 1, 1, none⟩ = some (.int .i64 g.id) := by rw [cB.cell]; rfl
      have d2 : Y.cell? ⟨wr.heap.size + 1, 1 + 1, none⟩ = some (.slice fa' g.fields.length fc') := by rw [cB.cell]; rfl
      have SE := Lib.hid (sameE_any f g (.slice fa f.fields.length fc) (.slice fa' g.fields.length fc') Y (hfl.1.below BY (Nat.le_refl _)) (hfl'.1.below BY (Nat.le_refl _)) hm hm')
      have HBY := Lib.hid BY
      have NE : Hid (¬ f = g → es ≠ gs) := fun hne => ne_at hf hg hne
      have EQ : Hid (f = g → es.take (k + 1) = gs.take (k + 1)) := fun e => take_same hsm hf (e ▸ hg)
      obtain ⟨T, hT⟩ : ∃ T : Prop, T = (f = g) := ⟨_, rfl⟩
      rw [← hT] at SE NE EQ
      clear hf hg PC PC' hsm HL HF HF' hfl hfl' hm hm' hb BX BY bX bY cA cB zX hT
      generalize f.kind = K1 at *
      generalize f.id = X1 at *
      generalize g.kind = K2 at *
      generalize g.id = X2 at *
      generalize f.fields.length = N1 at *
      generalize g.fields.length = N2 at *
      subst hX
      go_wp2_with fail
      subst hY
      refine SE.out.mono ?_
      rintro e w2 ⟨⟨t, rfl, ht⟩, b2⟩
      have HB2 := Lib.hid (HBY.out.trans (b2.mono HBY.out.size))
      cases t with
      | true =>
        have E1 := Lib.hid (EQ.out (ht.1 rfl))
        clear b2 ht SE NE EQ HBY c0 c1 c2 a0 a1 a2 d0 d1 d2
        go_wp2_with fail
        go_roundw
        case rel => exact ⟨k + 1, hlt, by go_num, E1.out, HB2.out⟩
        case measure => simp [intOf]; omega
      | false =>
        have E1 := Lib.hid (NE.out (fun q => by cases ht.2 q))
        clear b2 ht SE NE EQ HBY c0 c1 c2 a0 a1 a2 d0 d1 d2
        go_wp2_with fail
        go_ret
        exact ⟨⟨false, rfl, ⟨(fun q => by cases q), fun q => absurd q E1.out⟩⟩, HB2.out⟩
    · obtain rfl : k = es.length := by omega
      have E1 := Lib.hid (same_all HL.out hsm)
      clear PC PC' hsm
      go_wp2_with fail
      go_ret
      exact ⟨⟨true, rfl, by simpa using E1.out⟩, hb⟩
set_option maxRecDepth 100000 in
set_option maxHeartbeats 4000000 in
theorem sameB_any (es gs : List Ed) (v v' : Value) (w : World) (h : EdV w v es) (h' : EdV w v' gs) (hn : es.length ≤ 1000000) (hn' : gs.length ≤ 1000000) (hf : Fines es) (hf' : Fines gs) :
    Calls Tryz.prog 18 #[v, v'] w fun e w' => Tells (es = gs) e ∧ Below w.heap.size w w' := by
  have EQ := Lib.hid (eqFunc_any es gs v v' w h h' hn hn' hf hf')
  obtain ⟨A, cap, rfl, _⟩ := h
  obtain ⟨A', cap', rfl, _⟩ := h'
  clear hf hf'
  go_enter Tryz.func18, Tryz.ntmps18
  go_wp2_with fail
  refine EQ.out.mono ?_
  rintro e w' ⟨⟨t, rfl, ht⟩, b⟩
  have HT := Lib.hid ht
  have HB := Lib.hid b
  clear EQ b ht
  go_wp2_with fail
  go_ret
  exact ⟨⟨t, rfl, HT.out⟩, HB.out⟩
end Go.Proofs.YtkcklnnmcmjnjaaGreatDoor

namespace Go.Proofs.YtkcklnnmcmjnjaaGreatDoor
open Go.RowKit Go.Shelf
attribute [local go_sem] Oper.semAt_some

def szF : List Fld → Nat
  | [] => 0
  | f :: r => f.1.length + f.2.length + szF r
def szB : List Ed → Nat
  | [] => 0
  | e :: r => szF e.fields + szB r
theorem szF_append : ∀ a b : List Fld, szF (a ++ b) = szF a + szF b
  | [], b => by simp [szF]
  | f :: r, b => by rw [List.cons_append, szF, szF, szF_append r b]; omega
theorem szB_append : ∀ a b : List Ed, szB (a ++ b) = szB a + szB b
  | [], b => by simp [szB]
  | f :: r, b => by rw [List.cons_append, szB, szB, szB_append r b]; omega
theorem szF_snoc {fs : List Fld} {k : Nat} {f : Fld} (h : fs[k]? = some f) : szF (fs.take (k + 1)) = szF (fs.take k) + (f.1.length + f.2.length) := by
  rw [List.take_add_one, h, szF_append]; simp [szF]
theorem szB_snoc {es : List Ed} {k : Nat} {e : Ed} (h : es[k]? = some e) : szB (es.take (k + 1)) = szB (es.take k) + szF e.fields := by
  rw [take_snoc h, szB_append]; simp [szB]
theorem szF_le : ∀ {fs : List Fld}, (∀ f ∈ fs, f.1.length ≤ 100000 ∧ f.2.length ≤ 100000) → szF fs ≤ 200000 * fs.length
  | [], _ => by simp [szF]
  | f :: r, h => by
    have h1 := h f List.mem_cons_self
    have h2 := szF_le (fs := r) fun x hx => h x (List.mem_cons_of_mem _ hx)
    rw [szF, List.length_cons]; omega
theorem szB_le : ∀ {es : List Ed}, Fines es → szB es ≤ 200000000 * es.length
  | [], _ => by simp [szB]
  | e :: r, h => by
    have h0 := h e List.mem_cons_self
    have h1 := szF_le h0.each
    have h3 := h0.len
    have h2 := szB_le (es := r) fun x hx => h x (List.mem_cons_of_mem _ hx)
    rw [szB, List.length_cons]; omega
set_option maxRecDepth 100000 in
set_option maxHeartbeats 8000000 in
theorem size_any (eds : List Ed) (v : Value) (w : World) (h : EdV w v eds) (hl : eds.length ≤ 1000000) (hf : Fines eds) :
    Calls Tryz.prog 17 #[v] w fun e w' => e = .returned (.int .i64 (szB eds : Nat)) ∧ Below w.heap.size w w' := by
  obtain ⟨A, cap, rfl, hle, hc⟩ := h
  have HC := Lib.hid hc
  have HF := Lib.hid hf
  clear hc hf
  go_enter Tryz.func17, Tryz.ntmps17
  go_wp2_with fail
  go_loopw [3, 10] (fun o i wr => ∃ k : Nat, k ≤ eds.length ∧ i = .int .i64 k ∧ o = .int .i64 (szB (eds.take k) : Nat) ∧ Below w.heap.size w wr) (fun _ i _ => eds.length - (intOf i).toNat)
  case atStart => exact ⟨0, Nat.zero_le _, rfl, rfl, Below.refl _ _⟩
  case round =>
    obtain ⟨k, hk, rfl, rfl, hacc⟩ := hrel
    by_cases hlt : k < eds.length
    · obtain ⟨ed, hed⟩ : ∃ ed, eds[k]? = some ed := ⟨_, List.getElem?_eq_getElem hlt⟩
      have TK := Lib.hid (szB_snoc hed)
      have hFE := HF.out ed (List.mem_of_getElem? hed)
      have hn1 := hFE.len
      have hn2 := hFE.each
      have hs1 := szB_le (es := eds.take k) fun x hx => HF.out x (List.mem_of_mem_take hx)
      rw [List.length_take] at hs1
      have hs2 : szB (eds.take k) ≤ 200000000 * k := by omega
      obtain ⟨b, off, fv, rfl, hbb, c0, c1, c2, hfl⟩ := HC.out k ed hed
      obtain ⟨fa, fc, rfl⟩ := hfl.form
      replace c0 := (hacc.cell (p := ⟨b, off + k * 3, none⟩) hbb).trans c0
      replace c1 := (hacc.cell (p := ⟨b, off + k * 3 + 1, none⟩) hbb).trans c1
      replace c2 := (hacc.cell (p := ⟨b, off + k * 3 + 1 + 1, none⟩) hbb).trans c2
      obtain ⟨_, _, eF, _, hfld⟩ := hfl.1
      cases eF
      have CF : Hid (∀ (W : World), Below w.heap.size w W → ∀ (j : Nat) f, ed.fields[j]? = some f → ∃ b2 o2, fa = some ⟨b2, o2, none⟩ ∧ W.cell? ⟨b2, o2 + j * 2, none⟩ = some (.string (B f.1)) ∧ W.cell? ⟨b2, o2 + j * 2 + 1, none⟩ = some (.string (B f.2))) := fun W hB j f hj => by
        obtain ⟨b2, o2, e2, hb2, d0, d1⟩ := hfld j f hj
        exact ⟨b2, o2, e2, (hB.cell (p := ⟨b2, o2 + j * 2, none⟩) hb2).trans d0, (hB.cell (p := ⟨b2, o2 + j * 2 + 1, none⟩) hb2).trans d1⟩
      have NB := Lib.hid hn2
      clear hfld hed hfl hn2 hs1 hFE
      generalize szB (eds.take k) = o1 at *
      generalize ed.kind = K at *
      generalize ed.id = X at *
      have ACC : Hid (Below w.heap.size w (wr.alloc (.cells #[.int .i64 K, .int .i64 X, .slice fa ed.fields.length fc] 33))) := hacc.alloc hacc.size _
      clear hacc
      generalize hfs : ed.fields = fs at *
      go_wp2_with fail
      go_loopw [3, 17] (fun q i wi => ∃ j : Nat, j ≤ fs.length ∧ i = .int .i64 j ∧ q = .int .i64 ((o1 + szF (fs.take j) : Nat) : Int) ∧ Below w.heap.size w wi) (fun _ i _ => fs.length - (intOf i).toNat)
      case atStart => exact ⟨0, Nat.zero_le _, rfl, rfl, ACC.out⟩
      case round =>
        obtain ⟨j, hj, rfl, rfl, hacc⟩ := hrel
        have ACI := Lib.hid hacc
        by_cases hjl : j < fs.length
        · obtain ⟨f, hf⟩ : ∃ f, fs[j]? = some f := ⟨_, List.getElem?_eq_getElem hjl⟩
          obtain ⟨b2, o2, rfl, d0, d1⟩ := CF.out _ hacc j f hf
          have SN := Lib.hid (szF_snoc hf)
          have hcl := szF_le (fs := fs.take j) fun x hx => NB.out x (List.mem_of_mem_take hx)
          rw [List.length_take] at hcl
          have hfm := NB.out f (List.mem_of_getElem? hf)
          have s1 := B_size f.1
          have s2 := B_size f.2
          have AB : Hid (Below w.heap.size w (wr.alloc (.cells #[.string (B f.1), .string (B f.2)] 35))) := hacc.alloc hacc.size _
          generalize szF (fs.take j) = c9 at *
          clear hacc hf CF c0 c1 c2
          generalize B f.1 = X1 at *
          generalize B f.2 = X2 at *
          go_wp2_with fail
          go_roundw
          case rel => exact ⟨j + 1, hjl, by go_num, by rw [SN.out]; congr 1 <;> first | omega | go_num | (push_cast; omega), AB.out⟩
          case measure => simp [intOf]; omega
        · obtain rfl : j = fs.length := by omega
          rw [List.take_length]
          clear CF hacc c0 c1 c2
          go_wp2_with fail
          go_roundw
          case rel => exact ⟨k + 1, hlt, by go_num, by rw [TK.out], ACI.out⟩
          case measure => simp [intOf]; omega
    · obtain rfl : k = eds.length := by omega
      rw [List.take_length]
      have ACC := Lib.hid hacc
      clear hacc HC
      go_wp2_with fail
      go_ret
      exact ⟨rfl, ACC.out⟩
end Go.Proofs.YtkcklnnmcmjnjaaGreatDoor

namespace Go.Proofs.YtkcklnnmcmjnjaaGreatDoor
open Go.RowKit Go.Shelf

theorem joinNl_snocs : ∀ (xs : List (List UInt8)) (y : List UInt8), xs ≠ [] → joinNl (xs ++ [y]) = joinNl xs ++ 10 :: y
  | [], _, h => absurd rfl h
  | [p], y, _ => rfl
  | p :: q :: r, y, _ => by
    show p ++ 10 :: joinNl ((q :: r) ++ [y]) = (p ++ 10 :: joinNl (q :: r)) ++ 10 :: y
    rw [joinNl_snocs (q :: r) y (by simp)]; simp
theorem joinNl_mono : ∀ (xs ys : List (List UInt8)), (joinNl xs).length ≤ (joinNl (xs ++ ys)).length
  | [], ys => by simp [joinNl]
  | [p], [] => by simp
  | [p], q :: r => by show p.length ≤ (p ++ 10 :: joinNl (q :: r)).length; simp
  | p :: q :: r, ys => by
    show (p ++ 10 :: joinNl (q :: r)).length ≤ (p ++ 10 :: joinNl ((q :: r) ++ ys)).length
    have := joinNl_mono (q :: r) ys
    simp only [List.length_append, List.length_cons] at this ⊢; omega
/-- What is said up to k further lines. -/
def accV (a : List UInt8) (r : List (List UInt8)) (k : Nat) : List UInt8 := joinNl (dropSp (afterC a) :: (r.take k).map fun l => dropDot l.tail)
theorem accV_step (a : List UInt8) (r : List (List UInt8)) (k : Nat) (x : List UInt8) (hx : r[k]? = some x) : accV a r (k + 1) = accV a r k ++ 10 :: dropDot x.tail := by
  unfold accV
  rw [List.take_add_one, hx, show (some x).toList = [x] from rfl, List.map_append, ← List.cons_append]
  exact joinNl_snocs _ _ (by simp)
theorem accV_le (a : List UInt8) (r : List (List UInt8)) (k : Nat) : (accV a r k).length ≤ (saidV (a :: r)).length := by
  unfold accV saidV saidP
  simp only [List.headD_cons, List.tail_cons]
  have := joinNl_mono (dropSp (afterC a) :: (r.take k).map fun l => dropDot l.tail) ((r.drop k).map fun l => dropDot l.tail)
  rw [List.cons_append, ← List.map_append, List.take_append_drop] at this
  exact this
theorem accV_all (a : List UInt8) (r : List (List UInt8)) : accV a r r.length = saidV (a :: r) := by
  unfold accV saidV saidP
  rw [List.take_length]; rfl
theorem allK_drop (r : List (List UInt8)) (k : Nat) (x : List UInt8) (h : r[k]? = some x) : sayG 3 (r.drop k) = ((kindL x == 3) && sayG 3 (r.drop (k + 1))) := sayG_drop r k 3 x h
theorem sayF_cons {a : List UInt8} {r : List (List UInt8)} (h : kindL a = 4) : sayF (a :: r) = sayG 3 r := by
  rw [sayF_eq]
  show (decide (0 < (a :: r).length) && ((kindL a == 4) && sayG 3 r)) = _
  simp [h]

set_option maxRecDepth 100000 in
set_option maxHeartbeats 4000000 in
theorem refUnfold_no (ls : List (List UInt8)) (v : Value) (w : World) (hs : Strs w v (ls.map B)) (hl : ∀ l ∈ ls, l.length ≤ 100000) (hn : ls.length ≤ 100000) (h0 : ls = [] ∨ ∃ a r, ls = a :: r ∧ kindL a ≠ 4) :
    Calls Tryz.prog 76 #[v] w fun e w' => e = .returned (.tuple #[.agg #[.string ⟨#[]⟩, .string ⟨#[]⟩], .int .i64 2]) ∧ Below w.heap.size w w' := by
  obtain ⟨A, cap, rfl, hle, hc⟩ := hs
  have hcb := cellB hc
  clear hc
  rcases h0 with rfl | ⟨a, r, rfl, hka⟩
  · clear hcb
    rw [List.length_map, List.length_nil]
    go_enter Tryz.func76, Tryz.ntmps76
    go_wp2_with fail
    have RE := Cells.new w 35 #[.string ⟨#[]⟩, .string ⟨#[]⟩]
    refine bodyPost_ret (ret_f2 rfl _ _ w.heap.size _ rfl RE rfl) rfl ?_
    exact ⟨rfl, (Below.refl _ _).alloc (Nat.le_refl _) _⟩
  · obtain ⟨b, off, rfl, hbb, hca⟩ := hcb 0 a rfl
    rw [Nat.add_zero] at hca
    clear hcb
    have hal := hl a (by simp)
    have RK := fun w => refKind_any (B a) (by rw [B_size]; omega) w
    rw [B_data] at RK
    have hki : ((kindL a : Int) != 4) = true := by simp; omega
    rw [List.length_map, List.length_cons] at *
    have hnz : ((r.length : Int) + 1 == 0) = false := by rw [beq_eq_false_iff_ne]; omega
    clear hka
    generalize kindL a = ka at *
    generalize B a = X at *
    go_enter Tryz.func76, Tryz.ntmps76
    go_wp2_with fail
    refine (RK _).mono ?_
    rintro e w1 ⟨rfl, b1⟩
    have R1 := cells_kept (Cells.new w 35 #[.string ⟨#[]⟩, .string ⟨#[]⟩]) b1 (by simp)
    have c0 := R1.cell 0
    have c1 := R1.cell 1
    have f0 := R1.frozen 0
    have f1 := R1.frozen 1
    have hb1 : Below w.heap.size w w1 := ((Below.refl _ _).alloc (Nat.le_refl _) _).trans (b1.mono (by simp))
    simp only [List.getElem?_toArray, List.getElem?_cons_zero, List.getElem?_cons_succ] at c0 c1
    have RE := (R1.set 0 (.string ⟨#[]⟩)).set 1 (.string ⟨#[]⟩)
    rw [set2] at RE
    clear b1
    go_wp2_with fail
    refine bodyPost_ret (ret_f2 rfl _ _ w.heap.size _ rfl RE rfl) rfl ?_
    exact ⟨rfl, (hb1.setCell (Nat.le_refl _) _).setCell (Nat.le_refl _) _⟩
end Go.Proofs.YtkcklnnmcmjnjaaGreatDoor

