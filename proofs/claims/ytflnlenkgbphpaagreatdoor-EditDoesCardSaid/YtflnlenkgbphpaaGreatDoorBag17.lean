/- Texts put together: EL, HE. -/
import Derived.WideShapes
import Derived.Test.YtflnlenkgbphpaaGreatDoorBag4
import Derived.Test.YtflnlenkgbphpaaGreatDoorBag10
import Derived.Test.YtflnlenkgbphpaaGreatDoorBag16
set_option linter.unusedVariables false
namespace Go.Proofs.YtflnlenkgbphpaaGreatDoor
open Go.RowKit Go.Shelf
attribute [local go_sem] Oper.semAt_some

def edsA9 : List Ed := [⟨2, 1, []⟩, ⟨1, 1, [([65], [])]⟩]
theorem doA9 : doB ⟨[(⟨3, [65, 58, 32, 49, 10], [([65], [49])]⟩, 1)], 2⟩ edsA9 = (1, 7) := by decide +kernel
theorem okA9 : OkL ⟨[(⟨3, [65, 58, 32, 49, 10], [([65], [49])]⟩, 1)], 2⟩ := ⟨wfA7, by decide, by decide, by decide, by decide⟩
set_option maxRecDepth 100000 in
set_option maxHeartbeats 4000000 in
theorem alive9_any (w : World) (hg : ErrT w) : Calls Tryz.prog 8 #[] w fun e w' => e = .returned (.bool true) ∧ Below w.heap.size w w' := by
  have OF := Lib.hid (of_any ⟨#[65, 58, 32, 49, 10]⟩ (by decide) w)
  have HG := Lib.hid hg
  clear hg
  go_enter Tryz.func8, Tryz.ntmps8
  go_wp2_with fail
  refine OF.out.mono ?_
  rintro e w1 hof
  obtain ⟨b1, lb, ev, ps, rfl, hlb, hev, hla, hps⟩ := hof.yes parseA7
  rw [fromA7] at hla hps
  dsimp only at hla hps
  obtain ⟨wa, hwa⟩ : ∃ wa, wa = (w1.alloc (.cells #[.string ⟨#[65]⟩, .string ⟨#[]⟩] 35)).alloc (.cells #[.int .i64 2, .int .i64 1, .slice none 0 0, .int .i64 1, .int .i64 1, .slice (some ⟨w1.heap.size, 0, none⟩) 1 1] 33) := ⟨_, rfl⟩
  have hba : Below w1.heap.size w1 wa := by rw [hwa]; exact ((Below.refl _ w1).alloc (Nat.le_refl _) _).alloc (by simp) _
  have hB : Below w.heap.size w wa := b1.trans (hba.mono b1.size)
  have cE : Cells wa (w1.heap.size + 1) 33 #[.int .i64 2, .int .i64 1, .slice none 0 0, .int .i64 1, .int .i64 1, .slice (some ⟨w1.heap.size, 0, none⟩) 1 1] := by
    rw [hwa]
    have := Cells.new (w1.alloc (.cells #[.string ⟨#[65]⟩, .string ⟨#[]⟩] 35)) 33 #[.int .i64 2, .int .i64 1, .slice none 0 0, .int .i64 1, .int .i64 1, .slice (some ⟨w1.heap.size, 0, none⟩) 1 1]
    simpa using this
  have hfs : wa.ownsRow w1.heap.size 35 2 (sl w1.heap.size 1 1) 1 (cellsF [([65], [])]) := by
    refine ⟨rfl, .inr ⟨w1.heap.size, 1, _, rfl, Nat.le_refl _, by rw [hwa]; exact (Cells.new w1 _ _).alloc _, Nat.le_refl _, by decide, rfl, rfl⟩⟩
  have hV : EdV wa (.slice (some ⟨w1.heap.size + 1, 0, none⟩) 2 2) edsA9 := by
    refine ⟨_, 2, rfl, Nat.le_refl _, fun i ed hi => ?_⟩
    have hlt : w1.heap.size + 1 < wa.heap.size := cE.lt
    match i, hi with
    | 0, hi =>
      simp [edsA9] at hi; subst hi
      exact ⟨_, 0, .slice none 0 0, rfl, hlt, by rw [cE.cell]; rfl, by rw [cE.cell]; rfl, by rw [cE.cell]; rfl, ⟨none, 0, rfl, Nat.le_refl _, fun i f h => by simp at h⟩, fun n c h => by cases h; rfl⟩
    | 1, hi =>
      simp [edsA9] at hi; subst hi
      exact ⟨_, 0, sl w1.heap.size 1 1, rfl, hlt, by rw [cE.cell]; rfl, by rw [cE.cell]; rfl, by rw [cE.cell]; rfl, FldR.own hfs⟩
    | i + 2, hi => simp [edsA9] at hi
  have C : Carry w.heap.size wa lb ev ps ⟨[(⟨3, [65, 58, 32, 49, 10], [([65], [49])]⟩, 1)], 2⟩ 10 := by
    refine ⟨hla.below hba (Nat.le_refl _), hps, okA9, fun e he => ?_, hlb, hev, by decide, by decide⟩
    rw [List.mem_singleton.1 he]; decide
  have DO := Do_any edsA9 _ hV (by decide) (fun ed he => by
      rcases List.mem_cons.1 he with rfl | he
      · exact ⟨by decide, fun f hf => by cases hf⟩
      · rw [List.mem_singleton.1 he]; exact ⟨by decide, fun f hf => by rw [List.mem_singleton.1 hf]; decide⟩) (fun ed he => by
      rcases List.mem_cons.1 he with rfl | he
      · decide
      · rw [List.mem_singleton.1 he]; decide) (HG.out.below hB (Nat.le_refl _)) C (by decide)
  have LN : Hid (∀ W, Below wa.heap.size wa W → Calls Tryz.prog 35 #[ptr lb] W fun e w' => e = .returned (.int .i64 1) ∧ Below W.heap.size W w') := by
    intro W hW
    have := len_R lb ev ps 2 W ((hla.below hba (Nat.le_refl _)).lr.below hW (Nat.le_refl _)) (by rw [hps]; exact wfA7) (by have := congrArg List.length hps; simp at this; omega)
    rw [hps] at this
    exact this
  have HDO := Lib.hid DO
  have HB := Lib.hid hB
  clear DO hB hV C hfs cE hba hps hla hof b1 OF
  unfold ptr at HDO LN
  unfold ptr
  subst hwa
  go_wp2_with fail
  refine HDO.out.mono ?_
  rintro e w2 ⟨b2, ⟨h0, u, rfl, hz⟩ | ⟨h1, _⟩⟩
  rotate_left
  · rw [doA9] at h1; cases h1
  rw [doA9] at hz
  have LN2 := Lib.hid (LN.out w2 b2)
  have B2 := Lib.hid (HB.out.trans (b2.mono HB.out.size))
  have NU := Lib.hid (num_z hz)
  have AT := Lib.hid (at_z hz)
  have IS : Hid (Calls Tryz.prog 34 #[u, .int .i64 7] w2 fun e w' => e = .returned (.bool true) ∧ w2 = w') := by
    show Calls _ _ _ _ _
    go_enter Tryz.func34, Tryz.ntmps34
    go_wp2_with fail
    refine NU.out.mono ?_
    rintro e w' ⟨rfl, rfl⟩
    go_wp2_with fail
    go_ret
    exact ⟨rfl, rfl⟩
  clear hz b2 HDO LN NU h0
  go_wp2_with fail
  refine IS.out.mono ?_
  rintro e w' ⟨rfl, rfl⟩
  go_wp2_with fail
  refine AT.out.mono ?_
  rintro e w' ⟨rfl, rfl⟩
  go_wp2_with fail
  refine LN2.out.mono ?_
  rintro e w4 ⟨rfl, b4⟩
  have B4 := Lib.hid (B2.out.trans (b4.mono B2.out.size))
  clear LN2 b4
  go_wp2_with fail
  go_ret
  exact ⟨rfl, B4.out⟩
end Go.Proofs.YtflnlenkgbphpaaGreatDoor

namespace Go.Proofs.YtflnlenkgbphpaaGreatDoor
open Go.RowKit Go.Shelf
attribute [local go_sem] Oper.semAt_some

theorem row_spoils {P : Nat → Prop} {lo' n sz : Nat} {w w' : World} {v : Value} {t : TypeId} {xs : List Value} (h : w.ownsRow lo' t sz v n xs) (hs : Spoils P w w') (ht : t ≠ 35) : w'.ownsRow lo' t sz v n xs := by
  refine ⟨h.1, ?_⟩
  rcases h.2 with q | ⟨g, cap, cur, q, a, hg, r⟩
  · exact .inl q
  · exact .inr ⟨g, cap, cur, q, a, hs.kept hg ht, r⟩
theorem mineP_of_own {lo hi n : Nat} {w : World} {v : Value} {xs : List Value} (h : w.ownsRow lo 35 2 v n xs) (hw : w.heap.size ≤ hi) : MineP w (fun r => lo ≤ r ∧ r < hi) v n := by
  rcases h.2 with ⟨rfl, hn⟩ | ⟨g, cap, cur, rfl, hb, hc, hle, _, hs, _⟩
  · exact .inl ⟨hn, none, 0, rfl⟩
  · exact .inr ⟨g, cap, cur, rfl, hle, ⟨hb, Nat.lt_of_lt_of_le (Array.getElem?_eq_some_iff.1 hc).1 hw⟩, hc, by rw [hs]; exact Nat.mul_le_mul_right 2 hle⟩
theorem Spoils.only {P : Nat → Prop} {w w' : World} (h : Spoils P w w') : Only P w w' := ⟨h.os, h.tape, h.output, h.size, fun _ hr hp => h.block hr hp⟩
theorem q_of {S0 : Nat} {w : World} {lb : Nat} {ev : Value} {ps qs : List Pr} {l : LS} {m : Nat} (C : Carry S0 w lb ev ps l m) (hm : m ≤ 10000) (he : qs.map Prod.fst = l.es) :
    qs.length ≤ 10000 ∧ (∀ q ∈ qs, q.1.1.raw.length ≤ 100000) ∧ itsP qs = l.es.map Prod.fst ∧ stzN qs = szE l.es := by
  have ok := C.ents hm
  have h1 : qs.map Prod.fst = ps.map Prod.fst := he.trans C.es.symm
  refine ⟨?_, fun q hq => ?_, itsP_es he, ?_⟩
  · have := congrArg List.length h1
    rw [List.length_map, List.length_map] at this
    have := ok.len
    omega
  · have h2 : q.1 ∈ ps.map Prod.fst := by rw [← h1]; exact List.mem_map_of_mem hq
    obtain ⟨p, hp, hpq⟩ := List.mem_map.1 h2
    rw [← hpq]; exact ok.raw p hp
  · rw [← he]
    unfold stzN szE
    rw [List.filter_map, List.map_map]; rfl
theorem nums_nil (w : World) : NumsV w (.slice none 0 0) [] := ⟨none, 0, rfl, Nat.le_refl _, fun i z h => by simp at h⟩
set_option maxRecDepth 100000 in
set_option maxHeartbeats 16000000 in
theorem doesLaw (s : ByteArray) (hs : s.size ≤ maxLen) (eds : List Ed) (v1 : Value) (w : World) (ha : EdsIn w v1 eds) (hg : ErrT w) :
    Calls Tryz.prog 4 #[.string s, v1] w fun e w' => e = .returned (.bool true) ∧ Below w.heap.size w w' := by
  have AL := Lib.hid (alive9_any w hg)
  have HEA := Lib.hid ha
  have HG := Lib.hid hg
  unfold maxLen at hs
  obtain ⟨va, vac, rfl, _⟩ : ∃ A c, v1 = .slice A eds.length c ∧ True := by obtain ⟨_, A, c, e, _⟩ := ha; exact ⟨A, c, e, trivial⟩
  clear ha hg
  go_enter Tryz.func4, Tryz.ntmps4
  go_wp2_with fail
  refine AL.out.mono ?_
  rintro e w1 ⟨rfl, b1⟩
  have B1 := Lib.hid b1
  clear AL b1
  by_cases hlong : 3000 < s.size
  · go_wp2_with fail
    go_ret
    exact ⟨rfl, B1.out⟩
  have HV := Lib.hid (heavy_any eds _ w1 (HEA.out.below B1.out (Nat.le_refl _)))
  go_wp2_with fail
  refine HV.out.mono ?_
  rintro e w2 ⟨⟨q, rfl, hq⟩, b2⟩
  have B2 := Lib.hid (B1.out.trans (b2.mono B1.out.size))
  have HQ := Lib.hid hq
  clear HV b2 hq
  cases q with
  | true =>
    go_wp2_with fail
    go_ret
    exact ⟨rfl, B2.out⟩
  | false =>
  have LA : Hid (Light eds) := HQ.out (by first | exact rfl | trivial)
  have LI := Lib.hid (lists_any s (by omega) w2)
  clear HQ
  go_wp2_with fail
  refine LI.out.mono ?_
  rintro e w4 ⟨b4, h4⟩
  have B4 := Lib.hid (B2.out.trans (b4.mono B2.out.size))
  cases hp : parseL s.data.toList with
  | error an =>
    rw [hp] at h4
    subst h4
    have B5 := Lib.hid (B4.out.alloc B4.out.size (.cells #[.slice none 0 0, .int .i64 0] 43))
    clear LI b4 hp
    go_wp2_with fail
    go_ret
    exact ⟨rfl, B5.out⟩
  | ok its =>
  rw [hp] at h4
  obtain ⟨lb, ev, ps, v, qs, rfl, hC, hq, hqe⟩ := h4
  obtain ⟨qa, qc, rfl, _⟩ := hq.empty
  generalize fromL its = l at *
  obtain ⟨w5, hw5⟩ : ∃ w5, w5 = w4.alloc (.cells #[.slice qa qs.length qc, .int .i64 l.next] 43) := ⟨_, rfl⟩
  have b45 : Below w4.heap.size w4 w5 := by rw [hw5]; exact (Below.refl _ w4).alloc (Nat.le_refl _) _
  have hz5 : w5.heap.size = w4.heap.size + 1 := by rw [hw5]; simp
  have c5 : Cells w5 w4.heap.size 43 #[.slice qa qs.length qc, .int .i64 l.next] := by rw [hw5]; exact Cells.new _ _ _
  have B5 := Lib.hid (B4.out.trans (b45.mono B4.out.size))
  have HC := Lib.hid (hC.below b45 (Nat.le_refl _))
  have HQM := Lib.hid (hq.below b45 (Nat.le_refl _))
  have HQE := Lib.hid hqe
  have EA : Hid (∀ W, Below w.heap.size w W → EdV W (.slice va eds.length vac) eds ∧ ErrT W) := fun W hW => ⟨HEA.out.edv.below hW (Nat.le_refl _), HG.out.below hW (Nat.le_refl _)⟩
  have HM : Hid (∀ W, Below w5.heap.size w5 W → W.cell? ⟨w4.heap.size, 0, none⟩ = some (.slice qa qs.length qc) ∧ W.cell? ⟨w4.heap.size, 1, none⟩ = some (.int .i64 l.next)) := fun W hW => by
    have k := cells_kept c5 hW (by omega)
    exact ⟨by rw [k.cell]; rfl, by rw [k.cell]; rfl⟩
  have la51 : eds.length ≤ 51 := LA.out.1
  have OW := Lib.hid (own_any eds _ w5 (EA.out w5 B5.out).1 la51 LA.out.fines)
  clear LI b4 hp hC hq b45 c5 hqe hz5
  subst hw5
  unfold ptr
  go_wp2_with fail
  refine OW.out.mono ?_
  rintro e w6 ⟨v6, fvs, rfl, hO, b6⟩
  obtain ⟨w5, hw5⟩ : ∃ w5, w5 = w4.alloc (.cells #[.slice qa qs.length qc, .int .i64 l.next] 43) := ⟨_, rfl⟩
  rw [← hw5] at hO b6 HM HQM HC B5
  clear OW hw5
  obtain ⟨oa, oc, rfl, _⟩ := own_slice hO.row
  have HO := Lib.hid hO
  have HB6 := Lib.hid b6
  have B6 := Lib.hid (B5.out.trans (b6.mono B5.out.size))
  have HC6 := Lib.hid (HC.out.below b6 (Nat.le_refl _))
  have DO1 := Lib.hid (Do_any eds _ hO.edv la51 LA.out.fines LA.out.smalls (EA.out w6 B6.out).2 HC6.out (by omega))
  unfold ptr at DO1
  clear hO b6
  go_wp2_with fail
  refine DO1.out.mono ?_
  rintro e w7 ⟨b7, R7⟩
  have B7 := Lib.hid (B6.out.trans (b7.mono B6.out.size))
  have HB7 := Lib.hid (HB6.out.trans (b7.mono HB6.out.size))
  have RD := Lib.hid (refDo_any qs _ _ l eds w5 w7 HB7.out HQM.out HQE.out HC.out.ok (by have := HC.out.len; omega) (by have := HC.out.nx; omega) (EA.out w5 B5.out).1 la51 LA.out.fines)
  obtain ⟨m0, m1⟩ := HM.out w7 HB7.out
  have HC7 := Lib.hid (HC6.out.below b7 (Nat.le_refl _))
  have hz56 := HB6.out.size
  have hz67 := b7.size
  obtain ⟨qn1, qn2, qn3, _⟩ := q_of HC7.out (by omega) HQE.out
  have QRAW := Lib.hid qn2
  have QITS := Lib.hid qn3
  have QC : Hid (∀ W, Below w7.heap.size w7 W → Calls Tryz.prog 24 #[.pointer (some ⟨lb, 0, none⟩)] W (fun e w => ∃ v, e = .returned v ∧ (v = .string (B ((apartL (l.es.map Prod.fst)).flatMap It.raw))) ∧ Below W.heap.size W w) ∧
      Calls Tryz.prog 25 #[.agg #[.slice qa qs.length qc, .int .i64 l.next]] W (fun e w => ∃ v, e = .returned v ∧ (v = .string (B ((apartL (l.es.map Prod.fst)).flatMap It.raw))) ∧ Below W.heap.size W w) ∧
      Calls Tryz.prog 18 #[.slice oa eds.length oc, .slice va eds.length vac] W (fun e w => ∃ v, e = .returned v ∧ (v = .bool true) ∧ Below W.heap.size W w) ∧
      W.cell? ⟨w4.heap.size, 0, none⟩ = some (.slice qa qs.length qc) ∧ W.cell? ⟨w4.heap.size, 1, none⟩ = some (.int .i64 l.next)) := fun W hW => by
    have h5 := HB7.out.trans (hW.mono HB7.out.size)
    have h6 : Below w6.heap.size w6 W := b7.trans (hW.mono b7.size)
    refine ⟨(carry_text (HC7.out.below hW (Nat.le_refl _)) (by omega)).mono fun e w' ⟨he, b⟩ => ⟨_, he, rfl, b⟩, (refText7_any qs _ _ W (HQM.out.below h5 (Nat.le_refl _)) qn1 QRAW.out).mono fun e w' ⟨he, b⟩ => ⟨_, he, by rw [QITS.out], b⟩, (edits_quiet eds _ _ W (HO.out.edv.below h6 (Nat.le_refl _)) (EA.out W (B7.out.trans (hW.mono B7.out.size))).1 (by omega) LA.out.fines).mono fun e w' ⟨he, m, hm⟩ => ⟨_, he, rfl, by rw [hm]; exact drewN_below (Below.refl _ _) m⟩, HM.out W h5⟩
  have HB67 := Lib.hid b7
  clear b7 DO1 qn2 qn3
  rcases R7 with ⟨h7, u7, rfl, z7⟩ | ⟨h7, k7, o7, lb1, ev1, ps1, g1, rfl, C1, K1, own1⟩
  · -- refused
    have Z7 := Lib.hid z7
    clear z7
    go_wp2_with fail
    refine RD.out.mono ?_
    rintro e w8 ⟨b8, R8⟩
    rcases R8 with ⟨h8, v8, qs8, rfl, hq8⟩ | ⟨h8, _⟩
    rotate_left
    · rw [h8] at h7; exact absurd rfl h7
    obtain ⟨xa, xc, rfl, _⟩ := hq8.empty
    have B8 := Lib.hid (B7.out.trans (b8.mono B7.out.size))
    have HB8 := Lib.hid b8
    have hz8 := b8.size
    clear b8 hq8 RD
    generalize hat : (doB l eds).1 = at8 at *
    generalize hbad : (doB l eds).2 = bad8 at *
    go_wp2_with fail
    have TO : Hid (∀ o W, Below ((w8.alloc o).drew).heap.size ((w8.alloc o).drew) W → Below w7.heap.size w7 W) := fun o W hW =>
      HB8.out.trans (((((Below.refl w8.heap.size w8).alloc (Nat.le_refl _) o).drew).trans (hW.mono (by show w8.heap.size ≤ (w8.alloc o).heap.size; simp))).mono hz8)
    refine wp_region_any (by kernel_rfl) ?_
    refine region_edA _ _ u7 (.slice none 0 0) (.slice none 0 0) (.slice oa eds.length oc) (.slice va eds.length vac) (.slice qa qs.length qc) at8 (bad8 : Nat) l.next lb w4.heap.size (B ((apartL (l.es.map Prod.fst)).flatMap It.raw)) _ rfl rfl rfl rfl rfl rfl rfl rfl rfl rfl ?a1 ?a2 ?a3 ?a4 ?a5 ?a6 ?a7 ?a8
    case a1 => exact fun W hW => (QC.out W (TO.out _ W hW)).2.2.2
    case a2 => exact fun W hW => (num_z (Z7.out.below (TO.out _ W hW) (Nat.le_refl _))).mono fun e w' ⟨he, hw⟩ => ⟨_, he, rfl, by rw [← hw]; exact Below.refl _ _⟩
    case a3 => exact fun W hW => (at_z (Z7.out.below (TO.out _ W hW) (Nat.le_refl _))).mono fun e w' ⟨he, hw⟩ => ⟨_, he, rfl, by rw [← hw]; exact Below.refl _ _⟩
    case a4 => exact fun W hW => (ints_same [] _ _ W (nums_nil W) (nums_nil W) (by simp)).mono fun e w' ⟨he, b⟩ => ⟨_, he, rfl, b⟩
    case a5 => exact fun W hW => (QC.out W (TO.out _ W hW)).1
    case a6 => exact fun W hW => (QC.out W (TO.out _ W hW)).2.1
    case a7 => exact fun W hW => (QC.out W (TO.out _ W hW)).2.2.1
    case a8 =>
      intro y0 y1 y2 y3 y4 y5 y6 y7 y8 y9 y10 y11 y12 y13 y14 y15 y16 y17 y18 y19 y20 y21 y22 y23 y24 y25 y26 y27 y28 w10 hb10 h28
      obtain rfl : y28 = .bool false := h28
      have B10 : Hid (Below w.heap.size w w10) := by
        show Below _ _ _
        exact B7.out.trans ((TO.out _ w10 hb10).mono B7.out.size)
      have hne : ((bad8 : Nat) : Int) ≠ 0 := by omega
      have qn : (((bad8 : Nat) : Int) == 0) = false := by simpa using h7
      clear hb10 QC TO HB8 Z7
      simp only [List.foldl_cons, List.foldl_nil, List.setIfInBounds_toArray, List.set_cons_zero, List.set_cons_succ]
      go_wp2_with fail
      go_ret
      exact ⟨rfl, B10.out⟩
  · -- done
    obtain ⟨ga, gc, rfl, _⟩ : ∃ A c, g1 = .slice A (idsOn l eds).length c ∧ (idsOn l eds).length ≤ c := own_slice own1
    have HC1 := Lib.hid C1
    have HOW1 := Lib.hid own1
    have HK1 : Hid (∀ r, BlkR lb1 ev1 ps1 (.slice none 0 0) [] r → w6.heap.size ≤ r) := K1
    have ids51 : (idsOn l eds).length ≤ 51 := Nat.le_trans (idsOn_len l eds) la51
    clear C1 own1 K1 k7
    unfold ptr
    go_wp2_with fail
    refine RD.out.mono ?_
    rintro e w8 ⟨b8, R8⟩
    rcases R8 with ⟨h8, _⟩ | ⟨h8, o8, v8, qs8, g8, rfl, hq8, hqe8, hqf8, hqb8, own8⟩
    · rw [h7] at h8; exact absurd rfl h8
    obtain ⟨xa, xc, rfl, _⟩ := hq8.empty
    obtain ⟨ha, hc, rfl, _⟩ : ∃ A c, g8 = .slice A (idsOn l eds).length c ∧ (idsOn l eds).length ≤ c := own_slice own8
    have B8 := Lib.hid (B7.out.trans (b8.mono B7.out.size))
    have HB8 := Lib.hid b8
    have hz8 := b8.size
    have HC8 := Lib.hid (HC1.out.below b8 (Nat.le_refl _))
    have HOW8 := Lib.hid (row_below HOW1.out b8 (Nat.le_refl _))
    have HO8 := Lib.hid own8
    have HQ8 := Lib.hid hq8
    have HQE8 := Lib.hid hqe8
    have HQF8 := Lib.hid hqf8
    clear b8 own8 hq8 hqe8 hqf8 hqb8 RD HOW1 HC1
    go_wp2_with fail
    have TO8 : Hid (∀ o W, Below ((w8.alloc o).drew).heap.size ((w8.alloc o).drew) W → Below w8.heap.size w8 W) := fun o W hW =>
      ((((Below.refl w8.heap.size w8).alloc (Nat.le_refl _) o).drew).trans (hW.mono (by show w8.heap.size ≤ (w8.alloc o).heap.size; simp)))
    have TO : Hid (∀ o W, Below ((w8.alloc o).drew).heap.size ((w8.alloc o).drew) W → Below w7.heap.size w7 W) := fun o W hW => HB8.out.trans ((TO8.out o W hW).mono hz8)
    have ENIL : Hid (∀ W, ErrZ 0 W .nilIface (-9) 0) := fun W => ⟨by omega, .inl ⟨rfl, rfl⟩⟩
    refine wp_region_any (by kernel_rfl) ?_
    refine region_edA _ _ .nilIface (.slice ga (idsOn l eds).length gc) (.slice ha (idsOn l eds).length hc) (.slice oa eds.length oc) (.slice va eds.length vac) (.slice qa qs.length qc) (-9) 0 l.next lb w4.heap.size (B ((apartL (l.es.map Prod.fst)).flatMap It.raw)) _ rfl rfl rfl rfl rfl rfl rfl rfl rfl rfl
      (fun W hW => (QC.out W (TO.out _ W hW)).2.2.2)
      (fun W hW => (num_z (ENIL.out W)).mono fun e w' ⟨he, hw⟩ => ⟨_, he, rfl, by rw [← hw]; exact Below.refl _ _⟩)
      (fun W hW => (at_z (ENIL.out W)).mono fun e w' ⟨he, hw⟩ => ⟨_, he, rfl, by rw [← hw]; exact Below.refl _ _⟩)
      (fun W hW => (ints_same _ _ _ W (nums_row (row_below HOW8.out (TO8.out _ W hW) (Nat.le_refl _))) (nums_row (row_below HO8.out (TO8.out _ W hW) (Nat.le_refl _))) (by omega)).mono fun e w' ⟨he, b⟩ => ⟨_, he, rfl, b⟩)
      (fun W hW => (QC.out W (TO.out _ W hW)).1) (fun W hW => (QC.out W (TO.out _ W hW)).2.1) (fun W hW => (QC.out W (TO.out _ W hW)).2.2.1) ?_
    intro y0 y1 y2 y3 y4 y5 y6 y7 y8 y9 y10 y11 y12 y13 y14 y15 y16 y17 y18 y19 y20 y21 y22 y23 y24 y25 y26 y27 y28 w10 hb10 h28
    obtain rfl : y28 = .bool false := h28
    have k10 : Cells w10 w8.heap.size 43 #[.slice xa qs8.length xc, .int .i64 (lsOn l eds).next] := cells_kept (Cells.new w8 _ _).drew hb10 (by show w8.heap.size < (w8.alloc _).heap.size; simp)
    have b810 := TO8.out _ w10 hb10
    have B10 : Hid (Below w.heap.size w w10) := by
      show Below _ _ _
      exact B8.out.trans (b810.mono B8.out.size)
    have B610 : Below w6.heap.size w6 w10 := HB67.out.trans ((TO.out _ w10 hb10).mono hz67)
    have K10 := Lib.hid k10
    have HC10 := Lib.hid (HC8.out.below b810 (Nat.le_refl _))
    have HQ10 := Lib.hid (HQ8.out.below b810 (Nat.le_refl _))
    have HO10 := Lib.hid (HO.out.below B610 (Nat.le_refl _))
    have hz10 := b810.size
    clear hb10 QC TO TO8 HB8 k10 b810 HC8 HQ8 HO8 HOW8 HC7 HC6 HQM HM
    simp only [List.foldl_cons, List.foldl_nil, List.setIfInBounds_toArray, List.set_cons_zero, List.set_cons_succ]
    go_wp2_with fail
    have hne : (0 : Nat) < eds.length := by
      rcases Nat.eq_zero_or_pos eds.length with q | q
      · rw [List.length_eq_zero_iff.1 q] at h8; simp [doB, chkB] at h8
      · exact q
    obtain ⟨og, ocap, hog⟩ := Joins.ownsRow_form HO10.out.row (by omega)
    obtain ⟨rfl, rfl⟩ : oa = some ⟨og, 0, none⟩ ∧ oc = ocap := by injection hog with q1 _ q2; exact ⟨q1, q2⟩
    go_loopw [87] (fun i wr => ∃ k : Nat, k ≤ eds.length ∧ i = .int .i64 k ∧ Spoils (fun r => w5.heap.size ≤ r ∧ r < w6.heap.size) w10 wr) (fun i _ => eds.length - (intOf i).toNat)
    case atStart => exact ⟨0, Nat.zero_le _, rfl, Spoils.refl _ _⟩
    case round =>
      obtain ⟨k, hk, rfl, hs⟩ := hrel
      by_cases hlt : k < eds.length
      · obtain ⟨ed, hed⟩ : ∃ ed, eds[k]? = some ed := ⟨_, List.getElem?_eq_getElem hlt⟩
        obtain ⟨fv, hfv⟩ : ∃ fv, fvs[k]? = some fv := ⟨_, List.getElem?_eq_getElem (by rw [HO10.out.len]; exact hlt)⟩
        have hrow := row_spoils HO10.out.row hs (by decide)
        obtain ⟨a0, a1, a2⟩ := edRow_at eds fvs k ed fv hed hfv
        have c0 : wr.cell? ⟨og, k * 3, none⟩ = some (.int .i64 ed.kind) := by rw [World.ownsRow.cellAt hrow (k * 3) (by omega)]; exact a0
        have c1 : wr.cell? ⟨og, k * 3 + 1, none⟩ = some (.int .i64 ed.id) := by rw [World.ownsRow.cellAt hrow (k * 3 + 1) (by omega)]; exact a1
        have c2 : wr.cell? ⟨og, k * 3 + 1 + 1, none⟩ = some fv := by rw [World.ownsRow.cellAt hrow (k * 3 + 1 + 1) (by omega)]; exact a2
        have hfr := HO.out.each k ed fv hed hfv
        obtain ⟨fa, fc, rfl, _⟩ : ∃ A c, fv = .slice A ed.fields.length c ∧ ed.fields.length ≤ c := own_slice hfr
        have hm := (LA.out.fines ed (List.mem_of_getElem? hed)).len
        have MP := ((mineP_of_own hfr (Nat.le_refl _)).below B610 (Nat.le_refl _)).spoils hs
        have SP : Hid (∀ o, Calls Tryz.prog 19 #[.slice fa ed.fields.length fc] (wr.alloc o) fun e w' => e = .returned (.tuple #[]) ∧ Spoils (fun r => w5.heap.size ≤ r ∧ r < w6.heap.size) (wr.alloc o) w') := fun o =>
          spoilP_any ed.fields.length _ _ _ (MP.below ((Below.refl wr.heap.size wr).alloc (Nat.le_refl _) o) (Nat.le_refl _)) (by omega)
        have HS := Lib.hid hs
        clear hrow a0 a1 a2 hfr MP hs hed hfv
        go_wp2_with fail
        refine (SP.out _).mono ?_
        rintro e w12 ⟨rfl, hs2⟩
        have HS2 := Lib.hid ((HS.out.alloc _).trans hs2)
        clear hs2 SP
        go_wp2_with fail
        go_roundw
        case rel => exact ⟨k + 1, hlt, by go_num, HS2.out⟩
        case measure => simp [intOf]; omega
      · have HS := Lib.hid hs
        have o11 := hs.only
        have k11 := hs.kept K10.out (by decide)
        have hB11 := B10.out
        have hq11 : EntsQ wr (.slice xa qs8.length xc) qs8 := ⟨row_spoils HQ10.out.row hs (by decide), fun p hp => (HQ10.out.each p hp).only o11 (fun hn b e q => by have := HQF8.out p hp hn b e; omega)⟩
        have hc11 := HC10.out.only o11 (fun r hr q => by have := HK1.out r hr; omega)
        have B11 : Hid (Below w.heap.size w wr) := B10.out.trans (hs.below (lo := w.heap.size) (fun r q => by have := B5.out.size; omega) B10.out.size)
        obtain ⟨qm1, qm2, qm3, qm4⟩ := q_of hc11 (by omega) HQE8.out
        have hsm := carry_small hc11
        have FACT : Hid (∀ W, Below wr.drew.heap.size wr.drew W → Calls Tryz.prog 24 #[.pointer (some ⟨lb1, 0, none⟩)] W (fun e w => ∃ v, e = .returned v ∧ (v = .string (B ((apartL ((lsOn l eds).es.map Prod.fst)).flatMap It.raw))) ∧ Below W.heap.size W w) ∧
            Calls Tryz.prog 25 #[.agg #[.slice xa qs8.length xc, .int .i64 (lsOn l eds).next]] W (fun e w => ∃ v, e = .returned v ∧ (v = .string (B ((apartL ((lsOn l eds).es.map Prod.fst)).flatMap It.raw))) ∧ Below W.heap.size W w) ∧
            Calls Tryz.prog 27 #[.pointer (some ⟨lb1, 0, none⟩)] W (fun e w => ∃ v, e = .returned v ∧ (Szs w v (szE (lsOn l eds).es)) ∧ Below W.heap.size W w) ∧
            Calls Tryz.prog 28 #[.agg #[.slice xa qs8.length xc, .int .i64 (lsOn l eds).next]] W (fun e w => ∃ v, e = .returned v ∧ (Szs w v (szE (lsOn l eds).es)) ∧ Below W.heap.size W w) ∧
            Calls Tryz.prog 29 #[.pointer (some ⟨lb1, 0, none⟩)] W (fun e w => ∃ v, e = .returned v ∧ (v = .int .i64 (lsOn l eds).next) ∧ Below W.heap.size W w) ∧
            W.cell? ⟨w8.heap.size, 0, none⟩ = some (.slice xa qs8.length xc) ∧ W.cell? ⟨w8.heap.size, 1, none⟩ = some (.int .i64 (lsOn l eds).next) ∧ Below wr.heap.size wr W) := fun W hW0 => by
          have hW : Below wr.heap.size wr W := ((Below.refl wr.heap.size wr).drew).trans hW0
          have hc := hc11.below hW (Nat.le_refl _)
          have hq := hq11.below hW (Nat.le_refl _)
          have kk := cells_kept k11 hW k11.lt
          refine ⟨(carry_text hc (by omega)).mono fun e w' ⟨he, b⟩ => ⟨_, he, rfl, b⟩, (refText7_any qs8 _ _ W hq qm1 qm2).mono fun e w' ⟨he, b⟩ => ⟨_, he, by rw [qm3], b⟩, carry_stanzas hc (by omega), (refStanzas7_any qs8 _ _ W hq qm1).mono fun e w' ⟨u, fvs, he, acc⟩ => ⟨u, he, by rw [← qm4]; exact acc.szs, acc.below⟩, (next_any lb1 ev1 ps1 _ W hc.la.lr ⟨by have := hc.ok.pos; omega, by have := hc.nx; omega⟩).mono fun e w' ⟨he, b⟩ => ⟨_, he, rfl, by rw [← b]; exact Below.refl _ _⟩, by rw [kk.cell]; rfl, by rw [kk.cell]; rfl, hW⟩
        have HSM := Lib.hid hsm
        clear hs o11 k11 hB11 hq11 hc11 qm1 qm2 qm3 qm4 hsm HS HC10 HQ10 HO10 K10 HQF8 HK1 HO
        go_wp2_with fail
        refine wp_region_any (by kernel_rfl) ?_
        refine region_edB _ wr.drew (.slice xa qs8.length xc) lb1 w8.heap.size (lsOn l eds).next (szE (lsOn l eds).es) (B ((apartL ((lsOn l eds).es.map Prod.fst)).flatMap It.raw)) _ rfl rfl rfl ?a1 ?a2 ?a3 ?a4 ?a5 ?a6 ?a7 ?a8
        case a1 => exact fun W hW => ⟨(FACT.out W hW).2.2.2.2.2.1, (FACT.out W hW).2.2.2.2.2.2.1⟩
        case a2 => exact fun W hW => (FACT.out W hW).1
        case a3 => exact fun W hW => (FACT.out W hW).2.1
        case a4 => exact fun W hW => (FACT.out W hW).2.2.1
        case a5 => exact fun W hW => (FACT.out W hW).2.2.2.1
        case a6 => exact fun W hW x hx y hy => cSame hx hy HSM.out.1 HSM.out.2
        case a7 => exact fun W hW => (FACT.out W hW).2.2.2.2.1
        case a8 =>
          intro y0 y1 y2 y3 y4 y5 y6 y7 y8 y9 y10 y11 y12 y13 y14 y15 y16 y17 y18 y19 w13 hb13 h19
          obtain rfl : y19 = .bool true := h19
          have B13 := Lib.hid (B11.out.trans (((FACT.out w13 hb13).2.2.2.2.2.2.2).mono B11.out.size))
          simp only [List.foldl_cons, List.foldl_nil, List.setIfInBounds_toArray, List.set_cons_zero, List.set_cons_succ]
          clear hb13 FACT
          go_wp2_with fail
          go_ret
          exact ⟨rfl, B13.out⟩
open Go.Maps Go.ChangeShapes Go.Joins Go.WideShapes in
set_option maxRecDepth 100000 in
theorem doesCall {H : Type} {enc : TypeId × Value → H} (s : ByteArray) (v1 : Value) (d1 : DataW H) (p1 : List MemPlace) (W : World) (hs : s.size ≤ maxLen) {b0 : Nat} (hval1 : Value.okWide Tryz.prog W .any b0 22 v1) {base1 : Nat} {sp1 : Nat → Bool} {held1 : Bool} (h1 : DataW.Trod enc Tryz.prog W base1 sp1 held1 22 v1 d1 p1) (hg : ErrT W) :
    Calls Tryz.prog 4 #[.string s, v1] W fun e w' => e = .returned (.bool true) ∧ Below W.heap.size W w' := by
  obtain ⟨n1, hn1⟩ := h1
  obtain ⟨ao, len, cap, rfl⟩ := okWide_slice Tryz.underlying22 hval1
  obtain ⟨as_, hr1⟩ := edits_in (v := .slice ao len cap) hn1
  exact doesLaw s hs as_ _ W hr1 hg
end Go.Proofs.YtflnlenkgbphpaaGreatDoor

