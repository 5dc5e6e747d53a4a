/- The law FoldTexts. -/
import Derived.Test.YtcakphfjeplnnaaDoorGB
namespace Go.Proofs.YtcakphfjeplnnaaDoor
open Go.RowKit Go.Shelf Go.Maps Go.ChangeShapes Go.Joins Go.WideShapes

attribute [local go_sem] errV_0
set_option maxRecDepth 100000 in
set_option maxHeartbeats 4000000 in
theorem textsLaw (fs : List (List UInt8 × List UInt8)) (v : Value) (w : World) (hs : FldsIn w v fs) :
    Calls Tryd.prog 4 #[v] w fun e w' => e = .returned (.bool true) ∧ Below w.heap.size w w' := by
  have MU := Lib.hid (fun w1 (h : Flds w1 v fs) => much_any fs v w1 h hs.len hs.each)
  have SI := Lib.hid hs.flds
  have NI := Lib.hid hs.nil
  obtain ⟨A, cap, hv, hle, _⟩ := hs.flds
  clear hs
  subst hv
  go_enter Tryd.func4, Tryd.ntmps4
  go_wp2_with fail
  refine (alive_any _).mono ?_
  rintro e w1 ⟨rfl, b1⟩
  have S1 := SI.out.below b1 (Nat.le_refl _)
  go_wp2_with fail
  refine (MU.out _ S1).mono ?_
  rintro e w2 ⟨⟨b, rfl, hb⟩, b2⟩
  have hb2 := b1.trans (b2.mono b1.size)
  cases b with
  | true =>
    clear hb
    go_wp2_with fail
    go_ret
    exact ⟨rfl, hb2⟩
  | false =>
    obtain ⟨hn, hl⟩ := hb rfl
    have hl2 : ∀ f ∈ fs, f.1.length ≤ 100000 ∧ f.2.length ≤ 100000 := fun f hf => by have := hl f hf; omega
    have S2 := S1.below b2 (Nat.le_refl _)
    have CO := Lib.hid (copies_any fs _ w2 S2 NI.out (by omega))
    have FO := Lib.hid (fun w' v' (h : Flds w' v' fs) => fold_any fs v' w' h (by omega) hl2)
    have RF := Lib.hid (fun w' v' (h : Flds w' v' fs) => refFold_any fs v' w' h (by omega) hl2)
    have SA := Lib.hid (fun w' v' v'' (h : Flds w' v' fs) (h' : Flds w' v'' fs) => fields_same fs v' v'' w' h h' (by omega))
    have HL := Lib.hid hl2
    have hfn := foldN_le fs
    have NM := Lib.hid (fun w => num_any (foldN fs) (by omega) w)
    have hS2 := Lib.hid S2
    clear hb b2 S1 MU SI NI hl hl2 S2
    go_wp2_with fail
    refine CO.out.mono ?_
    rintro e w3 ⟨cv, rfl, F3, b3⟩
    have S3 := hS2.out.below b3 (Nat.le_refl _)
    have hb3 := hb2.trans (b3.mono hb2.size)
    clear b3 CO hS2 hb2 b1
    go_wp2_with fail
    refine (FO.out _ _ F3).mono ?_
    rintro e w4 ⟨rfl, b4⟩
    have F4 := F3.below b4 (Nat.le_refl _)
    have S4 := S3.below b4 (Nat.le_refl _)
    have hb4 := hb3.trans (b4.mono hb3.size)
    clear b4 F3 S3 hb3 FO
    go_wp2_with fail
    refine (SA.out _ _ _ F4 S4).mono ?_
    rintro e w5 ⟨rfl, b5⟩
    have S5 := S4.below b5 (Nat.le_refl _)
    have hb5 := hb4.trans (b5.mono hb4.size)
    clear b5 F4 S4 hb4 SA
    obtain ⟨A2, cap2, hv2, _, hc5⟩ := S5
    cases hv2
    have PC := Lib.hid hc5
    have S5H : Hid (Flds w5 (.slice A fs.length cap) fs) := ⟨A, cap, rfl, hle, hc5⟩
    clear hc5
    go_wp2_with fail
    go_loopw [26] (fun i wr => ∃ k : Nat, k ≤ fs.length ∧ i = .int .i64 k ∧ foldN fs = foldN (fs.drop k) ∧ Below w5.heap.size w5 wr) (fun i _ => fs.length - (intOf i).toNat)
    case atStart => exact ⟨0, Nat.zero_le _, rfl, rfl, Below.refl _ _⟩
    case round =>
      obtain ⟨k, hk, rfl, hN, hbl⟩ := hrel
      by_cases hlt : k < fs.length
      · obtain ⟨f, hf⟩ : ∃ f, fs[k]? = some f := ⟨_, List.getElem?_eq_getElem hlt⟩
        obtain ⟨b, off, rfl, hbb, c0, c1⟩ := PC.out k f hf
        replace c0 := (hbl.cell (p := ⟨b, off + k * 2, none⟩) hbb).trans c0
        replace c1 := (hbl.cell (p := ⟨b, off + k * 2 + 1, none⟩) hbb).trans c1
        obtain ⟨l1, l2⟩ := HL.out f (List.mem_of_getElem? hf)
        have hdrop : fs.drop k = f :: fs.drop (k + 1) := by
          rw [List.drop_eq_getElem_cons hlt]
          rw [List.getElem?_eq_getElem hlt] at hf
          rw [Option.some.inj hf]
        rw [hdrop] at hN
        have RC := fun w => refCheck_any f.1 f.2 (by omega) (by omega) w
        unfold fieldV at RC
        have hba := hbl.alloc hbl.size (.cells #[.string (B f.1), .string (B f.2)] 23)
        have hcl := checkN_le f.1 f.2
        by_cases hck : checkN f.1 f.2 = 0
        · have G2 : Hid (foldN fs = foldN (fs.drop (k + 1))) := by
            show _ = _
            rw [hN]; show (if checkN f.1 f.2 = 0 then foldN (fs.drop (k + 1)) else _) = _; rw [if_pos hck]
          rw [hck] at RC
          clear hN hdrop hf hck hcl
          generalize B f.1 = X at *
          generalize B f.2 = Y at *
          go_wp2_with fail
          refine (RC _).mono ?_
          rintro e w6 ⟨rfl, b6⟩
          have hb6 := hba.trans (b6.mono hba.size)
          go_wp2_with fail
          go_roundw
          case rel => exact ⟨k + 1, hlt, by go_num, G2.out, hb6⟩
          case measure => simp [intOf]; omega
        · have hfn2 : foldN fs = checkN f.1 f.2 := by
            rw [hN]; show (if checkN f.1 f.2 = 0 then foldN (fs.drop (k + 1)) else _) = _; rw [if_neg hck]
          have hft : foldT fs = [] := by unfold foldT; rw [hfn2, if_neg hck]
          have NM2 := NM.out
          rw [hfn2] at NM2 ⊢
          rw [hft, show B [] = ⟨#[]⟩ from rfl]
          have hki : ((checkN f.1 f.2 : Int) != 0) = true := by simp; omega
          clear hN hdrop hf hck hcl hfn2 hft hfn NM
          generalize errV (checkN f.1 f.2) = ev at *
          generalize checkN f.1 f.2 = cn at *
          generalize B f.1 = X at *
          generalize B f.2 = Y at *
          go_wp2_with fail
          refine (RC _).mono ?_
          rintro e w6 ⟨rfl, b6⟩
          have hb6 := hba.trans (b6.mono hba.size)
          go_wp2_with (first | (go_at_call 11; refine (NM2 _).mono ?_; rintro e w7 ⟨rfl, rfl⟩))
          go_ret
          exact ⟨by simp, hb5.trans (hb6.mono hb5.size)⟩
      · obtain rfl : k = fs.length := by omega
        rw [List.drop_length] at hN
        have h0 : foldN fs = 0 := hN
        have hft : foldT fs = foldG fs := by unfold foldT; rw [if_pos h0]
        have R2 := RF.out _ _ (S5H.out.below hbl (Nat.le_refl _))
        rw [h0, hft, errV_0]
        have RH := Lib.hid R2
        clear hN h0 hft R2 RF S5H PC HL
        generalize B (foldG fs) = T at *
        go_wp2_with fail
        refine RH.out.mono ?_
        rintro e w6 ⟨rfl, b6⟩
        go_wp2_with fail
        go_ret
        exact ⟨by simp, (hb5.trans (hbl.mono hb5.size)).trans (b6.mono (by have := hb5.size; have := hbl.size; omega))⟩
theorem cells2 {cs : List Value} (h : cs.length = 2) : ∃ c0 c1, cs = [c0, c1] := by
  match cs, h with
  | [c0, c1], _ => exact ⟨_, _, rfl⟩
set_option maxRecDepth 100000 in
theorem fld_in {H : Type} {enc : TypeId × Value → H} {W : World} {base : Nat} {sp : Nat → Bool} {held : Bool} {fuel : Nat} {cs : List Value} {x : DataW H × List MemPlace} (h : DataW.trod enc Tryd.prog W base sp held fuel 23 cs = some x) :
    ∃ f : List UInt8 × List UInt8, cs = [.string (B f.1), .string (B f.2)] ∧ f.1.length ≤ maxLen ∧ f.2.length ≤ maxLen := by
  obtain ⟨xs, m, _, _, hl, hxl, hf⟩ := DataW.trod_struct Tryd.underlying23 h
  have hl2 : cs.length = 2 := hl.trans (by kernel_rfl)
  obtain ⟨c0, c1, rfl⟩ := cells2 hl2
  have k9 : Tryd.prog.cellsOf 9 = 1 := by kernel_rfl
  have hx : ∀ i, i < 2 → ∃ y, xs[i]? = some y := fun i hi => ⟨_, List.getElem?_eq_getElem (by rw [hxl]; exact hi)⟩
  obtain ⟨y0, e0⟩ := hx 0 (by decide)
  obtain ⟨y1, e1⟩ := hx 1 (by decide)
  have q0 : DataW.trod enc Tryd.prog W base sp held m 9 (List.take (Tryd.prog.cellsOf 9) [c0, c1]) = _ := hf 0 _ rfl
  have q1 : DataW.trod enc Tryd.prog W base sp held m 9 (List.take (Tryd.prog.cellsOf 9) [c1]) = _ := hf 1 _ rfl
  rw [k9, e0] at q0
  rw [k9, e1] at q1
  obtain ⟨s, f0, _, w0⟩ := DataW.trod_string Tryd.underlying9 q0
  obtain ⟨t, f1, _, w1⟩ := DataW.trod_string Tryd.underlying9 q1
  simp at f0 f1
  subst f0 f1
  exact ⟨(s.data.toList, t.data.toList), by rw [B_of, B_of], by rw [← Lib.size_eq]; exact w0, by rw [← Lib.size_eq]; exact w1⟩
set_option maxRecDepth 100000 in
theorem flds_in {H : Type} {enc : TypeId × Value → H} {W : World} {base : Nat} {sp : Nat → Bool} {held : Bool} {fuel : Nat} {v : Value} {x : DataW H × List MemPlace} (h : DataW.trod enc Tryd.prog W base sp held fuel 39 [v] = some x) :
    ∃ fs, FldsIn W v fs := by
  rcases DataW.trod_slice Tryd.underlying39 h with ⟨e, _⟩ | ⟨a, len, cap, elems, rest, n, _, e, _, _, hl, hm, hlen, hel, _, _⟩
  · obtain rfl : v = .slice none 0 0 := by simpa using e
    exact ⟨[], ⟨⟨none, 0, rfl, Nat.le_refl _, fun i f h => by simp at h⟩, fun n c h => by cases h; rfl, Nat.zero_le _, fun f hf => by cases hf⟩⟩
  · obtain rfl : v = .slice (some a) len cap := by simpa using e
    have k2 : Tryd.prog.cellsOf 23 = 2 := by kernel_rfl
    have each : ∀ i, i < len → ∃ f : List UInt8 × List UInt8, (∃ b off, a = ⟨b, off, none⟩ ∧ b < W.heap.size ∧ W.cell? ⟨b, off + i * 2, none⟩ = some (.string (B f.1)) ∧ W.cell? ⟨b, off + i * 2 + 1, none⟩ = some (.string (B f.2))) ∧ f.1.length ≤ maxLen ∧ f.2.length ≤ maxLen := by
      intro i hi
      have h1 := hel i hi
      rw [k2, List.getElem?_eq_getElem (by omega)] at h1
      obtain ⟨cs, hc, ht⟩ := Option.bind_eq_some_iff.1 h1
      obtain ⟨f, rfl, hf1, hf2⟩ := fld_in ht
      obtain ⟨_, _, hat⟩ := World.cells?_some hc
      have c0 := hat 0 (by decide)
      have c1 := hat 1 (by decide)
      obtain ⟨b, off, spot⟩ := a
      have hspot : spot = none := by
        have h2 := hel 0 (by omega)
        rw [k2, List.getElem?_eq_getElem (by omega)] at h2
        obtain ⟨cs', hc', ht'⟩ := Option.bind_eq_some_iff.1 h2
        obtain ⟨f', rfl, _⟩ := fld_in ht'
        obtain ⟨_, hlen', hat'⟩ := World.cells?_some hc'
        have := World.cell?_spot (hat' 0 (by decide))
        simpa [Addr.add] using this
      subst hspot
      rw [WideShapes.add_plain] at c0 c1
      exact ⟨f, ⟨b, off, rfl, World.block_lt_of_cell? W _ c0, c0, c1⟩, hf1, hf2⟩
    have : ∃ g : Nat → List UInt8 × List UInt8, ∀ i, i < len → (∃ b off, a = ⟨b, off, none⟩ ∧ b < W.heap.size ∧ W.cell? ⟨b, off + i * 2, none⟩ = some (.string (B (g i).1)) ∧ W.cell? ⟨b, off + i * 2 + 1, none⟩ = some (.string (B (g i).2))) ∧ (g i).1.length ≤ maxLen ∧ (g i).2.length ≤ maxLen := by
      refine ⟨fun i => if h : i < len then (each i h).choose else ([], []), fun i hi => ?_⟩
      simp only [dif_pos hi]
      exact (each i hi).choose_spec
    obtain ⟨g, hg⟩ := this
    have hll : ((List.range len).map g).length = len := by simp
    refine ⟨(List.range len).map g, ⟨⟨some a, cap, by rw [hll], by rw [hll]; exact hl, fun i f hf => ?_⟩, (fun n c h => by cases h), by rw [hll]; omega, fun f hf => ?_⟩⟩
    · have hi : i < len := by
        rcases Nat.lt_or_ge i len with q | q
        · exact q
        · rw [List.getElem?_eq_none (by rw [hll]; exact q)] at hf; cases hf
      have e : f = g i := by
        rw [List.getElem?_map, List.getElem?_range hi] at hf
        exact (Option.some.inj hf).symm
      subst e
      obtain ⟨b, off, ea, hb, c0, c1⟩ := (hg i hi).1
      exact ⟨b, off, by rw [ea], hb, c0, c1⟩
    · obtain ⟨i, hi, rfl⟩ := List.mem_map.1 hf
      exact (hg i (List.mem_range.1 hi)).2
set_option maxRecDepth 100000 in
theorem textsCall {H : Type} {enc : TypeId × Value → H} (v : Value) (d : DataW H) (p : List MemPlace) (W : World) {b0 : Nat} (hval : Value.okWide Tryd.prog W .any b0 39 v) {base : Nat} {sp : Nat → Bool} {held : Bool} (h : DataW.Trod enc Tryd.prog W base sp held 39 v d p) :
    Calls Tryd.prog 4 #[v] W fun e w' => e = .returned (.bool true) ∧ Below W.heap.size W w' := by
  obtain ⟨n, hn⟩ := h
  obtain ⟨ao, len, cap, rfl⟩ := okWide_slice Tryd.underlying39 hval
  obtain ⟨fs, hs⟩ := flds_in (v := .slice ao len cap) hn
  exact textsLaw fs _ W hs
end Go.Proofs.YtcakphfjeplnnaaDoor
