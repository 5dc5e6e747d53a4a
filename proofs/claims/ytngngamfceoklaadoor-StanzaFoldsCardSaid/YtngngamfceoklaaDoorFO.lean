/- Fold. -/
import Derived.Test.YtngngamfceoklaaDoorFN
namespace Go.Proofs.YtngngamfceoklaaDoor
open Go.RowKit Go.Shelf

attribute [local go_sem] errV_0
set_option maxRecDepth 100000 in
set_option maxHeartbeats 4000000 in
theorem fold_any (fs : List (List UInt8 × List UInt8)) (v : Value) (w : World) (hs : Flds w v fs) (hn : fs.length ≤ 1000) (hl : ∀ f ∈ fs, f.1.length ≤ 100000 ∧ f.2.length ≤ 100000) :
    Calls Tryd.prog 24 #[v] w fun e w' => e = .returned (.tuple #[.string (B (foldT fs)), errV (foldN fs)]) ∧ Below w.heap.size w w' := by
  obtain ⟨A, cap, rfl, hle, hc⟩ := hs
  have PC := Lib.hid hc
  clear hc
  have B0 := Bld.new w (w.heap.size + 1)
  go_enter Tryd.func24, Tryd.ntmps24
  go_wp2_with fail
  go_loopw [13] (fun i wr => ∃ k : Nat, k ≤ fs.length ∧ i = .int .i64 k ∧ foldN fs = foldN (fs.drop k) ∧ Bld w.heap.size (w.heap.size + 1) (foldG (fs.take k)) wr ∧ (foldG (fs.take k)).length ≤ 4000 * k ∧ Below w.heap.size w wr) (fun i _ => fs.length - (intOf i).toNat)
  case atStart => exact ⟨0, Nat.zero_le _, rfl, rfl, B0, Nat.le_refl _, (Below.refl _ _).alloc (Nat.le_refl _) _⟩
  case round =>
    obtain ⟨k, hk, rfl, hN, hbl, hle4, hb⟩ := hrel
    by_cases hlt : k < fs.length
    · obtain ⟨f, hf⟩ : ∃ f, fs[k]? = some f := ⟨_, List.getElem?_eq_getElem hlt⟩
      obtain ⟨b, off, rfl, hbb, c0, c1⟩ := PC.out k f hf
      replace c0 := (hb.cell (p := ⟨b, off + k * 2, none⟩) hbb).trans c0
      replace c1 := (hb.cell (p := ⟨b, off + k * 2 + 1, none⟩) hbb).trans c1
      obtain ⟨hl1, hl2⟩ := hl f (List.mem_of_getElem? hf)
      have hdrop : fs.drop k = f :: fs.drop (k + 1) := by
        rw [List.drop_eq_getElem_cons hlt]
        rw [List.getElem?_eq_getElem hlt] at hf
        rw [Option.some.inj hf]
      have htake : fs.take (k + 1) = fs.take k ++ [f] := by rw [List.take_add_one, hf]; rfl
      rw [hdrop] at hN
      have NH := Lib.hid hN
      have TH := Lib.hid htake
      have hs1 := hb.size
      have hbs := hbl.lt
      have HB := Lib.hid (hbl.alloc (.cells #[.string (B f.1), .string (B f.2)] 73))
      have hba := hb.alloc hs1 (.cells #[.string (B f.1), .string (B f.2)] 73)
      by_cases hck : checkN f.1 f.2 = 0
      · have LG := fun w => lines_own f.1 f.2 hl1 hl2 w hck
        clear hdrop htake hN hf
        unfold fieldV at LG
        go_wp2_with fail
        refine (LG _).mono ?_
        rintro e w2 ⟨sv, base, rfl, hown, b2⟩
        have hb2 := hba.trans (b2.mono (by simp; omega))
        have hbl2 := HB.out.kept b2 (Nat.le_refl _)
        have htl := text_le hck
        have hm1 : 1 ≤ (linesL f.1 f.2).length := by rw [linesL_len]; omega
        have hm2 : (linesL f.1 f.2).length ≤ 4000 := by rw [textL_len] at htl; omega
        have G1 : Hid (foldG (fs.take (k + 1)) = foldG (fs.take k) ++ textL (linesL f.1 f.2)) := by
          show _ = _
          rw [TH.out, foldG_snoc]
        have G2 : Hid (foldN fs = foldN (fs.drop (k + 1))) := by
          show _ = _
          rw [NH.out]; show (if checkN f.1 f.2 = 0 then foldN (fs.drop (k + 1)) else _) = _; rw [if_pos hck]
        clear HB b2 hba LG hbl hb c0 c1 TH NH hck
        obtain ⟨g, cap', rfl⟩ := Joins.ownsRow_form hown (by simp; omega)
        rw [List.length_map] at hown ⊢
        generalize linesL f.1 f.2 = ls at *
        generalize foldG (fs.take k) = pre at *
        go_wp2_with fail
        go_loopw [27] (fun i wq => ∃ j : Nat, j ≤ ls.length ∧ i = .int .i64 j ∧ Bld w.heap.size (w.heap.size + 1) (pre ++ textL (ls.take j)) wq ∧ wq.ownsRow base 9 1 (.slice (some ⟨g, 0, none⟩) ls.length cap') ls.length ((ls.map B).map Value.string) ∧ Below w.heap.size w wq) (fun i _ => ls.length - (intOf i).toNat)
        case atStart => exact ⟨0, Nat.zero_le _, rfl, by simpa [textL] using hbl2, by simpa [OwnS] using hown, hb2⟩
        case round =>
          obtain ⟨j, hj, rfl, hblj, hownj, hbj⟩ := hrel
          have hsj := hbj.size
          by_cases hjl : j < ls.length
          · obtain ⟨x, hx⟩ : ∃ x, ls[j]? = some x := ⟨_, List.getElem?_eq_getElem hjl⟩
            have hcx := hownj.cellAt j (by omega)
            rw [List.getElem?_map, List.getElem?_map, hx] at hcx
            simp only [Option.map_some] at hcx
            have T1 : Hid (textL (ls.take (j + 1)) = (textL (ls.take j) ++ x) ++ [10]) := by
              show _ = _
              rw [List.take_add_one, hx]; exact textL_snoc _ _
            have t1 := textL_take ls (j + 1)
            rw [T1.out, List.length_append, List.length_append] at t1
            simp only [List.length_singleton] at t1
            have hlj := hblj.lt
            clear hx
            go_wp2_with fail
            refine (writes w.heap.size (w.heap.size + 1) _ (B x) wr hblj (by omega) (by omega) (by rw [B_size, List.length_append]; omega)).mono ?_
            rintro e w5 ⟨rfl, hbl5, hw5⟩
            obtain ⟨cs, hcs⟩ := hblj.cells
            have hownS : OwnS wr base (.slice (some ⟨g, 0, none⟩) ls.length cap') (ls.map B) := by unfold OwnS; rw [List.length_map]; exact hownj
            have hown5 := hownS.wrote hw5 hcs
            have hb5 := hbj.trans (hw5.below (Nat.le_refl _) (by omega) hsj)
            rw [B_data] at hbl5
            have hs5 := hb5.size
            have hl5 := hbl5.lt
            clear hw5 hownS hownj hblj hcs hbj hcx
            go_wp2_with fail
            refine (writes w.heap.size (w.heap.size + 1) _ ⟨#[10]⟩ w5 hbl5 (by omega) (by omega) (by simp only [List.length_append]; show _ + 1 ≤ _; omega)).mono ?_
            rintro e w6 ⟨rfl, hbl6, hw6⟩
            obtain ⟨cs, hcs⟩ := hbl5.cells
            have hown6 := hown5.wrote hw6 hcs
            have hb6 := hb5.trans (hw6.below (Nat.le_refl _) (by omega) hs5)
            clear hw6 hown5 hbl5 hcs hb5
            go_wp2_with fail
            go_roundw
            case rel =>
              refine ⟨j + 1, hjl, by go_num, ?_, ?_, hb6⟩
              · rw [T1.out, ← List.append_assoc, ← List.append_assoc]; exact hbl6
              · unfold OwnS at hown6; rw [List.length_map] at hown6; exact hown6
            case measure => simp [intOf]; omega
          · obtain rfl : j = ls.length := by omega
            rw [List.take_length] at hblj
            go_wp2_with fail
            go_roundw
            case rel =>
              refine ⟨k + 1, hlt, by go_num, G2.out, by rw [G1.out]; exact hblj, ?_, hbj⟩
              rw [G1.out, List.length_append]; omega
            case measure => simp [intOf]; omega
      · have LB := fun w => lines_bad f.1 f.2 hl1 hl2 w hck
        have hfn : foldN fs = checkN f.1 f.2 := by rw [NH.out]; unfold foldN; rw [if_neg hck]
        have hft : foldT fs = [] := by unfold foldT; rw [hfn, if_neg hck]
        rw [errV_pos _ (Nat.pos_of_ne_zero hck)] at LB
        have hev : errV (foldN fs) = .iface 39 (.int .i64 (checkN f.1 f.2 : Int)) := by rw [hfn, errV_pos _ (Nat.pos_of_ne_zero hck)]
        have FTH := Lib.hid hft
        have FNH := Lib.hid hev
        clear hdrop htake hN hf hfn hft NH hck hev
        generalize checkN f.1 f.2 = cn at *
        unfold fieldV at LB
        go_wp2_with fail
        refine (LB _).mono ?_
        rintro e w2 ⟨rfl, b2⟩
        have hb2 := hba.trans (b2.mono (by simp; omega))
        clear b2 LB
        go_wp2_with fail
        go_ret2
        exact ⟨by rw [FNH.out, FTH.out]; rfl, hb2⟩
    · obtain rfl : k = fs.length := by omega
      rw [List.take_length] at hbl
      rw [List.drop_length] at hN
      have h0 : foldN fs = 0 := hN
      have hft : foldT fs = foldG fs := by unfold foldT; rw [if_pos h0]
      have FTH := Lib.hid hft
      have FNH := Lib.hid h0
      have hbs := hbl.lt
      clear hN h0 hft PC hle4
      go_wp2_with fail
      refine (Tryd.Builder_String_any_k w.heap.size w.heap.size _ wr (hbl.library (Nat.le_refl _) (by omega)) (by omega)).mono ?_
      rintro e w5 ⟨rfl, _, b5, _⟩
      go_wp2_with fail
      go_ret2
      exact ⟨by rw [FTH.out, FNH.out]; rfl, hb.trans b5⟩
end Go.Proofs.YtngngamfceoklaaDoor
