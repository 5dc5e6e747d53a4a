/- Texts put together: FO, TB, TC, FP, FQ, FR, TD, TE, TL, UA, UK, UB, UC, UD, UE, TG, TJ, UF, RI, RQ, RK, QI, QJ, UG, UH, UI, UJ, UL, TM. -/
import Derived.Deep.RegionHeld3
import Derived.WalkKit
import Derived.Orders
import Derived.Sort.BigQuietIn
import Derived.Shelf.RegionOpen
import Derived.Shelf.Spec.SlicesInsertGrow
import Derived.ArgAppend
import Derived.Test.YtgaooalckjjplaaGreatDoorBfa5
import Derived.Test.YtgaooalckjjplaaGreatDoorBfa7
import Derived.Test.YtgaooalckjjplaaGreatDoorBfa8
import Derived.Test.YtgaooalckjjplaaGreatDoorBfa9
import Derived.Test.YtgaooalckjjplaaGreatDoorBfa12
set_option linter.unusedVariables false
namespace Go.Proofs.YtgaooalckjjplaaGreatDoor
open Go.RowKit Go.Shelf

attribute [local go_sem] errV_0
set_option maxRecDepth 100000 in
set_option maxHeartbeats 4000000 in
theorem fold_any (fs : List (List UInt8 × List UInt8)) (v : Value) (w : World) (hs : Flds w v fs) (hn : fs.length ≤ 1000) (hl : ∀ f ∈ fs, f.1.length ≤ 100000 ∧ f.2.length ≤ 100000) :
    Calls Tryz.prog 55 #[v] w fun e w' => e = .returned (.tuple #[.string (B (foldT fs)), errV (foldN fs)]) ∧ Below w.heap.size w w' := by
  obtain ⟨A, cap, rfl, hle, hc⟩ := hs
  have PC := Lib.hid hc
  clear hc
  have B0 := Bld.new w (w.heap.size + 1)
  go_enter Tryz.func55, Tryz.ntmps55
  go_wp2_with fail
  go_loopw [13] (fun i wr => ∃ k : Nat, k ≤ fs.length ∧ i = .int .i64 k ∧ foldN fs = foldN (fs.drop k) ∧ Bld w.heap.size (w.heap.size + 1) (foldG (fs.take k)) wr ∧ (foldG (fs.take k)).length ≤ 4000 * k ∧ Below w.heap.size w wr) (fun i _ => fs.length - (intOf i).toNat)
  case atStart => exact ⟨0, Nat.zero_le _, rfl, rfl, B0, Nat.le_refl _, (Below.refl _ _).alloc (Nat.le_refl _) _⟩
  case round =>
    obtain ⟨k, hk, rfl, hN, hbl, hle4, hb⟩ := hrel
    by_cases hlt : k < fs.length
    · obtain ⟨f, hf⟩ : ∃ f, fs[k]? = some f := ⟨_, List.getElem?_eq_getElem hlt⟩
      obtain ⟨b, off, rfl, hbb, c0, c1⟩ := PC.out k f hf
      replace c0 := (hb.cell (p := ⟨b, off + k * 2, none⟩) hbb).trans c0
      replace c1 := (hb.cell (p := ⟨b, off + k * 2 + 1, none⟩) hbb).trans c1
      obtain ⟨hl1, hl2⟩ := hl f (List.mem_of_getElem? hf)
      have hdrop : fs.drop k = f :: fs.drop (k + 1) := by
        rw [List.drop_eq_getElem_cons hlt]
        rw [List.getElem?_eq_getElem hlt] at hf
        rw [Option.some.inj hf]
      have htake : fs.take (k + 1) = fs.take k ++ [f] := by rw [List.take_add_one, hf]; rfl
      rw [hdrop] at hN
      have NH := Lib.hid hN
      have TH := Lib.hid htake
      have hs1 := hb.size
      have hbs := hbl.lt
      have HB := Lib.hid (hbl.alloc (.cells #[.string (B f.1), .string (B f.2)] 66))
      have hba := hb.alloc hs1 (.cells #[.string (B f.1), .string (B f.2)] 66)
      by_cases hck : checkN f.1 f.2 = 0
      · have LG := fun w => lines_own f.1 f.2 hl1 hl2 w hck
        clear hdrop htake hN hf
        unfold fieldV at LG
        go_wp2_with fail
        refine (LG _).mono ?_
        rintro e w2 ⟨sv, base, rfl, hown, b2⟩
        have hb2 := hba.trans (b2.mono (by simp; omega))
        have hbl2 := HB.out.kept b2 (Nat.le_refl _)
        have htl := text_le hck
        have hm1 : 1 ≤ (linesL f.1 f.2).length := by rw [linesL_len]; omega
        have hm2 : (linesL f.1 f.2).length ≤ 4000 := by rw [textL_len] at htl; omega
        have G1 : Hid (foldG (fs.take (k + 1)) = foldG (fs.take k) ++ textL (linesL f.1 f.2)) := by
          show _ = _
          rw [TH.out, foldG_snoc]
        have G2 : Hid (foldN fs = foldN (fs.drop (k + 1))) := by
          show _ = _
          rw [NH.out]; show (if checkN f.1 f.2 = 0 then foldN (fs.drop (k + 1)) else _) = _; rw [if_pos hck]
        clear HB b2 hba LG hbl hb c0 c1 TH NH hck
        obtain ⟨g, cap', rfl⟩ := Joins.ownsRow_form hown (by simp; omega)
        rw [List.length_map] at hown ⊢
        generalize linesL f.1 f.2 = ls at *
        generalize foldG (fs.take k) = pre at *
        go_wp2_with fail
        go_loopw [27] (fun i wq => ∃ j : Nat, j ≤ ls.length ∧ i = .int .i64 j ∧ Bld w.heap.size (w.heap.size + 1) (pre ++ textL (ls.take j)) wq ∧ wq.ownsRow base 9 1 (.slice (some ⟨g, 0, none⟩) ls.length cap') ls.length ((ls.map B).map Value.string) ∧ Below w.heap.size w wq) (fun i _ => ls.length - (intOf i).toNat)
        case atStart => exact ⟨0, Nat.zero_le _, rfl, by simpa [textL] using hbl2, by simpa [OwnS] using hown, hb2⟩
        case round =>
          obtain ⟨j, hj, rfl, hblj, hownj, hbj⟩ := hrel
          have hsj := hbj.size
          by_cases hjl : j < ls.length
          · obtain ⟨x, hx⟩ : ∃ x, ls[j]? = some x := ⟨_, List.getElem?_eq_getElem hjl⟩
            have hcx := hownj.cellAt j (by omega)
            rw [List.getElem?_map, List.getElem?_map, hx] at hcx
            simp only [Option.map_some] at hcx
            have T1 : Hid (textL (ls.take (j + 1)) = (textL (ls.take j) ++ x) ++ [10]) := by
              show _ = _
              rw [List.take_add_one, hx]; exact textL_snoc _ _
            have t1 := textL_take ls (j + 1)
            rw [T1.out, List.length_append, List.length_append] at t1
            simp only [List.length_singleton] at t1
            have hlj := hblj.lt
            clear hx
            go_wp2_with fail
            refine (writes w.heap.size (w.heap.size + 1) _ (B x) wr hblj (by omega) (by omega) (by rw [B_size, List.length_append]; omega)).mono ?_
            rintro e w5 ⟨rfl, hbl5, hw5⟩
            obtain ⟨cs, hcs⟩ := hblj.cells
            have hownS : OwnS wr base (.slice (some ⟨g, 0, none⟩) ls.length cap') (ls.map B) := by unfold OwnS; rw [List.length_map]; exact hownj
            have hown5 := hownS.wrote hw5 hcs
            have hb5 := hbj.trans (hw5.below (Nat.le_refl _) (by omega) hsj)
            rw [B_data] at hbl5
            have hs5 := hb5.size
            have hl5 := hbl5.lt
            clear hw5 hownS hownj hblj hcs hbj hcx
            go_wp2_with fail
            refine (writes w.heap.size (w.heap.size + 1) _ ⟨#[10]⟩ w5 hbl5 (by omega) (by omega) (by simp only [List.length_append]; show _ + 1 ≤ _; omega)).mono ?_
            rintro e w6 ⟨rfl, hbl6, hw6⟩
            obtain ⟨cs, hcs⟩ := hbl5.cells
            have hown6 := hown5.wrote hw6 hcs
            have hb6 := hb5.trans (hw6.below (Nat.le_refl _) (by omega) hs5)
            clear hw6 hown5 hbl5 hcs hb5
            go_wp2_with fail
            go_roundw
            case rel =>
              refine ⟨j + 1, hjl, by go_num, ?_, ?_, hb6⟩
              · rw [T1.out, ← List.append_assoc, ← List.append_assoc]; exact hbl6
              · unfold OwnS at hown6; rw [List.length_map] at hown6; exact hown6
            case measure => simp [intOf]; omega
          · obtain rfl : j = ls.length := by omega
            rw [List.take_length] at hblj
            go_wp2_with fail
            go_roundw
            case rel =>
              refine ⟨k + 1, hlt, by go_num, G2.out, by rw [G1.out]; exact hblj, ?_, hbj⟩
              rw [G1.out, List.length_append]; omega
            case measure => simp [intOf]; omega
      · have LB := fun w => lines_bad f.1 f.2 hl1 hl2 w hck
        have hfn : foldN fs = checkN f.1 f.2 := by rw [NH.out]; unfold foldN; rw [if_neg hck]
        have hft : foldT fs = [] := by unfold foldT; rw [hfn, if_neg hck]
        rw [errV_pos _ (Nat.pos_of_ne_zero hck)] at LB
        have hev : errV (foldN fs) = .iface 54 (.int .i64 (checkN f.1 f.2 : Int)) := by rw [hfn, errV_pos _ (Nat.pos_of_ne_zero hck)]
        have FTH := Lib.hid hft
        have FNH := Lib.hid hev
        clear hdrop htake hN hf hfn hft NH hck hev
        generalize checkN f.1 f.2 = cn at *
        unfold fieldV at LB
        go_wp2_with fail
        refine (LB _).mono ?_
        rintro e w2 ⟨rfl, b2⟩
        have hb2 := hba.trans (b2.mono (by simp; omega))
        clear b2 LB
        go_wp2_with fail
        go_ret2
        exact ⟨by rw [FNH.out, FTH.out]; rfl, hb2⟩
    · obtain rfl : k = fs.length := by omega
      rw [List.take_length] at hbl
      rw [List.drop_length] at hN
      have h0 : foldN fs = 0 := hN
      have hft : foldT fs = foldG fs := by unfold foldT; rw [if_pos h0]
      have FTH := Lib.hid hft
      have FNH := Lib.hid h0
      have hbs := hbl.lt
      clear hN h0 hft PC hle4
      go_wp2_with fail
      refine (Tryz.Builder_String_any_k w.heap.size w.heap.size _ wr (hbl.library (Nat.le_refl _) (by omega)) (by omega)).mono ?_
      rintro e w5 ⟨rfl, _, b5, _⟩
      go_wp2_with fail
      go_ret2
      exact ⟨by rw [FTH.out, FNH.out]; rfl, hb.trans b5⟩
end Go.Proofs.YtgaooalckjjplaaGreatDoor

namespace Go.Proofs.YtgaooalckjjplaaGreatDoor
open Go.RowKit Go.Shelf

/-- The first field that isn't good. -/
def badAt : List Fld → Nat
  | [] => 0
  | f :: r => if checkN f.1 f.2 = 0 then badAt r + 1 else 0
def chkN (fs : List Fld) : Nat := if fs.length = 0 then 2 else if 40 < fs.length then 11 else foldN fs
def bare (fs : List Fld) : Prop := fs.length = 0 ∨ 40 < fs.length ∨ foldN fs = 0
instance (fs : List Fld) : Decidable (bare fs) := by unfold bare; infer_instance
def chkAt (fs : List Fld) : Int := if bare fs then -9 else (badAt fs : Nat)
/-- Check's answer, in memory. -/
def ChkV (lo : Nat) (w : World) (u : Value) (fs : List Fld) : Prop := if bare fs then u = errV (chkN fs) else FaultAt lo w u (badAt fs) (foldN fs)
theorem chkN_le (fs : List Fld) : chkN fs ≤ 11 := by
  unfold chkN
  have := foldN_le fs
  split
  · decide
  · split
    · decide
    · omega
theorem chkN_zero {fs : List Fld} (h : chkN fs = 0) : fs.length ≠ 0 ∧ fs.length ≤ 40 ∧ foldN fs = 0 := by
  unfold chkN at h
  split at h
  · cases h
  · split at h
    · cases h
    · exact ⟨by assumption, by omega, h⟩
theorem ChkV.zero {lo : Nat} {w : World} {u : Value} {fs : List Fld} (h : ChkV lo w u fs) (h0 : chkN fs = 0) : u = .nilIface := by
  obtain ⟨_, _, c⟩ := chkN_zero h0
  unfold ChkV at h
  rw [if_pos (.inr (.inr c)), h0] at h
  exact h
theorem ChkV.pos {lo : Nat} {w : World} {u : Value} {fs : List Fld} (h : ChkV lo w u fs) (h0 : chkN fs ≠ 0) : u = .iface 54 (.int .i64 (chkN fs : Nat)) ∨ ∃ q, u = .iface 82 (.pointer q) := by
  unfold ChkV at h
  split at h
  · rw [errV_pos _ (by omega)] at h; exact .inl h
  · obtain ⟨q, _, e, _⟩ := h; exact .inr ⟨_, e⟩
theorem ChkV.below {lo : Nat} {w w' : World} {u : Value} {fs : List Fld} {N : Nat} (h : ChkV lo w u fs) (hb : Below N w w') (hN : w.heap.size ≤ N) : ChkV lo w' u fs := by
  unfold ChkV at h ⊢
  split
  · rename_i hx; rw [if_pos hx] at h; exact h
  · rename_i hx; rw [if_neg hx] at h; exact h.below hb hN
theorem ChkV.mono {lo lo' : Nat} {w : World} {u : Value} {fs : List Fld} (h : ChkV lo w u fs) (hl : lo' ≤ lo) : ChkV lo' w u fs := by
  unfold ChkV at h ⊢
  split
  · rename_i hx; rw [if_pos hx] at h; exact h
  · rename_i hx; rw [if_neg hx] at h; exact h.mono hl
theorem ChkV.set {lo : Nat} {w : World} {u : Value} {fs : List Fld} (h : ChkV lo w u fs) (p : Addr) (hp : p.block < lo) (x : Value) : ChkV lo (w.setCell p x) u fs := by
  unfold ChkV at h ⊢
  split
  · rename_i hx; rw [if_pos hx] at h; exact h
  · rename_i hx
    rw [if_neg hx] at h
    obtain ⟨q, hq, e, hc⟩ := h
    exact ⟨q, hq, e, Cells.other hc (by omega) _⟩
attribute [local go_sem] errV_0
set_option maxRecDepth 100000 in
set_option maxHeartbeats 4000000 in
theorem chk_any (fs : List Fld) (v : Value) (w : World) (hs : Flds w v fs) (hn : fs.length ≤ 1000000) (hl : ∀ f ∈ fs, f.1.length ≤ 1000000 ∧ f.2.length ≤ 1000000) :
    Calls Tryz.prog 140 #[v] w fun e w' => ∃ u, e = .returned u ∧ Below w.heap.size w w' ∧ ChkV w.heap.size w' u fs := by
  obtain ⟨A, cap, rfl, hle, hc⟩ := hs
  have PC := Lib.hid hc
  have HL := Lib.hid hl
  clear hc hl
  by_cases h0 : fs.length = 0
  · have FIN : Hid (∀ W, ChkV w.heap.size W (.iface 54 (.int .i64 2)) fs) := by
      intro W
      unfold ChkV; rw [if_pos (.inl h0)]; unfold chkN; rw [if_pos h0]; rfl
    rw [h0]
    go_enter Tryz.func140, Tryz.ntmps140
    go_wp2_with fail
    go_ret
    exact ⟨_, rfl, Below.refl _ _, FIN.out _⟩
  by_cases h40 : 40 < fs.length
  · have FIN : Hid (∀ W, ChkV w.heap.size W (.iface 54 (.int .i64 11)) fs) := by
      intro W
      unfold ChkV; rw [if_pos (.inr (.inl h40))]; unfold chkN; rw [if_neg h0, if_pos h40]; rfl
    have c0 : ((fs.length : Int) == 0) = false := by simp; intro h; exact h0 (by rw [h]; rfl)
    go_enter Tryz.func140, Tryz.ntmps140
    go_wp2_with fail
    go_ret
    exact ⟨_, rfl, Below.refl _ _, FIN.out _⟩
  have FINZ : Hid (∀ W, foldN fs = 0 → ChkV w.heap.size W .nilIface fs) := by
    intro W hz
    unfold ChkV; rw [if_pos (.inr (.inr hz))]; unfold chkN; rw [if_neg h0, if_neg h40, hz]; rfl
  have FINB : Hid (∀ (W : World) (k n : Nat), w.heap.size ≤ W.heap.size → foldN fs = n → n ≠ 0 → badAt fs = k → ChkV w.heap.size (W.alloc (.cells #[.int .i64 (k : Nat), .iface 54 (.int .i64 (n : Nat))] 85)) (.iface 82 (.pointer (some ⟨W.heap.size, 0, none⟩))) fs) := by
    intro W k n hW hf hnz hk
    unfold ChkV
    rw [if_neg (by unfold bare; rintro (h | h | h) <;> omega), hf, hk, ← errV_pos n (by omega)]
    exact FaultAt.new W k n _ _ rfl hW
  have c0 : ((fs.length : Int) == 0) = false := by simp; intro h; exact h0 (by rw [h]; rfl)
  go_enter Tryz.func140, Tryz.ntmps140
  go_wp2_with fail
  go_loopw [18] (fun i wr => ∃ k : Nat, k ≤ fs.length ∧ i = .int .i64 k ∧ foldN fs = foldN (fs.drop k) ∧ badAt fs = badAt (fs.drop k) + k ∧ Below w.heap.size w wr) (fun i _ => fs.length - (intOf i).toNat)
  case atStart => exact ⟨0, Nat.zero_le _, rfl, rfl, rfl, Below.refl _ _⟩
  case round =>
    obtain ⟨k, hk, rfl, hN, hA, hb⟩ := hrel
    by_cases hlt : k < fs.length
    · obtain ⟨f, hf⟩ : ∃ f, fs[k]? = some f := ⟨_, List.getElem?_eq_getElem hlt⟩
      obtain ⟨b, off, rfl, hbb, c0', c1⟩ := PC.out k f hf
      replace c0' := (hb.cell (p := ⟨b, off + k * 2, none⟩) hbb).trans c0'
      replace c1 := (hb.cell (p := ⟨b, off + k * 2 + 1, none⟩) hbb).trans c1
      obtain ⟨hl1, hl2⟩ := HL.out f (List.mem_of_getElem? hf)
      have hdrop : fs.drop k = f :: fs.drop (k + 1) := by
        rw [List.drop_eq_getElem_cons hlt]
        rw [List.getElem?_eq_getElem hlt] at hf
        rw [Option.some.inj hf]
      have hs1 := hb.size
      have hba := hb.alloc hs1 (.cells #[.string (B f.1), .string (B f.2)] 66)
      have hza : (wr.alloc (.cells #[.string (B f.1), .string (B f.2)] 66)).heap.size = wr.heap.size + 1 := by simp
      have CK := fun W => check_any f.1 f.2 hl1 hl2 W
      unfold fieldV at CK
      rw [hdrop] at hN hA
      by_cases hck : checkN f.1 f.2 = 0
      · have G1 : Hid (foldN fs = foldN (fs.drop (k + 1))) := by
          show _ = _
          rw [hN]; show (if checkN f.1 f.2 = 0 then foldN (fs.drop (k + 1)) else _) = _; rw [if_pos hck]
        have G2 : Hid (badAt fs = badAt (fs.drop (k + 1)) + (k + 1)) := by
          show _ = _
          rw [hA]; show (if checkN f.1 f.2 = 0 then badAt (fs.drop (k + 1)) + 1 else _) + k = _; rw [if_pos hck]; omega
        rw [hck] at CK
        clear hdrop hN hA hf hck FINB FINZ PC HL
        go_wp2_with fail
        refine (CK _).mono ?_
        rintro e w2 ⟨rfl, b2⟩
        have hb2 := hba.trans (b2.mono (by omega))
        clear b2 CK
        go_wp2_with fail
        go_roundw
        case rel => exact ⟨k + 1, hlt, by go_num, G1.out, G2.out, hb2⟩
        case measure => simp [intOf]; omega
      · have hfn : foldN fs = checkN f.1 f.2 := by rw [hN]; unfold foldN; rw [if_neg hck]
        have hbn : badAt fs = k := by rw [hA]; unfold badAt; rw [if_neg hck]; omega
        have FIN := Lib.hid (fun W hW => FINB.out W k (checkN f.1 f.2) hW hfn hck hbn)
        rw [errV_pos _ (Nat.pos_of_ne_zero hck)] at CK
        clear hdrop hN hA hf hck FINB FINZ PC HL hfn hbn
        generalize checkN f.1 f.2 = cn at *
        go_wp2_with fail
        refine (CK _).mono ?_
        rintro e w2 ⟨rfl, b2⟩
        have hb2 := hba.trans (b2.mono (by omega))
        have hz2 := hb2.size
        clear b2 CK
        go_wp2_with fail
        go_ret
        exact ⟨_, rfl, hb2.alloc hz2 _, FIN.out w2 hz2⟩
    · obtain rfl : k = fs.length := by omega
      rw [List.drop_length] at hN
      have F0 := Lib.hid (fun W => FINZ.out W hN)
      clear hN hA FINB FINZ PC HL
      go_wp2_with fail
      go_ret
      exact ⟨_, rfl, hb, F0.out _⟩
end Go.Proofs.YtgaooalckjjplaaGreatDoor

namespace Go.Proofs.YtgaooalckjjplaaGreatDoor
open Go.RowKit Go.Shelf

attribute [local go_sem] errV_0
end Go.Proofs.YtgaooalckjjplaaGreatDoor

namespace Go.Proofs.YtgaooalckjjplaaGreatDoor
open Go.RowKit Go.Shelf

theorem OwnS.grow {w5 : World} {base g' cap' : Nat} {ls : List ByteArray} {y : ByteArray} {n : Nat} (h : w5.ownsRow base 9 1 (.slice (some ⟨g', 0, none⟩) (n + 1) cap') (n + 1) (ls.map Value.string ++ [Value.string y])) (hl : ls.length = n) : OwnS w5 base (.slice (some ⟨g', 0, none⟩) (n + 1) cap') (ls ++ [y]) := by
  unfold OwnS
  rw [List.length_append, List.map_append, hl]; exact h
theorem OwnS.form {w : World} {base : Nat} {v : Value} {ls : List ByteArray} (h : OwnS w base v ls) (hn : 0 < ls.length) : ∃ g cap, v = .slice (some ⟨g, 0, none⟩) ls.length cap ∧ base ≤ g ∧ g < w.heap.size := by
  obtain ⟨g, cap, e⟩ := Joins.ownsRow_form h hn
  have := World.ownsRow.lt h g (by rw [e]; rfl)
  exact ⟨g, cap, e, this⟩
theorem OwnS.cell {w : World} {base g cap n : Nat} {ls : List ByteArray} (h : OwnS w base (.slice (some ⟨g, 0, none⟩) n cap) ls) (hn : ls.length = n) (j : Nat) (x : ByteArray) (hx : ls[j]? = some x) : w.cell? ⟨g, j, none⟩ = some (.string x) := by
  subst hn
  have hj : j < ls.length := by
    rcases Nat.lt_or_ge j ls.length with q | q
    · exact q
    · rw [List.getElem?_eq_none q] at hx; cases hx
  rw [World.ownsRow.cellAt h j (by omega), List.getElem?_map, hx]; rfl

end Go.Proofs.YtgaooalckjjplaaGreatDoor

namespace Go.Proofs.YtgaooalckjjplaaGreatDoor
open Go.RowKit Go.Shelf

end Go.Proofs.YtgaooalckjjplaaGreatDoor

namespace Go.Proofs.YtgaooalckjjplaaGreatDoor
open Go.RowKit Go.Shelf

end Go.Proofs.YtgaooalckjjplaaGreatDoor

namespace Go.Proofs.YtgaooalckjjplaaGreatDoor
open Go.RowKit Go.Shelf

attribute [local go_sem] errV_0
end Go.Proofs.YtgaooalckjjplaaGreatDoor

namespace Go.Proofs.YtgaooalckjjplaaGreatDoor
open Go.RowKit Go.Shelf

def joinT (rs : List (List Fld)) : List UInt8 := joinNl (rs.map foldG)
/-- The first stanza that is wrong. -/
def badR (rs : List (List Fld)) : Option (List Fld) := rs.find? fun r => chkN r != 0
theorem badR_none {rs : List (List Fld)} (h : ∀ r ∈ rs, chkN r = 0) : badR rs = none := by
  unfold badR
  rw [List.find?_eq_none]
  intro r hr
  simp [h r hr]
/-- Text's answer. -/
def TextR (w : World) (rs : List (List Fld)) (e : Ending) (w' : World) : Prop :=
  Below w.heap.size w w' ∧ match badR rs with
    | some r => ∃ u, e = .returned (.tuple #[.string (B []), u]) ∧ ChkV w.heap.size w' u r ∧ chkN r ≠ 0
    | none => e = .returned (.tuple #[.string (B (joinT rs)), .nilIface]) ∧ ∀ r ∈ rs, chkN r = 0
theorem TextR.no {w w' : World} {rs : List (List Fld)} {u : Value} {r : List Fld} (h : badR rs = some r) (hb : Below w.heap.size w w') (hu : ChkV w.heap.size w' u r) (h0 : chkN r ≠ 0) : TextR w rs (.returned (.tuple #[.string (B []), u])) w' :=
  ⟨hb, by rw [h]; exact ⟨u, rfl, hu, h0⟩⟩
theorem TextR.yes {w w' : World} {rs : List (List Fld)} (h : ∀ r ∈ rs, chkN r = 0) (hb : Below w.heap.size w w') : TextR w rs (.returned (.tuple #[.string (B (joinT rs)), .nilIface])) w' :=
  ⟨hb, by rw [badR_none h]; exact ⟨rfl, h⟩⟩
attribute [local go_sem] errV_0
end Go.Proofs.YtgaooalckjjplaaGreatDoor

namespace Go.Proofs.YtgaooalckjjplaaGreatDoor

theorem allGood : ∀ (fs : List Fld), foldN fs = 0 → ∀ f ∈ fs, goodKey f.1 = true ∧ f.2.length ≤ 1000
  | [], _, f, hf => by cases hf
  | g :: r, h, f, hf => by
    unfold foldN at h
    split at h
    · rename_i h0
      rcases List.mem_cons.1 hf with rfl | hf
      · exact checkN_zero h0
      · exact allGood r h f hf
    · rename_i h0; exact absurd h h0
/-- What stanzas of good fields are, as items. -/
def itemOf (fs : List Fld) : It := ⟨3, foldG fs, fs⟩
theorem foldG_lines (fs : List Fld) : foldG fs = textL (linesFs fs) := by
  unfold foldG linesFs textL
  rw [List.flatMap_assoc]
theorem blk_item {fs : List Fld} (h : chkN fs = 0) : Blk (itemOf fs) := by
  obtain ⟨h1, h2, h3⟩ := chkN_zero h
  unfold itemOf
  rw [foldG_lines]
  exact blk_fields fs (allGood fs h3) (fun e => h1 (by rw [e]; rfl)) h2
end Go.Proofs.YtgaooalckjjplaaGreatDoor

namespace Go.Proofs.YtgaooalckjjplaaGreatDoor

/-- An entry: an item and its number. -/
abbrev En := It × Int
/-- A list: its entries, the next number. -/
structure LS where
  es : List En
  next : Int
section
variable {α : Type} {κ : α → Int}
end
/-- .. by definition. -/
def findR (es : List En) (id : Int) : Option Nat := if 0 < id then es.findIdx? fun e => e.2 == id else none
/-- Stanzas have numbers, other items 0. -/
def WF (es : List En) : Prop := ∀ e ∈ es, (e.1.kind = 3 ∧ 0 < e.2) ∨ (e.1.kind ≠ 3 ∧ e.2 = 0)
/-- How many stanzas there are. -/
def lenR (es : List En) : Nat := (es.filter fun e => decide (0 < e.2)).length
def setE (es : List En) (k : Nat) (it : It) : List En := es.modify k fun e => (it, e.2)
def cutE (es : List En) (k : Nat) : List En := es.take k ++ es.drop (k + 1)
def putE (es : List En) (k : Nat) (e : En) : List En := es.take k ++ e :: es.drop k
theorem WF.set {es : List En} (h : WF es) (k : Nat) (it : It) (hk : it.kind = 3) (e : En) (he : es[k]? = some e) (hn : e.1.kind = 3) : WF (setE es k it) := by
  intro x hx
  obtain ⟨j, hj⟩ := List.mem_iff_getElem?.1 hx
  unfold setE at hj
  rw [List.getElem?_modify] at hj
  rcases hjj : es[j]? with _ | y
  · rw [hjj] at hj; simp at hj
  · rw [hjj] at hj
    simp only [Option.map_eq_map, Option.map_some, Option.some.injEq] at hj
    have hy := h y (List.mem_of_getElem? hjj)
    by_cases e1 : k = j
    · rw [if_pos e1] at hj
      subst hj
      subst e1
      rw [he] at hjj
      cases hjj
      rcases h e (List.mem_of_getElem? he) with q | q
      · exact .inl ⟨hk, q.2⟩
      · exact absurd hn q.1
    · rw [if_neg e1] at hj
      subst hj; exact hy
theorem WF.cut {es : List En} (h : WF es) (k : Nat) : WF (cutE es k) := by
  intro x hx
  rcases List.mem_append.1 hx with q | q
  · exact h x (List.mem_of_mem_take q)
  · exact h x (List.mem_of_mem_drop q)
theorem WF.put {es : List En} (h : WF es) (k : Nat) {e : En} (he : (e.1.kind = 3 ∧ 0 < e.2)) : WF (putE es k e) := by
  intro x hx
  rcases List.mem_append.1 hx with q | q
  · exact h x (List.mem_of_mem_take q)
  · rcases List.mem_cons.1 q with rfl | q
    · exact .inl he
    · exact h x (List.mem_of_mem_drop q)
theorem setE_len (es : List En) (k : Nat) (it : It) : (setE es k it).length = es.length := by unfold setE; simp
/-- What an edit comes to: the list then, the field at which it is refused, an error's number, the new number. -/
structure Did where
  ls : LS
  at_ : Int
  bad : Nat
  id : Int
def replaceR (l : LS) (id : Int) (fs : List Fld) : Did :=
  match findR l.es id with
  | none => ⟨l, -9, 7, 0⟩
  | some k => if chkN fs = 0 then ⟨⟨setE l.es k (itemOf fs), l.next⟩, -9, 0, 0⟩ else ⟨l, chkAt fs, chkN fs, 0⟩
def deleteR (l : LS) (id : Int) : Did :=
  match findR l.es id with
  | none => ⟨l, -9, 7, 0⟩
  | some k => ⟨⟨cutE l.es k, l.next⟩, -9, 0, 0⟩
/-- Where one is inserted behind a number. -/
def gapR (es : List En) (behind : Int) : Option Nat := if behind = 0 then some 0 else (findR es behind).map (· + 1)
def insertR (l : LS) (behind : Int) (fs : List Fld) : Did :=
  match gapR l.es behind with
  | none => ⟨l, -9, 7, 0⟩
  | some k => if chkN fs = 0 then (if 400 ≤ lenR l.es then ⟨l, -9, 11, 0⟩ else ⟨⟨putE l.es k (itemOf fs, l.next), l.next + 1⟩, -9, 0, l.next⟩) else ⟨l, chkAt fs, chkN fs, 0⟩
def editR (l : LS) (kind id : Int) (fs : List Fld) : Did :=
  if kind = 1 then replaceR l id fs else if kind = 2 then deleteR l id else insertR l id fs
theorem findR_lt {es : List En} {id : Int} {k : Nat} (h : findR es id = some k) : k < es.length ∧ ∃ e, es[k]? = some e ∧ e.2 = id ∧ 0 < id := by
  unfold findR at h
  split at h
  · rename_i hid
    obtain ⟨a, b, _⟩ := List.findIdx?_eq_some_iff_getElem.1 h
    exact ⟨a, _, List.getElem?_eq_getElem a, by simpa using b, hid⟩
  · cases h
/-- A list as it comes of a text. -/
def fromOn : Int → List It → List En
  | _, [] => []
  | n, it :: r => if it.kind = 3 then (it, n) :: fromOn (n + 1) r else (it, 0) :: fromOn n r
def fromNext : Int → List It → Int
  | n, [] => n
  | n, it :: r => if it.kind = 3 then fromNext (n + 1) r else fromNext n r
def fromL (its : List It) : LS := ⟨fromOn 1 its, fromNext 1 its⟩
end Go.Proofs.YtgaooalckjjplaaGreatDoor

namespace Go.Proofs.YtgaooalckjjplaaGreatDoor
open Go.RowKit Go.Shelf

variable {P : Program}

end Go.Proofs.YtgaooalckjjplaaGreatDoor

namespace Go.Proofs.YtgaooalckjjplaaGreatDoor
open Go.RowKit Go.Shelf

/-- An entry and its fields' slice. -/
abbrev Pr := En × Value
def entCell (p : Pr) : List Value := [.int .i64 p.1.1.kind, .string (B p.1.1.raw), p.2, .int .i64 p.1.2]
def entCells (ps : List Pr) : List Value := ps.flatMap entCell
theorem entCells_snoc (ps : List Pr) (p : Pr) : entCells (ps ++ [p]) = entCells ps ++ entCell p := by unfold entCells; simp
theorem entCells_append (ps qs : List Pr) : entCells (ps ++ qs) = entCells ps ++ entCells qs := by unfold entCells; simp
theorem entCells_take : ∀ (ps : List Pr) (k : Nat), entCells (ps.take k) = (entCells ps).take (k * 4)
  | [], k => by simp [entCells]
  | p :: r, 0 => by simp [entCells]
  | p :: r, k + 1 => by
    have ih := entCells_take r k
    have e : entCells (p :: r) = entCell p ++ entCells r := rfl
    rw [List.take_succ_cons, e, show entCells (p :: r.take k) = entCell p ++ entCells (r.take k) from rfl, ih, List.take_append]
    have hl : (entCell p).length = 4 := rfl
    rw [hl, List.take_of_length_le (l := entCell p) (by rw [hl]; omega), show (k + 1) * 4 - 4 = k * 4 by omega]
theorem entCells_drop : ∀ (ps : List Pr) (k : Nat), entCells (ps.drop k) = (entCells ps).drop (k * 4)
  | [], k => by simp [entCells]
  | p :: r, 0 => by simp
  | p :: r, k + 1 => by
    have ih := entCells_drop r k
    have e : entCells (p :: r) = entCell p ++ entCells r := rfl
    have hl : (entCell p).length = 4 := rfl
    rw [List.drop_succ_cons, e, ih, List.drop_append, hl, List.drop_of_length_le (l := entCell p) (by rw [hl]; omega), show (k + 1) * 4 - 4 = k * 4 by omega, List.nil_append]
theorem entCells_at : ∀ (ps : List Pr) (i : Nat) (p : Pr), ps[i]? = some p → ∀ j u, (entCell p)[j]? = some u → (entCells ps)[i * 4 + j]? = some u
  | [], i, p, h => by simp at h
  | q :: r, 0, p, h => by
    simp at h; subst h
    intro j u hj
    have e : entCells (q :: r) = entCell q ++ entCells r := rfl
    rw [e, Nat.zero_mul, Nat.zero_add, List.getElem?_append_left (by have := (List.getElem?_eq_some_iff.1 hj).1; exact this)]
    exact hj
  | q :: r, i + 1, p, h => by
    intro j u hj
    have ih := entCells_at r i p (by simpa using h) j u hj
    have e : entCells (q :: r) = entCell q ++ entCells r := rfl
    have hl : (entCell q).length = 4 := rfl
    rw [e, List.getElem?_append_right (by rw [hl]; omega), hl, show (i + 1) * 4 + j - 4 = i * 4 + j by omega]
    exact ih
/-- Fields that can be copied. -/
def FldR (w : World) (v : Value) (fs : List Fld) : Prop := Flds w v fs ∧ ∀ n c, v = .slice none n c → c = 0
theorem FldR.below {w w' : World} {v : Value} {fs : List Fld} {n : Nat} (h : FldR w v fs) (hb : Below n w w') (hn : w.heap.size ≤ n) : FldR w' v fs := ⟨h.1.below hb hn, h.2⟩
theorem FldR.form {w : World} {v : Value} {fs : List Fld} (h : FldR w v fs) : ∃ A c, v = .slice A fs.length c := by
  obtain ⟨A, c, e, _⟩ := h.1
  exact ⟨A, c, e⟩
theorem FldR.own {w : World} {base : Nat} {v : Value} {fs : List Fld} (h : w.ownsRow base 66 2 v fs.length (cellsF fs)) : FldR w v fs :=
  ⟨flds_of_own h, fun n c e => by
    rcases h.2 with ⟨q, _⟩ | ⟨g, cap, cur, q, _⟩
    · rw [q] at e; cases e; rfl
    · rw [q] at e; cases e⟩
/-- The entries, readable. -/
structure EntsR (w : World) (v : Value) (ps : List Pr) : Prop where
  row : w.ownsRow 0 102 4 v ps.length (entCells ps)
  each : ∀ p ∈ ps, FldR w p.2 p.1.1.fields
theorem EntsR.below {w w' : World} {v : Value} {ps : List Pr} {n : Nat} (h : EntsR w v ps) (hb : Below n w w') (hn : w.heap.size ≤ n) : EntsR w' v ps :=
  ⟨own_kept h.row hb hn, fun p hp => (h.each p hp).below hb hn⟩
theorem EntsR.here {w : World} {v : Value} {ps : List Pr} (h : EntsR w v ps) {i : Nat} {p : Pr} (hi : ps[i]? = some p) : ∃ g cap A c, v = .slice (some ⟨g, 0, none⟩) ps.length cap ∧ ps.length ≤ cap ∧ g < w.heap.size ∧ p.2 = .slice A p.1.1.fields.length c ∧
    w.cell? ⟨g, i * 4, none⟩ = some (.int .i64 p.1.1.kind) ∧ w.cell? ⟨g, i * 4 + 1, none⟩ = some (.string (B p.1.1.raw)) ∧ w.cell? ⟨g, i * 4 + 1 + 1, none⟩ = some p.2 ∧ w.cell? ⟨g, i * 4 + 1 + 1 + 1, none⟩ = some (.int .i64 p.1.2) := by
  have hlt : i < ps.length := (List.getElem?_eq_some_iff.1 hi).1
  obtain ⟨A, c, hA⟩ := (h.each p (List.mem_of_getElem? hi)).form
  have hr := h.row
  rcases h.row.2 with ⟨_, hn⟩ | ⟨g, cap, cur, e, _, hg, hle, _⟩
  · omega
  · rw [e] at hr
    have at_ := entCells_at ps i p hi
    refine ⟨g, cap, A, c, e, hle, (World.ownsRow.lt hr g rfl).2, hA, ?_, ?_, ?_, ?_⟩
    · rw [World.ownsRow.cellAt hr (i * 4) (by omega)]; exact at_ 0 _ rfl
    · rw [World.ownsRow.cellAt hr (i * 4 + 1) (by omega)]; exact at_ 1 _ rfl
    · rw [World.ownsRow.cellAt hr (i * 4 + 1 + 1) (by omega)]; exact at_ 2 _ rfl
    · rw [World.ownsRow.cellAt hr (i * 4 + 1 + 1 + 1) (by omega)]; exact at_ 3 _ rfl
theorem EntsR.empty {w : World} {v : Value} {ps : List Pr} (h : EntsR w v ps) : ∃ A cap, v = .slice A ps.length cap ∧ ps.length ≤ cap := by
  rcases h.row.2 with ⟨e, hn⟩ | ⟨g, cap, cur, e, _, hg, hle, _⟩
  · exact ⟨none, 0, by rw [e, hn], by omega⟩
  · exact ⟨_, cap, e, hle⟩
/-- An entry as a value. -/
def entV (p : Pr) : Value := .agg #[.int .i64 p.1.1.kind, .string (B p.1.1.raw), p.2, .int .i64 p.1.2]
end Go.Proofs.YtgaooalckjjplaaGreatDoor

namespace Go.Proofs.YtgaooalckjjplaaGreatDoor
open Go.RowKit Go.Shelf
attribute [local go_sem] Oper.semAt_some

end Go.Proofs.YtgaooalckjjplaaGreatDoor

namespace Go.Proofs.YtgaooalckjjplaaGreatDoor
open Go.RowKit Go.Shelf
attribute [local go_sem] Oper.semAt_some

/-- A list in memory, readable: its block, its entries' slice. -/
structure LR (w : World) (lb : Nat) (ev : Value) (ps : List Pr) (nx : Int) : Prop where
  head : Cells w lb 141 #[ev, .int .i64 (nx - 1)]
  ents : EntsR w ev ps
theorem LR.below {w w' : World} {lb : Nat} {ev : Value} {ps : List Pr} {nx : Int} {n : Nat} (h : LR w lb ev ps nx) (hb : Below n w w') (hn : w.heap.size ≤ n) : LR w' lb ev ps nx :=
  ⟨h.head.below hb (Nat.lt_of_lt_of_le h.head.lt hn), h.ents.below hb hn⟩
abbrev ptr (b : Nat) : Value := .pointer (some ⟨b, 0, none⟩)
theorem all_any (lb : Nat) (ev : Value) (ps : List Pr) (nx : Int) (w : World) (h : LR w lb ev ps nx) :
    Calls Tryz.prog 43 #[ptr lb] w fun e w' => e = .returned ev ∧ w = w' := by
  obtain ⟨A, cap, rfl, hle⟩ := h.ents.empty
  have c0 : w.cell? ⟨lb, 0, none⟩ = some (.slice A ps.length cap) := h.head.cell 0
  clear h
  unfold ptr
  go_enter Tryz.func43, Tryz.ntmps43
  go_wp2_with fail
  go_ret
  exact ⟨rfl, rfl⟩
theorem all_none (w : World) : Calls Tryz.prog 43 #[.pointer none] w fun e w' => e = .returned (.slice none 0 0) ∧ w = w' := by
  go_enter Tryz.func43, Tryz.ntmps43
  go_wp2_with fail
  go_ret
  exact ⟨rfl, rfl⟩
theorem entsNone (w : World) : EntsR w (.slice none 0 0) [] := ⟨⟨rfl, .inl ⟨rfl, rfl⟩⟩, fun p h => by cases h⟩
/-- What all answers: of a list, or of none. -/
def AllR (w : World) (l v : Value) (ps : List Pr) : Prop := EntsR w v ps ∧ Calls Tryz.prog 43 #[l] w fun e w' => e = .returned v ∧ w = w'
theorem AllR.of {w : World} {lb : Nat} {ev : Value} {ps : List Pr} {nx : Int} (h : LR w lb ev ps nx) : AllR w (ptr lb) ev ps := ⟨h.ents, all_any lb ev ps nx w h⟩
theorem AllR.none (w : World) : AllR w (.pointer none) (.slice none 0 0) [] := ⟨entsNone w, all_none w⟩
end Go.Proofs.YtgaooalckjjplaaGreatDoor

namespace Go.Proofs.YtgaooalckjjplaaGreatDoor
open Go.RowKit Go.Shelf
attribute [local go_sem] Oper.semAt_some

end Go.Proofs.YtgaooalckjjplaaGreatDoor

namespace Go.Proofs.YtgaooalckjjplaaGreatDoor
open Go.RowKit Go.Shelf

theorem AccM.set {w W : World} {v : Value} {fvs : List Value} {its : List It} {b : Nat} {cs : Array Value} (h : AccM w W v fvs its) (i : Nat) (hc : Cells W b 89 cs) (hne : v.ownBlock ≠ some b) (hb : w.heap.size ≤ b) (x : Value) : AccM w (W.setCell ⟨b, i, none⟩ x) v fvs its := by
  refine ⟨row_cell (p := ⟨b, i, none⟩) h.row hne x, h.len, fun j y s hy hs => row_cell (p := ⟨b, i, none⟩) (h.each j y s hy hs) (fun e => ?_) x, h.below.setCell (p := ⟨b, i, none⟩) hb x⟩
  rcases (h.each j y s hy hs).2 with ⟨rfl, _⟩ | ⟨g, cap, cur, rfl, _, hg, _⟩
  · cases e
  · cases e
    have h4 := hc
    unfold Cells at h4
    rw [h4] at hg
    injection hg with hg
    injection hg with _ h2 _
    exact absurd h2 (by decide)
theorem row_ne {W : World} {base n : Nat} {e : TypeId} {sz : Nat} {v : Value} {xs : List Value} (h : W.ownsRow base e sz v n xs) : v.ownBlock ≠ some W.heap.size := fun q => by have := (h.lt _ q).2; omega
end Go.Proofs.YtgaooalckjjplaaGreatDoor

namespace Go.Proofs.YtgaooalckjjplaaGreatDoor
open Go.RowKit Go.Shelf

end Go.Proofs.YtgaooalckjjplaaGreatDoor

namespace Go.Proofs.YtgaooalckjjplaaGreatDoor
open Go.RowKit Go.Shelf
attribute [local go_sem] Oper.semAt_some

/-- What is asked of entries: how long they are. -/
structure EntsOk (ps : List Pr) : Prop where
  len : ps.length ≤ 10000
  raw : ∀ p ∈ ps, p.1.1.raw.length ≤ 100000
  fields : ∀ p ∈ ps, p.1.1.fields.length ≤ 1000000
  num : ∀ p ∈ ps, -1000000 ≤ p.1.2 ∧ p.1.2 ≤ 1000000
/-- The items of entries. -/
def itsP (ps : List Pr) : List It := ps.map fun p => p.1.1
end Go.Proofs.YtgaooalckjjplaaGreatDoor

namespace Go.Proofs.YtgaooalckjjplaaGreatDoor
open Go.RowKit
end Go.Proofs.YtgaooalckjjplaaGreatDoor

namespace Go.Proofs.YtgaooalckjjplaaGreatDoor
open Go.RowKit

end Go.Proofs.YtgaooalckjjplaaGreatDoor

namespace Go.Proofs.YtgaooalckjjplaaGreatDoor
open Go.RowKit

end Go.Proofs.YtgaooalckjjplaaGreatDoor

namespace Go.Proofs.YtgaooalckjjplaaGreatDoor
open Go.RowKit Go.Shelf

end Go.Proofs.YtgaooalckjjplaaGreatDoor

namespace Go.Proofs.YtgaooalckjjplaaGreatDoor
open Go.RowKit Go.Shelf

def fl (l : Array Bool) (j : Nat) : Bool := l.getD j false
abbrev sl (g n c : Nat) : Value := .slice (some ⟨g, 0, none⟩) n c
end Go.Proofs.YtgaooalckjjplaaGreatDoor

namespace Go.Proofs.YtgaooalckjjplaaGreatDoor
open Go.RowKit Go.Shelf
attribute [local go_sem] Oper.semAt_some

def cellAt (b i : Nat) (W : World) : Value := match W.cell? ⟨b, i, none⟩ with | some v => v | none => undef
theorem putS {a : Act} {d : Nat} {v : Value} (hd : d < a.tmps.size) (j : Nat) : (a.put (some d) v).tmps[j]? = if j = d then some v else a.tmps[j]? := by
  show (a.tmps.setIfInBounds d v)[j]? = _
  rw [Array.getElem?_setIfInBounds]
  by_cases h : d = j
  · subst h; simp [hd]
  · rw [if_neg h, if_neg (Ne.symm h)]
/-- What is known behind the first c of the others. -/
def FactS (W0 : World) (sb lo n : Nat) (p : Pr) (v0 : Value) (xs : List Value) (a : Act) (w : World) : Nat → Prop
  | 0 => Below W0.heap.size W0 w
  | 1 => Below W0.heap.size W0 w ∧ a.tmps[12]? = some (entV p)
  | 2 => Below W0.heap.size W0 w ∧ ∃ x, a.tmps[13]? = some (.agg #[.int .i64 p.1.2, x]) ∧ w.ownsRow W0.heap.size 66 2 x p.1.1.fields.length (cellsF p.1.1.fields)
  | 3 => Below W0.heap.size W0 w ∧ ∃ x b, a.tmps[14]? = some (sl b 1 1) ∧ w.ownsRow W0.heap.size 66 2 x p.1.1.fields.length (cellsF p.1.1.fields) ∧ W0.heap.size ≤ b ∧ Cells w b 48 #[.int .i64 p.1.2, x]
  | 4 => ∃ x g c, a.tmps[15]? = some (sl g (n + 1) c) ∧ w.ownsRow W0.heap.size 66 2 x p.1.1.fields.length (cellsF p.1.1.fields) ∧ w.ownsRow lo 48 2 (sl g (n + 1) c) (n + 1) (xs ++ [.int .i64 p.1.2, x]) ∧ Only (fun r => v0.ownBlock = some r) W0 w
  | _ => ∃ x g c w2, w2.ownsRow W0.heap.size 66 2 x p.1.1.fields.length (cellsF p.1.1.fields) ∧ w2.ownsRow lo 48 2 (sl g (n + 1) c) (n + 1) (xs ++ [.int .i64 p.1.2, x]) ∧ Only (fun r => v0.ownBlock = some r) W0 w2 ∧ w = w2.setCell ⟨sb, 0, none⟩ (sl g (n + 1) c)
theorem FactS.below {W0 : World} {sb lo n : Nat} {p : Pr} {v0 : Value} {xs : List Value} {a : Act} {w : World} {c : Nat} (h : FactS W0 sb lo n p v0 xs a w c) (hc : c ≤ 3) : Below W0.heap.size W0 w := by
  match c, h with
  | 0, h => exact h
  | 1, h => exact h.1
  | 2, h => exact h.1
  | 3, h => exact h.1
  | n + 4, _ => omega
theorem FactS.put {W0 : World} {sb lo n : Nat} {p : Pr} {v0 : Value} {xs : List Value} {a : Act} {w : World} {c : Nat} (h : FactS W0 sb lo n p v0 xs a w c) (hs : 16 ≤ a.tmps.size) (v : Value) : FactS W0 sb lo n p v0 xs (a.put (some 11) v) w c := by
  have T := fun j => putS (a := a) (d := 11) (v := v) (by omega) j
  match c, h with
  | 0, h => exact h
  | 1, h => exact ⟨h.1, by rw [T, if_neg (by decide)]; exact h.2⟩
  | 2, h => obtain ⟨h1, x, h2, h3⟩ := h; exact ⟨h1, x, by rw [T, if_neg (by decide)]; exact h2, h3⟩
  | 3, h => obtain ⟨h1, x, b, h2, h3⟩ := h; exact ⟨h1, x, b, by rw [T, if_neg (by decide)]; exact h2, h3⟩
  | 4, h => obtain ⟨x, g, c, h2, h3⟩ := h; exact ⟨x, g, c, by rw [T, if_neg (by decide)]; exact h2, h3⟩
  | n + 5, h => exact h
end Go.Proofs.YtgaooalckjjplaaGreatDoor

namespace Go.Proofs.YtgaooalckjjplaaGreatDoor
open Go.RowKit Go.Shelf
attribute [local go_sem] Oper.semAt_some

/-- A stanza: its number, its fields. -/
abbrev Stz := Int × List Fld
def stzCells : List Stz → List Value → List Value
  | s :: l, v :: vs => .int .i64 s.1 :: v :: stzCells l vs
  | _, _ => []
theorem stzCells_snoc : ∀ (l : List Stz) (vs : List Value) (s : Stz) (v : Value), vs.length = l.length → stzCells (l ++ [s]) (vs ++ [v]) = stzCells l vs ++ [.int .i64 s.1, v]
  | [], [], s, v, _ => rfl
  | [], _ :: _, _, _, h => by simp at h
  | a :: l, [], s, v, h => by simp at h
  | a :: l, u :: vs, s, v, h => by
    have := stzCells_snoc l vs s v (by simpa using h)
    simp only [List.cons_append, stzCells, this]
/-- The stanzas so far, in new memory from lo on. -/
structure AccZ (lo : Nat) (w wr : World) (v : Value) (fvs : List Value) (rs : List Stz) : Prop where
  row : wr.ownsRow lo 48 2 v rs.length (stzCells rs fvs)
  len : fvs.length = rs.length
  each : ∀ (j : Nat) s x, rs[j]? = some s → fvs[j]? = some x → wr.ownsRow lo 66 2 x s.2.length (cellsF s.2)
  below : Below w.heap.size w wr
theorem AccZ.turned {lo B k : Nat} {w W W' : World} {v : Value} {fvs : List Value} {rs : List Stz} (h : AccZ lo w W v fvs rs) (ht : Turned B k W W') (hB : w.heap.size ≤ B) (hlo : B + k ≤ lo) : AccZ lo w W' v fvs rs :=
  ⟨ht.row h.row (fun b e => .inr (by have := (h.row.lt b e).1; omega)), h.len, fun j s x h1 h2 => ht.row (h.each j s x h1 h2) (fun b e => .inr (by have := ((h.each j s x h1 h2).lt b e).1; omega)), h.below.trans (ht.below hB h.below.size)⟩
theorem AccZ.alloc {lo : Nat} {w W : World} {v : Value} {fvs : List Value} {rs : List Stz} (h : AccZ lo w W v fvs rs) (o : Obj) : AccZ lo w (W.alloc o) v fvs rs :=
  have hb := (Below.refl W.heap.size W).alloc (Nat.le_refl _) o
  ⟨own_kept h.row hb (Nat.le_refl _), h.len, fun j s x h1 h2 => own_kept (h.each j s x h1 h2) hb (Nat.le_refl _), h.below.alloc h.below.size o⟩
theorem stz_ne {W : World} {lo n m : Nat} {v x : Value} {xs ys : List Value} (hv : W.ownsRow lo 48 2 v n xs) (hx : W.ownsRow lo 66 2 x m ys) : ∀ b, x.ownBlock = some b → ¬ v.ownBlock = some b := by
  intro b hb e
  rcases hx.2 with ⟨rfl, _⟩ | ⟨g, cap, cur, rfl, _, hc, _⟩
  · cases hb
  · cases hb
    rcases hv.2 with ⟨rfl, _⟩ | ⟨g', cap', cur', rfl, _, hc', _⟩
    · cases e
    · have : g' = g := Option.some.inj e
      subst this
      rw [hc] at hc'
      injection hc' with hc'
      injection hc' with _ h2 _
      exact absurd h2 (by decide)
theorem AccZ.snoc {lo : Nat} {w W w2 : World} {v : Value} {fvs : List Value} {rs : List Stz} {s : Stz} {x : Value} {g c : Nat} (h : AccZ lo w W v fvs rs) (hlo : w.heap.size ≤ lo) (hx : w2.ownsRow lo 66 2 x s.2.length (cellsF s.2)) (hr : w2.ownsRow lo 48 2 (sl g (rs.length + 1) c) (rs.length + 1) (stzCells rs fvs ++ [.int .i64 s.1, x]))
    (ho : Only (fun r => v.ownBlock = some r) W w2) : AccZ lo w w2 (sl g (rs.length + 1) c) (fvs ++ [x]) (rs ++ [s]) := by
  refine ⟨by rw [List.length_append, stzCells_snoc _ _ _ _ h.len]; exact hr, by simp [h.len], fun j y u hy hu => ?_, h.below.trans (ho.to_below h.below.size (fun r hr e => by have := (h.row.lt r e).1; omega))⟩
  rcases snoc_at hy with ⟨q, hy⟩ | ⟨q, rfl⟩
  · rw [List.getElem?_append_left (by rw [h.len]; exact q)] at hu
    exact row_only (h.each j y u hy hu) ho (stz_ne h.row (h.each j y u hy hu))
  · rw [q, ← h.len, List.getElem?_append_right (Nat.le_refl _)] at hu
    simp at hu
    subst hu; exact hx
theorem AccZ.set {lo : Nat} {w W : World} {v : Value} {fvs : List Value} {rs : List Stz} {b : Nat} (h : AccZ lo w W v fvs rs) (hb : b < lo) (hbw : w.heap.size ≤ b) (u : Value) : AccZ lo w (W.setCell ⟨b, 0, none⟩ u) v fvs rs :=
  ⟨row_cell h.row (fun e => by have := (h.row.lt b e).1; omega) _, h.len, fun j s x h1 h2 => row_cell (h.each j s x h1 h2) (fun e => by have := ((h.each j s x h1 h2).lt b e).1; omega) _, h.below.setCell (p := ⟨b, 0, none⟩) hbw _⟩
end Go.Proofs.YtgaooalckjjplaaGreatDoor

namespace Go.Proofs.YtgaooalckjjplaaGreatDoor
open Go.RowKit Go.Shelf

/-- Values laid over an array from a place on. -/
def layV (cur : Array Value) : Nat → List Value → Array Value
  | _, [] => cur
  | o, v :: r => layV (cur.setIfInBounds o v) (o + 1) r
theorem layV_size : ∀ (vs : List Value) (cur : Array Value) (o : Nat), (layV cur o vs).size = cur.size
  | [], _, _ => rfl
  | v :: r, cur, o => by
    show (layV (cur.setIfInBounds o v) (o + 1) r).size = _
    rw [layV_size r]; simp
theorem layV_at : ∀ (vs : List Value) (cur : Array Value) (o j : Nat), o + vs.length ≤ cur.size → (layV cur o vs)[j]? = if o ≤ j ∧ j < o + vs.length then vs[j - o]? else cur[j]?
  | [], cur, o, j, _ => by
    show cur[j]? = _
    rw [if_neg (by simp only [List.length_nil]; omega)]
  | v :: r, cur, o, j, h => by
    show (layV (cur.setIfInBounds o v) (o + 1) r)[j]? = _
    rw [layV_at r _ _ _ (by simp at h ⊢; omega)]
    simp only [List.length_cons] at h ⊢
    by_cases h1 : o + 1 ≤ j ∧ j < o + 1 + r.length
    · rw [if_pos h1, if_pos (by omega), show j - o = (j - (o + 1)) + 1 by omega, List.getElem?_cons_succ]
    · rw [if_neg h1]
      by_cases h2 : o = j
      · subst h2
        rw [if_pos (by omega), Nat.sub_self, List.getElem?_cons_zero, Array.getElem?_setIfInBounds]
        simp
        omega
      · rw [if_neg (by omega), Array.getElem?_setIfInBounds, if_neg h2]
theorem Cells.lay {W : World} {b : Nat} {t : TypeId} : ∀ (vs : List Value) {cur : Array Value} (o : Nat), Cells W b t cur → Cells (W.setCells b o vs) b t (layV cur o vs)
  | [], _, _, h => h
  | v :: r, cur, o, h => by
    have := Cells.lay (W := W.setCell ⟨b, o, none⟩ v) r (o + 1) (h.set o v)
    exact this
end Go.Proofs.YtgaooalckjjplaaGreatDoor

namespace Go.Proofs.YtgaooalckjjplaaGreatDoor
open Go.RowKit Go.Shelf Go.Lib

end Go.Proofs.YtgaooalckjjplaaGreatDoor

namespace Go.Proofs.YtgaooalckjjplaaGreatDoor
open Go.RowKit Go.Shelf
attribute [local go_sem] Oper.semAt_some errV_0

theorem Flds.only {w w' : World} {v : Value} {fs : List Fld} {S : Nat → Prop} (h : Flds w v fs) (g : Only S w w') (hs : fs ≠ [] → ∀ b, v.ownBlock = some b → ¬ S b) : Flds w' v fs := by
  obtain ⟨A, cap, hv, hle, hc⟩ := h
  refine ⟨A, cap, hv, hle, fun i s hi => ?_⟩
  obtain ⟨b, off, hA, hlt, c0, c1⟩ := hc i s hi
  have hb : w'.heap[b]? = w.heap[b]? := g.same b hlt (hs (fun e => by rw [e] at hi; simp at hi) b (by rw [hv, hA]; rfl))
  exact ⟨b, off, hA, Nat.lt_of_lt_of_le hlt g.size, (World.cell?_of_block (w := w) (a := ⟨b, off + i * 2, none⟩) hb).trans c0, (World.cell?_of_block (w := w) (a := ⟨b, off + i * 2 + 1, none⟩) hb).trans c1⟩
theorem FldR.only {w w' : World} {v : Value} {fs : List Fld} {S : Nat → Prop} (h : FldR w v fs) (g : Only S w w') (hs : fs ≠ [] → ∀ b, v.ownBlock = some b → ¬ S b) : FldR w' v fs := ⟨h.1.only g hs, h.2⟩
theorem Flds.lt {w : World} {v : Value} {fs : List Fld} (h : Flds w v fs) (hne : fs ≠ []) : ∀ b, v.ownBlock = some b → b < w.heap.size := by
  obtain ⟨A, cap, hv, hle, hc⟩ := h
  intro b hb
  cases fs with
  | nil => exact absurd rfl hne
  | cons f r =>
    obtain ⟨b', off, hA, hlt, _⟩ := hc 0 f rfl
    rw [hv, hA] at hb
    cases hb; exact hlt
/-- A list in memory that may be written: the fields of its entries lie in neither of its two blocks. -/
structure LA (w : World) (lb : Nat) (ev : Value) (ps : List Pr) (nx : Int) : Prop where
  lr : LR w lb ev ps nx
  apart : ∀ p ∈ ps, p.1.1.fields ≠ [] → ∀ b, p.2.ownBlock = some b → b ≠ lb ∧ ev.ownBlock ≠ some b
theorem LR.row_ne {w : World} {lb : Nat} {ev : Value} {ps : List Pr} {nx : Int} (h : LR w lb ev ps nx) : ev.ownBlock ≠ some lb := by
  intro e
  rcases h.ents.row.2 with ⟨q, _⟩ | ⟨g, cap, cur, q, _, hg, _⟩
  · rw [q] at e; cases e
  · rw [q] at e
    have : g = lb := Option.some.inj e
    subst this
    have := hg.symm.trans h.head
    simp at this
theorem LA.below {w w' : World} {lb : Nat} {ev : Value} {ps : List Pr} {nx : Int} {n : Nat} (h : LA w lb ev ps nx) (hb : Below n w w') (hn : w.heap.size ≤ n) : LA w' lb ev ps nx := ⟨h.lr.below hb hn, h.apart⟩
end Go.Proofs.YtgaooalckjjplaaGreatDoor

namespace Go.Proofs.YtgaooalckjjplaaGreatDoor
open Go.RowKit Go.Shelf

theorem Its.part {w : World} {A : Option Addr} {n cap : Nat} {its : List It} (h : Its w (.slice A n cap) its) (k : Nat) (hk : k ≤ its.length) : Its w (.slice A k cap) (its.take k) := by
  obtain ⟨A', cap', e, hle, hc⟩ := h
  cases e
  have hl : (its.take k).length = k := by rw [List.length_take]; omega
  refine ⟨A, cap, by rw [hl], by omega, fun i it hi => hc i it ?_⟩
  rw [List.getElem?_take] at hi
  split at hi
  · exact hi
  · cases hi
theorem Its.rest {w : World} {b off n cap : Nat} {its : List It} (h : Its w (.slice (some ⟨b, off, none⟩) n cap) its) (k : Nat) (hk : k ≤ its.length) : Its w (.slice (some ⟨b, off + k * 3, none⟩) (its.length - k) (cap - k)) (its.drop k) := by
  obtain ⟨A', cap', e, hle, hc⟩ := h
  cases e
  refine ⟨_, cap - k, by rw [List.length_drop], by rw [List.length_drop]; omega, fun i it hi => ?_⟩
  rw [List.getElem?_drop] at hi
  obtain ⟨b', off', fv, e, h1, h2, h3, h4, h5⟩ := hc _ it hi
  cases e
  refine ⟨b, off + k * 3, fv, rfl, h1, ?_, ?_, ?_, h5⟩
  · rw [show off + k * 3 + i * 3 = off + (k + i) * 3 by omega]; exact h2
  · rw [show off + k * 3 + i * 3 + 1 = off + (k + i) * 3 + 1 by omega]; exact h3
  · rw [show off + k * 3 + i * 3 + 1 + 1 = off + (k + i) * 3 + 1 + 1 by omega]; exact h4
theorem Its.empty (w : World) (A : Option Addr) (cap : Nat) : Its w (.slice A 0 cap) [] := ⟨A, cap, rfl, Nat.zero_le _, fun i it h => by simp at h⟩
theorem ItsIn.here {w : World} {v : Value} {its : List It} (h : ItsIn w v its) {i : Nat} {it : It} (hi : its[i]? = some it) : ∃ b off cap fa fc, v = .slice (some ⟨b, off, none⟩) its.length cap ∧ b < w.heap.size ∧ w.cell? ⟨b, off + i * 3, none⟩ = some (.int .i64 it.kind) ∧ w.cell? ⟨b, off + i * 3 + 1, none⟩ = some (.string (B it.raw)) ∧ w.cell? ⟨b, off + i * 3 + 1 + 1, none⟩ = some (.slice fa it.fields.length fc) ∧ FldsIn w (.slice fa it.fields.length fc) it.fields := by
  obtain ⟨A, cap, rfl, hle, hc⟩ := h.is_
  obtain ⟨b, off, fv, rfl, hlt, c0, c1, c2, hf⟩ := hc i it hi
  obtain ⟨b', off', n, cap', fv', e, c2', hin⟩ := h.each i it hi
  cases e
  have e2 : fv = fv' := Option.some.inj (c2.symm.trans c2')
  subst e2
  obtain ⟨fa, fc, rfl, _, _⟩ := id hf
  exact ⟨b, off, cap, fa, fc, rfl, hlt, c0, c1, c2, hin⟩
end Go.Proofs.YtgaooalckjjplaaGreatDoor

