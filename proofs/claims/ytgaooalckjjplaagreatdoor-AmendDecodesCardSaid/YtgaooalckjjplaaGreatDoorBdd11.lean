/- Texts put together: AN, AR, FT, FU, FV. -/
import Derived.WideShapes
import Derived.Deep.DeepCutAuto
import Derived.Test.YtgaooalckjjplaaGreatDoorBfa1
import Derived.Test.YtgaooalckjjplaaGreatDoorBfa2
import Derived.Test.YtgaooalckjjplaaGreatDoorBfa3
import Derived.Test.YtgaooalckjjplaaGreatDoorBfa4
import Derived.Test.YtgaooalckjjplaaGreatDoorBfa5
import Derived.Test.YtgaooalckjjplaaGreatDoorBfa7
import Derived.Test.YtgaooalckjjplaaGreatDoorBfa8
import Derived.Test.YtgaooalckjjplaaGreatDoorBfa9
import Derived.Test.YtgaooalckjjplaaGreatDoorBfa10
import Derived.Test.YtgaooalckjjplaaGreatDoorBfa11
import Derived.Test.YtgaooalckjjplaaGreatDoorBfa12
import Derived.Test.YtgaooalckjjplaaGreatDoorBfa13
import Derived.Test.YtgaooalckjjplaaGreatDoorBfa14
import Derived.Test.YtgaooalckjjplaaGreatDoorBfa15
import Derived.Test.YtgaooalckjjplaaGreatDoorBfa16
import Derived.Test.YtgaooalckjjplaaGreatDoorBfa17
import Derived.Test.YtgaooalckjjplaaGreatDoorBdd1
import Derived.Test.YtgaooalckjjplaaGreatDoorBdd2
import Derived.Test.YtgaooalckjjplaaGreatDoorBdd3
import Derived.Test.YtgaooalckjjplaaGreatDoorBdd4
import Derived.Test.YtgaooalckjjplaaGreatDoorBdd5
import Derived.Test.YtgaooalckjjplaaGreatDoorBdd6
import Derived.Test.YtgaooalckjjplaaGreatDoorBdd8
import Derived.Test.YtgaooalckjjplaaGreatDoorBdd9
import Derived.Test.YtgaooalckjjplaaGreatDoorBdd10
set_option linter.unusedVariables false
namespace Go.Proofs.YtgaooalckjjplaaGreatDoor
open Go.RowKit Go.Shelf
attribute [local go_sem] Oper.semAt_some

def txA : List UInt8 := [32, 105, 110, 115, 101, 114, 116, 32, 48, 10, 32, 32, 65, 58, 32, 49, 10, 32, 32, 32, 50, 10]
def edA0 : Ed := ⟨2, 7, []⟩
def edA1 : Ed := ⟨3, 0, [([65], [49, 10, 50])]⟩
theorem itoa7 : Lib.itoa 7 = [55] := by
  rw [show (7 : Int) = ((7 : Nat) : Int) from rfl, Lib.itoa_nonneg, Lib.decDigits_one (by decide)]; rfl
theorem itoa0 : Lib.itoa 0 = [48] := by
  rw [show (0 : Int) = ((0 : Nat) : Int) from rfl, Lib.itoa_nonneg, Lib.decDigits_one (by decide)]; rfl
theorem chkA0 : (chkB [edA0]).2 = 0 := by decide +kernel
theorem chkA1 : (chkB [edA1]).2 = 0 := by decide +kernel
theorem textA0 : batchT [edA0] = [32, 100, 101, 108, 101, 116, 101, 32, 55, 10] := by
  unfold batchT batchLs edLs edA0
  rw [List.flatMap_cons]
  unfold lineA
  rw [itoa7]; rfl
theorem textA1 : batchT [edA1] = txA := by
  unfold batchT batchLs edLs edA1
  rw [List.flatMap_cons]
  unfold lineA
  rw [itoa0]; rfl
theorem decA1 : decL txA = some [edA1] := decL_iff.2 ⟨by decide, chkA1, fun ed h => by rw [List.mem_singleton.1 h]; exact ⟨by decide, by decide⟩, textA1⟩
set_option maxRecDepth 100000 in
set_option maxHeartbeats 4000000 in
theorem aliveA_any (w : World) (hT : Tabs w) : Calls Tryz.prog 18 #[] w fun e w' => e = .returned (.bool true) ∧ Below w.heap.size w w' := by
  obtain ⟨wa, hwa⟩ : ∃ wa, wa = w.alloc (.cells #[.int .i64 2, .int .i64 7, .slice none 0 0] 64) := ⟨_, rfl⟩
  have hba : Below w.heap.size w wa := by rw [hwa]; exact (Below.refl _ w).alloc (Nat.le_refl _) _
  have cE : Cells wa w.heap.size 64 #[.int .i64 2, .int .i64 7, .slice none 0 0] := by rw [hwa]; exact Cells.new _ _ _
  have hV : EdV wa (.slice (some ⟨w.heap.size, 0, none⟩) 1 1) [edA0] := by
    refine ⟨_, 1, rfl, Nat.le_refl _, fun i ed hi => ?_⟩
    match i, hi with
    | 0, hi =>
      simp at hi; subst hi
      exact ⟨_, 0, .slice none 0 0, rfl, cE.lt, by rw [cE.cell]; rfl, by rw [cE.cell]; rfl, by rw [cE.cell]; rfl, ⟨none, 0, rfl, Nat.le_refl _, fun i f h => by simp [edA0] at h⟩, fun n c h => by cases h; rfl⟩
    | i + 1, hi => simp at hi
  have EN := encode_any [edA0] _ wa hV (by decide) (fun ed h => by rw [List.mem_singleton.1 h]; exact ⟨by decide, fun f hf => by cases hf⟩) (fun ed h => by rw [List.mem_singleton.1 h]; exact ⟨by decide, by decide⟩) (hT.below hba (Nat.le_refl _))
  have HEN := Lib.hid EN
  have HBA := Lib.hid hba
  have DE := Lib.hid (fun W (hW : Below w.heap.size w W) => decode_any txA (by decide) W (hT.below hW (Nat.le_refl _)))
  rw [show B txA = (⟨#[32, 105, 110, 115, 101, 114, 116, 32, 48, 10, 32, 32, 65, 58, 32, 49, 10, 32, 32, 32, 50, 10]⟩ : ByteArray) from rfl] at DE
  clear EN hba hV cE hT
  subst hwa
  go_enter Tryz.func18, Tryz.ntmps18
  go_wp2_with fail
  refine HEN.out.mono ?_
  rintro e w1 ⟨b1, ⟨_, rfl⟩ | ⟨hx, _⟩⟩
  rotate_left
  · exact absurd chkA0 hx
  rw [textA0, show B [32, 100, 101, 108, 101, 116, 101, 32, 55, 10] = (⟨#[32, 100, 101, 108, 101, 116, 101, 32, 55, 10]⟩ : ByteArray) from rfl]
  have B1 := Lib.hid (HBA.out.trans (b1.mono HBA.out.size))
  have DE1 := Lib.hid (DE.out w1 B1.out)
  clear HEN b1 DE
  go_wp2_with fail
  refine DE1.out.mono ?_
  rintro e w2 ⟨b2, ⟨hx, _⟩ | ⟨eds, u, fvs, hd, rfl, ho⟩⟩
  · rw [decA1] at hx; cases hx
  rw [decA1] at hd
  obtain rfl := Option.some.inj hd
  obtain ⟨A, cap, rfl, hle, hc⟩ := ho.edv
  obtain ⟨b, off, fv, rfl, hb, c0, c1, c2, hfl⟩ := hc 0 edA1 rfl
  obtain ⟨FA, fcap, rfl, hfle, hfc⟩ := hfl.1
  obtain ⟨fb, foff, rfl, hfb, d0, d1⟩ := hfc 0 ([65], [49, 10, 50]) rfl
  have B2 := Lib.hid (B1.out.trans (b2.mono B1.out.size))
  simp only [Nat.zero_mul, Nat.add_zero] at c2 d1
  rw [show B ([65], [49, 10, 50]).2 = (⟨#[49, 10, 50]⟩ : ByteArray) from rfl] at d1
  rw [show edA1.fields.length = 1 from rfl] at c2
  clear DE1 b2 hd ho hc hfl hfc c0 c1 d0
  simp only [List.length_cons, List.length_nil]
  go_wp2_with fail
  go_ret
  exact ⟨rfl, B2.out⟩
end Go.Proofs.YtgaooalckjjplaaGreatDoor

namespace Go.Proofs.YtgaooalckjjplaaGreatDoor
open Go.RowKit Go.Shelf
attribute [local go_sem] Oper.semAt_some

theorem batch_le {eds : List Ed} (hg : ∀ ed ∈ eds, goodE ed = 0) (hi : ∀ ed ∈ eds, I64 ed.id) : (batchT eds).length ≤ 600000 * eds.length := by
  induction eds with
  | nil => exact Nat.le_refl _
  | cons a r ih =>
    have h1 := edT_le (goodE_F (hg a List.mem_cons_self)) (hi a List.mem_cons_self)
    have h2 := ih (fun x hx => hg x (List.mem_cons_of_mem _ hx)) (fun x hx => hi x (List.mem_cons_of_mem _ hx))
    rw [batchT_cons, List.length_append, List.length_cons]; omega
set_option maxRecDepth 100000 in
set_option maxHeartbeats 8000000 in
theorem refEncodeA_any (eds : List Ed) (v : Value) (w : World) (h : EdV w v eds) (hl : eds.length ≤ 51) (hg : ∀ ed ∈ eds, goodE ed = 0) (hi : ∀ ed ∈ eds, I64 ed.id) :
    Calls Tryz.prog 51 #[v] w fun e w' => e = .returned (.string (B (batchT eds))) ∧ Below w.heap.size w w' := by
  obtain ⟨A, cap, rfl, hle, hc⟩ := h
  have PC := Lib.hid hc
  have HG := Lib.hid hg
  have HI := Lib.hid hi
  clear hc hg hi
  go_enter Tryz.func51, Tryz.ntmps51
  go_wp2_with fail
  go_loopw [3, 4] (fun sv i wr => ∃ k : Nat, k ≤ eds.length ∧ i = .int .i64 k ∧ sv = .string (B (batchT (eds.take k))) ∧ Below w.heap.size w wr) (fun _ i _ => eds.length - (intOf i).toNat)
  case atStart => exact ⟨0, Nat.zero_le _, rfl, rfl, Below.refl _ _⟩
  case round =>
    obtain ⟨k, hk, rfl, rfl, hb⟩ := hrel
    by_cases hlt : k < eds.length
    · obtain ⟨ed, hed⟩ : ∃ ed, eds[k]? = some ed := ⟨_, List.getElem?_eq_getElem hlt⟩
      obtain ⟨b, off, fv, rfl, hbb, c0, c1, c2, hfl⟩ := PC.out k ed hed
      have hie := HI.out ed (List.mem_of_getElem? hed)
      have GF := goodE_F (HG.out ed (List.mem_of_getElem? hed))
      have TK : Hid (batchT (eds.take (k + 1)) = batchT (eds.take k) ++ ((lineA ed.kind ed.id ++ [10]) ++ indL [32, 32] (linesOf (foldG ed.fields)))) := by
        show _ = _
        rw [take_snoc hed, batchT_snoc, edT_parts GF]
      have ELE := edT_le GF hie
      rw [edT_parts GF, List.length_append, List.length_append] at ELE
      have BLE : (batchT (eds.take k)).length ≤ 600000 * 51 := by
        have h1 := batch_le (eds := eds.take k) (fun x hx => HG.out x (List.mem_of_mem_take hx)) (fun x hx => HI.out x (List.mem_of_mem_take hx))
        rw [List.length_take] at h1
        have : min k eds.length ≤ 51 := by omega
        omega
      have fle := foldG_le GF
      have fl40 := GF.len
      have hEE : ∀ W, Below wr.drew.heap.size wr.drew W → (Instr.loadAt 64 (.pointer (some ⟨b, off + k * 3, none⟩))).run Tryz.prog W = .ok (.agg #[.int .i64 ed.kind, .int .i64 ed.id, fv]) W ∧ (Instr.loadAt 46 (.pointer (some ⟨b, off + k * 3 + 2, none⟩))).run Tryz.prog W = .ok fv W := fun W hW => by
        have hW' : Below w.heap.size w W := hb.drew.trans (hW.mono hb.size)
        have d0 := (hW'.cell (p := ⟨b, off + k * 3, none⟩) hbb).trans c0
        have d1 := (hW'.cell (p := ⟨b, off + k * 3 + 1, none⟩) hbb).trans c1
        have d2 := (hW'.cell (p := ⟨b, off + k * 3 + 1 + 1, none⟩) hbb).trans c2
        obtain ⟨fa, fc, rfl, _, _⟩ := _root_.id hfl.1
        exact ⟨by simp [go_sem, d0, d1, d2], by simp [go_sem, d2]⟩
      have hfv' : ∀ W, Below wr.drew.heap.size wr.drew W → Flds W fv ed.fields := fun W hW => hfl.1.below (hb.drew.trans (hW.mono hb.size)) (Nat.le_refl _)
      have hlt2 := hlt
      go_upto_region 5 with fail
      refine wp_region_any (by kernel_rfl) ?_
      refine region_re5 _ wr.drew b off eds.length cap k ed.kind ed.id fv (B (batchT (eds.take k))) (B (lineA ed.kind ed.id)) (B (foldG ed.fields)) (B (indL [32, 32] (linesOf (foldG ed.fields)))) _ rfl rfl rfl rfl hlt2 hEE (by rw [B_size]; omega) (by rw [B_size]; omega) (by rw [B_size]; omega) ?h5 ?h13 ?h14 ?hQ
      case h5 => exact fun W hW => (refLineA_any ed.kind ed.id fv hie W).mono fun e w' ⟨he, hb⟩ => ⟨_, he, rfl, hb⟩
      case h13 => exact fun W hW => (refFold_any ed.fields fv W (hfv' W hW) (by omega) GF.small).mono fun e w' ⟨he, hb⟩ => ⟨_, he, rfl, hb⟩
      case h14 =>
        intro W hW
        refine (refIndent_any (B (foldG ed.fields)) ⟨#[32, 32]⟩ (by rw [B_size]; omega) (by decide) W).mono ?_
        rintro e w' ⟨rfl, hb⟩
        exact ⟨_, rfl, by rw [B_data]; rfl, hb⟩
      case hQ =>
        intro y0 y1 y2 y3 y4 y5 y6 y7 y8 y9 y10 y11 y12 y13 y14 y15 w2 hb2 hy15
        have hy : y15 = .string (B (batchT (eds.take k)) ++ B (lineA ed.kind ed.id) ++ ⟨#[10]⟩ ++ B (indL [32, 32] (linesOf (foldG ed.fields)))) := hy15
        rw [show (⟨#[10]⟩ : ByteArray) = B [10] from rfl, B_append, B_append, B_append, show batchT (eds.take k) ++ lineA ed.kind ed.id ++ [10] ++ indL [32, 32] (linesOf (foldG ed.fields)) = batchT (eds.take (k + 1)) by rw [TK.out]; simp] at hy
        subst hy
        have HB2 := Lib.hid (hb.drew.trans (hb2.mono hb.size))
        clear hb2 hy15 hEE hfv' hfl GF hie hed c0 c1 c2 TK ELE BLE fle
        simp only [List.foldl, List.setIfInBounds_toArray, List.set_cons_zero, List.set_cons_succ]
        generalize hXe : B (batchT (eds.take (k + 1))) = X at *
        go_wp2_with fail
        go_roundw
        case rel => exact ⟨k + 1, hlt, by go_num, by rw [hXe], HB2.out⟩
        case measure => simp [intOf]; omega
    · obtain rfl : k = eds.length := by omega
      rw [List.take_length] at *
      have HB := Lib.hid hb
      clear hb PC HG HI
      generalize hXe : B (batchT eds) = X at *
      go_wp2_with fail
      go_ret
      exact ⟨by rw [hXe]; rfl, HB.out⟩
end Go.Proofs.YtgaooalckjjplaaGreatDoor

namespace Go.Proofs.YtgaooalckjjplaaGreatDoor
open Go.RowKit Go.Shelf

theorem joinNl_snocs : ∀ (xs : List (List UInt8)) (y : List UInt8), xs ≠ [] → joinNl (xs ++ [y]) = joinNl xs ++ 10 :: y
  | [], _, h => absurd rfl h
  | [p], y, _ => rfl
  | p :: q :: r, y, _ => by
    show p ++ 10 :: joinNl ((q :: r) ++ [y]) = (p ++ 10 :: joinNl (q :: r)) ++ 10 :: y
    rw [joinNl_snocs (q :: r) y (by simp)]; simp
theorem joinNl_mono : ∀ (xs ys : List (List UInt8)), (joinNl xs).length ≤ (joinNl (xs ++ ys)).length
  | [], ys => by simp [joinNl]
  | [p], [] => by simp
  | [p], q :: r => by show p.length ≤ (p ++ 10 :: joinNl (q :: r)).length; simp
  | p :: q :: r, ys => by
    show (p ++ 10 :: joinNl (q :: r)).length ≤ (p ++ 10 :: joinNl ((q :: r) ++ ys)).length
    have := joinNl_mono (q :: r) ys
    simp only [List.length_append, List.length_cons] at this ⊢; omega
/-- What is said up to k further lines. -/
def accV (a : List UInt8) (r : List (List UInt8)) (k : Nat) : List UInt8 := joinNl (dropSp (afterC a) :: (r.take k).map fun l => dropDot l.tail)
theorem accV_step (a : List UInt8) (r : List (List UInt8)) (k : Nat) (x : List UInt8) (hx : r[k]? = some x) : accV a r (k + 1) = accV a r k ++ 10 :: dropDot x.tail := by
  unfold accV
  rw [List.take_add_one, hx, show (some x).toList = [x] from rfl, List.map_append, ← List.cons_append]
  exact joinNl_snocs _ _ (by simp)
theorem accV_le (a : List UInt8) (r : List (List UInt8)) (k : Nat) : (accV a r k).length ≤ (saidV (a :: r)).length := by
  unfold accV saidV saidP
  simp only [List.headD_cons, List.tail_cons]
  have := joinNl_mono (dropSp (afterC a) :: (r.take k).map fun l => dropDot l.tail) ((r.drop k).map fun l => dropDot l.tail)
  rw [List.cons_append, ← List.map_append, List.take_append_drop] at this
  exact this
theorem accV_all (a : List UInt8) (r : List (List UInt8)) : accV a r r.length = saidV (a :: r) := by
  unfold accV saidV saidP
  rw [List.take_length]; rfl
theorem allK_drop (r : List (List UInt8)) (k : Nat) (x : List UInt8) (h : r[k]? = some x) : sayG 3 (r.drop k) = ((kindL x == 3) && sayG 3 (r.drop (k + 1))) := sayG_drop r k 3 x h
theorem sayF_cons {a : List UInt8} {r : List (List UInt8)} (h : kindL a = 4) : sayF (a :: r) = sayG 3 r := by
  rw [sayF_eq]
  show (decide (0 < (a :: r).length) && ((kindL a == 4) && sayG 3 r)) = _
  simp [h]

set_option maxRecDepth 100000 in
set_option maxHeartbeats 4000000 in
theorem refUnfold_no (ls : List (List UInt8)) (v : Value) (w : World) (hs : Strs w v (ls.map B)) (hl : ∀ l ∈ ls, l.length ≤ 100000) (hn : ls.length ≤ 100000) (h0 : ls = [] ∨ ∃ a r, ls = a :: r ∧ kindL a ≠ 4) :
    Calls Tryz.prog 48 #[v] w fun e w' => e = .returned (.tuple #[.agg #[.string ⟨#[]⟩, .string ⟨#[]⟩], .int .i64 2]) ∧ Below w.heap.size w w' := by
  obtain ⟨A, cap, rfl, hle, hc⟩ := hs
  have hcb := cellB hc
  clear hc
  rcases h0 with rfl | ⟨a, r, rfl, hka⟩
  · clear hcb
    rw [List.length_map, List.length_nil]
    go_enter Tryz.func48, Tryz.ntmps48
    go_wp2_with fail
    have RE := Cells.new w 66 #[.string ⟨#[]⟩, .string ⟨#[]⟩]
    refine bodyPost_ret (ret_f2 rfl _ _ w.heap.size _ rfl RE rfl) rfl ?_
    exact ⟨rfl, (Below.refl _ _).alloc (Nat.le_refl _) _⟩
  · obtain ⟨b, off, rfl, hbb, hca⟩ := hcb 0 a rfl
    rw [Nat.add_zero] at hca
    clear hcb
    have hal := hl a (by simp)
    have RK := fun w => refKind_any (B a) (by rw [B_size]; omega) w
    rw [B_data] at RK
    have hki : ((kindL a : Int) != 4) = true := by simp; omega
    rw [List.length_map, List.length_cons] at *
    have hnz : ((r.length : Int) + 1 == 0) = false := by rw [beq_eq_false_iff_ne]; omega
    clear hka
    generalize kindL a = ka at *
    generalize B a = X at *
    go_enter Tryz.func48, Tryz.ntmps48
    go_wp2_with fail
    refine (RK _).mono ?_
    rintro e w1 ⟨rfl, b1⟩
    have R1 := cells_kept (Cells.new w 66 #[.string ⟨#[]⟩, .string ⟨#[]⟩]) b1 (by simp)
    have c0 := R1.cell 0
    have c1 := R1.cell 1
    have f0 := R1.frozen 0
    have f1 := R1.frozen 1
    have hb1 : Below w.heap.size w w1 := ((Below.refl _ _).alloc (Nat.le_refl _) _).trans (b1.mono (by simp))
    simp only [List.getElem?_toArray, List.getElem?_cons_zero, List.getElem?_cons_succ] at c0 c1
    have RE := (R1.set 0 (.string ⟨#[]⟩)).set 1 (.string ⟨#[]⟩)
    rw [set2] at RE
    clear b1
    go_wp2_with fail
    refine bodyPost_ret (ret_f2 rfl _ _ w.heap.size _ rfl RE rfl) rfl ?_
    exact ⟨rfl, (hb1.setCell (Nat.le_refl _) _).setCell (Nat.le_refl _) _⟩
end Go.Proofs.YtgaooalckjjplaaGreatDoor

namespace Go.Proofs.YtgaooalckjjplaaGreatDoor
open Go.RowKit Go.Shelf

set_option maxRecDepth 100000 in
set_option maxHeartbeats 8000000 in
theorem refUnfold_yes (a : List UInt8) (r : List (List UInt8)) (v : Value) (w : World) (hs : Strs w v ((a :: r).map B)) (hl : ∀ l ∈ a :: r, l.length ≤ 100000) (hn : (a :: r).length ≤ 100000) (hj : (saidV (a :: r)).length ≤ 1000000) (hka : kindL a = 4) :
    Calls Tryz.prog 48 #[v] w fun e w' => e = .returned (.tuple #[fieldV (unfoldK (a :: r)) (unfoldV (a :: r)), .int .i64 (unfoldN (a :: r) : Nat)]) ∧ Below w.heap.size w w' := by
  obtain ⟨A, cap, rfl, hle, hc⟩ := hs
  have hcb := cellB hc
  clear hc
  obtain ⟨b, off, rfl, hbb, hca⟩ := hcb 0 a rfl
  have PCH := Lib.hid (fun (j : Nat) x (hx : r[j]? = some x) => (show w.cell? ⟨b, off + (j + 1), none⟩ = some (.string (B x)) by
    obtain ⟨b', off', e, _, h⟩ := hcb (j + 1) x (by simpa using hx)
    cases e; exact h))
  rw [Nat.add_zero] at hca
  clear hcb
  have hal := hl a (by simp)
  have hlr : ∀ x ∈ r, x.length ≤ 100000 := fun x hx => hl x (List.mem_cons_of_mem _ hx)
  have RK := fun w => refKind_any (B a) (by rw [B_size]; omega) w
  rw [B_data, hka] at RK
  obtain ⟨k1, k2, k3⟩ := kind4 hka
  have RC := fun w => refCut_yes (B a) (by rw [B_size]; omega) w (by rw [B_data]; exact k1) (by rw [B_data]; exact k2) (by rw [B_data]; exact k3)
  rw [pre_B, post_B] at RC
  rw [List.length_map, List.length_cons] at *
  have hnz : ((r.length : Int) + 1 == 0) = false := by rw [beq_eq_false_iff_ne]; omega
  have haz : (afterC a).length ≤ a.length := by unfold afterC; rw [List.length_drop]; omega
  have hA0 : B (accV a r 0) = B (dropSp (afterC a)) := by unfold accV; rfl
  unfold fieldV
  clear k1 k2 k3 hl
  generalize hX : B a = X at *
  clear hX
  generalize hK : B (before a) = KB at *
  have HK := Lib.hid hK
  clear hK
  go_enter Tryz.func48, Tryz.ntmps48
  go_wp2_with fail
  refine (RK _).mono ?_
  rintro e w1 ⟨rfl, b1⟩
  have R1 := cells_kept (Cells.new w 66 #[.string ⟨#[]⟩, .string ⟨#[]⟩]) b1 (by simp)
  have hb1 : Below w.heap.size w w1 := ((Below.refl _ _).alloc (Nat.le_refl _) _).trans (b1.mono (by simp))
  have hca1 := (hb1.cell (p := ⟨b, off, none⟩) hbb).trans hca
  have hs1 := b1.size
  simp only [World.size_alloc] at hs1
  clear b1 hca RK
  go_wp2_with fail
  refine (RC _).mono ?_
  rintro e w2 ⟨rfl, b2⟩
  have R2 := cells_kept R1 b2 (by omega)
  have BW := Lib.hid (hb1.trans (b2.mono (by omega)))
  clear b2 R1 hb1 hca1 RC
  rcases hac : afterC a with _ | ⟨c, t⟩
  · rw [hac] at hA0
    have HA0 : Hid (B (accV a r 0) = ⟨#[]⟩) := hA0
    rw [show B [] = ⟨#[]⟩ from rfl]
    clear hA0 hac
    go_wp2_with fail
    go_loopw [5, 7] (fun s i wr => ∃ n : Nat, n ≤ r.length ∧ i = .int .i64 ((n : Int) + 1) ∧ s = .string (B (accV a r n)) ∧ sayG 3 r = sayG 3 (r.drop n) ∧ Cells wr w.heap.size 66 #[.string ⟨#[]⟩, .string ⟨#[]⟩] ∧ Below w.heap.size w wr) (fun _ i _ => r.length + 1 - (intOf i).toNat)
    case atStart => exact ⟨0, Nat.zero_le _, rfl, by rw [HA0.out], rfl, R2, BW.out⟩
    case round =>
      obtain ⟨n, hnr, rfl, rfl, hG, hR, hb⟩ := hrel
      have hal := accV_le a r n
      have hs3 := hb.size
      have hRl := hR.lt
      by_cases hlt : n < r.length
      · obtain ⟨x, hx⟩ : ∃ x, r[n]? = some x := ⟨_, List.getElem?_eq_getElem hlt⟩
        have hcx := (hb.cell (p := ⟨b, off + (n + 1), none⟩) hbb).trans (PCH.out n x hx)
        have hxl := hlr x (List.mem_of_getElem? hx)
        have hxz := B_size x
        have RK := fun w => refKind_any (B x) (by omega) w
        rw [B_data] at RK
        have STEP := accV_step a r n x hx
        rw [allK_drop r n x hx] at hG
        by_cases hk3 : kindL x = 3
        · obtain ⟨c, d, t, rfl⟩ := kind3 hk3
          have G2 : Hid (sayG 3 r = sayG 3 (r.drop (n + 1))) := by show _ = _; rw [hG, hk3]; simp
          rw [hk3] at RK
          rw [List.tail_cons] at STEP
          have hex := tail_B c (d :: t)
          have hex2 := tail_B d t
          have z1 : (B (c :: d :: t)).size = t.length + 2 := by rw [B_size]; rfl
          have z2 : (B (d :: t)).size = t.length + 1 := by rw [B_size]; rfl
          have z3 : (B t).size = t.length := B_size t
          have htl : t.length ≤ 1000000 := by simp only [List.length_cons] at hxl; omega
          rw [z1] at hex
          rw [z2] at hex2
          have hd0 : ∀ h : 0 < (B (d :: t)).size, (B (d :: t))[0]'h = d := fun _ => rfl
          have hdp : 0 < (B (d :: t)).size := by omega
          have hcp : 0 < (B (c :: d :: t)).size := by omega
          have q2 := byte_eq (c := d) (d := 46) 46 rfl
          have y1 := B_size (accV a r n)
          have y2 : (B (accV a r n) ++ ⟨#[10]⟩).size = (accV a r n).length + 1 := by rw [show (⟨#[10]⟩ : ByteArray) = B [10] from rfl, B_append, B_size]; simp
          have hal2 : (accV a r n).length ≤ 1000000 := by omega
          clear hx hG hk3 hxz hal
          by_cases hd : d = 46
          · have SB : Hid (B (accV a r (n + 1)) = (B (accV a r n) ++ ⟨#[10]⟩) ++ B t) := by
              show _ = _
              rw [STEP, show (⟨#[10]⟩ : ByteArray) = B [10] from rfl, B_append, B_append]; simp [dropDot, hd]
            have hdb : (d == 46) = true := by simp [hd]
            rw [hdb] at q2
            clear STEP hd
            generalize B (accV a r n) = acc at *
            generalize B (c :: d :: t) = X at *
            generalize B (d :: t) = Y at *
            generalize B t = Z at *
            go_wp2_with fail
            refine (RK _).mono ?_
            rintro e w4 ⟨rfl, b4⟩
            have hcx4 := (b4.cell (p := ⟨b, off + (n + 1), none⟩) (Nat.lt_of_lt_of_le hbb hs3)).trans hcx
            have R4 := cells_kept hR b4 (by omega)
            have hb4 := hb.trans (b4.mono hs3)
            clear hR b4 hcx hb
            go_wp2_with fail
            go_roundw
            case rel => exact ⟨n + 1, hlt, by go_num, by rw [SB.out], G2.out, R4, hb4⟩
            case measure => simp [intOf]; omega
          · have SB : Hid (B (accV a r (n + 1)) = (B (accV a r n) ++ ⟨#[10]⟩) ++ B (d :: t)) := by
              show _ = _
              rw [STEP, show (⟨#[10]⟩ : ByteArray) = B [10] from rfl, B_append, B_append]; simp [dropDot, hd]
            have hdb : (d == 46) = false := by simp [hd]
            rw [hdb] at q2
            clear STEP hd
            generalize B (accV a r n) = acc at *
            generalize B (c :: d :: t) = X at *
            generalize B (d :: t) = Y at *
            generalize B t = Z at *
            go_wp2_with fail
            refine (RK _).mono ?_
            rintro e w4 ⟨rfl, b4⟩
            have hcx4 := (b4.cell (p := ⟨b, off + (n + 1), none⟩) (Nat.lt_of_lt_of_le hbb hs3)).trans hcx
            have R4 := cells_kept hR b4 (by omega)
            have hb4 := hb.trans (b4.mono hs3)
            clear hR b4 hcx hb
            go_wp2_with fail
            go_roundw
            case rel => exact ⟨n + 1, hlt, by go_num, by rw [SB.out], G2.out, R4, hb4⟩
            case measure => simp [intOf]; omega
        · have hF : sayF (a :: r) = false := by
            rw [sayF_cons hka, hG]; simp [hk3]
          obtain ⟨e1, e2, e3⟩ := unfold_no hF
          have ET : Hid (unfoldN (a :: r) = 2 ∧ unfoldK (a :: r) = [] ∧ unfoldV (a :: r) = []) := ⟨e1, e2, e3⟩
          have hki : ((kindL x : Int) != 3) = true := by simp; omega
          clear hx hG hk3 e1 e2 e3 hF STEP
          generalize kindL x = kx at *
          generalize B (accV a r n) = acc at *
          generalize B x = X at *
          go_wp2_with fail
          refine (RK _).mono ?_
          rintro e w4 ⟨rfl, b4⟩
          have R4 := cells_kept hR b4 (by omega)
          have hb4 := hb.trans (b4.mono hs3)
          have c0 := R4.cell 0
          have c1 := R4.cell 1
          have f0 := R4.frozen 0
          have f1 := R4.frozen 1
          simp only [List.getElem?_toArray, List.getElem?_cons_zero, List.getElem?_cons_succ] at c0 c1
          have RE := (R4.set 0 (.string ⟨#[]⟩)).set 1 (.string ⟨#[]⟩)
          rw [set2] at RE
          clear hR b4 hcx hb
          go_wp2_with fail
          refine bodyPost_ret (ret_f2 rfl _ _ w.heap.size _ rfl RE rfl) rfl ?_
          obtain ⟨e1, e2, e3⟩ := ET.out
          exact ⟨by rw [e1, e2, e3]; rfl, (hb4.setCell (Nat.le_refl _) _).setCell (Nat.le_refl _) _⟩
      · obtain rfl : n = r.length := by omega
        rw [accV_all] at *
        rw [List.drop_length] at hG
        have hF : sayF (a :: r) = true := by rw [sayF_cons hka, hG]; rfl
        have c0 := hR.cell 0
        have c1 := hR.cell 1
        have f0 := hR.frozen 0
        have f1 := hR.frozen 1
        simp only [List.getElem?_toArray, List.getElem?_cons_zero, List.getElem?_cons_succ] at c0 c1
        have hvz := B_size (saidV (a :: r))
        by_cases hlen : (saidV (a :: r)).length ≤ 1000
        · have ET : Hid _ := unfold_yes hF hlen
          have RE := (hR.set 0 (.string KB)).set 1 (.string (B (saidV (a :: r))))
          rw [set2] at RE
          rw [← hvz] at hlen
          clear hF hG
          generalize hV : B (saidV (a :: r)) = V at *
          have HV := Lib.hid hV
          clear hV
          go_wp2_with fail
          refine bodyPost_ret (ret_f2 rfl _ _ w.heap.size _ rfl RE rfl) rfl ?_
          obtain ⟨e1, e2, e3⟩ := ET.out
          exact ⟨by rw [e1, e2, e3, HV.out, HK.out]; rfl, (hb.setCell (Nat.le_refl _) _).setCell (Nat.le_refl _) _⟩
        · have ET : Hid _ := unfold_long hF hlen
          have RE := (hR.set 0 (.string ⟨#[]⟩)).set 1 (.string ⟨#[]⟩)
          rw [set2] at RE
          rw [← hvz] at hlen
          clear hF hG
          generalize B (saidV (a :: r)) = V at *
          go_wp2_with fail
          refine bodyPost_ret (ret_f2 rfl _ _ w.heap.size _ rfl RE rfl) rfl ?_
          obtain ⟨e1, e2, e3⟩ := ET.out
          exact ⟨by rw [e1, e2, e3]; rfl, (hb.setCell (Nat.le_refl _) _).setCell (Nat.le_refl _) _⟩
  · rw [hac] at hA0 haz
    have hyz := B_size (c :: t)
    have htl : t.length ≤ 1000000 := by simp only [List.length_cons] at haz; omega
    have z1 : (B (c :: t)).size = t.length + 1 := hyz
    have hex := tail_B c t
    rw [z1] at hex
    have hd0 : ∀ h : 0 < (B (c :: t)).size, (B (c :: t))[0]'h = c := fun _ => rfl
    have hdp : 0 < (B (c :: t)).size := by omega
    have q2 := byte_eq (c := c) (d := 32) 32 rfl
    have hAA : (c = 32 ∧ B (accV a r 0) = B t) ∨ (c ≠ 32 ∧ B (accV a r 0) = B (c :: t)) := by
      by_cases h : c = 32
      · exact .inl ⟨h, by rw [hA0]; unfold dropSp; rw [h]; rfl⟩
      · exact .inr ⟨h, by rw [hA0]; unfold dropSp; simp [h]⟩
    clear hA0 hac hyz haz
    have y1 := B_size t
    generalize B (c :: t) = Y0 at *
    generalize B t = Z0 at *
    rcases hAA with ⟨hc, hA0⟩ | ⟨hc, hA0⟩
    · have hcb : (c == 32) = true := by simp [hc]
      rw [hcb] at q2
      have HA0 := Lib.hid hA0
      clear hA0 hc
      go_wp2_with fail
      go_loopw [5, 7] (fun s i wr => ∃ n : Nat, n ≤ r.length ∧ i = .int .i64 ((n : Int) + 1) ∧ s = .string (B (accV a r n)) ∧ sayG 3 r = sayG 3 (r.drop n) ∧ Cells wr w.heap.size 66 #[.string ⟨#[]⟩, .string ⟨#[]⟩] ∧ Below w.heap.size w wr) (fun _ i _ => r.length + 1 - (intOf i).toNat)
      case atStart => exact ⟨0, Nat.zero_le _, rfl, by rw [HA0.out], rfl, R2, BW.out⟩
      case round =>
        obtain ⟨n, hnr, rfl, rfl, hG, hR, hb⟩ := hrel
        have hal := accV_le a r n
        have hs3 := hb.size
        have hRl := hR.lt
        by_cases hlt : n < r.length
        · obtain ⟨x, hx⟩ : ∃ x, r[n]? = some x := ⟨_, List.getElem?_eq_getElem hlt⟩
          have hcx := (hb.cell (p := ⟨b, off + (n + 1), none⟩) hbb).trans (PCH.out n x hx)
          have hxl := hlr x (List.mem_of_getElem? hx)
          have hxz := B_size x
          have RK := fun w => refKind_any (B x) (by omega) w
          rw [B_data] at RK
          have STEP := accV_step a r n x hx
          rw [allK_drop r n x hx] at hG
          by_cases hk3 : kindL x = 3
          · obtain ⟨c, d, t, rfl⟩ := kind3 hk3
            have G2 : Hid (sayG 3 r = sayG 3 (r.drop (n + 1))) := by show _ = _; rw [hG, hk3]; simp
            rw [hk3] at RK
            rw [List.tail_cons] at STEP
            have hex := tail_B c (d :: t)
            have hex2 := tail_B d t
            have z1 : (B (c :: d :: t)).size = t.length + 2 := by rw [B_size]; rfl
            have z2 : (B (d :: t)).size = t.length + 1 := by rw [B_size]; rfl
            have z3 : (B t).size = t.length := B_size t
            have htl : t.length ≤ 1000000 := by simp only [List.length_cons] at hxl; omega
            rw [z1] at hex
            rw [z2] at hex2
            have hd0 : ∀ h : 0 < (B (d :: t)).size, (B (d :: t))[0]'h = d := fun _ => rfl
            have hdp : 0 < (B (d :: t)).size := by omega
            have hcp : 0 < (B (c :: d :: t)).size := by omega
            have q2 := byte_eq (c := d) (d := 46) 46 rfl
            have y1 := B_size (accV a r n)
            have y2 : (B (accV a r n) ++ ⟨#[10]⟩).size = (accV a r n).length + 1 := by rw [show (⟨#[10]⟩ : ByteArray) = B [10] from rfl, B_append, B_size]; simp
            have hal2 : (accV a r n).length ≤ 1000000 := by omega
            clear hx hG hk3 hxz hal
            by_cases hd : d = 46
            · have SB : Hid (B (accV a r (n + 1)) = (B (accV a r n) ++ ⟨#[10]⟩) ++ B t) := by
                show _ = _
                rw [STEP, show (⟨#[10]⟩ : ByteArray) = B [10] from rfl, B_append, B_append]; simp [dropDot, hd]
              have hdb : (d == 46) = true := by simp [hd]
              rw [hdb] at q2
              clear STEP hd
              generalize B (accV a r n) = acc at *
              generalize B (c :: d :: t) = X at *
              generalize B (d :: t) = Y at *
              generalize B t = Z at *
              go_wp2_with fail
              refine (RK _).mono ?_
              rintro e w4 ⟨rfl, b4⟩
              have hcx4 := (b4.cell (p := ⟨b, off + (n + 1), none⟩) (Nat.lt_of_lt_of_le hbb hs3)).trans hcx
              have R4 := cells_kept hR b4 (by omega)
              have hb4 := hb.trans (b4.mono hs3)
              clear hR b4 hcx hb
              go_wp2_with fail
              go_roundw
              case rel => exact ⟨n + 1, hlt, by go_num, by rw [SB.out], G2.out, R4, hb4⟩
              case measure => simp [intOf]; omega
            · have SB : Hid (B (accV a r (n + 1)) = (B (accV a r n) ++ ⟨#[10]⟩) ++ B (d :: t)) := by
                show _ = _
                rw [STEP, show (⟨#[10]⟩ : ByteArray) = B [10] from rfl, B_append, B_append]; simp [dropDot, hd]
              have hdb : (d == 46) = false := by simp [hd]
              rw [hdb] at q2
              clear STEP hd
              generalize B (accV a r n) = acc at *
              generalize B (c :: d :: t) = X at *
              generalize B (d :: t) = Y at *
              generalize B t = Z at *
              go_wp2_with fail
              refine (RK _).mono ?_
              rintro e w4 ⟨rfl, b4⟩
              have hcx4 := (b4.cell (p := ⟨b, off + (n + 1), none⟩) (Nat.lt_of_lt_of_le hbb hs3)).trans hcx
              have R4 := cells_kept hR b4 (by omega)
              have hb4 := hb.trans (b4.mono hs3)
              clear hR b4 hcx hb
              go_wp2_with fail
              go_roundw
              case rel => exact ⟨n + 1, hlt, by go_num, by rw [SB.out], G2.out, R4, hb4⟩
              case measure => simp [intOf]; omega
          · have hF : sayF (a :: r) = false := by
              rw [sayF_cons hka, hG]; simp [hk3]
            obtain ⟨e1, e2, e3⟩ := unfold_no hF
            have ET : Hid (unfoldN (a :: r) = 2 ∧ unfoldK (a :: r) = [] ∧ unfoldV (a :: r) = []) := ⟨e1, e2, e3⟩
            have hki : ((kindL x : Int) != 3) = true := by simp; omega
            clear hx hG hk3 e1 e2 e3 hF STEP
            generalize kindL x = kx at *
            generalize B (accV a r n) = acc at *
            generalize B x = X at *
            go_wp2_with fail
            refine (RK _).mono ?_
            rintro e w4 ⟨rfl, b4⟩
            have R4 := cells_kept hR b4 (by omega)
            have hb4 := hb.trans (b4.mono hs3)
            have c0 := R4.cell 0
            have c1 := R4.cell 1
            have f0 := R4.frozen 0
            have f1 := R4.frozen 1
            simp only [List.getElem?_toArray, List.getElem?_cons_zero, List.getElem?_cons_succ] at c0 c1
            have RE := (R4.set 0 (.string ⟨#[]⟩)).set 1 (.string ⟨#[]⟩)
            rw [set2] at RE
            clear hR b4 hcx hb
            go_wp2_with fail
            refine bodyPost_ret (ret_f2 rfl _ _ w.heap.size _ rfl RE rfl) rfl ?_
            obtain ⟨e1, e2, e3⟩ := ET.out
            exact ⟨by rw [e1, e2, e3]; rfl, (hb4.setCell (Nat.le_refl _) _).setCell (Nat.le_refl _) _⟩
        · obtain rfl : n = r.length := by omega
          rw [accV_all] at *
          rw [List.drop_length] at hG
          have hF : sayF (a :: r) = true := by rw [sayF_cons hka, hG]; rfl
          have c0 := hR.cell 0
          have c1 := hR.cell 1
          have f0 := hR.frozen 0
          have f1 := hR.frozen 1
          simp only [List.getElem?_toArray, List.getElem?_cons_zero, List.getElem?_cons_succ] at c0 c1
          have hvz := B_size (saidV (a :: r))
          by_cases hlen : (saidV (a :: r)).length ≤ 1000
          · have ET : Hid _ := unfold_yes hF hlen
            have RE := (hR.set 0 (.string KB)).set 1 (.string (B (saidV (a :: r))))
            rw [set2] at RE
            rw [← hvz] at hlen
            clear hF hG
            generalize hV : B (saidV (a :: r)) = V at *
            have HV := Lib.hid hV
            clear hV
            go_wp2_with fail
            refine bodyPost_ret (ret_f2 rfl _ _ w.heap.size _ rfl RE rfl) rfl ?_
            obtain ⟨e1, e2, e3⟩ := ET.out
            exact ⟨by rw [e1, e2, e3, HV.out, HK.out]; rfl, (hb.setCell (Nat.le_refl _) _).setCell (Nat.le_refl _) _⟩
          · have ET : Hid _ := unfold_long hF hlen
            have RE := (hR.set 0 (.string ⟨#[]⟩)).set 1 (.string ⟨#[]⟩)
            rw [set2] at RE
            rw [← hvz] at hlen
            clear hF hG
            generalize B (saidV (a :: r)) = V at *
            go_wp2_with fail
            refine bodyPost_ret (ret_f2 rfl _ _ w.heap.size _ rfl RE rfl) rfl ?_
            obtain ⟨e1, e2, e3⟩ := ET.out
            exact ⟨by rw [e1, e2, e3]; rfl, (hb.setCell (Nat.le_refl _) _).setCell (Nat.le_refl _) _⟩
    · have hcb : (c == 32) = false := by simp [hc]
      rw [hcb] at q2
      have HA0 := Lib.hid hA0
      clear hA0 hc
      go_wp2_with fail
      go_loopw [5, 7] (fun s i wr => ∃ n : Nat, n ≤ r.length ∧ i = .int .i64 ((n : Int) + 1) ∧ s = .string (B (accV a r n)) ∧ sayG 3 r = sayG 3 (r.drop n) ∧ Cells wr w.heap.size 66 #[.string ⟨#[]⟩, .string ⟨#[]⟩] ∧ Below w.heap.size w wr) (fun _ i _ => r.length + 1 - (intOf i).toNat)
      case atStart => exact ⟨0, Nat.zero_le _, rfl, by rw [HA0.out], rfl, R2, BW.out⟩
      case round =>
        obtain ⟨n, hnr, rfl, rfl, hG, hR, hb⟩ := hrel
        have hal := accV_le a r n
        have hs3 := hb.size
        have hRl := hR.lt
        by_cases hlt : n < r.length
        · obtain ⟨x, hx⟩ : ∃ x, r[n]? = some x := ⟨_, List.getElem?_eq_getElem hlt⟩
          have hcx := (hb.cell (p := ⟨b, off + (n + 1), none⟩) hbb).trans (PCH.out n x hx)
          have hxl := hlr x (List.mem_of_getElem? hx)
          have hxz := B_size x
          have RK := fun w => refKind_any (B x) (by omega) w
          rw [B_data] at RK
          have STEP := accV_step a r n x hx
          rw [allK_drop r n x hx] at hG
          by_cases hk3 : kindL x = 3
          · obtain ⟨c, d, t, rfl⟩ := kind3 hk3
            have G2 : Hid (sayG 3 r = sayG 3 (r.drop (n + 1))) := by show _ = _; rw [hG, hk3]; simp
            rw [hk3] at RK
            rw [List.tail_cons] at STEP
            have hex := tail_B c (d :: t)
            have hex2 := tail_B d t
            have z1 : (B (c :: d :: t)).size = t.length + 2 := by rw [B_size]; rfl
            have z2 : (B (d :: t)).size = t.length + 1 := by rw [B_size]; rfl
            have z3 : (B t).size = t.length := B_size t
            have htl : t.length ≤ 1000000 := by simp only [List.length_cons] at hxl; omega
            rw [z1] at hex
            rw [z2] at hex2
            have hd0 : ∀ h : 0 < (B (d :: t)).size, (B (d :: t))[0]'h = d := fun _ => rfl
            have hdp : 0 < (B (d :: t)).size := by omega
            have hcp : 0 < (B (c :: d :: t)).size := by omega
            have q2 := byte_eq (c := d) (d := 46) 46 rfl
            have y1 := B_size (accV a r n)
            have y2 : (B (accV a r n) ++ ⟨#[10]⟩).size = (accV a r n).length + 1 := by rw [show (⟨#[10]⟩ : ByteArray) = B [10] from rfl, B_append, B_size]; simp
            have hal2 : (accV a r n).length ≤ 1000000 := by omega
            clear hx hG hk3 hxz hal
            by_cases hd : d = 46
            · have SB : Hid (B (accV a r (n + 1)) = (B (accV a r n) ++ ⟨#[10]⟩) ++ B t) := by
                show _ = _
                rw [STEP, show (⟨#[10]⟩ : ByteArray) = B [10] from rfl, B_append, B_append]; simp [dropDot, hd]
              have hdb : (d == 46) = true := by simp [hd]
              rw [hdb] at q2
              clear STEP hd
              generalize B (accV a r n) = acc at *
              generalize B (c :: d :: t) = X at *
              generalize B (d :: t) = Y at *
              generalize B t = Z at *
              go_wp2_with fail
              refine (RK _).mono ?_
              rintro e w4 ⟨rfl, b4⟩
              have hcx4 := (b4.cell (p := ⟨b, off + (n + 1), none⟩) (Nat.lt_of_lt_of_le hbb hs3)).trans hcx
              have R4 := cells_kept hR b4 (by omega)
              have hb4 := hb.trans (b4.mono hs3)
              clear hR b4 hcx hb
              go_wp2_with fail
              go_roundw
              case rel => exact ⟨n + 1, hlt, by go_num, by rw [SB.out], G2.out, R4, hb4⟩
              case measure => simp [intOf]; omega
            · have SB : Hid (B (accV a r (n + 1)) = (B (accV a r n) ++ ⟨#[10]⟩) ++ B (d :: t)) := by
                show _ = _
                rw [STEP, show (⟨#[10]⟩ : ByteArray) = B [10] from rfl, B_append, B_append]; simp [dropDot, hd]
              have hdb : (d == 46) = false := by simp [hd]
              rw [hdb] at q2
              clear STEP hd
              generalize B (accV a r n) = acc at *
              generalize B (c :: d :: t) = X at *
              generalize B (d :: t) = Y at *
              generalize B t = Z at *
              go_wp2_with fail
              refine (RK _).mono ?_
              rintro e w4 ⟨rfl, b4⟩
              have hcx4 := (b4.cell (p := ⟨b, off + (n + 1), none⟩) (Nat.lt_of_lt_of_le hbb hs3)).trans hcx
              have R4 := cells_kept hR b4 (by omega)
              have hb4 := hb.trans (b4.mono hs3)
              clear hR b4 hcx hb
              go_wp2_with fail
              go_roundw
              case rel => exact ⟨n + 1, hlt, by go_num, by rw [SB.out], G2.out, R4, hb4⟩
              case measure => simp [intOf]; omega
          · have hF : sayF (a :: r) = false := by
              rw [sayF_cons hka, hG]; simp [hk3]
            obtain ⟨e1, e2, e3⟩ := unfold_no hF
            have ET : Hid (unfoldN (a :: r) = 2 ∧ unfoldK (a :: r) = [] ∧ unfoldV (a :: r) = []) := ⟨e1, e2, e3⟩
            have hki : ((kindL x : Int) != 3) = true := by simp; omega
            clear hx hG hk3 e1 e2 e3 hF STEP
            generalize kindL x = kx at *
            generalize B (accV a r n) = acc at *
            generalize B x = X at *
            go_wp2_with fail
            refine (RK _).mono ?_
            rintro e w4 ⟨rfl, b4⟩
            have R4 := cells_kept hR b4 (by omega)
            have hb4 := hb.trans (b4.mono hs3)
            have c0 := R4.cell 0
            have c1 := R4.cell 1
            have f0 := R4.frozen 0
            have f1 := R4.frozen 1
            simp only [List.getElem?_toArray, List.getElem?_cons_zero, List.getElem?_cons_succ] at c0 c1
            have RE := (R4.set 0 (.string ⟨#[]⟩)).set 1 (.string ⟨#[]⟩)
            rw [set2] at RE
            clear hR b4 hcx hb
            go_wp2_with fail
            refine bodyPost_ret (ret_f2 rfl _ _ w.heap.size _ rfl RE rfl) rfl ?_
            obtain ⟨e1, e2, e3⟩ := ET.out
            exact ⟨by rw [e1, e2, e3]; rfl, (hb4.setCell (Nat.le_refl _) _).setCell (Nat.le_refl _) _⟩
        · obtain rfl : n = r.length := by omega
          rw [accV_all] at *
          rw [List.drop_length] at hG
          have hF : sayF (a :: r) = true := by rw [sayF_cons hka, hG]; rfl
          have c0 := hR.cell 0
          have c1 := hR.cell 1
          have f0 := hR.frozen 0
          have f1 := hR.frozen 1
          simp only [List.getElem?_toArray, List.getElem?_cons_zero, List.getElem?_cons_succ] at c0 c1
          have hvz := B_size (saidV (a :: r))
          by_cases hlen : (saidV (a :: r)).length ≤ 1000
          · have ET : Hid _ := unfold_yes hF hlen
            have RE := (hR.set 0 (.string KB)).set 1 (.string (B (saidV (a :: r))))
            rw [set2] at RE
            rw [← hvz] at hlen
            clear hF hG
            generalize hV : B (saidV (a :: r)) = V at *
            have HV := Lib.hid hV
            clear hV
            go_wp2_with fail
            refine bodyPost_ret (ret_f2 rfl _ _ w.heap.size _ rfl RE rfl) rfl ?_
            obtain ⟨e1, e2, e3⟩ := ET.out
            exact ⟨by rw [e1, e2, e3, HV.out, HK.out]; rfl, (hb.setCell (Nat.le_refl _) _).setCell (Nat.le_refl _) _⟩
          · have ET : Hid _ := unfold_long hF hlen
            have RE := (hR.set 0 (.string ⟨#[]⟩)).set 1 (.string ⟨#[]⟩)
            rw [set2] at RE
            rw [← hvz] at hlen
            clear hF hG
            generalize B (saidV (a :: r)) = V at *
            go_wp2_with fail
            refine bodyPost_ret (ret_f2 rfl _ _ w.heap.size _ rfl RE rfl) rfl ?_
            obtain ⟨e1, e2, e3⟩ := ET.out
            exact ⟨by rw [e1, e2, e3]; rfl, (hb.setCell (Nat.le_refl _) _).setCell (Nat.le_refl _) _⟩
end Go.Proofs.YtgaooalckjjplaaGreatDoor

namespace Go.Proofs.YtgaooalckjjplaaGreatDoor
open Go.RowKit Go.Shelf

theorem refUnfold_any (ls : List (List UInt8)) (v : Value) (w : World) (hs : Strs w v (ls.map B)) (hl : ∀ l ∈ ls, l.length ≤ 100000) (hn : ls.length ≤ 100000) (hj : (saidV ls).length ≤ 1000000) :
    Calls Tryz.prog 48 #[v] w fun e w' => e = .returned (.tuple #[fieldV (unfoldK ls) (unfoldV ls), .int .i64 (unfoldN ls : Nat)]) ∧ Below w.heap.size w w' := by
  cases ls with
  | nil =>
    have hF : sayF [] = false := rfl
    obtain ⟨e1, e2, e3⟩ := unfold_no hF
    rw [e1, e2, e3]
    exact refUnfold_no [] v w hs hl hn (.inl rfl)
  | cons a r =>
    by_cases hka : kindL a = 4
    · exact refUnfold_yes a r v w hs hl hn hj hka
    · have hF : sayF (a :: r) = false := by
        rw [sayF_eq]
        show (decide (0 < (a :: r).length) && ((kindL a == 4) && sayG 3 r)) = _
        simp [hka]
      obtain ⟨e1, e2, e3⟩ := unfold_no hF
      rw [e1, e2, e3]
      exact refUnfold_no (a :: r) v w hs hl hn (.inr ⟨a, r, rfl, hka⟩)
end Go.Proofs.YtgaooalckjjplaaGreatDoor

