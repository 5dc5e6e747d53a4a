/- Texts put together: TG, TJ, UF, RQ, RK, QI. -/
import Derived.Deep.RegionHeld3
import Derived.Sort.BigQuietIn
import Derived.Shelf.RegionOpen
import Derived.Test.YtflnlenkgbphpaaGreatDoorBaf1
import Derived.Test.YtflnlenkgbphpaaGreatDoorBaf4
import Derived.Test.YtflnlenkgbphpaaGreatDoorBaf10
import Derived.Test.YtflnlenkgbphpaaGreatDoorBaf11
import Derived.Test.YtflnlenkgbphpaaGreatDoorBaf12
set_option linter.unusedVariables false
namespace Go.Proofs.YtflnlenkgbphpaaGreatDoor
open Go.RowKit Go.Shelf

theorem own_ne {W : World} {base n b : Nat} {v : Value} {xs : List Value} {cs : Array Value} (h : W.ownsRow base 99 3 v n xs) (hc : Cells W b 99 cs) (hs : cs.size = 3) (hn : 2 ≤ n) : v.ownBlock ≠ some b := by
  intro e
  rcases h.2 with ⟨rfl, h0⟩ | ⟨g, cap, cur, rfl, _, hg, h1, h2, h3, _⟩
  · cases e
  · cases e
    have h4 := hc
    unfold Cells at h4
    rw [h4] at hg
    injection hg with hg
    injection hg with hg
    subst hg
    omega
theorem AccM.set {w W : World} {v : Value} {fvs : List Value} {its : List It} {b : Nat} {cs : Array Value} (h : AccM w W v fvs its) (i : Nat) (hc : Cells W b 99 cs) (hne : v.ownBlock ≠ some b) (hb : w.heap.size ≤ b) (x : Value) : AccM w (W.setCell ⟨b, i, none⟩ x) v fvs its := by
  refine ⟨row_cell (p := ⟨b, i, none⟩) h.row hne x, h.len, fun j y s hy hs => row_cell (p := ⟨b, i, none⟩) (h.each j y s hy hs) (fun e => ?_) x, h.below.setCell (p := ⟨b, i, none⟩) hb x⟩
  rcases (h.each j y s hy hs).2 with ⟨rfl, _⟩ | ⟨g, cap, cur, rfl, _, hg, _⟩
  · cases e
  · cases e
    have h4 := hc
    unfold Cells at h4
    rw [h4] at hg
    injection hg with hg
    injection hg with _ h2 _
    exact absurd h2 (by decide)
theorem held_alloc {w w' : World} {o : Obj} (h : Below w.heap.size w w') : Below w.heap.size w (w'.alloc o) := h.alloc h.size o
theorem held_call {w w' w'' : World} (h : Below w.heap.size w w') (h2 : Below w'.heap.size w' w'') : Below w.heap.size w w'' := h.trans (h2.mono h.size)
theorem grown_cells {W w3 : World} {o : Option Nat} {b : Nat} {t : TypeId} {cs : Array Value} (hc : Cells W b t cs) (hg : W.grownBy w3 o) (hne : o ≠ some b) : Cells w3 b t cs :=
  (hg.block b hc.lt (fun e => hne (by first | exact e | exact e.symm))).trans hc
theorem row_ne {W : World} {base n : Nat} {e : TypeId} {sz : Nat} {v : Value} {xs : List Value} (h : W.ownsRow base e sz v n xs) : v.ownBlock ≠ some W.heap.size := fun q => by have := (h.lt _ q).2; omega
set_option maxRecDepth 100000 in
set_option maxHeartbeats 8000000 in
theorem apart_any (its : List It) (v : Value) (w : World) (h : Its w v its) (hnil : NilI w v its) (hn : its.length ≤ 100000) (hf : ∀ it ∈ its, it.fields.length ≤ 1000000) :
    Calls Tryz.prog 75 #[v] w fun e w' => ∃ u fvs, e = .returned u ∧ AccM w w' u fvs (apartL its) := by
  obtain ⟨i0, hi, hz0, hz1, hz2⟩ := info_parts infoItem
  have HN := Lib.hid hnil
  obtain ⟨A, cap, rfl, hle, hc⟩ := h
  have HC := Lib.hid hc
  have HFS := Lib.hid hf
  clear hc hf hnil
  go_enter Tryz.func75, Tryz.ntmps75
  go_wp2_with fail
  go_loopw [3, 8] (fun u i wr => ∃ (k : Nat) (fvs : List Value), k ≤ its.length ∧ i = .int .i64 k ∧ AccM w wr u fvs (apartL (its.take k))) (fun _ i _ => its.length - (intOf i).toNat)
  case atStart => exact ⟨0, [], Nat.zero_le _, rfl, AccM.start w⟩
  case round =>
    obtain ⟨k, fvs, hk, rfl, hacc⟩ := hrel
    by_cases hlt : k < its.length
    · obtain ⟨it, hit⟩ : ∃ it, its[k]? = some it := ⟨_, List.getElem?_eq_getElem hlt⟩
      obtain ⟨b, off, fv, rfl, hbb, c0, c1, c2, hfl⟩ := HC.out k it hit
      have NI : Hid (∀ n c, fv = .slice none n c → c = 0) := fun n c e => HN.out k b off _ cap n c rfl hlt (by rw [c2, e])
      obtain ⟨fa, fc, rfl, _, _⟩ := id hfl
      have nf := HFS.out it (List.mem_of_getElem? hit)
      have hb := hacc.below
      have hzw := hb.size
      have al := apart_len (its.take k)
      rw [List.length_take] at al
      have SN := apart_snoc its k it hit
      have HFL := Lib.hid hfl
      replace c0 := (hb.cell (p := ⟨b, off + k * 3, none⟩) hbb).trans c0
      replace c1 := (hb.cell (p := ⟨b, off + k * 3 + 1, none⟩) hbb).trans c1
      replace c2 := (hb.cell (p := ⟨b, off + k * 3 + 1 + 1, none⟩) hbb).trans c2
      obtain ⟨gap, hgap⟩ : ∃ gap : Bool, (lastF false (its.take k) && it.kind != 1) = gap := ⟨_, rfl⟩
      have SN2 : Hid (apartL (its.take (k + 1)) = (apartL (its.take k) ++ if gap = true then [⟨1, [10], []⟩] else []) ++ [it]) := by
        show _ = _
        rw [SN, ← hgap]
        simp
      have PV : Hid (0 < k → ∃ (jt : It) (ga : Option Addr) (gc : Nat), (∀ W, Below w.heap.size w W → W.cell? ⟨b, off + (k - 1) * 3, none⟩ = some (.int .i64 jt.kind) ∧ W.cell? ⟨b, off + (k - 1) * 3 + 1, none⟩ = some (.string (B jt.raw)) ∧ W.cell? ⟨b, off + (k - 1) * 3 + 1 + 1, none⟩ = some (.slice ga jt.fields.length gc)) ∧ gap = (jt.kind != 1 && it.kind != 1)) := by
        intro hj
        obtain ⟨jt, hjt⟩ : ∃ jt, its[k - 1]? = some jt := ⟨_, List.getElem?_eq_getElem (by omega)⟩
        obtain ⟨b', off', fv', e, hbb', d0, d1, d2, hfj⟩ := HC.out (k - 1) jt hjt
        cases e
        obtain ⟨ga, gc, rfl, _, _⟩ := id hfj
        refine ⟨jt, ga, gc, fun W hW => ⟨(hW.cell (p := ⟨b, off + (k - 1) * 3, none⟩) hbb').trans d0, (hW.cell (p := ⟨b, off + (k - 1) * 3 + 1, none⟩) hbb').trans d1, (hW.cell (p := ⟨b, off + (k - 1) * 3 + 1 + 1, none⟩) hbb').trans d2⟩, ?_⟩
        have := lastF_at its (k - 1) jt hjt
        rw [show k - 1 + 1 = k by omega] at this
        rw [← hgap, this]
      have P0 : Hid (k = 0 → gap = false) := by
        intro h; rw [← hgap, h]; rfl
      have PG : Hid (gap = true → 1 ≤ (apartL (its.take k)).length) := by
        intro h
        have : k ≠ 0 := fun e => by rw [P0.out e] at h; cases h
        have h2 := apart_snoc its (k - 1) (its[k - 1]'(by omega)) (List.getElem?_eq_getElem (by omega))
        rw [show k - 1 + 1 = k by omega] at h2
        rw [h2, List.length_append]; simp
      have ACC0 := Lib.hid hacc
      obtain ⟨ua, uc, hue, _⟩ := own_slice hacc.row
      subst hue
      have BX := Lib.hid (Cells.new wr 99 #[.int .i64 it.kind, .string (B it.raw), .slice fa it.fields.length fc])
      have hba : Below wr.heap.size wr (wr.alloc (.cells #[.int .i64 it.kind, .string (B it.raw), .slice fa it.fields.length fc] 99)) := (Below.refl _ _).alloc (Nat.le_refl _) _
      have NE0 := Lib.hid (row_ne hacc.row)
      clear hacc hit hfl SN hgap
      generalize hap : apartL (its.take k) = ap at *
      clear hap
      go_upto_region 5 with fail
      have hzwb : (wr.alloc (.cells #[.int .i64 it.kind, .string (B it.raw), .slice fa it.fields.length fc] 99)).heap.size = wr.heap.size + 1 := by simp
      generalize wr.alloc (.cells #[.int .i64 it.kind, .string (B it.raw), .slice fa it.fields.length fc] 99) = wb at *
      go_cut [23] (fun c wx => c = .bool gap ∧ Below wb.heap.size wb wx)
      case first =>
        rcases Nat.eq_zero_or_pos k with h0 | h0
        · have hg := P0.out h0
          have hk0 : ¬ (0 < k) := by omega
          clear h0
          go_wp2_with (go_quiet (fail))
          go_meet
          exact ⟨by rw [hg], by first | exact Below.refl _ _ | exact drewN_below (Below.refl _ _) _⟩
        · obtain ⟨jt, ga, gc, dd, hg⟩ := PV.out h0
          have hbw : Below w.heap.size w wb := hb.trans (hba.mono hzw)
          have HS := Lib.hid (show ∀ W, Below wb.heap.size wb W → (Below wb.heap.size wb W ∧ W.cell? ⟨b, off + (k - 1) * 3, none⟩ = some (.int .i64 jt.kind) ∧ W.cell? ⟨b, off + (k - 1) * 3 + 1, none⟩ = some (.string (B jt.raw)) ∧ W.cell? ⟨b, off + (k - 1) * 3 + 1 + 1, none⟩ = some (.slice ga jt.fields.length gc) ∧ W.cell? ⟨wr.heap.size, 0, none⟩ = some (.int .i64 it.kind) ∧ W.cell? ⟨wr.heap.size, 1, none⟩ = some (.string (B it.raw)) ∧ W.cell? ⟨wr.heap.size, 2, none⟩ = some (.slice fa it.fields.length fc)) from fun W hB =>
            have hW := dd W (hbw.trans (hB.mono hbw.size))
            have hX := cells_kept BX.out hB (by omega)
            ⟨hB, hW.1, hW.2.1, hW.2.2, hX.cell 0, hX.cell 1, hX.cell 2⟩)
          have TO := Lib.hid (fun W => touch_any jt.kind it.kind (.string (B jt.raw)) (.string (B it.raw)) (.slice ga jt.fields.length gc) (.slice fa it.fields.length fc) rfl W _ _ _ _ _ _ _ _ rfl rfl rfl rfl)
          have HG := Lib.hid hg
          obtain ⟨m, rfl⟩ : ∃ m, k = m + 1 := ⟨k - 1, by omega⟩
          rw [show m + 1 - 1 = m by omega] at HS
          have hki : (0 : Int) ≤ (m : Int) := by omega
          have hki2 : (m : Int) < (its.length : Int) := by omega
          have hki3 : m < its.length := by omega
          have hki4 : IntKind.i64.wrap (((m + 1 : Nat) : Int) - 1) = (m : Int) := by rw [show ((m + 1 : Nat) : Int) - 1 = (m : Int) by omega]; exact IntWalk.i64_in _ (by omega)
          have hki5 : IntKind.i64.wrap (m : Int) = (m : Int) := IntWalk.i64_in _ (by omega)
          have hki6 : IntKind.i64.wrap ((m : Int) + 1 - 1) = (m : Int) := by rw [show (m : Int) + 1 - 1 = (m : Int) by omega]; exact hki5
          clear hg dd c0 c1 c2 hbw
          go_region_held3 (fun W => Below wb.heap.size wb W ∧ W.cell? ⟨b, off + m * 3, none⟩ = some (.int .i64 jt.kind) ∧ W.cell? ⟨b, off + m * 3 + 1, none⟩ = some (.string (B jt.raw)) ∧ W.cell? ⟨b, off + m * 3 + 1 + 1, none⟩ = some (.slice ga jt.fields.length gc) ∧ W.cell? ⟨wr.heap.size, 0, none⟩ = some (.int .i64 it.kind) ∧ W.cell? ⟨wr.heap.size, 1, none⟩ = some (.string (B it.raw)) ∧ W.cell? ⟨wr.heap.size, 2, none⟩ = some (.slice fa it.fields.length fc)) ((refine HS.out _ ?_; repeat (first | exact Below.refl _ _ | assumption | (refine Below.drew ?_) | (refine held_alloc ?_) | (refine held_call ?_ (by assumption))))) ((go_at_call 109; refine (TO.out _).mono ?_; rintro e w5 ⟨rfl, hb5⟩))
          all_goals go_wp2_with fail
          all_goals go_meet
          all_goals exact ⟨by rw [HG.out], by repeat (first | exact Below.refl _ _ | assumption | (refine Below.drew ?_) | (refine held_alloc ?_) | (refine held_call ?_ (by assumption)))⟩
      case rest =>
        obtain ⟨rfl, hcb⟩ := hcut
        have hcz := hcb.size
        have hrc : Below wr.heap.size wr wc := hba.trans (hcb.mono (by omega))
        have BXY : Hid (Cells wc wr.heap.size 99 #[.int .i64 it.kind, .string (B it.raw), .slice fa it.fields.length fc]) := cells_kept BX.out hcb (by omega)
        have ACC := Lib.hid (ACC0.out.kept hrc)
        have HNE := NE0
        clear PV P0 HC BX ACC0 hcb hba c0 c1 c2 NE0 hb HN HFS
        obtain ⟨j, hjk⟩ : ∃ j, j = k := ⟨k, rfl⟩
        subst hjk
        cases gap with
        | false =>
          have SNH : Hid (apartL (its.take (j + 1)) = ap ++ [it]) := by
            show _ = _
            rw [SN2.out, if_neg (by decide), List.append_nil]
          clear SN2 PG
          have hby := ACC.out.below
          have hzy := hby.size
          have FLy := HFL.out.below hby (Nat.le_refl _)
          have CO := Lib.hid (clone_any it.fields _ wc FLy NI.out nf)
          have lby := BXY.out.lt
          have d2 : wc.cell? ⟨wr.heap.size, 2, none⟩ = some (.slice fa it.fields.length fc) := BXY.out.cell 2
          clear FLy
          go_wp2_with fail
          refine CO.out.mono ?_
          rintro e w3 ⟨x, rfl, hx, b3⟩
          obtain ⟨xa, xc, hxe, _⟩ := own_slice hx
          subst hxe
          have bx3 := cells_kept BXY.out b3 lby
          have hz3 := b3.size
          have hb3 := hby.trans (b3.mono hzy)
          have d2' : w3.cell? ⟨wr.heap.size, 2, none⟩ = some (.slice fa it.fields.length fc) := bx3.cell 2
          have f2' := bx3.frozen 2
          have lz3 := bx3.lt
          have hb4 : Below w.heap.size w (w3.setCell ⟨wr.heap.size, 2, none⟩ (.slice xa it.fields.length xc)) := hb3.setCell (p := ⟨wr.heap.size, 2, none⟩) hzw _
          have hacc4 := (ACC.out.kept b3).set 2 bx3 HNE.out hzw (.slice xa it.fields.length xc)
          have hx4 : (w3.setCell ⟨wr.heap.size, 2, none⟩ (.slice xa it.fields.length xc)).ownsRow w.heap.size 35 2 (.slice xa it.fields.length xc) it.fields.length (cellsF it.fields) :=
            row_cell (p := ⟨wr.heap.size, 2, none⟩) (rowBase hx (by omega)) (fun e => by have h9 : wc.heap.size ≤ wr.heap.size := (hx.lt _ e).1; omega) _
          have bx4 : Cells (w3.setCell ⟨wr.heap.size, 2, none⟩ (.slice xa it.fields.length xc)) wr.heap.size 99 #[.int .i64 it.kind, .string (B it.raw), .slice xa it.fields.length xc] := by
            simpa using bx3.set 2 (.slice xa it.fields.length xc)
          have e0 : (w3.setCell ⟨wr.heap.size, 2, none⟩ (.slice xa it.fields.length xc)).cell? ⟨wr.heap.size, 0, none⟩ = some (.int .i64 it.kind) := bx4.cell 0
          have e1 : (w3.setCell ⟨wr.heap.size, 2, none⟩ (.slice xa it.fields.length xc)).cell? ⟨wr.heap.size, 1, none⟩ = some (.string (B it.raw)) := bx4.cell 1
          have e2 : (w3.setCell ⟨wr.heap.size, 2, none⟩ (.slice xa it.fields.length xc)).cell? ⟨wr.heap.size, 2, none⟩ = some (.slice xa it.fields.length xc) := bx4.cell 2
          have hrow := hacc4.row
          have hz14 := hacc4.below.size
          have HACC := Lib.hid hacc4
          have HX := Lib.hid hx4
          have hv := cells_new_add (w3.setCell ⟨wr.heap.size, 2, none⟩ (.slice xa it.fields.length xc)) 99 [.int .i64 it.kind, .string (B it.raw), .slice xa it.fields.length xc]
          rw [show (w3.setCell ⟨wr.heap.size, 2, none⟩ (.slice xa it.fields.length xc)).heap.size = w3.heap.size by simp [World.setCell]] at hv hz14
          have HV := Lib.hid hv
          clear hv
          clear hacc4 hx4 hx bx3 bx4 CO b3 BXY ACC
          go_wp2_with (at_builtin; refine wpList_append_own _ rfl _ _ 89 rfl w.heap.size 99 i0 _ 3 48 Tryz.underlying89 hi hz0 hz1 hz2 rfl (by decide) _ _ _ rfl (hrow.alloc _) ⟨w3.heap.size, 0, none⟩ 1 1 _ rfl rfl HV.out (by intro u hu; simp at hu; rcases hu with rfl | rfl | rfl <;> rfl) (by unfold maxLen; omega) (by omega) (by first | omega | (simp only [World.size_alloc]; omega) | (simp [World.setCell]; omega)) ?_)
          intro v' w5 hown' hgrow _
          have hacc5 := HACC.out.snoc HX.out hown' _ hgrow
          obtain ⟨g', cap5, rfl⟩ := ownsRow_succ hown'
          go_wp2_with fail
          go_roundw
          case rel => exact ⟨j + 1, _, hlt, by go_num, by rw [SNH.out]; exact hacc5⟩
          case measure => simp [intOf]; omega
        | true =>
          have SNH : Hid (apartL (its.take (j + 1)) = (ap ++ [⟨1, [10], []⟩]) ++ [it]) := by
            show _ = _
            rw [SN2.out, if_pos rfl]
          have hap1 := PG.out rfl
          clear SN2 PG
          have HV0 := Lib.hid (cells_new_add wc 99 [.int .i64 1, .string ⟨#[10]⟩, .slice none 0 0])
          have hrow0 := ACC.out.row
          have hzc := ACC.out.below.size
          go_wp2_with (at_builtin; refine wpList_append_own _ rfl _ _ 89 rfl w.heap.size 99 i0 _ 3 48 Tryz.underlying89 hi hz0 hz1 hz2 rfl (by decide) _ _ _ rfl (hrow0.alloc _) ⟨wc.heap.size, 0, none⟩ 1 1 _ rfl rfl HV0.out (by intro u hu; simp at hu; rcases hu with rfl | rfl | rfl <;> rfl) (by unfold maxLen; omega) (by omega) (by first | omega | (simp only [World.size_alloc]; omega) | (simp [World.setCell]; omega)) ?_)
          intro v4 w4 hown4 hgrow4 _
          have hacc4 := ACC.out.snoc (it := ⟨1, [10], []⟩) (x := .slice none 0 0) ⟨rfl, .inl ⟨rfl, rfl⟩⟩ hown4 _ hgrow4
          have BX4 := grown_cells (BXY.out.alloc _) hgrow4 HNE.out
          have HN4 := own_ne hown4 BX4 rfl (by omega)
          obtain ⟨g4, cap4, rfl⟩ := ownsRow_succ hown4
          have hlen4 : (ap ++ [(⟨1, [10], []⟩ : It)]).length = ap.length + 1 := by simp
          have HLEN := Lib.hid hlen4
          clear ACC hgrow4 hown4 hrow0 HV0 BXY HNE hlen4
          have ACC := Lib.hid hacc4
          have BXY := Lib.hid BX4
          have HNE := Lib.hid HN4
          clear hacc4 BX4 HN4
          have hby := ACC.out.below
          have hzy := hby.size
          have FLy := HFL.out.below hby (Nat.le_refl _)
          have CO := Lib.hid (clone_any it.fields _ w4 FLy NI.out nf)
          have lby := BXY.out.lt
          have d2 : w4.cell? ⟨wr.heap.size, 2, none⟩ = some (.slice fa it.fields.length fc) := BXY.out.cell 2
          clear FLy
          go_wp2_with fail
          refine CO.out.mono ?_
          rintro e w3 ⟨x, rfl, hx, b3⟩
          obtain ⟨xa, xc, hxe, _⟩ := own_slice hx
          subst hxe
          have bx3 := cells_kept BXY.out b3 lby
          have hz3 := b3.size
          have hb3 := hby.trans (b3.mono hzy)
          have d2' : w3.cell? ⟨wr.heap.size, 2, none⟩ = some (.slice fa it.fields.length fc) := bx3.cell 2
          have f2' := bx3.frozen 2
          have lz3 := bx3.lt
          have hb4 : Below w.heap.size w (w3.setCell ⟨wr.heap.size, 2, none⟩ (.slice xa it.fields.length xc)) := hb3.setCell (p := ⟨wr.heap.size, 2, none⟩) hzw _
          have hacc4 := (ACC.out.kept b3).set 2 bx3 HNE.out hzw (.slice xa it.fields.length xc)
          have hx4 : (w3.setCell ⟨wr.heap.size, 2, none⟩ (.slice xa it.fields.length xc)).ownsRow w.heap.size 35 2 (.slice xa it.fields.length xc) it.fields.length (cellsF it.fields) :=
            row_cell (p := ⟨wr.heap.size, 2, none⟩) (rowBase hx (by omega)) (fun e => by have h9 : w4.heap.size ≤ wr.heap.size := (hx.lt _ e).1; omega) _
          have bx4 : Cells (w3.setCell ⟨wr.heap.size, 2, none⟩ (.slice xa it.fields.length xc)) wr.heap.size 99 #[.int .i64 it.kind, .string (B it.raw), .slice xa it.fields.length xc] := by
            simpa using bx3.set 2 (.slice xa it.fields.length xc)
          have e0 : (w3.setCell ⟨wr.heap.size, 2, none⟩ (.slice xa it.fields.length xc)).cell? ⟨wr.heap.size, 0, none⟩ = some (.int .i64 it.kind) := bx4.cell 0
          have e1 : (w3.setCell ⟨wr.heap.size, 2, none⟩ (.slice xa it.fields.length xc)).cell? ⟨wr.heap.size, 1, none⟩ = some (.string (B it.raw)) := bx4.cell 1
          have e2 : (w3.setCell ⟨wr.heap.size, 2, none⟩ (.slice xa it.fields.length xc)).cell? ⟨wr.heap.size, 2, none⟩ = some (.slice xa it.fields.length xc) := bx4.cell 2
          have hrow := hacc4.row
          rw [HLEN.out] at hrow
          have hz14 := hacc4.below.size
          have HACC := Lib.hid hacc4
          have HX := Lib.hid hx4
          have hv := cells_new_add (w3.setCell ⟨wr.heap.size, 2, none⟩ (.slice xa it.fields.length xc)) 99 [.int .i64 it.kind, .string (B it.raw), .slice xa it.fields.length xc]
          rw [show (w3.setCell ⟨wr.heap.size, 2, none⟩ (.slice xa it.fields.length xc)).heap.size = w3.heap.size by simp [World.setCell]] at hv hz14
          have HV := Lib.hid hv
          clear hv
          clear hacc4 hx4 hx bx3 bx4 CO b3 BXY ACC
          go_wp2_with (at_builtin; refine wpList_append_own _ rfl _ _ 89 rfl w.heap.size 99 i0 _ 3 48 Tryz.underlying89 hi hz0 hz1 hz2 rfl (by decide) _ _ _ rfl (hrow.alloc _) ⟨w3.heap.size, 0, none⟩ 1 1 _ rfl rfl HV.out (by intro u hu; simp at hu; rcases hu with rfl | rfl | rfl <;> rfl) (by unfold maxLen; omega) (by omega) (by first | omega | (simp only [World.size_alloc]; omega) | (simp [World.setCell]; omega)) ?_)
          intro v' w5 hown' hgrow _
          have hacc5 := HACC.out.snoc HX.out (by rw [HLEN.out]; exact hown') _ hgrow
          obtain ⟨g', cap5, rfl⟩ := ownsRow_succ hown'
          go_wp2_with fail
          go_roundw
          case rel => exact ⟨j + 1, _, hlt, by go_num, by rw [SNH.out]; exact hacc5⟩
          case measure => simp [intOf]; omega
    · obtain rfl : k = its.length := by omega
      rw [List.take_length] at hacc
      clear HC HN HFS
      go_wp2_with fail
      go_ret
      exact ⟨_, fvs, rfl, hacc⟩
end Go.Proofs.YtflnlenkgbphpaaGreatDoor

namespace Go.Proofs.YtflnlenkgbphpaaGreatDoor
open Go.RowKit Go.Shelf

theorem apart_raw {its : List It} {n : Nat} (h : ∀ it ∈ its, it.raw.length ≤ n) (hn : 1 ≤ n) : ∀ it ∈ apartL its, it.raw.length ≤ n := by
  intro it hi
  rcases apart_mem hi with h1 | rfl
  · exact h it h1
  · exact hn
set_option maxRecDepth 100000 in
set_option maxHeartbeats 4000000 in
theorem render_any (its : List It) (v : Value) (w : World) (h : Its w v its) (hnil : NilI w v its) (hn : its.length ≤ 10000) (hf : ∀ it ∈ its, it.fields.length ≤ 1000000) (hr : ∀ it ∈ its, it.raw.length ≤ 100000) :
    Calls Tryz.prog 50 #[v] w fun e w' => e = .returned (.string (B ((apartL its).flatMap It.raw))) ∧ Below w.heap.size w w' := by
  have AP := Lib.hid (apart_any its v w h hnil (by omega) hf)
  have RW := Lib.hid (apart_raw hr (by decide))
  have al := apart_len its
  obtain ⟨A, cap, rfl, hle, _⟩ := id h
  clear h hnil hf hr
  go_enter Tryz.func50, Tryz.ntmps50
  go_wp2_with fail
  refine AP.out.mono ?_
  rintro e w1 ⟨u, fvs, rfl, acc⟩
  obtain ⟨ua, uc, hue, _⟩ := own_slice acc.row
  subst hue
  have b1 := acc.below
  have hz1 := b1.size
  have J := Lib.hid (join_any (apartL its) _ w1 acc.its (by omega) RW.out)
  clear AP acc
  go_wp2_with fail
  refine J.out.mono ?_
  rintro e w2 ⟨rfl, b2⟩
  have hb2 := b1.trans (b2.mono hz1)
  go_wp2_with fail
  go_ret
  exact ⟨rfl, hb2⟩
set_option maxRecDepth 100000 in
theorem ret_i1 {fn : Func} {p : Tmp} (h : fn.results = #[.cell p 99]) (tmps : Array Value) (w : World) (b : Nat) (cur : Array Value) (hp : tmps.getD p undef = .pointer (some ⟨b, 0, none⟩))
    (hc : Cells w b 99 cur) (hz : cur.size = 3) : (results fn tmps).run Tryz.prog w = .ok (.agg cur) w := by
  have L := run_loadVar_row (P := Tryz.prog) w b 99 99 cur (0, 0) _ hc Tryz.underlying99 rfl (by rw [hz]; kernel_rfl)
  rw [results_cell1 h, hp]
  show (loadVar _ _).run _ _ = _
  exact L
end Go.Proofs.YtflnlenkgbphpaaGreatDoor

namespace Go.Proofs.YtflnlenkgbphpaaGreatDoor
open Go.RowKit Go.Shelf
attribute [local go_sem] Oper.semAt_some

/-- What is asked of entries: how long they are. -/
structure EntsOk (ps : List Pr) : Prop where
  len : ps.length ≤ 10000
  raw : ∀ p ∈ ps, p.1.1.raw.length ≤ 100000
  fields : ∀ p ∈ ps, p.1.1.fields.length ≤ 1000000
  num : ∀ p ∈ ps, -1000000 ≤ p.1.2 ∧ p.1.2 ≤ 1000000
set_option maxRecDepth 100000 in
theorem ret_item {fn : Func} {p : Tmp} (h : fn.results = #[.cell p 99]) (tmps : Array Value) (w : World) (b : Nat) (cur : Array Value) (hp : tmps.getD p undef = .pointer (some ⟨b, 0, none⟩))
    (hc : Cells w b 99 cur) (hz : cur.size = 3) : (results fn tmps).run Tryz.prog w = .ok (.agg cur) w := ret_i1 h tmps w b cur hp hc hz
set_option maxRecDepth 100000 in
set_option maxHeartbeats 4000000 in
theorem item7_any (p : Pr) (w : World) (h : FldR w p.2 p.1.1.fields) (hn : p.1.1.fields.length ≤ 1000000) :
    Calls Tryz.prog 76 #[entV p] w fun e w' => ∃ x, e = .returned (.agg #[.int .i64 p.1.1.kind, .string (B p.1.1.raw), x]) ∧ w'.ownsRow w.heap.size 35 2 x p.1.1.fields.length (cellsF p.1.1.fields) ∧ Below w.heap.size w w' := by
  obtain ⟨⟨⟨kd, raw, fs⟩, num⟩, fv⟩ := p
  dsimp only at h hn ⊢
  obtain ⟨fa, fc, rfl⟩ := h.form
  unfold entV
  dsimp only
  generalize B raw = rw_ at *
  have hb3 : Below w.heap.size w (((w.alloc (.cells #[.int .i64 kd, .string rw_, .slice fa fs.length fc, .int .i64 num] 101)).alloc (.cells #[.int .i64 0, .string ⟨#[]⟩, .slice none 0 0] 99)).alloc (.cells #[.int .i64 kd, .string rw_, .slice fa fs.length fc] 99)) := (((Below.refl _ w).alloc (Nat.le_refl _) _).alloc (by simp) _).alloc (by simp; omega) _
  have CL := Lib.hid (clone_any fs (.slice fa fs.length fc) _ (h.1.below hb3 (Nat.le_refl _)) h.2 hn)
  have BX := Lib.hid (Cells.new ((w.alloc (.cells #[.int .i64 kd, .string rw_, .slice fa fs.length fc, .int .i64 num] 101)).alloc (.cells #[.int .i64 0, .string ⟨#[]⟩, .slice none 0 0] 99)) 99 #[.int .i64 kd, .string rw_, .slice fa fs.length fc])
  have BR := Lib.hid ((Cells.new (w.alloc (.cells #[.int .i64 kd, .string rw_, .slice fa fs.length fc, .int .i64 num] 101)) 99 #[.int .i64 0, .string ⟨#[]⟩, .slice none 0 0]).alloc (.cells #[.int .i64 kd, .string rw_, .slice fa fs.length fc] 99))
  have HB3 := Lib.hid hb3
  clear h hb3
  go_enter Tryz.func76, Tryz.ntmps76
  go_wp2_with fail
  refine CL.out.mono ?_
  rintro e w1 ⟨x, rfl, hx, b1⟩
  obtain ⟨xa, xc, rfl, _⟩ := own_slice hx
  have R1 := cells_kept BX.out b1 (by simp)
  have R2 := cells_kept BR.out b1 (by simp)
  rw [World.size_alloc, World.size_alloc] at R1
  rw [World.size_alloc] at R2
  have hz := b1.size
  simp only [World.size_alloc] at hz
  have c0 := R1.cell 0
  have c1 := R1.cell 1
  have c2 := R1.cell 2
  have f2 := R1.frozen 2
  have d0 := R2.cell 0
  have d1 := R2.cell 1
  have d2 := R2.cell 2
  have g0 := R2.frozen 0
  have g1 := R2.frozen 1
  have g2 := R2.frozen 2
  have HX := Lib.hid hx
  have hb1 := Lib.hid (HB3.out.trans (b1.mono HB3.out.size))
  have S1 := Lib.hid R1
  have S2 := Lib.hid R2
  simp only [List.getElem?_toArray, List.getElem?_cons_zero, List.getElem?_cons_succ] at c0 c1 c2 d0 d1 d2
  clear CL BX BR hx R1 R2 b1
  go_wp2_with fail
  have hne : ∀ k, k < w.heap.size + 3 → ∀ y : Value, (Value.slice xa fs.length xc).ownBlock ≠ some k := fun k hk y e => by
    have := (HX.out.lt k e).1
    simp at this
    omega
  have RE := (((S2.out.other (p := ⟨w.heap.size + 1 + 1, 2, none⟩) (by show w.heap.size + 1 ≠ w.heap.size + 1 + 1; omega) (.slice xa fs.length xc)).set 0 (.int .i64 kd)).set 1 (.string rw_)).set 2 (.slice xa fs.length xc)
  rw [set3] at RE
  refine bodyPost_ret (ret_item rfl _ _ (w.heap.size + 1) _ rfl RE rfl) rfl ?_
  refine ⟨_, rfl, rowBase (row_cell (row_cell (row_cell (row_cell HX.out ?_ _) ?_ _) ?_ _) ?_ _) (by simp; omega), ?_⟩
  · exact hne _ (by show w.heap.size + 1 + 1 < _; omega) undef
  · exact hne _ (by show w.heap.size + 1 < _; omega) undef
  · exact hne _ (by show w.heap.size + 1 < _; omega) undef
  · exact hne _ (by show w.heap.size + 1 < _; omega) undef
  · exact (((hb1.out.setCell (p := ⟨w.heap.size + 1 + 1, 2, none⟩) (by show w.heap.size ≤ w.heap.size + 1 + 1; omega) _).setCell (p := ⟨w.heap.size + 1, 0, none⟩) (by show w.heap.size ≤ w.heap.size + 1; omega) _).setCell (p := ⟨w.heap.size + 1, 1, none⟩) (by show w.heap.size ≤ w.heap.size + 1; omega) _).setCell (p := ⟨w.heap.size + 1, 2, none⟩) (by show w.heap.size ≤ w.heap.size + 1; omega) _
/-- The items of entries. -/
def itsP (ps : List Pr) : List It := ps.map fun p => p.1.1
theorem itsP_len (ps : List Pr) : (itsP ps).length = ps.length := by unfold itsP; simp
set_option maxRecDepth 100000 in
set_option maxHeartbeats 4000000 in
theorem items_gen (ps : List Pr) (v : Value) (q : Option Addr) (w : World) (hl : AllR w (.pointer q) v ps) (ok : EntsOk ps) :
    Calls Tryz.prog 51 #[.pointer q] w fun e w' => ∃ u fvs, e = .returned u ∧ AccM w w' u fvs (itsP ps) := by
  obtain ⟨i0, hi, hz0, hz1, hz2⟩ := info_parts infoItem
  have ALL := Lib.hid hl.2
  have HE := Lib.hid hl.1
  have HF := Lib.hid ok.fields
  have hlen := ok.len
  obtain ⟨A, cap, rfl, hle⟩ := hl.1.empty
  clear hl ok
  go_enter Tryz.func51, Tryz.ntmps51
  go_wp2_with fail
  refine ALL.out.mono ?_
  rintro e w1 ⟨rfl, rfl⟩
  go_wp2_with fail
  go_loopw [3, 9] (fun u i wr => ∃ (k : Nat) (fvs : List Value), k ≤ ps.length ∧ i = .int .i64 k ∧ AccM w wr u fvs (itsP (ps.take k))) (fun _ i _ => ps.length - (intOf i).toNat)
  case atStart => exact ⟨0, [], Nat.zero_le _, rfl, AccM.start w⟩
  case round =>
    obtain ⟨k, fvs, hk, rfl, hacc⟩ := hrel
    by_cases hlt : k < ps.length
    · obtain ⟨p, hp⟩ : ∃ p, ps[k]? = some p := ⟨_, List.getElem?_eq_getElem hlt⟩
      have hb := hacc.below
      have hE := HE.out.below hb (Nat.le_refl _)
      obtain ⟨g, cap', pa, pc, e1, _, hg, e2, d0, d1, d2, d3⟩ := hE.here hp
      cases e1
      have hfr := hE.each p (List.mem_of_getElem? hp)
      have hfn := HF.out p (List.mem_of_getElem? hp)
      rw [e2] at d2
      have hba := (Below.refl wr.heap.size wr).alloc (Nat.le_refl _) (.cells #[.int .i64 p.1.1.kind, .string (B p.1.1.raw), p.2, .int .i64 p.1.2] 101)
      have IT := item7_any p _ (hfr.below hba (Nat.le_refl _)) hfn
      unfold entV at IT
      rw [e2] at IT hba
      have IT := Lib.hid IT
      have ACC := Lib.hid (hacc.kept hba)
      have ITK := Lib.hid (show itsP (ps.take (k + 1)) = itsP (ps.take k) ++ [p.1.1] by unfold itsP; rw [List.take_add_one, hp]; simp)
      have hll : (itsP (ps.take k)).length = k := by unfold itsP; rw [List.length_map, List.length_take]; omega
      clear hacc hE hfr hp
      go_wp2_with fail
      refine IT.out.mono ?_
      rintro e w2 ⟨x, rfl, hx, b2⟩
      obtain ⟨xa, xc, rfl, _⟩ := own_slice hx
      have acc2 := ACC.out.kept b2
      have hx2 := rowBase hx (show w.heap.size ≤ _ by have := hb.size; simp; omega)
      have hrow := acc2.row
      rw [hll] at hrow
      have ACC2 := Lib.hid acc2
      have HX2 := Lib.hid hx2
      have HV := Lib.hid (cells_new_add w2 99 [.int .i64 p.1.1.kind, .string (B p.1.1.raw), .slice xa p.1.1.fields.length xc])
      clear IT ACC hx hx2 acc2 b2
      go_wp2_with (at_builtin; refine wpList_append_own _ rfl _ _ 89 rfl w.heap.size 99 i0 _ 3 48 Tryz.underlying89 hi hz0 hz1 hz2 rfl (by decide) _ _ _ rfl (hrow.alloc _) ⟨w2.heap.size, 0, none⟩ 1 1 _ rfl rfl HV.out ?c2 ?c3 ?c4 ?c5 ?_)
      case c2 => intro u hu; simp at hu; rcases hu with rfl | rfl | rfl <;> rfl
      case c3 => unfold maxLen; omega
      case c4 => omega
      case c5 => simp; have := ACC2.out.below.size; omega
      intro v' w3 hown' hgrow _
      have hacc3 := ACC2.out.snoc HX2.out (by rw [hll]; exact hown') _ hgrow
      obtain ⟨g', cap', rfl⟩ := ownsRow_succ hown'
      go_wp2_with fail
      go_roundw
      case rel => exact ⟨k + 1, _, hlt, by go_num, by rw [ITK.out]; exact hacc3⟩
      case measure => simp [intOf]; omega
    · obtain rfl : k = ps.length := by omega
      rw [List.take_length] at hacc
      clear HE HF ALL
      go_wp2_with fail
      go_ret
      exact ⟨_, fvs, rfl, hacc⟩
theorem itsP_raw {ps : List Pr} (ok : EntsOk ps) : ∀ it ∈ itsP ps, it.raw.length ≤ 100000 := by
  intro it h
  obtain ⟨p, hp, rfl⟩ := List.mem_map.1 h
  exact ok.raw p hp
theorem itsP_fields {ps : List Pr} (ok : EntsOk ps) : ∀ it ∈ itsP ps, it.fields.length ≤ 1000000 := by
  intro it h
  obtain ⟨p, hp, rfl⟩ := List.mem_map.1 h
  exact ok.fields p hp
set_option maxRecDepth 100000 in
set_option maxHeartbeats 4000000 in
theorem text_gen (ps : List Pr) (v : Value) (q : Option Addr) (w : World) (hl : AllR w (.pointer q) v ps) (ok : EntsOk ps) :
    Calls Tryz.prog 24 #[.pointer q] w fun e w' => e = .returned (.string (B ((apartL (itsP ps)).flatMap It.raw))) ∧ Below w.heap.size w w' := by
  have IT := Lib.hid (items_gen ps v q w hl ok)
  have OK := Lib.hid ok
  clear hl ok
  go_enter Tryz.func24, Tryz.ntmps24
  go_wp2_with fail
  refine IT.out.mono ?_
  rintro e w1 ⟨u, fvs, rfl, acc⟩
  obtain ⟨ua, uc, rfl, _⟩ := own_slice acc.row
  have b1 := acc.below
  have RN := Lib.hid (render_any (itsP ps) _ w1 acc.its acc.nil (by have := OK.out.len; rw [itsP_len]; omega) (itsP_fields OK.out) (itsP_raw OK.out))
  clear IT acc
  go_wp2_with fail
  refine RN.out.mono ?_
  rintro e w2 ⟨rfl, b2⟩
  have hb2 := b1.trans (b2.mono b1.size)
  go_wp2_with fail
  go_ret
  exact ⟨rfl, hb2⟩
theorem find_any (lb : Nat) (ev : Value) (ps : List Pr) (nx id : Int) (w : World) (h : LR w lb ev ps nx) (hps : ps.length ≤ 1000000) :
    Calls Tryz.prog 111 #[ptr lb, .int .i64 id] w fun e w' => e = .returned (foundV (findP ps id)) ∧ Below w.heap.size w w' :=
  find_gen ps ev (some ⟨lb, 0, none⟩) id w (fun _ hB => AllR.of (h.below hB (Nat.le_refl _))) hps
theorem find_nil (id : Int) (w : World) : Calls Tryz.prog 111 #[.pointer none, .int .i64 id] w fun e w' => e = .returned (.tuple #[.int .i64 0, .bool false]) ∧ Below w.heap.size w w' :=
  find_gen [] (.slice none 0 0) none id w (fun W _ => AllR.none W) (by decide)
theorem findP_lt {ps : List Pr} {id : Int} {k : Nat} (h : findP ps id = some k) : ∃ p, ps[k]? = some p ∧ p.1.1.kind = 3 ∧ p.1.2 = id := by
  unfold findP at h
  obtain ⟨x, hx, rfl⟩ := Option.map_eq_some_iff.1 h
  have hm := List.mem_of_find?_eq_some hx
  have hq := List.find?_some hx
  obtain ⟨_, a, b⟩ := stzG_mem 0 ps x hm
  exact ⟨x.2, a, b, by simpa using hq⟩
/-- Where one is inserted behind a number. -/
def gapP (ps : List Pr) (behind : Int) : Option Nat := if behind = 0 then some 0 else (findP ps behind).map (· + 1)
set_option maxRecDepth 100000 in
set_option maxHeartbeats 4000000 in
theorem gap_any (lb : Nat) (ev : Value) (ps : List Pr) (nx id : Int) (w : World) (h : LR w lb ev ps nx) (hps : ps.length ≤ 1000000) :
    Calls Tryz.prog 133 #[ptr lb, .int .i64 id] w fun e w' => (∃ k : Nat, e = .returned (.tuple #[.int .i64 k, .bool (gapP ps id).isSome]) ∧ ∀ j, gapP ps id = some j → k = j) ∧ Below w.heap.size w w' := by
  have FD := Lib.hid (find_any lb ev ps nx id w h hps)
  clear h
  unfold ptr at *
  by_cases h0 : id = 0
  · subst h0
    go_enter Tryz.func133, Tryz.ntmps133
    go_wp2_with fail
    go_ret2
    exact ⟨⟨0, rfl, fun j h => by cases h; rfl⟩, Below.refl _ _⟩
  · have h1 : ((id : Int) == 0) = false := beq_eq_false_iff_ne.2 h0
    unfold gapP
    rw [if_neg h0]
    cases hf : findP ps id with
    | none =>
      rw [hf] at FD
      unfold foundV at FD
      dsimp only at FD
      go_enter Tryz.func133, Tryz.ntmps133
      go_wp2_with fail
      refine FD.out.mono ?_
      rintro e w1 ⟨rfl, b1⟩
      go_wp2_with fail
      go_ret2
      exact ⟨⟨1, rfl, fun j h => by cases h⟩, b1⟩
    | some k =>
      obtain ⟨p, hp, _, _⟩ := findP_lt hf
      have hk := (List.getElem?_eq_some_iff.1 hp).1
      rw [hf] at FD
      unfold foundV at FD
      dsimp only at FD
      clear hf hp
      go_enter Tryz.func133, Tryz.ntmps133
      go_wp2_with fail
      refine FD.out.mono ?_
      rintro e w1 ⟨rfl, b1⟩
      go_wp2_with fail
      go_ret2
      exact ⟨⟨k + 1, rfl, fun j h => by cases h; rfl⟩, b1⟩
theorem gap_nil (id : Int) (w : World) : Calls Tryz.prog 133 #[.pointer none, .int .i64 id] w fun e w' => (∃ k : Int, e = .returned (.tuple #[.int .i64 k, .bool false])) ∧ Below w.heap.size w w' := by
  have FD := Lib.hid (find_nil id w)
  by_cases h0 : id = 0
  · subst h0
    go_enter Tryz.func133, Tryz.ntmps133
    go_wp2_with fail
    go_ret2
    exact ⟨⟨0, rfl⟩, Below.refl _ _⟩
  · have h1 : ((id : Int) == 0) = false := beq_eq_false_iff_ne.2 h0
    go_enter Tryz.func133, Tryz.ntmps133
    go_wp2_with fail
    refine FD.out.mono ?_
    rintro e w1 ⟨rfl, b1⟩
    go_wp2_with fail
    go_ret2
    exact ⟨⟨1, rfl⟩, b1⟩
end Go.Proofs.YtflnlenkgbphpaaGreatDoor

namespace Go.Proofs.YtflnlenkgbphpaaGreatDoor
open Go.RowKit

def calm (ops : Array Oper) : Bool := ops.all fun o => match o.op with | .defer _ => false | _ => true
theorem calm_of {ops : Array Oper} (h : calm ops = true) {i : Nat} {o : Oper} (ho : ops[i]? = some o) : ∀ c, o.op ≠ .defer c := by
  intro c e
  have hm := Array.mem_of_getElem? ho
  have := (Array.all_eq_true_iff_forall_mem.1 h) o hm
  simp [e] at this

theorem opIn_round {n l : Nat} {P : Program} {o : Oper} {a : Act} {w : World} {next : Act → World → Prop} {Q : Exit → Act → World → Prop} (h : ∀ c, o.op ≠ .defer c)
    (g : o.wpIn Fence.wide n P a w next Q) : o.wpIn (Fence.wide.inRound l) n P a w next Q := by
  refine ⟨g.1, ?_⟩
  have g2 := g.2
  rw [Oper.semAt_eq _ _ _ h] at g2 ⊢
  generalize (execOp a.eval o).run P w = r at g2 ⊢
  cases r with
  | ok x w' => cases x <;> exact g2
  | halt x w' => cases x <;> exact g2
theorem opsIn_round {n l : Nat} {P : Program} {md : Region.Mode} {ops : Array Oper} {Q : Exit → Act → World → Prop} (h : calm ops = true) : ∀ (fuel : Nat) (listed : Array Bool) (a : Act) (w : World),
    wpAnyIn Fence.wide n P md ops Q fuel listed a w → wpAnyIn (Fence.wide.inRound l) n P md ops Q fuel listed a w
  | 0, _, _, _, g => g
  | fuel + 1, listed, a, w, g => by
    refine ⟨g.1, fun i hi => ?_⟩
    have g2 := g.2 i hi
    unfold wpOpIn at g2 ⊢
    cases ho : ops[i]? with
    | none => rw [ho] at g2; exact opsIn_round h fuel _ _ _ g2
    | some o =>
      rw [ho] at g2
      simp only at g2 ⊢
      split at g2
      · rename_i hw
        rw [if_pos hw]
        exact opIn_round (calm_of h ho) (opIn_mono (fun a w => opsIn_round h fuel _ a w) g2)
      · rename_i hw
        rw [if_neg hw]
        exact ⟨g2.1, opsIn_round h fuel _ _ _ g2.2⟩
where
  opIn_mono {n : Nat} {P : Program} {o : Oper} {a : Act} {w : World} {K K' : Act → World → Prop} {Q : Exit → Act → World → Prop} (h : ∀ a w, K a w → K' a w) (g : o.wpIn Fence.wide n P a w K Q) : o.wpIn Fence.wide n P a w K' Q := by
    refine ⟨g.1, ?_⟩
    have g2 := g.2
    generalize (Oper.semAt Fence.wide.round a.eval o).run P w = r at g2 ⊢
    cases r with
    | ok x w' =>
      cases x with
      | enter f args => exact ⟨g2.1, g2.2.mono fun e w hh => by cases e <;> first | exact h _ _ hh | exact hh⟩
      | row f args => exact ⟨g2.1, fun c cs hr => by obtain ⟨v, w', hv, hs⟩ := g2.2 c cs hr; exact ⟨v, w', h _ _ hv, hs⟩⟩
      | round l f t x y => exact ⟨g2.1, g2.2.mono fun e w hh => by cases e <;> first | exact h _ _ hh | exact hh⟩
      | value v => exact h _ _ g2
      | skip => exact h _ _ g2
      | defer d => exact h _ _ g2
      | _ => exact g2
    | halt x w' => cases x <;> exact g2

end Go.Proofs.YtflnlenkgbphpaaGreatDoor

namespace Go.Proofs.YtflnlenkgbphpaaGreatDoor
open Go.RowKit

theorem rows_wide {n : Nat} {P : Program} {row : String} {args : Array Value} {w : World} {R : Value → World → Prop} (h : Rows P row args w R) : RowsIn Fence.wide n P row args w R := by
  intro c cs _
  obtain ⟨v, w', r, s⟩ := h c cs
  exact ⟨v, w', r, stepsIn_wide.2 s⟩
theorem oper_wide {n : Nat} {P : Program} {o : Oper} {a : Act} {w : World} {K : Act → World → Prop} {Q : Exit → Act → World → Prop} (h : ∀ c, o.op ≠ .defer c) (g : o.wp P a w K Q) : o.wpIn Fence.wide n P a w K Q := by
  refine ⟨fun _ _ => trivial, ?_⟩
  unfold Oper.wp at g
  rw [Oper.semAt_eq _ _ _ h]
  generalize (execOp a.eval o).run P w = r at g ⊢
  cases r with
  | ok x w' =>
    cases x with
    | enter f args => exact ⟨fun q => by simp [Fence.wide] at q, callsIn_wide.2 g⟩
    | row f args => exact ⟨fun q => by simp [Fence.wide] at q, rows_wide g⟩
    | round l f t x y => exact g.elim
    | value v => exact g
    | skip => exact g
    | defer d => exact g
    | _ => exact g
  | halt x w' => cases x <;> exact g
theorem ops_wide {n : Nat} {P : Program} {md : Region.Mode} {ops : Array Oper} {Q : Exit → Act → World → Prop} (h : calm ops = true) (hno : ¬ LetsOut Q) : ∀ (fuel : Nat) (listed : Array Bool) (a : Act) (w : World),
    wpAny P md ops Q fuel listed a w → wpAnyIn Fence.wide n P md ops Q fuel listed a w
  | 0, _, _, _, g => g
  | fuel + 1, listed, a, w, g => by
    refine ⟨g.1, fun i hi => ?_⟩
    have g2 := g.2 i hi
    unfold wpOpIn
    unfold wpOp at g2
    cases ho : ops[i]? with
    | none => rw [ho] at g2; exact ops_wide h hno fuel _ _ _ g2
    | some o =>
      rw [ho] at g2
      simp only at g2 ⊢
      split at g2
      · rename_i hw
        rw [if_pos hw]
        exact oper_wide (calm_of h ho) (Oper.wp_mono (fun a w => ops_wide h hno fuel _ a w) (g2.resolve_right fun q => hno q.2))
      · rename_i hw
        rw [if_neg hw]
        exact ⟨fun _ _ => trivial, ops_wide h hno fuel _ _ _ g2⟩
theorem wp_region_round {n r : Nat} {P : Program} {id : Nat} {ops : Array Oper} {Q : Exit → Act → World → Prop} {a : Act} {w : World} (hd : calm ops = true) (hno : ¬ LetsOut Q) (hm : P.follows .mixedOrders = true) (h : wpAny P .any ops Q ops.size (Array.replicate ops.size false) a w.drew) :
    (Code.region id ops true).wpIn (Fence.wide.inRound r) n P Q a w :=
  wpIn_region_any hm (opsIn_round hd _ _ _ _ (ops_wide hd hno _ _ _ _ h))
end Go.Proofs.YtflnlenkgbphpaaGreatDoor

namespace Go.Proofs.YtflnlenkgbphpaaGreatDoor
open Go.RowKit Go.Shelf

def ops29 : Array Oper := #[{ dst := some 106, op := Op.buildSlice 31 0 #[], type := 31, pos := "ref.go:71", after := #[], guard := none }, { dst := some 107, op := Op.fieldAddr 99 (Operand.tmp 9) 2, type := 0, pos := "ref.go:71", after := #[], guard := none }, { dst := some 108, op := Op.load 31 (Operand.tmp 107), type := 31, pos := "ref.go:71", after := #[{ on := 1, ground := Ground.data }], guard := none }, { dst := some 109, op := Op.call { callee := Callee.builtin Builtin.append, args := #[Operand.tmp 106, Operand.tmp 108], argTypes := #[31, 31] }, type := 31, pos := "ref.go:71", after := #[{ on := 0, ground := Ground.data }, { on := 2, ground := Ground.data }], guard := none }, { dst := some 110, op := Op.load 35 (Operand.tmp 13), type := 35, pos := "ref.go:71", after := #[], guard := none }, { dst := some 111, op := Op.buildSlice 31 1 #[(0, Operand.tmp 110)], type := 31, pos := "ref.go:71", after := #[{ on := 4, ground := Ground.data }], guard := none }, { dst := some 112, op := Op.call { callee := Callee.builtin Builtin.append, args := #[Operand.tmp 109, Operand.tmp 111], argTypes := #[31, 31] }, type := 31, pos := "ref.go:71", after := #[{ on := 3, ground := Ground.data }, { on := 5, ground := Ground.data }, { on := 3, ground := Ground.chain }], guard := none }, { dst := some 113, op := Op.fieldAddr 99 (Operand.tmp 9) 2, type := 0, pos := "ref.go:71", after := #[{ on := 0, ground := Ground.phase }, { on := 1, ground := Ground.phase }, { on := 2, ground := Ground.phase }, { on := 3, ground := Ground.phase }, { on := 4, ground := Ground.phase }, { on := 5, ground := Ground.phase }, { on := 6, ground := Ground.phase }], guard := none }, { dst := none, op := Op.store 31 (Operand.tmp 113) (Operand.tmp 112), type := 0, pos := "ref.go:71", after := #[{ on := 7, ground := Ground.data }, { on := 6, ground := Ground.data }, { on := 6, ground := Ground.chain }, { on := 0, ground := Ground.phase }, { on := 1, ground := Ground.phase }, { on := 2, ground := Ground.phase }, { on := 3, ground := Ground.phase }, { on := 4, ground := Ground.phase }, { on := 5, ground := Ground.phase }, { on := 6, ground := Ground.phase }], guard := none }]
theorem done29 : ∀ b0 b1 b2 b3 b4 b5 b6 b7 b8 : Bool, Region.ready .any ops29 #[b0, b1, b2, b3, b4, b5, b6, b7, b8] = [] → b8 = true := by decide +kernel
theorem ev29 {a : Act} {i : Nat} {v : Value} (h : a.tmps[i]? = some v) : a.eval (.tmp i) = v := by
  show a.tmps.getD i undef = v
  rw [Array.getD_eq_getD_getElem?, h]; rfl
theorem put29 {a : Act} {d : Nat} {v : Value} (hd : d < a.tmps.size) (j : Nat) : (a.put (some d) v).tmps[j]? = if j = d then some v else a.tmps[j]? := by
  show (a.tmps.setIfInBounds d v)[j]? = _
  rw [Array.getElem?_setIfInBounds]
  by_cases h : d = j
  · subst h; simp [hd]
  · rw [if_neg h, if_neg (Ne.symm h)]
theorem size29 (a : Act) (d : Nat) (v : Value) : (a.put (some d) v).tmps.size = a.tmps.size := by show (a.tmps.setIfInBounds d v).size = _; simp
set_option maxHeartbeats 1000000 in
theorem go_lit0 {o : Oper} {a : Act} {w : World} {K : Act → World → Prop} {Q : Exit → Act → World → Prop} (ho : o.op = Op.buildSlice 31 0 #[]) (hK : K (a.put o.dst (.slice (some ⟨w.heap.size, 0, none⟩) 0 0)) (w.alloc (.cells #[] 35))) : Oper.wp Tryz.prog o a w K Q := by
  unfold Oper.wp
  have e : (execOp a.eval o).run Tryz.prog w = .ok (.value (.slice (some ⟨w.heap.size, 0, none⟩) 0 0)) (w.alloc (.cells #[] 35)) := by
    simp only [execOp, ho]
    kernel_rfl
  rw [e]; exact hK
set_option maxHeartbeats 1000000 in
theorem go_lit1 {o : Oper} {a : Act} {w : World} {K : Act → World → Prop} {Q : Exit → Act → World → Prop} {x : Operand} {s t : ByteArray} (ho : o.op = Op.buildSlice 31 1 #[(0, x)]) (hx : a.eval x = .agg #[.string s, .string t]) (hK : K (a.put o.dst (.slice (some ⟨w.heap.size, 0, none⟩) 1 1)) (w.alloc (.cells #[.string s, .string t] 35))) : Oper.wp Tryz.prog o a w K Q := by
  unfold Oper.wp
  have e : (execOp a.eval o).run Tryz.prog w = .ok (.value (.slice (some ⟨w.heap.size, 0, none⟩) 1 1)) (w.alloc (.cells #[.string s, .string t] 35)) := by
    simp only [execOp, ho]
    rw [show (Array.map (fun (p : Nat × Operand) => match p with | (i, x) => (i, a.eval x)) #[((0 : Nat), x)]) = #[((0 : Nat), Value.agg #[.string s, .string t])] from by rw [← hx]; simp]
    kernel_rfl
  rw [e]; exact hK
set_option maxHeartbeats 1000000 in
theorem go_faddr {o : Oper} {a : Act} {w : World} {K : Act → World → Prop} {Q : Exit → Act → World → Prop} {x : Operand} {b : Nat} (ho : o.op = Op.fieldAddr 99 x 2) (hx : a.eval x = .pointer (some ⟨b, 0, none⟩)) (hK : K (a.put o.dst (.pointer (some ⟨b, 2, none⟩))) w) : Oper.wp Tryz.prog o a w K Q := by
  unfold Oper.wp
  have e : (execOp a.eval o).run Tryz.prog w = .ok (.value (.pointer (some ⟨b, 2, none⟩))) w := by
    simp only [execOp, ho, hx]
    simp [go_sem, Result.andThen]
  rw [e]; exact hK
set_option maxHeartbeats 1000000 in
theorem go_load1 {o : Oper} {a : Act} {w : World} {K : Act → World → Prop} {Q : Exit → Act → World → Prop} {x : Operand} {p : Addr} {v : Value} (ho : o.op = Op.load 31 x) (hx : a.eval x = .pointer (some p)) (hc : w.cell? p = some v) (hK : K (a.put o.dst v) w) : Oper.wp Tryz.prog o a w K Q := by
  unfold Oper.wp
  have e : (execOp a.eval o).run Tryz.prog w = .ok (.value v) w := by
    simp only [execOp, ho, hx]
    simp [go_sem, Result.andThen, hc]
  rw [e]; exact hK
set_option maxHeartbeats 1000000 in
theorem go_load2 {o : Oper} {a : Act} {w : World} {K : Act → World → Prop} {Q : Exit → Act → World → Prop} {x : Operand} {b : Nat} {u v : Value} (ho : o.op = Op.load 35 x) (hx : a.eval x = .pointer (some ⟨b, 0, none⟩)) (hc : w.cell? ⟨b, 0, none⟩ = some u) (hd : w.cell? ⟨b, 1, none⟩ = some v) (hK : K (a.put o.dst (.agg #[u, v])) w) : Oper.wp Tryz.prog o a w K Q := by
  unfold Oper.wp
  have e : (execOp a.eval o).run Tryz.prog w = .ok (.value (.agg #[u, v])) w := by
    simp only [execOp, ho, hx]
    simp [go_sem, Result.andThen, hc, hd]
  rw [e]; exact hK
set_option maxHeartbeats 1000000 in
theorem go_store1 {o : Oper} {a : Act} {w : World} {K : Act → World → Prop} {Q : Exit → Act → World → Prop} {x y : Operand} {p : Addr} {u : Value} {g : Option Addr} {n c : Nat} (ho : o.op = Op.store 31 x y) (hx : a.eval x = .pointer (some p)) (hy : a.eval y = .slice g n c) (hc : w.cell? p = some u) (hf : w.frozen? p = false) (hK : K (a.put o.dst undef) (w.setCell p (.slice g n c))) : Oper.wp Tryz.prog o a w K Q := by
  unfold Oper.wp
  have e : (execOp a.eval o).run Tryz.prog w = .ok .skip (w.setCell p (.slice g n c)) := by
    simp only [execOp, ho, hx, hy]
    simp [go_sem, Result.andThen, hc, hf]
  rw [e]; exact hK
end Go.Proofs.YtflnlenkgbphpaaGreatDoor

