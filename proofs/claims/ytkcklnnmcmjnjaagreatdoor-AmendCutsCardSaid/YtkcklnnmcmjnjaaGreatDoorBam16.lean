/- Texts put together: UM, UN, UO. -/
import Derived.Test.YtkcklnnmcmjnjaaGreatDoorBam15
set_option linter.unusedVariables false
namespace Go.Proofs.YtkcklnnmcmjnjaaGreatDoor
open Go.RowKit Go.Shelf
attribute [local go_sem] Oper.semAt_some errV_0

/-- What Of comes to. -/
def OfR (w : World) (t : List UInt8) (e : Ending) (w' : World) : Prop :=
  Below w.heap.size w w' ∧ match parseL t with
    | .error (a, n) => ∃ u, e = .returned (.tuple #[.pointer none, u]) ∧ FaultAt w.heap.size w' u a n
    | .ok its => ∃ lb ev ps, e = .returned (.tuple #[ptr lb, .nilIface]) ∧ w.heap.size ≤ lb ∧ (∀ b, ev.ownBlock = some b → w.heap.size ≤ b) ∧ LA w' lb ev ps (fromL its).next ∧ ps.map Prod.fst = (fromL its).es
theorem OfR.no {w w' : World} {t : List UInt8} {e : Ending} {a n : Nat} (h : OfR w t e w') (hp : parseL t = .error (a, n)) : Below w.heap.size w w' ∧ ∃ u, e = .returned (.tuple #[.pointer none, u]) ∧ FaultAt w.heap.size w' u a n := by
  obtain ⟨h1, h2⟩ := h
  rw [hp] at h2
  exact ⟨h1, h2⟩
theorem OfR.yes {w w' : World} {t : List UInt8} {e : Ending} {its : List It} (h : OfR w t e w') (hp : parseL t = .ok its) : Below w.heap.size w w' ∧ ∃ lb ev ps, e = .returned (.tuple #[ptr lb, .nilIface]) ∧ w.heap.size ≤ lb ∧ (∀ b, ev.ownBlock = some b → w.heap.size ≤ b) ∧ LA w' lb ev ps (fromL its).next ∧ ps.map Prod.fst = (fromL its).es := by
  obtain ⟨h1, h2⟩ := h
  rw [hp] at h2
  exact ⟨h1, h2⟩
/-- The entries so far, their row in new memory. -/
structure AccE (w wr : World) (lb : Nat) (ev : Value) (ps : List Pr) (nx : Int) : Prop where
  head : Cells wr lb 153 #[ev, .int .i64 (nx - 1)]
  row : wr.ownsRow w.heap.size 118 4 ev ps.length (entCells ps)
  each : ∀ p ∈ ps, FldR w p.2 p.1.1.fields
  below : Below w.heap.size w wr
  lb : w.heap.size ≤ lb
theorem AccE.la {w wr : World} {lb : Nat} {ev : Value} {ps : List Pr} {nx : Int} (h : AccE w wr lb ev ps nx) : LA wr lb ev ps nx :=
  ⟨⟨h.head, ⟨rowBase h.row (Nat.zero_le _), fun p hp => (h.each p hp).below h.below (Nat.le_refl _)⟩⟩, fun p hp hne b hb => by
    have h1 := (h.each p hp).1.lt hne b hb
    refine ⟨by have := h.lb; omega, fun e => ?_⟩
    have := (h.row.lt b e).1
    omega⟩
theorem AccE.ne {w wr : World} {lb : Nat} {ev : Value} {ps : List Pr} {nx : Int} (h : AccE w wr lb ev ps nx) : ev.ownBlock ≠ some lb := h.la.lr.row_ne
theorem AccE.alloc {w wr : World} {lb : Nat} {ev : Value} {ps : List Pr} {nx : Int} (h : AccE w wr lb ev ps nx) (o : Obj) : AccE w (wr.alloc o) lb ev ps nx :=
  ⟨h.head.alloc o, h.row.alloc o, h.each, h.below.alloc h.below.size o, h.lb⟩
theorem AccE.snoc {w wa w5 w6 : World} {lb : Nat} {ev v' : Value} {ps : List Pr} {nx nx' : Int} {p : Pr} (h : AccE w wa lb ev ps nx) (h5 : Cells w5 lb 153 #[ev, .int .i64 (nx' - 1)]) (o5 : Only (· = lb) wa w5) (hp : FldR w p.2 p.1.1.fields)
    (ho : w6.ownsRow 0 118 4 v' (ps.length + 1) (entCells ps ++ entCell p)) (h6 : Cells w6 lb 153 #[ev, .int .i64 (nx' - 1)]) (hk : v'.ownBlock = ev.ownBlock ∨ ∃ k, v'.ownBlock = some k ∧ w5.heap.size ≤ k ∧ k < w6.heap.size) (o6 : Only (fun r => some r = ev.ownBlock) w5 w6) :
    AccE w (w6.setCell ⟨lb, 0, none⟩ v') lb v' (ps ++ [p]) nx' := by
  have hne : v'.ownBlock ≠ some lb := by
    intro e
    rcases hk with hk | ⟨k, hk, h1, _⟩
    · rw [hk] at e; exact h.ne e
    · rw [hk] at e
      have : k = lb := Option.some.inj e
      have := h5.lt
      omega
  have hz := h.below.size
  have hz5 := o5.size
  have hrow : w6.ownsRow w.heap.size 118 4 v' (ps.length + 1) (entCells ps ++ entCell p) := by
    rcases ho.2 with ⟨q, _⟩ | ⟨g2, cap2, cur2, q, _, rest⟩
    · exact ⟨ho.1, .inl ⟨q, by omega⟩⟩
    · refine ⟨ho.1, .inr ⟨g2, cap2, cur2, q, ?_, rest⟩⟩
      rcases hk with hk | ⟨k, hk, h1, _⟩
      · exact (h.row.lt g2 (by rw [← hk, q]; rfl)).1
      · rw [q] at hk
        have : g2 = k := Option.some.inj hk
        omega
  refine ⟨?_, ?_, ?_, ?_, h.lb⟩
  · have := h6.set 0 v'
    simpa [List.setIfInBounds_toArray, List.set] using this
  · rw [List.length_append, entCells_snoc]
    exact row_cell hrow hne _
  · intro q hq
    rcases List.mem_append.1 hq with hq | hq
    · exact h.each q hq
    · rw [List.mem_singleton.1 hq]; exact hp
  · have b5 : Below w.heap.size w w5 := h.below.trans (o5.to_below hz (fun r hr e => by have := h.lb; omega))
    have b6 : Below w.heap.size w5 w6 := o6.to_below (by omega) (fun r hr e => by
      have := (h.row.lt r e.symm).1
      omega)
    exact (b5.trans b6).setCell (p := ⟨lb, 0, none⟩) h.lb _
set_option maxRecDepth 100000 in
set_option maxHeartbeats 2000000 in
theorem of_any (s : ByteArray) (hs : s.size ≤ 60000) (w : World) : Calls Tryz.prog 40 #[.string s] w fun e w' => OfR w s.data.toList e w' := by
  obtain ⟨i0, hi, hz0, hz1, hz2⟩ := info_parts infoEnt
  have PA := Lib.hid (parse_any s hs w)
  cases hp : parseL s.data.toList with
  | error an =>
    obtain ⟨a, n⟩ := an
    unfold OfR
    rw [hp]
    dsimp only
    have HP := Lib.hid hp
    clear hp
    go_enter Tryz.func40, Tryz.ntmps40
    go_wp2_with fail
    refine PA.out.mono ?_
    rintro e w1 hpd
    obtain ⟨b1, u, rfl, hf⟩ := parseNo hpd HP.out
    obtain ⟨q, hq, rfl, hqc⟩ := id hf
    go_wp2_with fail
    go_ret2
    exact ⟨b1, _, rfl, hf⟩
  | ok its =>
    unfold OfR
    rw [hp]
    dsimp only
    have HP := Lib.hid hp
    have hlen : its.length ≤ 60000 := by
      have h1 := (parse_join hp).2.1
      rw [← Lib.size_eq] at h1
      omega
    clear hp
    go_enter Tryz.func40, Tryz.ntmps40
    go_wp2_with fail
    refine PA.out.mono ?_
    rintro e w1 hpd
    obtain ⟨b1, v, rfl, hits, hnil⟩ := parseYes hpd HP.out
    have hz := b1.size
    obtain ⟨A, cap, rfl, hle, hcs⟩ := id hits
    have HI := Lib.hid hits
    have HN := Lib.hid hnil
    have HC := Lib.hid hcs
    have B1 := Lib.hid b1
    clear hits hnil hcs b1 hpd PA
    go_wp2_with fail
    have acc0 : AccE w1 (w1.alloc (.cells #[.slice none 0 0, .int .i64 0] 153)) w1.heap.size (.slice none 0 0) [] 1 :=
      ⟨Cells.new _ _ _, ⟨rfl, .inl ⟨rfl, rfl⟩⟩, (fun p h => by cases h), (Below.refl _ _).alloc (Nat.le_refl _) _, Nat.le_refl _⟩
    go_loopw [21] (fun i wr => ∃ (k : Nat) (ev : Value) (ps : List Pr), k ≤ its.length ∧ i = .int .i64 k ∧ AccE w1 wr w1.heap.size ev ps (fromNext 1 (its.take k)) ∧ ps.map Prod.fst = fromOn 1 (its.take k)) (fun i _ => its.length - (intOf i).toNat)
    case atStart => exact ⟨0, _, [], Nat.zero_le _, rfl, acc0, rfl⟩
    case round =>
      obtain ⟨k, ev, ps, hk, rfl, hacc, hps⟩ := hrel
      by_cases hlt : k < its.length
      · obtain ⟨it, hit⟩ : ∃ it, its[k]? = some it := ⟨_, List.getElem?_eq_getElem hlt⟩
        obtain ⟨b, off, fv, e0, hbb, c0, c1, c2, hfl⟩ := HC.out k it hit
        cases e0
        obtain ⟨fa, fc, rfl, _, _⟩ := id hfl
        have hfr : FldR w1 (.slice fa it.fields.length fc) it.fields := ⟨hfl, fun n c e => by
          cases e
          exact HN.out k b off _ _ _ _ rfl hlt c2⟩
        have hb := hacc.below
        have hlb := hb.size
        replace c0 := (hb.cell (p := ⟨b, off + k * 3, none⟩) hbb).trans c0
        replace c1 := (hb.cell (p := ⟨b, off + k * 3 + 1, none⟩) hbb).trans c1
        replace c2 := (hb.cell (p := ⟨b, off + k * 3 + 1 + 1, none⟩) hbb).trans c2
        have hkl : ps.length = k := by
          have := congrArg List.length hps
          rw [List.length_map, from_len, List.length_take] at this
          omega
        subst hkl
        have hnx := from_next 1 (its.take ps.length)
        rw [List.length_take] at hnx
        have FS := Lib.hid (from_snoc 1 (its.take ps.length) it)
        have TK := Lib.hid (show its.take (ps.length + 1) = its.take ps.length ++ [it] by rw [List.take_add_one, hit]; rfl)
        have ACC := Lib.hid hacc
        have HPS := Lib.hid hps
        have hllt := hacc.head.lt
        obtain ⟨ea, ec, rfl, hec⟩ := own_slice hacc.row
        generalize hnx0 : fromNext 1 (its.take ps.length) = nx at *
        have HNX := Lib.hid hnx0
        have hnb : -1000000 ≤ nx ∧ nx ≤ 1000000 := ⟨by omega, by omega⟩
        clear hacc hps hit hfl hnx0
        go_wp2_with fail
        obtain ⟨wa, hwa⟩ : ∃ wa, wa = wr.alloc (.cells #[.int .i64 it.kind, .string (B it.raw), .slice fa it.fields.length fc] 105) := ⟨_, rfl⟩
        have CI : Cells wa wr.heap.size 105 #[.int .i64 it.kind, .string (B it.raw), .slice fa it.fields.length fc] := by rw [hwa]; exact Cells.new _ _ _
        have ACA := Lib.hid (show AccE w1 wa w1.heap.size (.slice ea ps.length ec) ps nx by rw [hwa]; exact ACC.out.alloc _)
        have hza : wa.heap.size = wr.heap.size + 1 := by rw [hwa]; simp
        rw [← hwa]
        clear hwa c0 c1 c2
        have g0 : wa.cell? ⟨w1.heap.size, 0, none⟩ = some (.slice ea ps.length ec) := ACA.out.head.cell 0
        have i0' : wa.cell? ⟨wr.heap.size, 0, none⟩ = some (.int .i64 it.kind) := CI.cell 0
        have i1' : wa.cell? ⟨wr.heap.size, 1, none⟩ = some (.string (B it.raw)) := CI.cell 1
        have i2' : wa.cell? ⟨wr.heap.size, 2, none⟩ = some (.slice fa it.fields.length fc) := CI.cell 2
        have EN := Lib.hid (enter7_any it fa it.fields.length fc w1.heap.size (.slice ea ps.length ec) nx wa.drew ACA.out.head.drew hnb)
        have HCI := Lib.hid CI
        have HO := Lib.hid (show wa.drew.ownsRow 0 118 4 (.slice ea ps.length ec) ps.length (entCells ps) from rowBase ACA.out.row (Nat.zero_le _))
        have HNE := Lib.hid ACA.out.ne
        clear CI
        go_region_law (first
          | (go_simp; go_at_call 86; refine EN.out.mono ?_; rintro e w5 ⟨rfl, hc5, ho5⟩; have hcl5 : w5.cell? ⟨w1.heap.size, 0, none⟩ = some (.slice ea ps.length ec) := hc5.cell 0; have hcl6 : ∀ o, (w5.alloc o).cell? ⟨w1.heap.size, 0, none⟩ = some (.slice ea ps.length ec) := fun o => (hc5.alloc o).cell 0; have ho5' := Lib.hid ho5; have hr5 := Lib.hid (row_only HO.out ho5 (fun b hb e => HNE.out (by rw [hb]; exact congrArg some e))))
          | (refine step_append_own rfl (.tmp 29) (.tmp 33) 115 rfl 118 i0 _ 4 56 Tryz.underlying115 hi hz0 hz1 hz2 rfl (by decide) (.slice ea ps.length ec) ps.length (entCells ps) (by simp [Act.eval]) (by exact hr5.out.alloc _) ⟨w5.heap.size, 0, none⟩ 1 1 [.int .i64 it.kind, .string (B it.raw), .slice fa it.fields.length fc, .int .i64 (numE it nx)] (by simp [Act.eval]) rfl (cells_new_add w5 118 [.int .i64 it.kind, .string (B it.raw), .slice fa it.fields.length fc, .int .i64 (numE it nx)]) (by intro u hu; simp at hu; rcases hu with rfl | rfl | rfl | rfl <;> rfl) (by unfold maxLen; omega) (by omega) ?_; intro v' w' ho hgr hbk; obtain ⟨⟨g', cap', rfl⟩, hg', hbx, hkk, hon⟩ := appended hc5 hr5.out HNE.out ((Below.refl _ w5).alloc (Nat.le_refl _) _) ho hgr hbk; have k0 : w'.cell? ⟨w1.heap.size, 0, none⟩ = some (.slice ea ps.length ec) := hg'.cell 0; have kf0 := hg'.frozen 0))
        all_goals go_wp2_with fail
        all_goals
          have acc2 := (show AccE w1 wa.drew w1.heap.size (.slice ea ps.length ec) ps nx from ⟨ACA.out.head, ACA.out.row, ACA.out.each, ACA.out.below.drew, ACA.out.lb⟩).snoc (p := ((it, numE it nx), .slice fa it.fields.length fc)) hc5 ho5'.out hfr ho hg' hkk hon
          go_roundw
          case rel =>
            refine ⟨ps.length + 1, .slice (some ⟨g', 0, none⟩) (ps.length + 1) cap', ps ++ [((it, numE it nx), .slice fa it.fields.length fc)], hlt, by go_num, ?_, ?_⟩
            · rw [TK.out, FS.out.2]; exact acc2
            · rw [TK.out, FS.out.1, List.map_append, HPS.out]; rfl
          case measure => simp [intOf]; omega
      · obtain rfl : k = its.length := by omega
        rw [List.take_length] at hacc hps
        have hla := hacc.la
        have B2 := Lib.hid (B1.out.trans (hacc.below.mono hz))
        have hrow := hacc.row
        clear HC HI HN
        go_wp2_with fail
        go_ret2
        exact ⟨B2.out, _, ev, ps, rfl, hz, fun b hb => Nat.le_trans hz (hrow.lt b hb).1, hla, hps⟩
end Go.Proofs.YtkcklnnmcmjnjaaGreatDoor

namespace Go.Proofs.YtkcklnnmcmjnjaaGreatDoor
open Go.RowKit Go.Shelf
attribute [local go_sem] Oper.semAt_some errV_0

/-- An error's number, and the place. -/
def ErrZ (lo : Nat) (w : World) (u : Value) (a : Int) (n : Nat) : Prop := n ≤ 11 ∧ ((u = errV n ∧ a = -9) ∨ ∃ k : Nat, FaultAt lo w u k n ∧ a = k ∧ n ≠ 0)
theorem ErrZ.of {lo : Nat} {w : World} {u : Value} {fs : List Fld} (h : ChkV lo w u fs) : ErrZ lo w u (chkAt fs) (chkN fs) := by
  unfold ChkV at h
  unfold chkAt
  refine ⟨chkN_le fs, ?_⟩
  split at h
  · rename_i hb
    rw [if_pos hb]; exact .inl ⟨h, rfl⟩
  · rename_i hb
    rw [if_neg hb]
    have h2 : chkN fs = foldN fs := by
      unfold bare at hb
      unfold chkN
      rw [if_neg (fun e => hb (.inl e)), if_neg (fun e => hb (.inr (.inl e)))]
    refine .inr ⟨_, by rw [h2]; exact h, rfl, fun e => hb (.inr (.inr (by omega)))⟩
theorem ErrZ.none (lo : Nat) (w : World) : ErrZ lo w .nilIface (-9) 0 := ⟨by decide, .inl ⟨rfl, rfl⟩⟩
theorem ErrZ.err (lo : Nat) (w : World) (n : Nat) (h : n ≤ 11) : ErrZ lo w (errV n) (-9) n := ⟨h, .inl ⟨rfl, rfl⟩⟩
theorem num_z {lo : Nat} {w : World} {u : Value} {a : Int} {n : Nat} (h : ErrZ lo w u a n) : Calls Tryz.prog 15 #[u] w fun e w' => e = .returned (.int .i64 (n : Nat)) ∧ w = w' := by
  obtain ⟨hn, ⟨rfl, rfl⟩ | ⟨k, hf, rfl, h0⟩⟩ := h
  · exact num_any n (by omega) w
  · exact num_fault hf h0 (by omega)
theorem at_z {lo : Nat} {w : World} {u : Value} {a : Int} {n : Nat} (h : ErrZ lo w u a n) : Calls Tryz.prog 16 #[u] w fun e w' => e = .returned (.int .i64 a) ∧ w = w' := by
  obtain ⟨hn, ⟨rfl, rfl⟩ | ⟨k, hf, rfl, h0⟩⟩ := h
  · rcases Nat.eq_zero_or_pos n with rfl | hp
    · rw [errV_0]; exact at_nil w
    · rw [errV_pos n hp]; exact at_err _ w
  · exact at_fault hf
theorem ErrZ.below {lo : Nat} {w w' : World} {u : Value} {a : Int} {n N : Nat} (h : ErrZ lo w u a n) (hb : Below N w w') (hN : w.heap.size ≤ N) : ErrZ lo w' u a n := by
  obtain ⟨hn, h | ⟨k, hf, h⟩⟩ := h
  · exact ⟨hn, .inl h⟩
  · exact ⟨hn, .inr ⟨k, hf.below hb hN, h⟩⟩
theorem ErrZ.only {lo : Nat} {w w' : World} {u : Value} {a : Int} {n : Nat} {S : Nat → Prop} (h : ErrZ lo w u a n) (g : Only S w w') (hS : ∀ r, lo ≤ r → ¬ S r) : ErrZ lo w' u a n := by
  obtain ⟨hn, h | ⟨k, ⟨q, hq, e, hc⟩, h⟩⟩ := h
  · exact ⟨hn, .inl h⟩
  · exact ⟨hn, .inr ⟨k, ⟨q, hq, e, hc.only g (hS q hq)⟩, h⟩⟩
/-- What an edit comes to, the place being found already. -/
def replaceW (k : Option Nat) (l : LS) (fs : List Fld) : Did :=
  match k with
  | none => ⟨l, -9, 7, 0⟩
  | some k => if chkN fs = 0 then ⟨⟨setE l.es k (itemOf fs), l.next⟩, -9, 0, 0⟩ else ⟨l, chkAt fs, chkN fs, 0⟩
def deleteW (k : Option Nat) (l : LS) : Did :=
  match k with
  | none => ⟨l, -9, 7, 0⟩
  | some k => ⟨⟨cutE l.es k, l.next⟩, -9, 0, 0⟩
def insertW (k : Option Nat) (full : Bool) (l : LS) (fs : List Fld) : Did :=
  match k with
  | none => ⟨l, -9, 7, 0⟩
  | some k => if chkN fs = 0 then (if full = true then ⟨l, -9, 11, 0⟩ else ⟨⟨putE l.es k (itemOf fs, l.next), l.next + 1⟩, -9, 0, l.next⟩) else ⟨l, chkAt fs, chkN fs, 0⟩
theorem replaceW_yes {k : Nat} {l : LS} {fs : List Fld} (h : chkN fs = 0) : replaceW (some k) l fs = ⟨⟨setE l.es k (itemOf fs), l.next⟩, -9, 0, 0⟩ := if_pos h
theorem replaceW_no {k : Nat} {l : LS} {fs : List Fld} (h : chkN fs ≠ 0) : replaceW (some k) l fs = ⟨l, chkAt fs, chkN fs, 0⟩ := if_neg h
theorem insertW_no {k : Nat} {full : Bool} {l : LS} {fs : List Fld} (h : chkN fs ≠ 0) : insertW (some k) full l fs = ⟨l, chkAt fs, chkN fs, 0⟩ := if_neg h
theorem insertW_full {k : Nat} {l : LS} {fs : List Fld} (h : chkN fs = 0) : insertW (some k) true l fs = ⟨l, -9, 11, 0⟩ := by unfold insertW; dsimp only; rw [if_pos h, if_pos rfl]
theorem insertW_yes {k : Nat} {l : LS} {fs : List Fld} (h : chkN fs = 0) : insertW (some k) false l fs = ⟨⟨putE l.es k (itemOf fs, l.next), l.next + 1⟩, -9, 0, l.next⟩ := by unfold insertW; dsimp only; rw [if_pos h, if_neg (by decide)]
theorem replaceR_W (l : LS) (id : Int) (fs : List Fld) : replaceR l id fs = replaceW (findR l.es id) l fs := rfl
theorem deleteR_W (l : LS) (id : Int) : deleteR l id = deleteW (findR l.es id) l := rfl
theorem insertR_W (l : LS) (id : Int) (fs : List Fld) : insertR l id fs = insertW (gapR l.es id) (decide (400 ≤ lenR l.es)) l fs := by
  unfold insertR insertW
  cases gapR l.es id with
  | none => rfl
  | some k => simp
theorem findP_E (ps : List Pr) (id : Int) : findP ps id = findE (ps.map Prod.fst) id := by
  unfold findP findE stzs stzOn
  rw [← stzG_map (κ := fun e : En => e.1.kind) Prod.fst, List.find?_map, Option.map_map]
  rfl
/-- What an edit leaves of a list in memory: u is the error. -/
structure WrR (w : World) (lb : Nat) (ev : Value) (ps : List Pr) (d : Did) (u : Value) (w' : World) (ev' : Value) (ps' : List Pr) : Prop where
  la : LA w' lb ev' ps' d.ls.next
  es : ps'.map Prod.fst = d.ls.es
  only : Only (fun r => r = lb ∨ ev.ownBlock = some r) w w'
  blk : ev'.ownBlock = ev.ownBlock ∨ ∃ b, ev'.ownBlock = some b ∧ w.heap.size ≤ b
  err : ErrZ w.heap.size w' u d.at_ d.bad
  mem : ∀ p ∈ ps', p ∈ ps ∨ ∀ b, p.2.ownBlock = some b → w.heap.size ≤ b
theorem setE_map (ps : List Pr) (k : Nat) (p : Pr) (it : It) (x : Value) (h : ps[k]? = some p) : (ps.set k ((it, p.1.2), x)).map Prod.fst = setE (ps.map Prod.fst) k it := by
  unfold setE
  apply List.ext_getElem?
  intro j
  rw [List.getElem?_map, List.getElem?_set, List.getElem?_modify, List.getElem?_map]
  by_cases hj : k = j
  · subst hj
    rw [if_pos rfl, h, if_pos (List.getElem?_eq_some_iff.1 h).1]
    simp
  · rw [if_neg hj]
    cases ps[j]? with
    | none => rfl
    | some y => simp [hj]
theorem entCells_set (ps : List Pr) (k : Nat) (q : Pr) (h : k < ps.length) : entCells (ps.set k q) = (entCells ps).take (k * 4) ++ (entCell q ++ (entCells ps).drop ((k + 1) * 4)) := by
  rw [List.set_eq_take_append_cons_drop, if_pos h, entCells_append, show entCells (q :: ps.drop (k + 1)) = entCell q ++ entCells (ps.drop (k + 1)) from rfl, entCells_take, entCells_drop]
theorem entCells_ones {w : World} {v : Value} {ps : List Pr} (h : EntsR w v ps) : ∀ u ∈ entCells ps, u.oneCell' = true :=
  entCells_one fun p hp => by obtain ⟨A, c, e⟩ := (h.each p hp).form; rw [e]; rfl
/-- Fields are held to what is asked of them. -/
structure Fine7 (fs : List Fld) : Prop where
  len : fs.length ≤ 1000
  each : ∀ f ∈ fs, f.1.length ≤ 100000 ∧ f.2.length ≤ 100000
set_option maxRecDepth 100000 in
set_option maxHeartbeats 2000000 in
theorem delete_list (lb : Nat) (ev : Value) (ps : List Pr) (nx id : Int) (w : World) (h : LA w lb ev ps nx) (hps : ps.length ≤ 1000000) :
    Calls Tryz.prog 132 #[ptr lb, .int .i64 id] w fun e w' => ∃ u ev' ps', e = .returned u ∧ WrR w lb ev ps (deleteW (findP ps id) ⟨ps.map Prod.fst, nx⟩) u w' ev' ps' := by
  have FD := Lib.hid (find_any lb ev ps nx id w h.lr hps)
  have H := Lib.hid h
  clear h
  unfold ptr at *
  cases hf : findP ps id with
  | none =>
    rw [hf] at FD
    unfold foundV at FD
    dsimp only at FD
    go_enter Tryz.func132, Tryz.ntmps132
    go_wp2_with fail
    refine FD.out.mono ?_
    rintro e w1 ⟨rfl, b1⟩
    go_wp2_with fail
    go_ret
    exact ⟨_, ev, ps, rfl, H.out.below b1 (Nat.le_refl _), rfl, Only.of_below b1 (Nat.le_refl _), .inl rfl, ErrZ.err _ _ 7 (by decide), fun p hp => .inl hp⟩
  | some k =>
    obtain ⟨p, hp, _, _⟩ := findP_lt hf
    rw [hf] at FD
    unfold foundV at FD
    dsimp only at FD
    have hk := (List.getElem?_eq_some_iff.1 hp).1
    clear hf hp
    go_enter Tryz.func132, Tryz.ntmps132
    go_wp2_with fail
    refine FD.out.mono ?_
    rintro e w1 ⟨rfl, b1⟩
    have H1 := H.out.below b1 (Nat.le_refl _)
    obtain ⟨g, cap, rfl⟩ := Joins.ownsRow_form H1.lr.ents.row (by omega)
    have DL := Lib.hid (delete7_any 0 g ps.length cap k (entCells ps) w1 H1.lr.ents.row (entCells_ones H1.lr.ents) hk hps)
    have c0 : w1.cell? ⟨lb, 0, none⟩ = some (.slice (some ⟨g, 0, none⟩) ps.length cap) := H1.lr.head.cell 0
    have hgl : g ≠ lb := fun e => H1.lr.row_ne (by rw [e]; rfl)
    have LH := Lib.hid H1
    have B1 := Lib.hid b1
    have hz := b1.size
    clear FD H1 b1
    unfold sl at DL
    have hwr : IntKind.i64.wrap ((k : Int) + 1) = (k : Int) + 1 := IntWalk.i64_in _ (by omega)
    go_wp2_with fail
    refine DL.out.mono ?_
    rintro e w2 ⟨rfl, hr2, o2⟩
    have h2 := LH.out.lr.head.only o2 (fun e => hgl e.symm)
    have d0 : w2.cell? ⟨lb, 0, none⟩ = some (.slice (some ⟨g, 0, none⟩) ps.length cap) := h2.cell 0
    have f0 := h2.frozen 0
    have HH2 := Lib.hid h2
    have HR2 := Lib.hid hr2
    have HO2 := Lib.hid o2
    clear DL h2 hr2 o2
    go_wp2_with fail
    go_ret
    have hcm : (cutE (ps.map Prod.fst) k) = (ps.take k ++ ps.drop (k + 1)).map Prod.fst := by unfold cutE; rw [List.map_append, List.map_take, List.map_drop]
    have hlen : (ps.take k ++ ps.drop (k + 1)).length = ps.length - 1 := by rw [List.length_append, List.length_take, List.length_drop]; omega
    have hmem : ∀ q ∈ ps.take k ++ ps.drop (k + 1), q ∈ ps := fun q hq => by
      rcases List.mem_append.1 hq with h | h
      · exact List.mem_of_mem_take h
      · exact List.mem_of_mem_drop h
    have o3 : Only (fun r => r = lb ∨ (Value.slice (some ⟨g, 0, none⟩) ps.length cap).ownBlock = some r) w1 (w2.setCell ⟨lb, 0, none⟩ (.slice (some ⟨g, 0, none⟩) (ps.length - 1) cap)) :=
      (HO2.out.mono (fun r _ e => .inr (by rw [e]; rfl))).setCell (p := ⟨lb, 0, none⟩) (.inl (.inl rfl)) _
    refine ⟨_, .slice (some ⟨g, 0, none⟩) (ps.length - 1) cap, ps.take k ++ ps.drop (k + 1), rfl, ⟨⟨?_, ⟨?_, ?_⟩⟩, ?_⟩, hcm.symm, (Only.of_below B1.out (Nat.le_refl _)).trans o3 (fun r hr e => e), .inl rfl, ErrZ.none _ _, fun q hq => .inl (hmem q hq)⟩
    · have := HH2.out.set 0 (.slice (some ⟨g, 0, none⟩) (ps.length - 1) cap)
      show Cells _ lb 153 #[_, .int .i64 (nx - 1)]
      simpa [List.setIfInBounds_toArray, List.set] using this
    · rw [hlen, entCells_append, entCells_take, entCells_drop]
      exact row_cell (p := ⟨lb, 0, none⟩) HR2.out (fun e => hgl (Option.some.inj e)) _
    · intro q hq
      refine (LH.out.lr.ents.each q (hmem q hq)).only o3 (fun hne b hb e => ?_)
      obtain ⟨a1, a2⟩ := LH.out.apart q (hmem q hq) hne b hb
      rcases e with e | e
      · exact a1 e
      · exact a2 e
    · intro q hq hne b hb
      exact LH.out.apart q (hmem q hq) hne b hb
theorem LA.replace {w : World} {lb g cap : Nat} {ps : List Pr} {nx : Int} {k : Nat} {p : Pr} {it : It} {x : Value} (h : LA w lb (.slice (some ⟨g, 0, none⟩) ps.length cap) ps nx) (hp : ps[k]? = some p) (hx : FldR w x it.fields) (hxb : it.fields ≠ [] → ∀ b, x.ownBlock = some b → b ≠ lb ∧ b ≠ g) :
    LA (((w.setCell ⟨g, k * 4, none⟩ (.int .i64 it.kind)).setCell ⟨g, k * 4 + 1, none⟩ (.string (B it.raw))).setCell ⟨g, k * 4 + 1 + 1, none⟩ x) lb (.slice (some ⟨g, 0, none⟩) ps.length cap) (ps.set k ((it, p.1.2), x)) nx ∧
      Only (· = g) w (((w.setCell ⟨g, k * 4, none⟩ (.int .i64 it.kind)).setCell ⟨g, k * 4 + 1, none⟩ (.string (B it.raw))).setCell ⟨g, k * 4 + 1 + 1, none⟩ x) := by
  have hk := (List.getElem?_eq_some_iff.1 hp).1
  have hgl : g ≠ lb := fun e => h.lr.row_ne (by rw [e]; rfl)
  have o : Only (· = g) w (((w.setCell ⟨g, k * 4, none⟩ (.int .i64 it.kind)).setCell ⟨g, k * 4 + 1, none⟩ (.string (B it.raw))).setCell ⟨g, k * 4 + 1 + 1, none⟩ x) :=
    (((Only.refl (· = g) w).cellS _ _).cellS _ _).cellS _ _
  obtain ⟨hl, h2⟩ := h.lr.ents.row
  obtain ⟨cur, hg, hle, hcm, hcs, htk⟩ : ∃ cur, Cells w g 118 cur ∧ ps.length ≤ cap ∧ cap ≤ maxLen ∧ cur.size = cap * 4 ∧ cur.toList.take (ps.length * 4) = entCells ps := by
    rcases h2 with ⟨q, _⟩ | ⟨g', cap', cur, q, a, b, c, d, e, f⟩
    · cases q
    · cases q; exact ⟨cur, b, c, d, e, f⟩
  have hat : ∀ j, j < ps.length * 4 → (entCells ps)[j]? = cur[j]? := fun j hj => by rw [← htk, List.getElem?_take, if_pos hj]; simp
  have C3 : Cells (((w.setCell ⟨g, k * 4, none⟩ (.int .i64 it.kind)).setCell ⟨g, k * 4 + 1, none⟩ (.string (B it.raw))).setCell ⟨g, k * 4 + 1 + 1, none⟩ x) g 118 (layV cur (k * 4) [.int .i64 it.kind, .string (B it.raw), x]) :=
    Cells.lay [.int .i64 it.kind, .string (B it.raw), x] (k * 4) hg
  have hid := entCells_at ps k p hp 3 (.int .i64 p.1.2) rfl
  refine ⟨⟨⟨h.lr.head.only o (fun e => hgl e.symm), ⟨?_, fun q hq => ?_⟩⟩, fun q hq hne b hb => ?_⟩, o⟩
  · rw [List.length_set, entCells_set ps k _ hk]
    have hll : ((entCells ps).take (k * 4) ++ (entCell ((it, p.1.2), x) ++ (entCells ps).drop ((k + 1) * 4))).length = ps.length * 4 := by
      rw [List.length_append, List.length_append, List.length_take, List.length_drop, hl]
      show _ + (4 + _) = _
      omega
    refine ⟨hll, .inr ⟨g, cap, _, rfl, Nat.zero_le _, C3, hle, hcm, by rw [layV_size, hcs], ?_⟩⟩
    apply List.ext_getElem?
    intro j
    rw [List.getElem?_take]
    split
    · rename_i hj
      rw [Array.getElem?_toList, layV_at _ _ _ _ (by rw [hcs]; simp only [List.length_cons, List.length_nil]; omega)]
      simp only [List.length_cons, List.length_nil]
      split
      · rename_i h3
        rw [List.getElem?_append_right (by rw [List.length_take, hl]; omega), List.length_take, hl, show min (k * 4) (ps.length * 4) = k * 4 by omega, List.getElem?_append_left (by show _ < 4; omega)]
        rcases (by omega : j - k * 4 = 0 ∨ j - k * 4 = 1 ∨ j - k * 4 = 2) with e | e | e <;> rw [e] <;> rfl
      · rename_i h3
        rw [← hat j hj]
        rcases Nat.lt_or_ge j (k * 4) with h4 | h4
        · rw [List.getElem?_append_left (by rw [List.length_take, hl]; omega), List.getElem?_take, if_pos h4]
        · rw [List.getElem?_append_right (by rw [List.length_take, hl]; omega), List.length_take, hl, show min (k * 4) (ps.length * 4) = k * 4 by omega]
          rcases Nat.lt_or_ge j (k * 4 + 4) with h5 | h5
          · have e : j = k * 4 + 3 := by omega
            subst e
            rw [show k * 4 + 3 - k * 4 = 3 by omega, hid]; rfl
          · rw [List.getElem?_append_right (by show 4 ≤ _; omega), List.getElem?_drop]
            show _ = (entCells ps)[(k + 1) * 4 + (j - k * 4 - 4)]?
            congr 1; omega
    · rename_i hj
      rw [List.getElem?_eq_none (by omega)]
  · rcases List.mem_or_eq_of_mem_set hq with hq | rfl
    · exact (h.lr.ents.each q hq).only o (fun hne b hb e => (h.apart q hq hne b hb).2 (by rw [e]; rfl))
    · exact hx.only o (fun hne b hb e => (hxb hne b hb).2 e)
  · rcases List.mem_or_eq_of_mem_set hq with hq | rfl
    · exact h.apart q hq hne b hb
    · obtain ⟨a1, a2⟩ := hxb hne b hb
      exact ⟨a1, fun e => a2 (Option.some.inj e).symm⟩
set_option maxRecDepth 100000 in
set_option maxHeartbeats 2000000 in
theorem replace_list (lb : Nat) (ev : Value) (ps : List Pr) (nx id : Int) (fs : List Fld) (v : Value) (w : World) (h : LA w lb ev ps nx) (hps : ps.length ≤ 1000000) (hs : FldR w v fs) (hfs : Fine7 fs) :
    Calls Tryz.prog 131 #[ptr lb, .int .i64 id, v] w fun e w' => ∃ u ev' ps', e = .returned u ∧ WrR w lb ev ps (replaceW (findP ps id) ⟨ps.map Prod.fst, nx⟩ fs) u w' ev' ps' := by
  have FD := Lib.hid (find_any lb ev ps nx id w h.lr hps)
  have H := Lib.hid h
  have HS := Lib.hid hs
  obtain ⟨va, vc, rfl⟩ := hs.form
  clear h hs
  unfold ptr at *
  cases hf : findP ps id with
  | none =>
    rw [hf] at FD
    unfold foundV at FD
    dsimp only at FD
    go_enter Tryz.func131, Tryz.ntmps131
    go_wp2_with fail
    refine FD.out.mono ?_
    rintro e w1 ⟨rfl, b1⟩
    go_wp2_with fail
    go_ret
    exact ⟨_, ev, ps, rfl, H.out.below b1 (Nat.le_refl _), rfl, Only.of_below b1 (Nat.le_refl _), .inl rfl, ErrZ.err _ _ 7 (by decide), fun p hp => .inl hp⟩
  | some k =>
    obtain ⟨p, hp, _, _⟩ := findP_lt hf
    rw [hf] at FD
    unfold foundV at FD
    dsimp only at FD
    have hk := (List.getElem?_eq_some_iff.1 hp).1
    have HP := Lib.hid hp
    clear hf hp
    go_enter Tryz.func131, Tryz.ntmps131
    go_wp2_with fail
    refine FD.out.mono ?_
    rintro e w1 ⟨rfl, b1⟩
    have hs1 := HS.out.below b1 (Nat.le_refl _)
    have IT := Lib.hid (item_any fs _ w1 hs1.1 hs1.2 (by have := hfs.len; omega) hfs.each)
    have B1 := Lib.hid b1
    have hz := b1.size
    clear FD b1 hs1
    go_wp2_with fail
    refine IT.out.mono ?_
    rintro e w2 ⟨u, x, hR⟩
    have B2 := Lib.hid (B1.out.trans (hR.below.mono hz))
    have hz2 := hR.below.size
    have CK := Lib.hid (hR.chk.mono hz)
    obtain rfl := hR.ret
    by_cases h0 : chkN fs = 0
    · have hu := hR.chk.zero h0
      subst hu
      have hx := Lib.hid (hR.own h0)
      obtain ⟨xa, xc, rfl, _⟩ := own_slice (hR.own h0)
      have hki : kindI fs = 3 := if_pos h0
      have hst : stzT fs = foldG fs := if_pos h0
      rw [hki, hst]
      have H2 := H.out.below B2.out (Nat.le_refl _)
      obtain ⟨g, cap, rfl⟩ := Joins.ownsRow_form H2.lr.ents.row (by omega)
      obtain ⟨g', cap', pa, pc, e1, hle, hgl2, e2, d0, d1, d2, d3⟩ := H2.lr.ents.here HP.out
      cases e1
      rw [e2] at d2
      have hgl : g ≠ lb := fun e => H2.lr.row_ne (by rw [e]; rfl)
      have hgw : g < w.heap.size := (H.out.lr.ents.row.lt g rfl).2
      have c0 : w2.cell? ⟨lb, 0, none⟩ = some (.slice (some ⟨g, 0, none⟩) ps.length cap) := H2.lr.head.cell 0
      have LH := Lib.hid H2
      clear hR IT H2 e2
      go_wp2_with fail
      obtain ⟨w3, hw3⟩ : ∃ w3, w3 = w2.alloc (.cells #[.int .i64 3, .string (B (foldG fs)), .slice xa fs.length xc] 105) := ⟨_, rfl⟩
      have L3 := Lib.hid (show LA w3 lb (.slice (some ⟨g, 0, none⟩) ps.length cap) ps nx by rw [hw3]; exact LH.out.below ((Below.refl _ _).alloc (Nat.le_refl _) _) (Nat.le_refl _))
      have CI : Cells w3 w2.heap.size 105 #[.int .i64 3, .string (B (foldG fs)), .slice xa fs.length xc] := by rw [hw3]; exact Cells.new _ _ _
      have X3 := Lib.hid (show w3.ownsRow w1.heap.size 35 2 (.slice xa fs.length xc) fs.length (cellsF fs) by rw [hw3]; exact hx.out.alloc _)
      have B3 := Lib.hid (show Below w.heap.size w w3 by rw [hw3]; exact B2.out.alloc B2.out.size _)
      rw [← hw3]
      clear hw3 c0 d0 d1 d2 d3 LH B2 hx
      obtain ⟨g', cap', pa', pc', e1, _, hgl3, e2, d0, d1, d2, d3⟩ := L3.out.lr.ents.here HP.out
      cases e1
      rw [e2] at d2
      obtain ⟨cur, hcur⟩ : ∃ cur, Cells w3 g 118 cur := by
        rcases L3.out.lr.ents.row.2 with ⟨q, _⟩ | ⟨g'', cap'', cur, q, _, c, _⟩
        · cases q
        · cases q; exact ⟨cur, c⟩
      have f0 := hcur.frozen (k * 4)
      have f1 := hcur.frozen (k * 4 + 1)
      have f2 := hcur.frozen (k * 4 + 1 + 1)
      have c0 : w3.cell? ⟨lb, 0, none⟩ = some (.slice (some ⟨g, 0, none⟩) ps.length cap) := L3.out.lr.head.cell 0
      have i0 : w3.cell? ⟨w2.heap.size, 0, none⟩ = some (.int .i64 3) := CI.cell 0
      have i1 : w3.cell? ⟨w2.heap.size, 1, none⟩ = some (.string (B (foldG fs))) := CI.cell 1
      have i2 : w3.cell? ⟨w2.heap.size, 2, none⟩ = some (.slice xa fs.length xc) := CI.cell 2
      clear CI hcur e2
      go_region_law (skip)
      all_goals go_wp2_with fail
      all_goals
        go_ret
        rw [replaceW_yes h0]
        have hbl : lb < w.heap.size := H.out.lr.head.lt
        obtain ⟨q1, q2⟩ := (L3.out.below (n := w3.heap.size) (Below.refl _ w3).drew (Nat.le_refl _)).replace (it := itemOf fs) (x := .slice xa fs.length xc) HP.out (FldR.own (show w3.drew.ownsRow w1.heap.size 35 2 (.slice xa fs.length xc) fs.length (cellsF fs) from X3.out)) (fun _ b hb => by
          have := (X3.out.lt b hb).1
          exact ⟨by omega, by omega⟩)
        refine ⟨_, _, _, rfl, q1, ?_, (Only.of_below (B3.out.drew) (Nat.le_refl _)).trans (q2.mono (fun r _ e => (.inr (by rw [e]; rfl) : r = lb ∨ (Value.slice (some ⟨g, 0, none⟩) ps.length cap).ownBlock = some r))) (fun r hr e => e), .inl rfl, ?_, fun q hq => ?_⟩
        · exact setE_map ps k p _ _ HP.out
        · exact ErrZ.none _ _
        · rcases List.mem_or_eq_of_mem_set hq with h | h
          · exact .inl h
          · right; rw [h]; intro b hb; have := (X3.out.lt b hb).1; omega
    · have hxn := hR.none_ h0
      subst hxn
      rcases hR.chk.pos h0 with hu | ⟨q, hu⟩
      all_goals
        subst hu
        have hck := Lib.hid (ErrZ.of (hR.chk.mono hz))
        clear hR IT CK
        go_wp2_with fail
        go_ret
        rw [replaceW_no h0]
        have hba := B2.out.alloc B2.out.size (.cells #[.int .i64 (kindI fs), .string (B (stzT fs)), .slice none 0 0] 105)
        exact ⟨_, ev, ps, rfl, H.out.below hba (Nat.le_refl _), rfl, Only.of_below hba (Nat.le_refl _), .inl rfl, hck.out.below ((Below.refl _ _).alloc (Nat.le_refl _) _) (Nat.le_refl _), fun p hp => .inl hp⟩
end Go.Proofs.YtkcklnnmcmjnjaaGreatDoor

namespace Go.Proofs.YtkcklnnmcmjnjaaGreatDoor
open Go.RowKit Go.Shelf
attribute [local go_sem] Oper.semAt_some errV_0

theorem gapP_le {ps : List Pr} {id : Int} {k : Nat} (h : gapP ps id = some k) : k ≤ ps.length := by
  unfold gapP at h
  split at h
  · cases h; omega
  · obtain ⟨q, hq, rfl⟩ := Option.map_eq_some_iff.1 h
    obtain ⟨p, hp, _⟩ := findP_lt hq
    have := (List.getElem?_eq_some_iff.1 hp).1
    omega
theorem itemOf_num (fs : List Fld) (nx : Int) : numE (itemOf fs) nx = nx ∧ nextE (itemOf fs) nx = nx + 1 := ⟨rfl, rfl⟩
theorem len_any (lb : Nat) (ev : Value) (ps : List Pr) (nx : Int) (w : World) (h : LR w lb ev ps nx) (hps : ps.length ≤ 1000000) :
    Calls Tryz.prog 41 #[ptr lb] w fun e w' => e = .returned (.int .i64 ((stzP 0 ps).length : Nat)) ∧ Below w.heap.size w w' :=
  len_gen ps ev (some ⟨lb, 0, none⟩) w (fun _ hB => AllR.of (h.below hB (Nat.le_refl _))) hps
theorem putE_map (ps : List Pr) (k : Nat) (e : En) (x : Value) : (ps.take k ++ (e, x) :: ps.drop k).map Prod.fst = putE (ps.map Prod.fst) k e := by
  unfold putE
  rw [List.map_append, List.map_cons, List.map_take, List.map_drop]
/-- The list behind an Insert into its row. -/
theorem LA.insert {w w1 w2 w' : World} {lb : Nat} {ev v' : Value} {ps : List Pr} {nx nx' : Int} {k : Nat} {q : Pr} {lo : Nat} (h : LA w1 lb ev ps nx) (hb1 : Below w.heap.size w w1) (hlb : lb < w.heap.size) (hevb : ∀ b, ev.ownBlock = some b → b < w.heap.size) (hk : k ≤ ps.length)
    (h2 : Cells w2 lb 153 #[ev, .int .i64 (nx' - 1)]) (o12 : Only (· = lb) w1 w2)
    (hq : FldR w2 q.2 q.1.1.fields) (hqb : q.1.1.fields ≠ [] → ∀ b, q.2.ownBlock = some b → w.heap.size ≤ b ∧ b < w2.heap.size)
    (hr : w'.ownsRow lo 118 4 v' (ps.length + 1) ((entCells ps).take (k * 4) ++ (entCell q ++ (entCells ps).drop (k * 4)))) (ho : Only (fun r => ev.ownBlock = some r) w2 w') (hbk : v'.ownBlock = ev.ownBlock ∨ ∃ b, v'.ownBlock = some b ∧ w2.heap.size ≤ b) :
    LA (w'.setCell ⟨lb, 0, none⟩ v') lb v' (ps.take k ++ q :: ps.drop k) nx' ∧ Only (fun r => r = lb ∨ ev.ownBlock = some r) w (w'.setCell ⟨lb, 0, none⟩ v') ∧ (v'.ownBlock = ev.ownBlock ∨ ∃ b, v'.ownBlock = some b ∧ w.heap.size ≤ b) := by
  have hevl := h.lr.row_ne
  have hz1 := hb1.size
  have hz2 := o12.size
  have hne : v'.ownBlock ≠ some lb := by
    rcases hbk with e | ⟨b, e, hb⟩
    · rw [e]; exact hevl
    · rw [e]; intro q; have : b = lb := Option.some.inj q; omega
  have o2 : Only (fun r => r = lb ∨ ev.ownBlock = some r) w1 w' := (o12.mono (fun r _ e => .inl e)).trans ho (fun r _ e => .inr e)
  have o3 : Only (fun r => r = lb ∨ ev.ownBlock = some r) w1 (w'.setCell ⟨lb, 0, none⟩ v') := o2.setCell (p := ⟨lb, 0, none⟩) (.inl (.inl rfl)) _
  have hl' : Cells w' lb 153 #[ev, .int .i64 (nx' - 1)] := h2.only ho hevl
  have hmem : ∀ y ∈ ps.take k ++ q :: ps.drop k, y ∈ ps ∨ y = q := fun y hy => by
    rcases List.mem_append.1 hy with a | a
    · exact .inl (List.mem_of_mem_take a)
    · rcases List.mem_cons.1 a with a | a
      · exact .inr a
      · exact .inl (List.mem_of_mem_drop a)
  have hqn : q.1.1.fields ≠ [] → ∀ b, q.2.ownBlock = some b → b ≠ lb ∧ ev.ownBlock ≠ some b ∧ v'.ownBlock ≠ some b := fun hn b hb => by
    obtain ⟨a1, a2⟩ := hqb hn b hb
    have a3 : ev.ownBlock ≠ some b := fun e => by have := hevb b e; omega
    refine ⟨by omega, a3, ?_⟩
    rcases hbk with e | ⟨b', e, hb'⟩
    · rw [e]; exact a3
    · rw [e]; intro q; have : b' = b := Option.some.inj q; omega
  refine ⟨⟨⟨?_, ⟨?_, ?_⟩⟩, ?_⟩, (Only.of_below hb1 (Nat.le_refl _)).trans o3 (fun r _ e => e), ?_⟩
  · have := hl'.set 0 v'
    simpa [List.setIfInBounds_toArray, List.set] using this
  · have hlen : (ps.take k ++ q :: ps.drop k).length = ps.length + 1 := by rw [List.length_append, List.length_cons, List.length_take, List.length_drop]; omega
    rw [hlen, entCells_append, show entCells (q :: ps.drop k) = entCell q ++ entCells (ps.drop k) from rfl, entCells_take, entCells_drop]
    exact row_cell (p := ⟨lb, 0, none⟩) (rowBase hr (Nat.zero_le _)) hne _
  · intro y hy
    rcases hmem y hy with hy | rfl
    · refine (h.lr.ents.each y hy).only o3 (fun hn b hb e => ?_)
      obtain ⟨a1, a2⟩ := h.apart y hy hn b hb
      rcases e with e | e
      · exact a1 e
      · exact a2 e
    · refine hq.only ((ho.mono (S' := fun r => r = lb ∨ ev.ownBlock = some r) (fun r _ e => .inr e)).setCell (p := ⟨lb, 0, none⟩) (.inl (.inl rfl)) v') (fun hn b hb e => ?_)
      obtain ⟨a1, a2, _⟩ := hqn hn b hb
      rcases e with e | e
      · exact a1 e
      · exact a2 e
  · intro y hy hn b hb
    rcases hmem y hy with hy | rfl
    · obtain ⟨a1, a2⟩ := h.apart y hy hn b hb
      refine ⟨a1, ?_⟩
      have hb1' := (h.lr.ents.each y hy).1.lt hn b hb
      rcases hbk with e | ⟨b', e, hb'⟩
      · rw [e]; exact a2
      · rw [e]; intro q; have : b' = b := Option.some.inj q; omega
    · obtain ⟨a1, _, a3⟩ := hqn hn b hb
      exact ⟨a1, a3⟩
  · rcases hbk with e | ⟨b, e, hb⟩
    · exact .inl e
    · exact .inr ⟨b, e, by omega⟩
set_option maxRecDepth 100000 in
set_option maxHeartbeats 800000 in
theorem insert_list (lb : Nat) (ev : Value) (ps : List Pr) (nx id : Int) (fs : List Fld) (v : Value) (w : World) (h : LA w lb ev ps nx) (hps : ps.length ≤ 10000) (hnx : -1000000 ≤ nx ∧ nx ≤ 1000000) (hs : FldR w v fs) (hfs : Fine7 fs) :
    Calls Tryz.prog 133 #[ptr lb, .int .i64 id, v] w fun e w' => ∃ u ev' ps', e = .returned (.tuple #[.int .i64 (insertW (gapP ps id) (decide ((stzP 0 ps).length = 400)) ⟨ps.map Prod.fst, nx⟩ fs).id, u]) ∧ WrR w lb ev ps (insertW (gapP ps id) (decide ((stzP 0 ps).length = 400)) ⟨ps.map Prod.fst, nx⟩ fs) u w' ev' ps' := by
  have GP := Lib.hid (gap_any lb ev ps nx id w h.lr (by omega))
  have H := Lib.hid h
  have HS := Lib.hid hs
  obtain ⟨va, vc, rfl⟩ := hs.form
  clear h hs
  unfold ptr at *
  generalize hfl : decide ((stzP 0 ps).length = 400) = full
  have HFL := Lib.hid hfl
  clear hfl
  cases hf : gapP ps id with
  | none =>
    rw [hf] at GP
    go_enter Tryz.func133, Tryz.ntmps133
    go_wp2_with fail
    refine GP.out.mono ?_
    rintro e w1 ⟨⟨k, rfl, _⟩, b1⟩
    dsimp only [Option.isSome]
    go_wp2_with fail
    go_ret2
    exact ⟨_, ev, ps, rfl, H.out.below b1 (Nat.le_refl _), rfl, Only.of_below b1 (Nat.le_refl _), .inl rfl, ErrZ.err _ _ 7 (by decide), fun p hp => .inl hp⟩
  | some k =>
    rw [hf] at GP
    have hkl := gapP_le hf
    clear hf
    go_enter Tryz.func133, Tryz.ntmps133
    go_wp2_with fail
    refine GP.out.mono ?_
    rintro e w1 ⟨⟨k', rfl, hk'⟩, b1⟩
    obtain rfl := hk' k rfl
    dsimp only [Option.isSome]
    have hs1 := HS.out.below b1 (Nat.le_refl _)
    have IT := Lib.hid (item_any fs _ w1 hs1.1 hs1.2 (by have := hfs.len; omega) hfs.each)
    have B1 := Lib.hid b1
    have hz := b1.size
    clear GP b1 hs1 hk'
    go_wp2_with fail
    refine IT.out.mono ?_
    rintro e w2 ⟨u, x, hR⟩
    have B2 := Lib.hid (B1.out.trans (hR.below.mono hz))
    have hz2 := hR.below.size
    obtain rfl := hR.ret
    by_cases h0 : chkN fs = 0
    · have hu := hR.chk.zero h0
      subst hu
      have hx := Lib.hid (hR.own h0)
      obtain ⟨xa, xc, rfl, _⟩ := own_slice (hR.own h0)
      have hki : kindI fs = 3 := if_pos h0
      have hst : stzT fs = foldG fs := if_pos h0
      rw [hki, hst]
      clear hR IT
      have hba := B2.out.alloc B2.out.size (.cells #[.int .i64 3, .string (B (foldG fs)), .slice xa fs.length xc] 105)
      have LN := Lib.hid (len_any lb ev ps nx _ (H.out.lr.below hba (Nat.le_refl _)) (by omega))
      unfold ptr at LN
      have HBA := Lib.hid hba
      clear hba
      have hsl := stzG_len (κ := fun p : Pr => p.1.1.kind) 0 ps
      go_wp2_with fail
      refine LN.out.mono ?_
      rintro e w3 ⟨rfl, b3⟩
      have B3 := Lib.hid (HBA.out.trans (b3.mono HBA.out.size))
      have hz3 := b3.size
      rw [World.size_alloc] at hz3
      have CI : Cells w3 w2.heap.size 105 #[.int .i64 3, .string (B (foldG fs)), .slice xa fs.length xc] := (Cells.new w2 _ _).below b3 (by simp)
      have X3 := Lib.hid (own_kept (hx.out.alloc (.cells #[.int .i64 3, .string (B (foldG fs)), .slice xa fs.length xc] 105)) b3 (Nat.le_refl _))
      by_cases h4 : (stzP 0 ps).length = 400
      · obtain rfl : full = true := by rw [← HFL.out]; exact decide_eq_true h4
        have h4' : (((stzP 0 ps).length : Nat) : Int) = 400 := by omega
        clear b3 LN CI
        rw [h4']
        go_wp2_with fail
        go_ret2
        rw [insertW_full h0]
        exact ⟨_, ev, ps, rfl, H.out.below B3.out (Nat.le_refl _), rfl, Only.of_below B3.out (Nat.le_refl _), .inl rfl, ErrZ.err _ _ 11 (by decide), fun p hp => .inl hp⟩
      · obtain rfl : full = false := by rw [← HFL.out]; exact decide_eq_false h4
        have h4' : ((((stzP 0 ps).length : Nat) : Int) == 400) = false := beq_eq_false_iff_ne.2 (by omega)
        have L3 := Lib.hid (H.out.below B3.out (Nat.le_refl _))
        have EN := Lib.hid (enter7_any (itemOf fs) xa fs.length xc lb ev nx w3 L3.out.lr.head hnx)
        rw [(itemOf_num fs nx).1, (itemOf_num fs nx).2] at EN
        unfold itemOf ptr at EN
        dsimp only at EN
        have i0 : w3.cell? ⟨w2.heap.size, 0, none⟩ = some (.int .i64 3) := CI.cell 0
        have i1 : w3.cell? ⟨w2.heap.size, 1, none⟩ = some (.string (B (foldG fs))) := CI.cell 1
        have i2 : w3.cell? ⟨w2.heap.size, 2, none⟩ = some (.slice xa fs.length xc) := CI.cell 2
        clear b3 LN CI
        generalize (stzP 0 ps).length = ll at *
        go_wp2_with fail
        refine EN.out.mono ?_
        rintro e w4 ⟨rfl, hc4, o34⟩
        have EO := Lib.hid (show ∃ A n c, ev = .slice A n c from by obtain ⟨A, c, e, _⟩ := L3.out.lr.ents.empty; exact ⟨A, _, c, e⟩)
        have HC4 := Lib.hid hc4
        have O34 := Lib.hid o34
        clear EN hc4 o34 i0 i1 i2
        go_wp2_with fail
        obtain ⟨wa, hwa⟩ : ∃ wa, wa = w4.alloc (.cells #[.int .i64 3, .string (B (foldG fs)), .slice xa fs.length xc, .int .i64 nx] 118) := ⟨_, rfl⟩
        have L3' := L3.out
        obtain ⟨ea, en, ec, rfl⟩ := EO.out
        have hza : wa.heap.size = w4.heap.size + 1 := by rw [hwa]; simp
        have hz4 := O34.out.size
        have hlb3 := L3'.lr.head.lt
        have CA : Cells wa lb 153 #[.slice ea en ec, .int .i64 (nx + 1 - 1)] := by rw [hwa]; exact HC4.out.alloc _
        have CE : Cells wa w4.heap.size 118 #[.int .i64 3, .string (B (foldG fs)), .slice xa fs.length xc, .int .i64 nx] := by rw [hwa]; exact Cells.new _ _ _
        have O3a : Only (· = lb) w3 wa := by rw [hwa]; exact O34.out.alloc _
        have RA : wa.ownsRow 0 118 4 (.slice ea en ec) ps.length (entCells ps) := row_only L3'.lr.ents.row O3a (fun b hb e => L3'.lr.row_ne (by rw [hb]; exact congrArg some e))
        have XA := Lib.hid (row_only X3.out O3a (fun b hb e => by
          have h1 := (X3.out.lt b hb).1
          have h2 := H.out.lr.head.lt
          omega))
        rw [← hwa]
        clear hwa
        have INS := Lib.hid (insert7_any 0 (.slice ea en ec) ps.length k' wa.heap.size (entCells ps) [.int .i64 3, .string (B (foldG fs)), .slice xa fs.length xc, .int .i64 nx] ((wa.alloc (.cells #[.int .i64 3, .string (B (foldG fs)), .slice xa fs.length xc, .int .i64 nx] 118)).drew) (show ((wa.alloc (.cells #[.int .i64 3, .string (B (foldG fs)), .slice xa fs.length xc, .int .i64 nx] 118)).drew).ownsRow 0 118 4 (.slice ea en ec) ps.length (entCells ps) from RA.alloc _) (entCells_ones L3'.lr.ents) hkl (by omega) (Nat.zero_le _) rfl (show Cells ((wa.alloc (.cells #[.int .i64 3, .string (B (foldG fs)), .slice xa fs.length xc, .int .i64 nx] 118)).drew) wa.heap.size 118 _ from Cells.new wa _ _) (fun e => by have := (RA.lt _ e).2; omega) (by intro u hu; simp at hu; rcases hu with rfl | rfl | rfl | rfl <;> rfl))
        unfold sl InsR at INS
        have c0 : wa.cell? ⟨lb, 0, none⟩ = some (.slice ea en ec) := CA.cell 0
        have c0a : ∀ o, (wa.alloc o).cell? ⟨lb, 0, none⟩ = some (.slice ea en ec) := fun o => (CA.alloc o).cell 0
        have j0 : wa.cell? ⟨w4.heap.size, 0, none⟩ = some (.int .i64 3) := CE.cell 0
        have j1 : wa.cell? ⟨w4.heap.size, 1, none⟩ = some (.string (B (foldG fs))) := CE.cell 1
        have j2 : wa.cell? ⟨w4.heap.size, 2, none⟩ = some (.slice xa fs.length xc) := CE.cell 2
        have j3 : wa.cell? ⟨w4.heap.size, 3, none⟩ = some (.int .i64 nx) := CE.cell 3
        have CAH := Lib.hid CA
        have CEH := Lib.hid CE
        have O3H := Lib.hid O3a
        have hevn := L3'.lr.row_ne
        have HEN := Lib.hid hevn
        have HEV := Lib.hid (show ∀ b, (Value.slice ea en ec).ownBlock = some b → b < w.heap.size from fun b hb => (H.out.lr.ents.row.lt b hb).2)
        have hlbw := H.out.lr.head.lt
        have hzb := B3.out.size
        have HZA := Lib.hid hza
        clear CA CE O3a RA hevn L3' hza
        go_region_law (go_simp; go_at_call 172; refine INS.out.mono ?_; rintro e w6 ⟨v', rfl, hr6, ho6, hbk6⟩; obtain ⟨g6, cap6, rfl⟩ := ownsRow_succ hr6; have hc6 := Lib.hid ((CAH.out.alloc _).drew.only ho6 HEN.out); have hce6 := Lib.hid ((CEH.out.alloc _).drew.only ho6 (fun e => by have := HEV.out _ e; omega)); have k0 : w6.cell? ⟨lb, 0, none⟩ = some (.slice ea en ec) := hc6.out.cell 0; have kf0 := hc6.out.frozen 0; have ho6' := Lib.hid ho6)
        all_goals
          have j6 : (w6.setCell ⟨lb, 0, none⟩ (.slice (some ⟨g6, 0, none⟩) (ps.length + 1) cap6)).cell? ⟨w4.heap.size, 3, none⟩ = some (.int .i64 nx) := (hce6.out.other (p := ⟨lb, 0, none⟩) (by show w4.heap.size ≠ lb; omega) _).cell 3
          go_wp2_with fail
        all_goals
          go_ret2
          rw [insertW_yes h0]
          have hxq : FldR ((wa.alloc (.cells #[.int .i64 3, .string (B (foldG fs)), .slice xa fs.length xc, .int .i64 nx] 118)).drew) (.slice xa fs.length xc) fs := FldR.own ((show wa.drew.ownsRow w1.heap.size 35 2 (.slice xa fs.length xc) fs.length (cellsF fs) from XA.out).alloc _)
          have hzaa : ((wa.alloc (.cells #[.int .i64 3, .string (B (foldG fs)), .slice xa fs.length xc, .int .i64 nx] 118)).drew).heap.size = wa.heap.size + 1 := by show (wa.alloc _).heap.size = _; rw [World.size_alloc]
          obtain ⟨q1, q2, q3⟩ := LA.insert (q := ((itemOf fs, nx), .slice xa fs.length xc)) (nx' := nx + 1) L3.out B3.out hlbw HEV.out hkl ((CAH.out.alloc _).drew) ((O3H.out.alloc _).drew) hxq (fun _ b hb => ⟨by have := (XA.out.lt b hb).1; omega, by have := (XA.out.lt b hb).2; omega⟩) hr6 ho6'.out (hbk6.imp (fun h => h) fun h => ⟨_, h, by omega⟩)
          exact ⟨_, _, _, rfl, q1, putE_map ps k' (itemOf fs, nx) _, q2, q3, ErrZ.none _ _, fun q hq => by
            rcases List.mem_append.1 hq with h | h
            · exact .inl (List.mem_of_mem_take h)
            · rcases List.mem_cons.1 h with h | h
              · right; rw [h]; intro b hb; have := (XA.out.lt b hb).1; omega
              · exact .inl (List.mem_of_mem_drop h)⟩
    · have hxn := hR.none_ h0
      subst hxn
      rcases hR.chk.pos h0 with hu | ⟨q, hu⟩
      all_goals
        subst hu
        have hck := Lib.hid (ErrZ.of (hR.chk.mono hz))
        clear hR IT
        go_wp2_with fail
        go_ret2
        rw [insertW_no h0]
        have hba := B2.out.alloc B2.out.size (.cells #[.int .i64 (kindI fs), .string (B (stzT fs)), .slice none 0 0] 105)
        exact ⟨_, ev, ps, rfl, H.out.below hba (Nat.le_refl _), rfl, Only.of_below hba (Nat.le_refl _), .inl rfl, hck.out.below ((Below.refl _ _).alloc (Nat.le_refl _) _) (Nat.le_refl _), fun p hp => .inl hp⟩
end Go.Proofs.YtkcklnnmcmjnjaaGreatDoor

