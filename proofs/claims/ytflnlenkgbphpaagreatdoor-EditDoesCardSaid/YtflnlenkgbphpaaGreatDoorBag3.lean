/- Texts put together: NT. -/
import Derived.Test.YtflnlenkgbphpaaGreatDoorBaf1
import Derived.Test.YtflnlenkgbphpaaGreatDoorBaf2
import Derived.Test.YtflnlenkgbphpaaGreatDoorBaf3
import Derived.Test.YtflnlenkgbphpaaGreatDoorBaf4
import Derived.Test.YtflnlenkgbphpaaGreatDoorBaf5
import Derived.Test.YtflnlenkgbphpaaGreatDoorBaf6
import Derived.Test.YtflnlenkgbphpaaGreatDoorBaf7
import Derived.Test.YtflnlenkgbphpaaGreatDoorBaf8
import Derived.Test.YtflnlenkgbphpaaGreatDoorBaf9
import Derived.Test.YtflnlenkgbphpaaGreatDoorBaf10
import Derived.Test.YtflnlenkgbphpaaGreatDoorBaf11
import Derived.Test.YtflnlenkgbphpaaGreatDoorBaf12
import Derived.Test.YtflnlenkgbphpaaGreatDoorBaf13
import Derived.Test.YtflnlenkgbphpaaGreatDoorBaf14
import Derived.Test.YtflnlenkgbphpaaGreatDoorBaf15
import Derived.Test.YtflnlenkgbphpaaGreatDoorBaf16
import Derived.Test.YtflnlenkgbphpaaGreatDoorBaf17
import Derived.Test.YtflnlenkgbphpaaGreatDoorBaf18
import Derived.Test.YtflnlenkgbphpaaGreatDoorBag1
import Derived.Test.YtflnlenkgbphpaaGreatDoorBag2
set_option linter.unusedVariables false
namespace Go.Proofs.YtflnlenkgbphpaaGreatDoor
open Go.RowKit Go.Shelf
attribute [local go_sem] Oper.semAt_some

/-- The stanzas so far, of which each one's fields lie where they lay. -/
structure AccY (w wr : World) (v : Value) (fvs : List Value) (rs : List Stz) : Prop where
  row : wr.ownsRow w.heap.size 65 2 v rs.length (stzCells rs fvs)
  len : fvs.length = rs.length
  each : ∀ (j : Nat) s x, rs[j]? = some s → fvs[j]? = some x → Flds w x s.2
  below : Below w.heap.size w wr
theorem AccY.szs {w wr : World} {v : Value} {fvs : List Value} {rs : List Stz} (h : AccY w wr v fvs rs) : Szs wr v rs :=
  szs_of_own h.row h.len fun j s x h1 h2 => (h.each j s x h1 h2).below h.below (Nat.le_refl _)
theorem AccY.kept {w wr w2 : World} {v : Value} {fvs : List Value} {rs : List Stz} (h : AccY w wr v fvs rs) (hb : Below wr.heap.size wr w2) : AccY w w2 v fvs rs :=
  ⟨own_kept h.row hb (Nat.le_refl _), h.len, h.each, h.below.trans (hb.mono h.below.size)⟩
theorem AccY.snoc {w W W1 w3 : World} {v v' x : Value} {fvs : List Value} {rs : List Stz} {s : Stz} (h : AccY w W v fvs rs) (hx : Flds w x s.2) (ho : w3.ownsRow w.heap.size 65 2 v' (rs.length + 1) (stzCells rs fvs ++ [.int .i64 s.1, x])) (h1 : Below W.heap.size W W1) (hg : W1.grownBy w3 v.ownBlock) : AccY w w3 v' (fvs ++ [x]) (rs ++ [s]) := by
  have h' := h.kept h1
  refine ⟨by rw [List.length_append, stzCells_snoc _ _ _ _ h.len]; exact ho, by simp [h.len], fun j y z hy hz => ?_, h'.below.grown hg h'.below.size (fun k e => (h.row.lt k e).1)⟩
  rcases snoc_at hy with ⟨q, hy⟩ | ⟨q, rfl⟩
  · rw [List.getElem?_append_left (by rw [h.len]; exact q)] at hz
    exact h.each j y z hy hz
  · rw [q, ← h.len, List.getElem?_append_right (Nat.le_refl _)] at hz
    simp at hz
    subst hz; exact hx
theorem own_base {W W' : World} {lo K n m : Nat} {t : TypeId} {sz : Nat} {v v' : Value} {xs ys : List Value} (h : W.ownsRow lo t sz v n xs) (ho : W'.ownsRow 0 t sz v' m ys) (hk : v'.ownBlock = v.ownBlock ∨ v'.ownBlock = some K) (hK : lo ≤ K) : W'.ownsRow lo t sz v' m ys := by
  rcases ho.2 with ⟨q, hn⟩ | ⟨g2, cap2, cur2, q, _, rest⟩
  · exact ⟨ho.1, .inl ⟨q, hn⟩⟩
  · refine ⟨ho.1, .inr ⟨g2, cap2, cur2, q, ?_, rest⟩⟩
    rcases hk with hk | hk
    · exact (h.lt g2 (by rw [← hk, q]; rfl)).1
    · rw [q] at hk
      have : g2 = K := Option.some.inj hk
      omega
/-- The stanzas among entries, by their numbers. -/
def stzN (ps : List Pr) : List Stz := (ps.filter fun p => decide (0 < p.1.2)).map fun p => (p.1.2, p.1.1.fields)
theorem stzN_snoc (ps : List Pr) (k : Nat) (p : Pr) (h : ps[k]? = some p) : stzN (ps.take (k + 1)) = stzN (ps.take k) ++ if 0 < p.1.2 then [(p.1.2, p.1.1.fields)] else [] := by
  unfold stzN
  rw [List.take_add_one, h, Option.toList_some, List.filter_append, List.map_append]
  congr 1
  by_cases hq : 0 < p.1.2
  · rw [if_pos hq, List.filter_cons, if_pos (by simpa using hq)]; rfl
  · rw [if_neg hq, List.filter_cons, if_neg (by simpa using hq)]; rfl
theorem stzN_len (ps : List Pr) : (stzN ps).length ≤ ps.length := by unfold stzN; rw [List.length_map]; exact List.length_filter_le _ _
set_option maxRecDepth 100000 in
set_option maxHeartbeats 4000000 in
/-- The document's Stanzas. -/
theorem refStanzas7_any (ps : List Pr) (v : Value) (nx : Int) (w : World) (h : EntsQ w v ps) (hps : ps.length ≤ 10000) :
    Calls Tryz.prog 28 #[.agg #[v, .int .i64 nx]] w fun e w' => ∃ u fvs, e = .returned u ∧ AccY w w' u fvs (stzN ps) := by
  obtain ⟨i0, hi, hz0, hz1, hz2⟩ := info_parts infoStz
  have H := Lib.hid h
  obtain ⟨A, cap, rfl, hle⟩ := h.empty
  have HB := Lib.hid ((Below.refl w.heap.size w).alloc (Nat.le_refl _) (.cells #[.slice A ps.length cap, .int .i64 nx] 43))
  have BX := Lib.hid (Cells.new w 43 #[.slice A ps.length cap, .int .i64 nx])
  clear h
  go_enter Tryz.func28, Tryz.ntmps28
  go_wp2_with fail
  go_loopw [3, 4] (fun u i wr => ∃ (k : Nat) (fvs : List Value), k ≤ ps.length ∧ i = .int .i64 k ∧ AccY w wr u fvs (stzN (ps.take k)) ∧ Cells wr w.heap.size 43 #[.slice A ps.length cap, .int .i64 nx]) (fun _ i _ => ps.length - (intOf i).toNat)
  case atStart => exact ⟨0, [], Nat.zero_le _, rfl, ⟨⟨rfl, .inl ⟨rfl, rfl⟩⟩, rfl, (fun j it x h => by simp [stzN] at h), HB.out⟩, BX.out⟩
  case round =>
    obtain ⟨k, fvs, hk, rfl, hacc, hbx⟩ := hrel
    have c0 : wr.cell? ⟨w.heap.size, 0, none⟩ = some (.slice A ps.length cap) := hbx.cell 0
    by_cases hlt : k < ps.length
    · obtain ⟨p, hp⟩ : ∃ p, ps[k]? = some p := ⟨_, List.getElem?_eq_getElem hlt⟩
      have hb := hacc.below
      have hE := H.out.below hb (Nat.le_refl _)
      obtain ⟨g, cap', pa, pc, e1, _, hg, e2, d0, d1, d2, d3⟩ := hE.here hp
      cases e1
      have hfr := H.out.each p (List.mem_of_getElem? hp)
      rw [e2] at d2 hfr
      have HFR := Lib.hid hfr
      have SN := Lib.hid (stzN_snoc ps k p hp)
      have hsl := stzN_len (ps.take k)
      rw [List.length_take] at hsl
      have hsz := hb.size
      by_cases hq : 0 < p.1.2
      · have ACC := Lib.hid hacc
        have hrow := hacc.row
        have HO := Lib.hid (rowBase hacc.row (Nat.zero_le _))
        obtain ⟨ua, uc, rfl, _⟩ := own_slice hacc.row
        have HBX := Lib.hid hbx
        have HNE := Lib.hid (own_cells_ne hacc.row hbx (by decide))
        clear hacc hE hfr hp hbx e2 d0 d1 hb
        generalize (stzN (ps.take k)) = rs at *
        go_wp2_with fail
        go_region_law (refine step_append_own rfl (.tmp 19) (.tmp 34) 55 rfl 65 i0 _ 2 32 Tryz.underlying55 hi hz0 hz1 hz2 rfl (by decide) (.slice ua rs.length uc) rs.length (stzCells rs fvs) (by simp [Act.eval]) (by exact (HO.out.alloc _).drew) ⟨wr.heap.size, 0, none⟩ 1 1 [.int .i64 p.1.2, .slice pa p.1.1.fields.length pc] (by simp [Act.eval]) rfl (cells_new_add wr 65 [.int .i64 p.1.2, .slice pa p.1.1.fields.length pc]) (by intro u hu; simp at hu; rcases hu with rfl | rfl <;> rfl) (by unfold maxLen; omega) (by omega) ?_; intro v' w3 ho hgrow hbk; have hown' := Lib.hid (own_base hrow ho hbk (by simp; omega)); have hgr := Lib.hid hgrow; obtain ⟨g', cap', rfl⟩ := ownsRow_succ ho; clear ho hgrow hbk)
        all_goals go_wp2_with fail
        all_goals
          have hacc3 := ACC.out.snoc (s := (p.1.2, p.1.1.fields)) HFR.out hown'.out (((Below.refl wr.heap.size wr).alloc (Nat.le_refl _) _).drew) hgr.out
          have hbx3 := ((HBX.out.alloc (.cells #[.int .i64 p.1.2, .slice pa p.1.1.fields.length pc] 65)).drew).grown hgr.out (fun e => HNE.out e.symm)
          go_roundw
          case rel => exact ⟨k + 1, _, hlt, by go_num, by rw [SN.out, if_pos hq]; exact hacc3, hbx3⟩
          case measure => simp [intOf]; omega
      · have hq' : decide (0 < p.1.2) = false := decide_eq_false hq
        have ACC := Lib.hid hacc
        have HBX := Lib.hid hbx
        clear hacc hE hfr hp hbx e2 d0 d1 hb
        go_wp2_with fail
        go_roundw
        case rel => exact ⟨k + 1, _, hlt, by go_num, by rw [SN.out, if_neg hq, List.append_nil]; exact ACC.out, HBX.out⟩
        case measure => simp [intOf]; omega
    · obtain rfl : k = ps.length := by omega
      rw [List.take_length] at hacc
      have HACC := Lib.hid hacc
      clear hacc hbx
      go_wp2_with fail
      go_ret
      exact ⟨_, fvs, rfl, HACC.out⟩
end Go.Proofs.YtflnlenkgbphpaaGreatDoor

