/- Texts put together: FP, FQ, FR, TD, TE, TL, UA, NG, NH, UK, UB, UC, UD, UE, TG, TJ, UF, RI, RQ, RK, QI. -/
import Derived.Deep.RegionHeld3
import Derived.WalkKit
import Derived.Orders
import Derived.Sort.BigQuietIn
import Derived.Shelf.RegionOpen
import Derived.Test.YtiebbgbcojgeoaaGreatDoorBase3
set_option linter.unusedVariables false
/- What stands between line ends, by definition. -/
namespace Go.Proofs.YtiebbgbcojgeoaaGreatDoor
open Go.RowKit Go.Shelf

theorem OwnS.grow {w5 : World} {base g' cap' : Nat} {ls : List ByteArray} {y : ByteArray} {n : Nat} (h : w5.ownsRow base 9 1 (.slice (some ⟨g', 0, none⟩) (n + 1) cap') (n + 1) (ls.map Value.string ++ [Value.string y])) (hl : ls.length = n) : OwnS w5 base (.slice (some ⟨g', 0, none⟩) (n + 1) cap') (ls ++ [y]) := by
  unfold OwnS
  rw [List.length_append, List.map_append, hl]; exact h
theorem OwnS.form {w : World} {base : Nat} {v : Value} {ls : List ByteArray} (h : OwnS w base v ls) (hn : 0 < ls.length) : ∃ g cap, v = .slice (some ⟨g, 0, none⟩) ls.length cap ∧ base ≤ g ∧ g < w.heap.size := by
  obtain ⟨g, cap, e⟩ := Joins.ownsRow_form h hn
  have := World.ownsRow.lt h g (by rw [e]; rfl)
  exact ⟨g, cap, e, this⟩
theorem OwnS.cell {w : World} {base g cap n : Nat} {ls : List ByteArray} (h : OwnS w base (.slice (some ⟨g, 0, none⟩) n cap) ls) (hn : ls.length = n) (j : Nat) (x : ByteArray) (hx : ls[j]? = some x) : w.cell? ⟨g, j, none⟩ = some (.string x) := by
  subst hn
  have hj : j < ls.length := by
    rcases Nat.lt_or_ge j ls.length with q | q
    · exact q
    · rw [List.getElem?_eq_none q] at hx; cases hx
  rw [World.ownsRow.cellAt h j (by omega), List.getElem?_map, hx]; rfl

set_option maxRecDepth 100000 in
set_option maxHeartbeats 4000000 in
theorem refParts_any (l : List UInt8) (hl : l.length ≤ 1000000) (w : World) :
    Calls Tryz.prog 193 #[.string (B l)] w fun e w' => ∃ v, e = .returned v ∧ OwnS w' w.heap.size v ((partsL l).map B) ∧ Below w.heap.size w w' := by
  obtain ⟨i0, hi, hz0, hz1, hz2⟩ := info_parts infoStr
  have hsz := B_size l
  have hd := B_data l
  generalize B l = s at *
  have HD := Lib.hid hd
  go_enter Tryz.func193, Tryz.ntmps193
  go_wp2_with fail
  go_loopw [3, 4] (fun v i wr => ∃ k : Nat, k ≤ s.size ∧ i = .int .i64 k ∧ OwnS wr w.heap.size v ((partsL (l.take k)).map B) ∧ (partsL (l.take k)).length ≤ k + 1 ∧ Below w.heap.size w wr) (fun _ i _ => s.size - (intOf i).toNat)
  case atStart => exact ⟨0, Nat.zero_le _, rfl, OwnS.one w _ (Nat.le_refl _) _, by simp [partsL], (Below.refl _ _).alloc (Nat.le_refl _) _⟩
  case round =>
    obtain ⟨k, hk, rfl, hown, hlen, hb⟩ := hrel
    by_cases hlt : k < s.size
    · have e : l[k]? = some s[k] := by
        rw [← HD.out, List.getElem?_eq_getElem (by rw [← Lib.size_eq]; exact hlt)]; rfl
      have htk : l.take (k + 1) = l.take k ++ [s[k]] := by rw [List.take_add_one, e]; rfl
      have hex : s.extract k (k + 1) = B [s[k]] := by
        rw [← B_of (s.extract k (k + 1)), Lib.extract_data, HD.out]
        congr 1
        rw [show k + 1 - k = 1 by omega]
        have : (l.drop k)[0]? = some s[k] := by rw [List.getElem?_drop]; exact e
        cases hdl : l.drop k with
        | nil => rw [hdl] at this; simp at this
        | cons a b => rw [hdl] at this; simp at this; subst this; rfl
      have q2 := byte_eq (c := s[k]) (d := 10) 10 rfl
      have hs3 := hb.size
      have hn0 : 0 < ((partsL (l.take k)).map B).length := by rw [List.length_map]; exact List.length_pos_iff.2 (partsL_ne _)
      cases h5 : (s[k] == 10) with
      | true =>
        rw [h5] at q2
        have h10 : s[k] = 10 := by simpa using h5
        have T1 : Hid ((partsL (l.take (k + 1))).map B = (partsL (l.take k)).map B ++ [⟨#[]⟩]) := by
          show _ = _
          rw [htk, h10, partsL_snoc_nl, List.map_append]; rfl
        have T2 : Hid ((partsL (l.take (k + 1))).length = ((partsL (l.take k)).map B).length + 1) := by
          show _ = _
          rw [htk, h10, partsL_snoc_nl, List.length_append, List.length_map]; rfl
        rw [← List.length_map (f := B)] at hlen
        clear htk hex h10 e h5 hd
        generalize (partsL (l.take k)).map B = ls at *
        obtain ⟨g, cap, rfl, hg1, hg2⟩ := hown.form hn0
        have HC := Lib.hid (strCell wr ⟨#[]⟩ 9)
        have hown4 : wr.ownsRow w.heap.size 9 1 (.slice (some ⟨g, 0, none⟩) ls.length cap) ls.length (ls.map Value.string) := hown
        obtain ⟨n, hn⟩ : ∃ n, ls.length = n := ⟨_, rfl⟩
        rw [hn] at hown4 hlen hn0
        have HN := Lib.hid hn
        simp only [hn]
        clear hown hn
        go_wp2_with (at_builtin; refine wpList_append_own _ rfl _ _ 69 rfl w.heap.size 9 i0 _ 1 16 Tryz.underlying69 hi hz0 hz1 hz2 rfl (by decide) _ _ _ rfl (hown4.alloc _) ⟨wr.heap.size, 0, none⟩ 1 1 _ rfl rfl HC.out ?c2 ?c3 ?c4 ?c5 ?_)
        case c2 => intro u hu; simp at hu; subst hu; rfl
        case c3 => unfold maxLen; omega
        case c4 => omega
        case c5 => simp; omega
        intro v' w5 hown' hgrow _
        obtain ⟨g', cap', rfl⟩ := ownsRow_succ hown'
        have hb5 : Below w.heap.size w w5 := (hb.alloc (by omega) _).grown hgrow (by simp; omega) (fun j ej => (hown4.lt j ej).1)
        have hown6 := OwnS.grow (ls := ls) (y := ⟨#[]⟩) hown' HN.out
        rw [← T1.out] at hown6
        go_wp2_with fail
        go_roundw
        case rel => exact ⟨k + 1, hlt, by go_num, hown6, by rw [T2.out, HN.out]; omega, hb5⟩
        case measure => simp [intOf]; omega
      | false =>
        rw [h5] at q2
        have h10 : s[k] ≠ 10 := by simpa using h5
        obtain ⟨pre, p, p1, p2⟩ := partsL_snoc (l.take k) s[k] h10
        have hm : ((partsL (l.take k)).map B).length = pre.length + 1 := by rw [p1]; simp
        rw [p1, List.length_append] at hlen
        simp only [List.length_singleton] at hlen
        obtain ⟨g, cap, rfl, hg1, hg2⟩ := hown.form hn0
        rw [hm] at hown ⊢
        have hcell := hown.cell hm pre.length (B p) (by rw [p1, List.map_append, List.getElem?_append_right (by simp)]; simp)
        have hown4 : wr.ownsRow w.heap.size 9 1 (.slice (some ⟨g, 0, none⟩) (pre.length + 1) cap) (pre.length + 1) ((pre.map B).map Value.string ++ [.string (B p)]) := by
          have := hown
          unfold OwnS at this
          rw [hm, p1] at this
          simpa using this
        have hfz := hown4.frozenAt pre.length
        have hst := hown4.stored pre.length (.string (B p ++ B [s[k]]))
        rw [List.set_append_right _ _ (by simp)] at hst
        simp only [List.length_map, Nat.sub_self, List.set_cons_zero, B_append] at hst
        have T1 : Hid ((partsL (l.take (k + 1))).map B = pre.map B ++ [B (p ++ [s[k]])]) := by
          show _ = _
          rw [htk, p2, List.map_append]; rfl
        have T2 : Hid ((partsL (l.take (k + 1))).length = pre.length + 1) := by
          show _ = _
          rw [htk, p2, List.length_append]; rfl
        obtain ⟨hst1, hst2⟩ := hst
        have hown6 := OwnS.grow (ls := pre.map B) (y := B (p ++ [s[k]])) hst1 (by simp)
        rw [← T1.out] at hown6
        have hb6 := hb.setCell (p := ⟨g, pre.length, none⟩) hg1 (.string (B (p ++ [s[k]])))
        have HB1 := Lib.hid hown6
        have HB2 := Lib.hid hb6
        have hpre : pre.length ≤ 1000000 := by omega
        have hwr : IntKind.i64.wrap (pre.length : Int) = pre.length := IntWalk.i64_in _ (by omega)
        have hlt2 : (pre.length : Int) < (pre.length : Int) + 1 := by omega
        have hwk : IntKind.i64.wrap ((k : Int) + 1) = (k : Int) + 1 := IntWalk.i64_in _ (by omega)
        have hk1 : (k : Int) + 1 ≤ (l.length : Int) := by omega
        have hk2 : (k : Int) ≤ (k : Int) + 1 := by omega
        have hk3 : (k : Int) + 1 ≤ (s.size : Int) := by omega
        have hba := B_append p [s[k]]
        have z1 := B_size p
        have z2 := B_size [s[k]]
        have hpl : p.length ≤ 1000000 := by
          have := (parts_le (l.take k)); rw [p1] at this; simp at this; omega
        simp only [List.length_singleton] at z2
        rw [← hex] at hba z2
        clear hown hown4 hst1 hst2 hown6 hb6 p1 p2 htk e hd hm h10 hex
        have hcat : ¬ 9223372036854775807 < p.length + 1 := by omega
        generalize B (p ++ [s[k]]) = np at *
        generalize B p = bp at *
        go_wp2_with fail
        refine wp_region_still_tail 17 (by kernel_rfl) (by kernel_rfl) ?_
        simp only [List.take_succ_cons, List.take_zero, List.drop_succ_cons, List.drop_zero]
        repeat still_step
        refine wpStill_nil ?_
        change wpList _ _ _ _ _ wr.drew
        go_wp2_with fail
        go_roundw
        case rel => exact ⟨k + 1, hlt, by go_num, HB1.out, by rw [T2.out]; omega, HB2.out.drew⟩
        case measure => simp [intOf]; omega
    · obtain rfl : k = s.size := by omega
      rw [List.take_of_length_le (by omega)] at hown
      go_wp2_with fail
      go_ret
      exact ⟨_, rfl, hown, hb⟩
end Go.Proofs.YtiebbgbcojgeoaaGreatDoor
/- A field's lines, by definition. -/
namespace Go.Proofs.YtiebbgbcojgeoaaGreatDoor
open Go.RowKit Go.Shelf

theorem kind_clean {l : List UInt8} (h : (10 : UInt8) ∉ l) : (kindL l = 1 ↔ blankAll l = true) := by
  unfold kindL
  rw [hasB_not h, if_neg (by decide)]
  cases hb : blankAll l with
  | true => simp
  | false =>
    rw [if_neg (by decide)]
    constructor
    · intro h
      split at h
      · cases h
      · split at h
        · cases h
        · split at h <;> cases h
    · intro h; cases h
set_option maxRecDepth 100000 in
set_option maxHeartbeats 4000000 in
theorem refLines_any (k v : List UInt8) (hk : k.length ≤ 100000) (hv : v.length ≤ 100000) (w : World) :
    Calls Tryz.prog 156 #[fieldV k v] w fun e w' => ∃ sv base, e = .returned sv ∧ OwnS w' base sv ((linesL k v).map B) ∧ Below w.heap.size w w' := by
  obtain ⟨i0, hi, hz0, hz1, hz2⟩ := info_parts infoStr
  have PA := fun w => refParts_any v (by omega) w
  obtain ⟨p, r, hp⟩ : ∃ p r, partsL v = p :: r := ⟨_, _, partsL_cons v⟩
  rw [hp] at PA
  obtain ⟨z1, z2, z3⟩ := piece_le hp
  have hcl : ∀ q ∈ p :: r, (10 : UInt8) ∉ q := by rw [← hp]; exact partsL_clean v
  have HL := Lib.hid (linesLen (k := k) hp)
  clear hp
  unfold fieldV
  have hzk := B_size k
  have h1 : (B k ++ ⟨#[58]⟩) = B (k ++ [58]) := B_append k [58]
  have h2 : (B (k ++ [58]) ++ ⟨#[32]⟩) = B ((k ++ [58]) ++ [32]) := B_append _ [32]
  have h3 : (B ((k ++ [58]) ++ [32]) ++ B p) = B (((k ++ [58]) ++ [32]) ++ p) := B_append _ p
  have y1 : (B (k ++ [58])).size = k.length + 1 := by rw [B_size]; simp
  have y2 : (B ((k ++ [58]) ++ [32])).size = k.length + 2 := by rw [B_size]; simp
  have hzp := B_size p
  have hfl1 : p = [] → B (firstL k p) = B (k ++ [58]) := fun h => by unfold firstL; rw [if_pos h]
  have hfl2 : p ≠ [] → B (firstL k p) = B (((k ++ [58]) ++ [32]) ++ p) := fun h => by unfold firstL; rw [if_neg h]; simp
  go_enter Tryz.func156, Tryz.ntmps156
  go_wp2_with fail
  refine (PA _).mono ?_
  rintro e w1 ⟨v1, rfl, hown, b1⟩
  obtain ⟨g, cap, rfl, hg1, hg2⟩ := hown.form (by simp)
  have c0 := b1.cell (p := ⟨w.heap.size, 0, none⟩) (by simp)
  have hb1 : Below w.heap.size w w1 := ((Below.refl _ _).alloc (Nat.le_refl _) _).trans (b1.mono (by simp))
  have PC : ∀ (j : Nat) x, (p :: r)[j]? = some x → w1.cell? ⟨g, j, none⟩ = some (.string (B x)) := fun j x hx => hown.cell rfl j (B x) (by rw [List.getElem?_map, hx]; rfl)
  have e0 := PC 0 p rfl
  simp only [List.length_map, List.length_cons]
  simp only [World.cell?_alloc_at _ _ _ _ rfl] at c0
  have PCH := Lib.hid (fun (j : Nat) x (hx : r[j]? = some x) => PC (j + 1) x (by simpa using hx))
  have hcl2 := Lib.hid (fun q hq => hcl q (List.mem_cons_of_mem _ hq))
  have BW := Lib.hid hb1
  replace c0 : w1.cell? ⟨w.heap.size, 0, none⟩ = some (.string (B k)) := c0
  have hw1 := hb1.size
  clear PC PA b1 hown hg1 hcl hb1
  generalize hfl : B (firstL k p) = FL at *
  have HFL : Hid (((linesL k v).map B) = FL :: (r.map furtherL).map B) := by
    show _ = _
    rw [HL.out, List.map_cons, hfl]
  clear hfl HL
  have hpp : (p = [] ∧ FL = B (k ++ [58])) ∨ (p ≠ [] ∧ FL = B (((k ++ [58]) ++ [32]) ++ p)) := by
    by_cases hpe : p = []
    · exact .inl ⟨hpe, hfl1 hpe⟩
    · exact .inr ⟨hpe, hfl2 hpe⟩
  clear hfl1 hfl2
  rcases hpp with ⟨hpe, hf⟩ | ⟨hpe, hf⟩
  · subst hpe
    rw [show B [] = ⟨#[]⟩ from rfl] at *
    rw [← hf] at h1
    clear hf h2 h3 y1 y2 hzp z1
    generalize B k = K at *
    go_wp2_with fail
    go_loopw [5, 6] (fun v5 i wr => ∃ n : Nat, n ≤ r.length ∧ i = .int .i64 ((n : Int) + 1) ∧ OwnS wr w1.heap.size v5 (FL :: ((r.take n).map furtherL).map B) ∧ Below w1.heap.size w1 wr) (fun _ i _ => r.length + 1 - (intOf i).toNat)
    case atStart => exact ⟨0, Nat.zero_le _, rfl, OwnS.one w1 _ (Nat.le_refl _) _, (Below.refl _ _).alloc (Nat.le_refl _) _⟩
    case round =>
      obtain ⟨n, hn, rfl, hown, hb⟩ := hrel
      by_cases hlt : n < r.length
      · obtain ⟨x, hx⟩ : ∃ x, r[n]? = some x := ⟨_, List.getElem?_eq_getElem hlt⟩
        have hcx := (hb.cell (p := ⟨g, n + 1, none⟩) hg2).trans (PCH.out n x hx)
        have hxm := List.mem_of_getElem? hx
        have hxl := z2 x hxm
        have hxc := hcl2.out x hxm
        have hxz := B_size x
        have RK := fun w => refKind_any (B x) (by omega) w
        rw [B_data] at RK
        have TK : Hid (FL :: ((r.take (n + 1)).map furtherL).map B = (FL :: ((r.take n).map furtherL).map B) ++ [B (furtherL x)]) := by
          show _ = _
          rw [List.take_add_one, hx]; simp
        have HLL : Hid ((FL :: ((r.take n).map furtherL).map B).length = n + 1) := by
          show _ = _
          simp; omega
        have hs3 := hb.size
        have kc := kind_clean hxc
        cases hbl : blankAll x with
        | true =>
          have hk1 := kc.2 hbl
          have hfx : ⟨#[32, 46]⟩ ++ B x = B (furtherL x) := by unfold furtherL dotted; rw [hbl]; exact B_append [32, 46] x
          rw [hk1] at RK
          clear hx hk1 kc hbl hxc hxm
          generalize (FL :: ((r.take n).map furtherL).map B) = ls at *
          generalize B (furtherL x) = Y at *
          generalize B x = X at *
          go_wp2_with fail
          refine (RK _).mono ?_
          rintro e w4 ⟨rfl, b4⟩
          have hcx4 := (b4.cell (p := ⟨g, n + 1, none⟩) (Nat.lt_of_lt_of_le hg2 hs3)).trans hcx
          have hown4 : w4.ownsRow w1.heap.size 9 1 u5 (n + 1) (ls.map Value.string) := by rw [← HLL.out]; exact hown.kept b4 (Nat.le_refl _)
          have hs4 := b4.size
          have HC := Lib.hid (strCell w4 Y 9)
          have hb4 : Below w1.heap.size w1 w4 := hb.trans (b4.mono hs3)
          clear hown b4 hcx
          go_wp2_with (at_builtin; refine wpList_append_own _ rfl _ _ 69 rfl w1.heap.size 9 i0 _ 1 16 Tryz.underlying69 hi hz0 hz1 hz2 rfl (by decide) _ _ _ rfl (hown4.alloc _) ⟨w4.heap.size, 0, none⟩ 1 1 _ rfl rfl HC.out ?c2 ?c3 ?c4 ?c5 ?_)
          case c2 => intro u hu; simp at hu; subst hu; rfl
          case c3 => unfold maxLen; omega
          case c4 => omega
          case c5 => simp; omega
          intro v' w5 hown' hgrow _
          obtain ⟨g', cap', rfl⟩ := ownsRow_succ hown'
          have hb5 : Below w1.heap.size w1 w5 := (hb4.alloc (by omega) _).grown hgrow (by simp; omega) (fun j ej => (hown4.lt j ej).1)
          have hown6 := OwnS.grow (ls := ls) (y := Y) hown' HLL.out
          rw [← TK.out] at hown6
          go_wp2_with fail
          go_roundw
          case rel => exact ⟨n + 1, hlt, by go_num, hown6, hb5⟩
          case measure => simp [intOf]; omega
        | false =>
          have hk1 : kindL x ≠ 1 := fun e => by rw [kc.1 e] at hbl; cases hbl
          obtain ⟨c, t, rfl⟩ := all_blank_cons hbl
          have hki : ((kindL (c :: t) : Int) == 1) = false := by rw [beq_eq_false_iff_ne]; omega
          have q2 := byte_eq (c := c) (d := 46) 46 rfl
          have hXc : ∀ h : 0 < (B (c :: t)).size, (B (c :: t))[0]'h = c := fun _ => rfl
          have hxz2 : (B (c :: t)).size = t.length + 1 := hxz
          have htl : t.length ≤ 1000000 := by simp only [List.length_cons] at hxl; omega
          have hxp : 0 < (B (c :: t)).size := by omega
          clear hxz
          by_cases hc : c = 46
          · have hfx : ⟨#[32, 46]⟩ ++ B (c :: t) = B (furtherL (c :: t)) := by unfold furtherL dotted; rw [hc]; simp; exact B_append [32, 46] (46 :: t)
            have hcb : (c == 46) = true := by simp [hc]
            rw [hcb] at q2
            clear hx hk1 kc hbl hxc hxm hc
            generalize (FL :: ((r.take n).map furtherL).map B) = ls at *
            generalize kindL (c :: t) = kx at *
            generalize B (furtherL (c :: t)) = Y at *
            generalize B (c :: t) = X at *
            go_wp2_with fail
            refine (RK _).mono ?_
            rintro e w4 ⟨rfl, b4⟩
            have hcx4 := (b4.cell (p := ⟨g, n + 1, none⟩) (Nat.lt_of_lt_of_le hg2 hs3)).trans hcx
            have hown4 : w4.ownsRow w1.heap.size 9 1 u5 (n + 1) (ls.map Value.string) := by rw [← HLL.out]; exact hown.kept b4 (Nat.le_refl _)
            have hs4 := b4.size
            have HC := Lib.hid (strCell w4 Y 9)
            have hb4 : Below w1.heap.size w1 w4 := hb.trans (b4.mono hs3)
            clear hown b4 hcx
            go_wp2_with (at_builtin; refine wpList_append_own _ rfl _ _ 69 rfl w1.heap.size 9 i0 _ 1 16 Tryz.underlying69 hi hz0 hz1 hz2 rfl (by decide) _ _ _ rfl (hown4.alloc _) ⟨w4.heap.size, 0, none⟩ 1 1 _ rfl rfl HC.out ?c2 ?c3 ?c4 ?c5 ?_)
            case c2 => intro u hu; simp at hu; subst hu; rfl
            case c3 => unfold maxLen; omega
            case c4 => omega
            case c5 => simp; omega
            intro v' w5 hown' hgrow _
            obtain ⟨g', cap', rfl⟩ := ownsRow_succ hown'
            have hb5 : Below w1.heap.size w1 w5 := (hb4.alloc (by omega) _).grown hgrow (by simp; omega) (fun j ej => (hown4.lt j ej).1)
            have hown6 := OwnS.grow (ls := ls) (y := Y) hown' HLL.out
            rw [← TK.out] at hown6
            go_wp2_with fail
            go_roundw
            case rel => exact ⟨n + 1, hlt, by go_num, hown6, hb5⟩
            case measure => simp [intOf]; omega
          · have hfx : ⟨#[32]⟩ ++ B (c :: t) = B (furtherL (c :: t)) := by unfold furtherL dotted; rw [hbl]; simp [hc]; exact B_append [32] (c :: t)
            have hcb : (c == 46) = false := by simp [hc]
            rw [hcb] at q2
            clear hx hk1 kc hbl hxc hxm hc
            generalize (FL :: ((r.take n).map furtherL).map B) = ls at *
            generalize kindL (c :: t) = kx at *
            generalize B (furtherL (c :: t)) = Y at *
            generalize B (c :: t) = X at *
            go_wp2_with fail
            refine (RK _).mono ?_
            rintro e w4 ⟨rfl, b4⟩
            have hcx4 := (b4.cell (p := ⟨g, n + 1, none⟩) (Nat.lt_of_lt_of_le hg2 hs3)).trans hcx
            have hown4 : w4.ownsRow w1.heap.size 9 1 u5 (n + 1) (ls.map Value.string) := by rw [← HLL.out]; exact hown.kept b4 (Nat.le_refl _)
            have hs4 := b4.size
            have HC := Lib.hid (strCell w4 Y 9)
            have hb4 : Below w1.heap.size w1 w4 := hb.trans (b4.mono hs3)
            clear hown b4 hcx
            go_wp2_with (at_builtin; refine wpList_append_own _ rfl _ _ 69 rfl w1.heap.size 9 i0 _ 1 16 Tryz.underlying69 hi hz0 hz1 hz2 rfl (by decide) _ _ _ rfl (hown4.alloc _) ⟨w4.heap.size, 0, none⟩ 1 1 _ rfl rfl HC.out ?c2 ?c3 ?c4 ?c5 ?_)
            case c2 => intro u hu; simp at hu; subst hu; rfl
            case c3 => unfold maxLen; omega
            case c4 => omega
            case c5 => simp; omega
            intro v' w5 hown' hgrow _
            obtain ⟨g', cap', rfl⟩ := ownsRow_succ hown'
            have hb5 : Below w1.heap.size w1 w5 := (hb4.alloc (by omega) _).grown hgrow (by simp; omega) (fun j ej => (hown4.lt j ej).1)
            have hown6 := OwnS.grow (ls := ls) (y := Y) hown' HLL.out
            rw [← TK.out] at hown6
            go_wp2_with fail
            go_roundw
            case rel => exact ⟨n + 1, hlt, by go_num, hown6, hb5⟩
            case measure => simp [intOf]; omega
      · obtain rfl : n = r.length := by omega
        rw [List.take_length] at hown
        go_wp2_with fail
        go_ret
        exact ⟨_, _, rfl, by rw [HFL.out]; exact hown, BW.out.trans (hb.mono hw1)⟩

  · obtain ⟨n1, n2⟩ := B_empty hpe
    rw [← hf] at h3
    clear hf hpe
    generalize B k = K at *
    generalize B (k ++ [58]) = K1 at *
    generalize B ((k ++ [58]) ++ [32]) = K2 at *
    generalize B p = P at *
    go_wp2_with fail
    clear h1 h2 h3 y1 y2 hzp n1 n2
    go_loopw [5, 6] (fun v5 i wr => ∃ n : Nat, n ≤ r.length ∧ i = .int .i64 ((n : Int) + 1) ∧ OwnS wr w1.heap.size v5 (FL :: ((r.take n).map furtherL).map B) ∧ Below w1.heap.size w1 wr) (fun _ i _ => r.length + 1 - (intOf i).toNat)
    case atStart => exact ⟨0, Nat.zero_le _, rfl, OwnS.one w1 _ (Nat.le_refl _) _, (Below.refl _ _).alloc (Nat.le_refl _) _⟩
    case round =>
      obtain ⟨n, hn, rfl, hown, hb⟩ := hrel
      by_cases hlt : n < r.length
      · obtain ⟨x, hx⟩ : ∃ x, r[n]? = some x := ⟨_, List.getElem?_eq_getElem hlt⟩
        have hcx := (hb.cell (p := ⟨g, n + 1, none⟩) hg2).trans (PCH.out n x hx)
        have hxm := List.mem_of_getElem? hx
        have hxl := z2 x hxm
        have hxc := hcl2.out x hxm
        have hxz := B_size x
        have RK := fun w => refKind_any (B x) (by omega) w
        rw [B_data] at RK
        have TK : Hid (FL :: ((r.take (n + 1)).map furtherL).map B = (FL :: ((r.take n).map furtherL).map B) ++ [B (furtherL x)]) := by
          show _ = _
          rw [List.take_add_one, hx]; simp
        have HLL : Hid ((FL :: ((r.take n).map furtherL).map B).length = n + 1) := by
          show _ = _
          simp; omega
        have hs3 := hb.size
        have kc := kind_clean hxc
        cases hbl : blankAll x with
        | true =>
          have hk1 := kc.2 hbl
          have hfx : ⟨#[32, 46]⟩ ++ B x = B (furtherL x) := by unfold furtherL dotted; rw [hbl]; exact B_append [32, 46] x
          rw [hk1] at RK
          clear hx hk1 kc hbl hxc hxm
          generalize (FL :: ((r.take n).map furtherL).map B) = ls at *
          generalize B (furtherL x) = Y at *
          generalize B x = X at *
          go_wp2_with fail
          refine (RK _).mono ?_
          rintro e w4 ⟨rfl, b4⟩
          have hcx4 := (b4.cell (p := ⟨g, n + 1, none⟩) (Nat.lt_of_lt_of_le hg2 hs3)).trans hcx
          have hown4 : w4.ownsRow w1.heap.size 9 1 u5 (n + 1) (ls.map Value.string) := by rw [← HLL.out]; exact hown.kept b4 (Nat.le_refl _)
          have hs4 := b4.size
          have HC := Lib.hid (strCell w4 Y 9)
          have hb4 : Below w1.heap.size w1 w4 := hb.trans (b4.mono hs3)
          clear hown b4 hcx
          go_wp2_with (at_builtin; refine wpList_append_own _ rfl _ _ 69 rfl w1.heap.size 9 i0 _ 1 16 Tryz.underlying69 hi hz0 hz1 hz2 rfl (by decide) _ _ _ rfl (hown4.alloc _) ⟨w4.heap.size, 0, none⟩ 1 1 _ rfl rfl HC.out ?c2 ?c3 ?c4 ?c5 ?_)
          case c2 => intro u hu; simp at hu; subst hu; rfl
          case c3 => unfold maxLen; omega
          case c4 => omega
          case c5 => simp; omega
          intro v' w5 hown' hgrow _
          obtain ⟨g', cap', rfl⟩ := ownsRow_succ hown'
          have hb5 : Below w1.heap.size w1 w5 := (hb4.alloc (by omega) _).grown hgrow (by simp; omega) (fun j ej => (hown4.lt j ej).1)
          have hown6 := OwnS.grow (ls := ls) (y := Y) hown' HLL.out
          rw [← TK.out] at hown6
          go_wp2_with fail
          go_roundw
          case rel => exact ⟨n + 1, hlt, by go_num, hown6, hb5⟩
          case measure => simp [intOf]; omega
        | false =>
          have hk1 : kindL x ≠ 1 := fun e => by rw [kc.1 e] at hbl; cases hbl
          obtain ⟨c, t, rfl⟩ := all_blank_cons hbl
          have hki : ((kindL (c :: t) : Int) == 1) = false := by rw [beq_eq_false_iff_ne]; omega
          have q2 := byte_eq (c := c) (d := 46) 46 rfl
          have hXc : ∀ h : 0 < (B (c :: t)).size, (B (c :: t))[0]'h = c := fun _ => rfl
          have hxz2 : (B (c :: t)).size = t.length + 1 := hxz
          have htl : t.length ≤ 1000000 := by simp only [List.length_cons] at hxl; omega
          have hxp : 0 < (B (c :: t)).size := by omega
          clear hxz
          by_cases hc : c = 46
          · have hfx : ⟨#[32, 46]⟩ ++ B (c :: t) = B (furtherL (c :: t)) := by unfold furtherL dotted; rw [hc]; simp; exact B_append [32, 46] (46 :: t)
            have hcb : (c == 46) = true := by simp [hc]
            rw [hcb] at q2
            clear hx hk1 kc hbl hxc hxm hc
            generalize (FL :: ((r.take n).map furtherL).map B) = ls at *
            generalize kindL (c :: t) = kx at *
            generalize B (furtherL (c :: t)) = Y at *
            generalize B (c :: t) = X at *
            go_wp2_with fail
            refine (RK _).mono ?_
            rintro e w4 ⟨rfl, b4⟩
            have hcx4 := (b4.cell (p := ⟨g, n + 1, none⟩) (Nat.lt_of_lt_of_le hg2 hs3)).trans hcx
            have hown4 : w4.ownsRow w1.heap.size 9 1 u5 (n + 1) (ls.map Value.string) := by rw [← HLL.out]; exact hown.kept b4 (Nat.le_refl _)
            have hs4 := b4.size
            have HC := Lib.hid (strCell w4 Y 9)
            have hb4 : Below w1.heap.size w1 w4 := hb.trans (b4.mono hs3)
            clear hown b4 hcx
            go_wp2_with (at_builtin; refine wpList_append_own _ rfl _ _ 69 rfl w1.heap.size 9 i0 _ 1 16 Tryz.underlying69 hi hz0 hz1 hz2 rfl (by decide) _ _ _ rfl (hown4.alloc _) ⟨w4.heap.size, 0, none⟩ 1 1 _ rfl rfl HC.out ?c2 ?c3 ?c4 ?c5 ?_)
            case c2 => intro u hu; simp at hu; subst hu; rfl
            case c3 => unfold maxLen; omega
            case c4 => omega
            case c5 => simp; omega
            intro v' w5 hown' hgrow _
            obtain ⟨g', cap', rfl⟩ := ownsRow_succ hown'
            have hb5 : Below w1.heap.size w1 w5 := (hb4.alloc (by omega) _).grown hgrow (by simp; omega) (fun j ej => (hown4.lt j ej).1)
            have hown6 := OwnS.grow (ls := ls) (y := Y) hown' HLL.out
            rw [← TK.out] at hown6
            go_wp2_with fail
            go_roundw
            case rel => exact ⟨n + 1, hlt, by go_num, hown6, hb5⟩
            case measure => simp [intOf]; omega
          · have hfx : ⟨#[32]⟩ ++ B (c :: t) = B (furtherL (c :: t)) := by unfold furtherL dotted; rw [hbl]; simp [hc]; exact B_append [32] (c :: t)
            have hcb : (c == 46) = false := by simp [hc]
            rw [hcb] at q2
            clear hx hk1 kc hbl hxc hxm hc
            generalize (FL :: ((r.take n).map furtherL).map B) = ls at *
            generalize kindL (c :: t) = kx at *
            generalize B (furtherL (c :: t)) = Y at *
            generalize B (c :: t) = X at *
            go_wp2_with fail
            refine (RK _).mono ?_
            rintro e w4 ⟨rfl, b4⟩
            have hcx4 := (b4.cell (p := ⟨g, n + 1, none⟩) (Nat.lt_of_lt_of_le hg2 hs3)).trans hcx
            have hown4 : w4.ownsRow w1.heap.size 9 1 u5 (n + 1) (ls.map Value.string) := by rw [← HLL.out]; exact hown.kept b4 (Nat.le_refl _)
            have hs4 := b4.size
            have HC := Lib.hid (strCell w4 Y 9)
            have hb4 : Below w1.heap.size w1 w4 := hb.trans (b4.mono hs3)
            clear hown b4 hcx
            go_wp2_with (at_builtin; refine wpList_append_own _ rfl _ _ 69 rfl w1.heap.size 9 i0 _ 1 16 Tryz.underlying69 hi hz0 hz1 hz2 rfl (by decide) _ _ _ rfl (hown4.alloc _) ⟨w4.heap.size, 0, none⟩ 1 1 _ rfl rfl HC.out ?c2 ?c3 ?c4 ?c5 ?_)
            case c2 => intro u hu; simp at hu; subst hu; rfl
            case c3 => unfold maxLen; omega
            case c4 => omega
            case c5 => simp; omega
            intro v' w5 hown' hgrow _
            obtain ⟨g', cap', rfl⟩ := ownsRow_succ hown'
            have hb5 : Below w1.heap.size w1 w5 := (hb4.alloc (by omega) _).grown hgrow (by simp; omega) (fun j ej => (hown4.lt j ej).1)
            have hown6 := OwnS.grow (ls := ls) (y := Y) hown' HLL.out
            rw [← TK.out] at hown6
            go_wp2_with fail
            go_roundw
            case rel => exact ⟨n + 1, hlt, by go_num, hown6, hb5⟩
            case measure => simp [intOf]; omega
      · obtain rfl : n = r.length := by omega
        rw [List.take_length] at hown
        go_wp2_with fail
        go_ret
        exact ⟨_, _, rfl, by rw [HFL.out]; exact hown, BW.out.trans (hb.mono hw1)⟩

end Go.Proofs.YtiebbgbcojgeoaaGreatDoor
/- Fold by definition. -/
namespace Go.Proofs.YtiebbgbcojgeoaaGreatDoor
open Go.RowKit Go.Shelf

theorem text_any_le (k v : List UInt8) (hk : k.length ≤ 100000) (hv : v.length ≤ 100000) : (textL (linesL k v)).length ≤ 500000 := by
  rw [textL_len]
  have := lines_sum k v
  omega
set_option maxRecDepth 100000 in
set_option maxHeartbeats 4000000 in
theorem refFold_any (fs : List (List UInt8 × List UInt8)) (v : Value) (w : World) (hs : Flds w v fs) (hn : fs.length ≤ 1000) (hl : ∀ f ∈ fs, f.1.length ≤ 100000 ∧ f.2.length ≤ 100000) :
    Calls Tryz.prog 130 #[v] w fun e w' => e = .returned (.string (B (foldG fs))) ∧ Below w.heap.size w w' := by
  obtain ⟨A, cap, rfl, hle, hc⟩ := hs
  have PC := Lib.hid hc
  clear hc
  go_enter Tryz.func130, Tryz.ntmps130
  go_wp2_with fail
  go_loopw [3, 4] (fun s i wr => ∃ k : Nat, k ≤ fs.length ∧ i = .int .i64 k ∧ s = .string (B (foldG (fs.take k))) ∧ (foldG (fs.take k)).length ≤ 500000 * k ∧ Below w.heap.size w wr) (fun _ i _ => fs.length - (intOf i).toNat)
  case atStart => exact ⟨0, Nat.zero_le _, rfl, rfl, Nat.le_refl _, Below.refl _ _⟩
  case round =>
    obtain ⟨k, hk, rfl, rfl, hlen, hb⟩ := hrel
    by_cases hlt : k < fs.length
    · obtain ⟨f, hf⟩ : ∃ f, fs[k]? = some f := ⟨_, List.getElem?_eq_getElem hlt⟩
      obtain ⟨b, off, rfl, hbb, c0, c1⟩ := PC.out k f hf
      replace c0 := (hb.cell (p := ⟨b, off + k * 2, none⟩) hbb).trans c0
      replace c1 := (hb.cell (p := ⟨b, off + k * 2 + 1, none⟩) hbb).trans c1
      obtain ⟨hl1, hl2⟩ := hl f (List.mem_of_getElem? hf)
      have htake : fs.take (k + 1) = fs.take k ++ [f] := by rw [List.take_add_one, hf]; rfl
      have G1 : Hid (foldG (fs.take (k + 1)) = foldG (fs.take k) ++ textL (linesL f.1 f.2)) := by
        show _ = _
        rw [htake, foldG_snoc]
      have RL := fun w => refLines_any f.1 f.2 hl1 hl2 w
      have htl := text_any_le f.1 f.2 hl1 hl2
      have hm1 : 1 ≤ (linesL f.1 f.2).length := by rw [linesL_len]; omega
      have hm2 : (linesL f.1 f.2).length ≤ 500000 := by rw [textL_len] at htl; omega
      unfold fieldV at RL
      clear htake hf
      generalize foldG (fs.take k) = pre at *
      go_wp2_with fail
      refine (RL _).mono ?_
      rintro e w2 ⟨sv, base, rfl, hown, b2⟩
      have hb2 := hb.trans (b2.mono hb.size)
      obtain ⟨g, cap', rfl, _, _⟩ := hown.form (by simp; omega)
      have CL := Lib.hid (fun (j : Nat) x (hx : (linesL f.1 f.2)[j]? = some x) => hown.cell rfl j (B x) (by rw [List.getElem?_map, hx]; rfl))
      rw [List.length_map] at *
      clear hown b2 RL
      generalize linesL f.1 f.2 = ls at *
      go_wp2_with fail
      go_loopw [3, 19] (fun s i wq => ∃ j : Nat, j ≤ ls.length ∧ i = .int .i64 j ∧ s = .string (B (pre ++ textL (ls.take j))) ∧ w2 = wq) (fun _ i _ => ls.length - (intOf i).toNat)
      case atStart => exact ⟨0, Nat.zero_le _, rfl, by simp [textL], rfl⟩
      case round =>
        obtain ⟨j, hj, rfl, rfl, rfl⟩ := hrel
        by_cases hjl : j < ls.length
        · obtain ⟨x, hx⟩ : ∃ x, ls[j]? = some x := ⟨_, List.getElem?_eq_getElem hjl⟩
          have hcx := CL.out j x hx
          have T1 : Hid (B (pre ++ textL (ls.take (j + 1))) = (B (pre ++ textL (ls.take j)) ++ B x) ++ ⟨#[10]⟩) := by
            show _ = _
            rw [List.take_add_one, hx, show (some x).toList = [x] from rfl, textL_snoc, show (⟨#[10]⟩ : ByteArray) = B [10] from rfl, B_append, B_append]; simp
          have t1 := textL_take ls (j + 1)
          rw [List.take_add_one, hx, show (some x).toList = [x] from rfl, textL_snoc, List.length_append, List.length_append] at t1
          simp only [List.length_singleton] at t1
          have y1 := B_size (pre ++ textL (ls.take j))
          rw [List.length_append] at y1
          have y2 := B_size x
          have y3 : (B (pre ++ textL (ls.take j)) ++ B x).size = pre.length + (textL (ls.take j)).length + x.length := by
            rw [B_append, B_size, List.length_append, List.length_append]
          clear hx
          generalize B (pre ++ textL (ls.take j)) = acc at *
          generalize B x = X at *
          go_wp2_with fail
          go_roundw
          case rel => exact ⟨j + 1, hjl, by go_num, by rw [T1.out], trivial⟩
          case measure => simp [intOf]; omega
        · obtain rfl : j = ls.length := by omega
          rw [List.take_length]
          go_wp2_with fail
          go_roundw
          case rel =>
            refine ⟨k + 1, hlt, by go_num, by rw [G1.out], ?_, hb2⟩
            rw [G1.out, List.length_append]; omega
          case measure => simp [intOf]; omega
    · obtain rfl : k = fs.length := by omega
      rw [List.take_length]
      go_wp2_with fail
      go_ret
      exact ⟨rfl, hb⟩
end Go.Proofs.YtiebbgbcojgeoaaGreatDoor
/- Whether an item is printed so; the document's check, item and that. -/
namespace Go.Proofs.YtiebbgbcojgeoaaGreatDoor
open Go.RowKit Go.Shelf

/-- Is an item printed so? -/
def plainB (k : Int) (raw : List UInt8) (fs : List Fld) : Bool := chkN fs == 0 && k == 3 && raw == foldG fs
theorem beq_B (a b : List UInt8) : ((B a).toList == (B b).toList) = (a == b) := by rw [Lib.toList_data, Lib.toList_data, B_data, B_data]
theorem foldG_small {fs : List Fld} (h0 : foldN fs = 0) : (foldG fs).length ≤ 4000 * fs.length := by
  induction fs with
  | nil => simp [foldG]
  | cons f r ih =>
    have h1 : checkN f.1 f.2 = 0 := by
      unfold foldN at h0
      rcases Nat.decEq (checkN f.1 f.2) 0 with h | h
      · rw [if_neg h] at h0; exact absurd h0 h
      · exact h
    have h2 : foldN r = 0 := by
      unfold foldN at h0
      rwa [if_pos h1] at h0
    have := ih h2
    have := text_le h1
    unfold foldG at *
    rw [List.flatMap_cons, List.length_append, List.length_cons]
    omega
attribute [local go_sem] errV_0
set_option maxRecDepth 100000 in
set_option maxHeartbeats 4000000 in
theorem refChk_any (fs : List Fld) (v : Value) (w : World) (hs : Flds w v fs) (hn : fs.length ≤ 1000000) (hl : ∀ f ∈ fs, f.1.length ≤ 1000000 ∧ f.2.length ≤ 1000000) :
    Calls Tryz.prog 96 #[v] w fun e w' => e = .returned (.tuple #[.int .i64 (chkAt fs), .int .i64 (chkN fs : Nat)]) ∧ Below w.heap.size w w' := by
  obtain ⟨A, cap, rfl, hle, hc⟩ := hs
  have PC := Lib.hid hc
  have HL := Lib.hid hl
  clear hc hl
  by_cases h0 : fs.length = 0
  · have e1 : chkAt fs = -9 := by unfold chkAt; rw [if_pos (.inl h0)]
    have e2 : chkN fs = 2 := by unfold chkN; rw [if_pos h0]
    rw [e1, e2, h0]
    go_enter Tryz.func96, Tryz.ntmps96
    go_wp2_with fail
    go_ret2
    exact ⟨rfl, Below.refl _ _⟩
  have c0 : ((fs.length : Int) == 0) = false := by simp; intro h; exact h0 (by rw [h]; rfl)
  by_cases h40 : 40 < fs.length
  · have e1 : chkAt fs = -9 := by unfold chkAt; rw [if_pos (.inr (.inl h40))]
    have e2 : chkN fs = 11 := by unfold chkN; rw [if_neg h0, if_pos h40]
    rw [e1, e2]
    go_enter Tryz.func96, Tryz.ntmps96
    go_wp2_with fail
    go_ret2
    exact ⟨rfl, Below.refl _ _⟩
  have e2 : chkN fs = foldN fs := by unfold chkN; rw [if_neg h0, if_neg h40]
  have FINZ : Hid (foldN fs = 0 → chkAt fs = -9 ∧ chkN fs = 0) := by
    intro hz
    exact ⟨by unfold chkAt; rw [if_pos (.inr (.inr hz))], by rw [e2, hz]⟩
  have FINB : Hid (∀ (k n : Nat), foldN fs = n → n ≠ 0 → badAt fs = k → chkAt fs = (k : Nat) ∧ chkN fs = n) := by
    intro k n hf hnz hk
    refine ⟨?_, by rw [e2, hf]⟩
    unfold chkAt
    rw [if_neg (by unfold bare; rintro (h | h | h) <;> omega), hk]
  clear e2
  go_enter Tryz.func96, Tryz.ntmps96
  go_wp2_with fail
  go_loopw [4] (fun i wr => ∃ k : Nat, k ≤ fs.length ∧ i = .int .i64 k ∧ foldN fs = foldN (fs.drop k) ∧ badAt fs = badAt (fs.drop k) + k ∧ Below w.heap.size w wr) (fun i _ => fs.length - (intOf i).toNat)
  case atStart => exact ⟨0, Nat.zero_le _, rfl, rfl, rfl, Below.refl _ _⟩
  case round =>
    obtain ⟨k, hk, rfl, hN, hA, hb⟩ := hrel
    by_cases hlt : k < fs.length
    · obtain ⟨f, hf⟩ : ∃ f, fs[k]? = some f := ⟨_, List.getElem?_eq_getElem hlt⟩
      obtain ⟨b, off, rfl, hbb, c0', c1⟩ := PC.out k f hf
      replace c0' := (hb.cell (p := ⟨b, off + k * 2, none⟩) hbb).trans c0'
      replace c1 := (hb.cell (p := ⟨b, off + k * 2 + 1, none⟩) hbb).trans c1
      obtain ⟨hl1, hl2⟩ := HL.out f (List.mem_of_getElem? hf)
      have hdrop : fs.drop k = f :: fs.drop (k + 1) := by
        rw [List.drop_eq_getElem_cons hlt]
        rw [List.getElem?_eq_getElem hlt] at hf
        rw [Option.some.inj hf]
      have hs1 := hb.size
      have CK := fun W => refCheck_any f.1 f.2 hl1 hl2 W
      unfold fieldV at CK
      rw [hdrop] at hN hA
      by_cases hck : checkN f.1 f.2 = 0
      · have G1 : Hid (foldN fs = foldN (fs.drop (k + 1))) := by
          show _ = _
          rw [hN]; show (if checkN f.1 f.2 = 0 then foldN (fs.drop (k + 1)) else _) = _; rw [if_pos hck]
        have G2 : Hid (badAt fs = badAt (fs.drop (k + 1)) + (k + 1)) := by
          show _ = _
          rw [hA]; show (if checkN f.1 f.2 = 0 then badAt (fs.drop (k + 1)) + 1 else _) + k = _; rw [if_pos hck]; omega
        rw [hck] at CK
        clear hdrop hN hA hf hck FINB FINZ PC HL
        go_wp2_with fail
        refine (CK _).mono ?_
        rintro e w2 ⟨rfl, b2⟩
        have hb2 := hb.trans (b2.mono hs1)
        clear b2 CK
        go_wp2_with fail
        go_roundw
        case rel => exact ⟨k + 1, hlt, by go_num, G1.out, G2.out, hb2⟩
        case measure => simp [intOf]; omega
      · have hfn : foldN fs = checkN f.1 f.2 := by rw [hN]; unfold foldN; rw [if_neg hck]
        have hbn : badAt fs = k := by rw [hA]; unfold badAt; rw [if_neg hck]; omega
        obtain ⟨F1, F2⟩ := FINB.out k (checkN f.1 f.2) hfn hck hbn
        have hcn : ((checkN f.1 f.2 : Int) != 0) = true := by simp; omega
        have FH1 := Lib.hid F1
        have FH2 := Lib.hid F2
        clear hdrop hN hA hf FINB FINZ PC HL hfn hbn F1 F2
        generalize checkN f.1 f.2 = cn at *
        go_wp2_with fail
        refine (CK _).mono ?_
        rintro e w2 ⟨rfl, b2⟩
        have hb2 := hb.trans (b2.mono hs1)
        clear b2 CK
        go_wp2_with fail
        go_ret2
        exact ⟨by rw [FH1.out, FH2.out]; rfl, hb2⟩
    · obtain rfl : k = fs.length := by omega
      rw [List.drop_length] at hN
      obtain ⟨F1, F2⟩ := FINZ.out hN
      have FH1 := Lib.hid F1
      have FH2 := Lib.hid F2
      clear hN hA FINB FINZ PC HL F1 F2
      go_wp2_with fail
      go_ret2
      exact ⟨by rw [FH1.out, FH2.out]; rfl, hb⟩
end Go.Proofs.YtiebbgbcojgeoaaGreatDoor
/- A list's text. -/
namespace Go.Proofs.YtiebbgbcojgeoaaGreatDoor
open Go.RowKit Go.Shelf

def joinT (rs : List (List Fld)) : List UInt8 := joinNl (rs.map foldG)
theorem joinNl_snoc : ∀ (l : List (List UInt8)) (x : List UInt8), joinNl (l ++ [x]) = if l = [] then x else (joinNl l ++ [10]) ++ x
  | [], x => rfl
  | [p], x => by
    show joinNl [p, x] = _
    rw [if_neg (by simp)]
    show p ++ 10 :: x = _
    simp [joinNl]
  | p :: q :: r, x => by
    have ih := joinNl_snoc (q :: r) x
    rw [if_neg (by simp)] at ih ⊢
    show p ++ 10 :: joinNl ((q :: r) ++ [x]) = (p ++ 10 :: joinNl (q :: r) ++ [10]) ++ x
    rw [ih]; simp
theorem joinNl_le : ∀ (l : List (List UInt8)) (n : Nat), (∀ x ∈ l, x.length ≤ n) → (joinNl l).length ≤ (n + 1) * l.length
  | [], n, _ => by simp [joinNl]
  | [p], n, h => by
    have := h p (by simp)
    show p.length ≤ _
    simp only [List.length_singleton]; omega
  | p :: q :: r, n, h => by
    have ih := joinNl_le (q :: r) n (fun x hx => h x (List.mem_cons_of_mem _ hx))
    have := h p (by simp)
    show (p ++ 10 :: joinNl (q :: r)).length ≤ _
    simp only [List.length_append, List.length_cons] at ih ⊢
    have e : (n + 1) * (r.length + 1 + 1) = (n + 1) * (r.length + 1) + (n + 1) := Nat.mul_succ _ _
    omega
theorem joinT_take_len {rs : List (List Fld)} (h : ∀ r ∈ rs, chkN r = 0) (hn : rs.length ≤ 1000) : (joinT rs).length ≤ 160001000 := by
  unfold joinT
  have := joinNl_le (rs.map foldG) 160000 (fun x hx => by
    obtain ⟨r, hr, rfl⟩ := List.mem_map.1 hx
    obtain ⟨_, h2, h3⟩ := chkN_zero (h r hr)
    have := foldG_small h3
    omega)
  rw [List.length_map] at this
  omega
/-- The first stanza that is wrong. -/
def badR (rs : List (List Fld)) : Option (List Fld) := rs.find? fun r => chkN r != 0
theorem badR_none {rs : List (List Fld)} (h : ∀ r ∈ rs, chkN r = 0) : badR rs = none := by
  unfold badR
  rw [List.find?_eq_none]
  intro r hr
  simp [h r hr]
theorem badR_at : ∀ {rs : List (List Fld)} {k : Nat} {r : List Fld}, (∀ y ∈ rs.take k, chkN y = 0) → rs[k]? = some r → chkN r ≠ 0 → badR rs = some r
  | [], k, r, _, h, _ => by simp at h
  | a :: l, 0, r, _, h, hr => by
    simp only [List.getElem?_cons_zero, Option.some.injEq] at h
    subst h
    unfold badR
    rw [List.find?_cons_of_pos (by simpa using hr)]
  | a :: l, k + 1, r, ha, h, hr => by
    have h0 : chkN a = 0 := ha a (by simp)
    unfold badR
    rw [List.find?_cons_of_neg (by simp [h0])]
    exact badR_at (k := k) (fun y hy => ha y (by simp only [List.take_succ_cons, List.mem_cons]; exact .inr hy)) (by simpa using h) hr
/-- Text's answer. -/
def TextR (w : World) (rs : List (List Fld)) (e : Ending) (w' : World) : Prop :=
  Below w.heap.size w w' ∧ match badR rs with
    | some r => ∃ u, e = .returned (.tuple #[.string (B []), u]) ∧ ChkV w.heap.size w' u r ∧ chkN r ≠ 0
    | none => e = .returned (.tuple #[.string (B (joinT rs)), .nilIface]) ∧ ∀ r ∈ rs, chkN r = 0
theorem TextR.no {w w' : World} {rs : List (List Fld)} {u : Value} {r : List Fld} (h : badR rs = some r) (hb : Below w.heap.size w w') (hu : ChkV w.heap.size w' u r) (h0 : chkN r ≠ 0) : TextR w rs (.returned (.tuple #[.string (B []), u])) w' :=
  ⟨hb, by rw [h]; exact ⟨u, rfl, hu, h0⟩⟩
theorem TextR.yes {w w' : World} {rs : List (List Fld)} (h : ∀ r ∈ rs, chkN r = 0) (hb : Below w.heap.size w w') : TextR w rs (.returned (.tuple #[.string (B (joinT rs)), .nilIface])) w' :=
  ⟨hb, by rw [badR_none h]; exact ⟨rfl, h⟩⟩
attribute [local go_sem] errV_0
end Go.Proofs.YtiebbgbcojgeoaaGreatDoor
/- The blocks of two texts, by turns, plainly; what is parsed of stanzas' texts. -/
namespace Go.Proofs.YtiebbgbcojgeoaaGreatDoor

/-- The item at a place, if it isn't blank. -/
def pickI (l : List It) (i : Nat) : List It := match l[i]? with | some it => if it.kind ≠ 1 then [it] else [] | none => []
def mixTo (turn : Bool) (l m : List It) : Nat → List It
  | 0 => []
  | k + 1 => (mixTo turn l m k ++ pickI l k) ++ (if turn = true then pickI m k else [])
theorem pick_mem {l : List It} {i : Nat} {x : It} (h : x ∈ pickI l i) : x ∈ l ∧ x.kind ≠ 1 := by
  unfold pickI at h
  split at h
  · rename_i it hit
    split at h
    · rename_i hk
      rw [List.mem_singleton.1 h]; exact ⟨List.mem_of_getElem? hit, hk⟩
    · cases h
  · cases h
theorem mix_mem {turn : Bool} {l m : List It} : ∀ (k : Nat) {x : It}, x ∈ mixTo turn l m k → (x ∈ l ∨ x ∈ m) ∧ x.kind ≠ 1
  | 0, x, h => by cases h
  | k + 1, x, h => by
    rcases List.mem_append.1 (show x ∈ (mixTo turn l m k ++ pickI l k) ++ _ from h) with h | h
    · rcases List.mem_append.1 h with h | h
      · exact mix_mem k h
      · exact ⟨.inl (pick_mem h).1, (pick_mem h).2⟩
    · split at h
      · exact ⟨.inr (pick_mem h).1, (pick_mem h).2⟩
      · cases h
theorem pick_len (l : List It) (i : Nat) : (pickI l i).length ≤ 1 := by
  unfold pickI; split
  · split <;> simp
  · simp
theorem mix_len (turn : Bool) (l m : List It) : ∀ k, (mixTo turn l m k).length ≤ 2 * k
  | 0 => by simp [mixTo]
  | k + 1 => by
    have ih := mix_len turn l m k
    have h1 := pick_len l k
    have h2 := pick_len m k
    show ((mixTo turn l m k ++ pickI l k) ++ _).length ≤ _
    rw [List.length_append, List.length_append]
    split
    · omega
    · simp only [List.length_nil]; omega
theorem pick_yes {l : List It} {i : Nat} {it : It} (h : l[i]? = some it) (hk : it.kind ≠ 1) : pickI l i = [it] := by unfold pickI; rw [h]; exact if_pos hk
theorem pick_blank {l : List It} {i : Nat} {it : It} (h : l[i]? = some it) (hk : it.kind = 1) : pickI l i = [] := by unfold pickI; rw [h]; exact if_neg (fun q => q hk)
theorem pick_none {l : List It} {i : Nat} (h : l.length ≤ i) : pickI l i = [] := by unfold pickI; rw [List.getElem?_eq_none h]
/-- Items that aren't blank, put apart: what isn't blank of them are those items. -/
def solid (it : It) : Bool := it.kind != 1
theorem apart_solid : ∀ (b : Bool) (l : List It), (∀ x ∈ l, x.kind ≠ 1) → (apartOn b l).filter solid = l
  | b, [], _ => rfl
  | b, x :: r, h => by
    have hx := h x List.mem_cons_self
    have ih := apart_solid (x.kind != 1) r (fun y hy => h y (List.mem_cons_of_mem _ hy))
    show ((if b = true ∧ x.kind ≠ 1 then [_] else []) ++ x :: apartOn _ r).filter solid = _
    rw [List.filter_append, List.filter_cons, ih]
    have e : solid x = true := by unfold solid; simpa using hx
    rw [e, if_pos rfl]
    split
    · rfl
    · rfl
theorem filter_at {α : Type} (p : α → Bool) : ∀ (g : List α) (c : Nat) (x : α), g[c]? = some x → p x = true → (g.filter p)[((g.take c).filter p).length]? = some x
  | [], c, x, h, _ => by simp at h
  | a :: g, 0, x, h, hp => by
    simp only [List.getElem?_cons_zero, Option.some.injEq] at h
    subst h
    rw [List.filter_cons, hp]; rfl
  | a :: g, c + 1, x, h, hp => by
    have ih := filter_at p g c x (by simpa using h) hp
    rw [List.take_succ_cons, List.filter_cons, List.filter_cons]
    cases p a with
    | true => simpa using ih
    | false => simpa using ih
theorem filter_snoc {α : Type} (p : α → Bool) (g : List α) (c : Nat) (x : α) (h : g[c]? = some x) : ((g.take (c + 1)).filter p).length = ((g.take c).filter p).length + if p x = true then 1 else 0 := by
  rw [List.take_add_one, h, List.filter_append, List.length_append]
  simp only [Option.toList_some, List.filter_cons, List.filter_nil]
  split <;> rfl
theorem raws_apart : ∀ (b : Bool) (l : List It) (n : Nat), (∀ x ∈ l, x.raw.length ≤ n) → ((apartOn b l).flatMap It.raw).length ≤ (n + 1) * l.length
  | b, [], n, _ => by simp [apartOn]
  | b, x :: r, n, h => by
    have ih := raws_apart (x.kind != 1) r n (fun y hy => h y (List.mem_cons_of_mem _ hy))
    have hx := h x List.mem_cons_self
    show (((if b = true ∧ x.kind ≠ 1 then [(⟨1, [10], []⟩ : It)] else []) ++ x :: apartOn (x.kind != 1) r).flatMap It.raw).length ≤ _
    rw [List.flatMap_append, List.length_append, List.flatMap_cons, List.length_append, List.length_cons, Nat.mul_succ]
    split
    · simp only [List.flatMap_cons, List.flatMap_nil, List.append_nil, List.length_cons, List.length_nil]; omega
    · simp only [List.flatMap_nil, List.length_nil]; omega
theorem allGood : ∀ (fs : List Fld), foldN fs = 0 → ∀ f ∈ fs, goodKey f.1 = true ∧ f.2.length ≤ 1000
  | [], _, f, hf => by cases hf
  | g :: r, h, f, hf => by
    unfold foldN at h
    split at h
    · rename_i h0
      rcases List.mem_cons.1 hf with rfl | hf
      · exact checkN_zero h0
      · exact allGood r h f hf
    · rename_i h0; exact absurd h h0
theorem textL_len6 (k v : List UInt8) : (textL (linesL k v)).length ≤ k.length + 3 * v.length + 8 := by
  rw [textL_len]; have := lines_sum k v; omega
theorem foldT_len6 : ∀ (fs : List Fld), minF fs ≤ 6000 → (textL (linesFs fs)).length ≤ 3 * minF fs + 8 * fs.length
  | [], _ => by simp [linesFs, textL]
  | f :: r, h => by
    have e : minF (f :: r) = (min f.1.length 10000 + min f.2.length 10000) + minF r := rfl
    rw [e] at h ⊢
    have ih := foldT_len6 r (by omega)
    have h1 := textL_len6 f.1 f.2
    have e2 : textL (linesFs (f :: r)) = textL (linesL f.1 f.2) ++ textL (linesFs r) := by unfold linesFs; rw [List.flatMap_cons, textL_append]
    rw [e2, List.length_append, List.length_cons]
    omega

/-- What stanzas of good fields are, as items. -/
def itemOf (fs : List Fld) : It := ⟨3, foldG fs, fs⟩
theorem foldG_lines (fs : List Fld) : foldG fs = textL (linesFs fs) := by
  unfold foldG linesFs textL
  rw [List.flatMap_assoc]
theorem blk_item {fs : List Fld} (h : chkN fs = 0) : Blk (itemOf fs) := by
  obtain ⟨h1, h2, h3⟩ := chkN_zero h
  unfold itemOf
  rw [foldG_lines]
  exact blk_fields fs (allGood fs h3) (fun e => h1 (by rw [e]; rfl)) h2
theorem parse_item {fs : List Fld} (h : chkN fs = 0) : parseL (foldG fs) = .ok [itemOf fs] := by
  have := parse_between [itemOf fs] (by simp) (fun it hi => by rw [List.mem_singleton.1 hi]; exact blk_item h)
  have e : apartL [itemOf fs] = [itemOf fs] := rfl
  rw [e] at this
  simpa [itemOf] using this
theorem apart_join : ∀ (b : Bool) (rs : List (List Fld)), rs ≠ [] → (apartOn b (rs.map itemOf)).flatMap It.raw = (if b = true then [10] else []) ++ joinT rs
  | b, [], h => absurd rfl h
  | b, [r], _ => by
    show (((if b = true ∧ (3 : Int) ≠ 1 then [(⟨1, [10], []⟩ : It)] else []) ++ [itemOf r]).flatMap It.raw) = _
    have e : joinT [r] = foldG r := rfl
    rw [e]
    cases b <;> simp [itemOf]
  | b, r :: q :: l, _ => by
    have ih := apart_join true (q :: l) (by simp)
    have e : apartOn b ((r :: q :: l).map itemOf) = (if b = true ∧ (3 : Int) ≠ 1 then [(⟨1, [10], []⟩ : It)] else []) ++ itemOf r :: apartOn true ((q :: l).map itemOf) := rfl
    rw [e, List.flatMap_append, List.flatMap_cons, ih]
    have e2 : joinT (r :: q :: l) = foldG r ++ 10 :: joinT (q :: l) := rfl
    rw [e2]
    cases b <;> simp [itemOf]
theorem parse_texts {rs : List (List Fld)} (h : ∀ r ∈ rs, chkN r = 0) (hn : rs.length ≤ 400) : parseL (joinT rs) = .ok (apartL (rs.map itemOf)) := by
  have := parse_between (rs.map itemOf) (by rw [List.length_map]; exact hn) (fun it hi => by
    obtain ⟨r, hr, rfl⟩ := List.mem_map.1 hi
    exact blk_item (h r hr))
  cases rs with
  | nil => exact this
  | cons a l =>
    unfold apartL at this ⊢
    rw [apart_join false (a :: l) (by simp)] at this
    exact this
theorem recs_apart : ∀ (b : Bool) (rs : List (List Fld)), recs (apartOn b (rs.map itemOf)) = rs
  | b, [] => rfl
  | b, r :: l => by
    have ih := recs_apart true l
    have e : apartOn b ((r :: l).map itemOf) = (if b = true ∧ (3 : Int) ≠ 1 then [(⟨1, [10], []⟩ : It)] else []) ++ itemOf r :: apartOn true (l.map itemOf) := rfl
    rw [e]
    unfold recs at ih ⊢
    rw [List.filter_append, List.map_append, List.filter_cons]
    have e3 : ((itemOf r).kind == 3) = true := rfl
    rw [e3, if_pos rfl, List.map_cons, ih]
    cases b <;> simp [itemOf]
end Go.Proofs.YtiebbgbcojgeoaaGreatDoor
/- Lists of stanzas, plainly: entries and the next number; what an edit makes of them, by the program and by definition. -/
namespace Go.Proofs.YtiebbgbcojgeoaaGreatDoor

/-- An entry: an item and its number. -/
abbrev En := It × Int
/-- A list: its entries, the next number. -/
structure LS where
  es : List En
  next : Int
/-- The stanzas among entries of whatever kind (κ tells an entry's kind), each with its place among these, from k on. -/
def stzG {α : Type} (κ : α → Int) : Nat → List α → List (Nat × α)
  | _, [] => []
  | k, e :: r => if κ e = 3 then (k, e) :: stzG κ (k + 1) r else stzG κ (k + 1) r
section
variable {α : Type} {κ : α → Int}
theorem stzG_len : ∀ (k : Nat) (es : List α), (stzG κ k es).length ≤ es.length
  | k, [] => Nat.le_refl _
  | k, e :: r => by
    have ih := stzG_len (k + 1) r
    show (if κ e = 3 then (k, e) :: stzG κ (k + 1) r else stzG κ (k + 1) r).length ≤ _
    split
    · simp only [List.length_cons]; omega
    · simp only [List.length_cons]; omega
theorem stzG_mem : ∀ (k : Nat) (es : List α) (x : Nat × α), x ∈ stzG κ k es → k ≤ x.1 ∧ es[x.1 - k]? = some x.2 ∧ κ x.2 = 3
  | k, [], x, h => by cases h
  | k, e :: r, x, h => by
    have ih := stzG_mem (k + 1) r x
    have go : x ∈ stzG κ (k + 1) r → k ≤ x.1 ∧ (e :: r)[x.1 - k]? = some x.2 ∧ κ x.2 = 3 := fun q => by
      obtain ⟨a, b, c⟩ := ih q
      refine ⟨by omega, ?_, c⟩
      rw [show x.1 - k = (x.1 - (k + 1)) + 1 by omega, List.getElem?_cons_succ]; exact b
    unfold stzG at h
    split at h
    · rename_i hk
      rcases List.mem_cons.1 h with rfl | h
      · exact ⟨Nat.le_refl _, by simp, hk⟩
      · exact go h
    · exact go h
theorem stzG_drop : ∀ (es : List α) (k j : Nat) (e : α), es[j]? = some e → stzG κ (k + j) (es.drop j) = if κ e = 3 then (k + j, e) :: stzG κ (k + (j + 1)) (es.drop (j + 1)) else stzG κ (k + (j + 1)) (es.drop (j + 1))
  | [], k, j, e, h => by simp at h
  | a :: r, k, 0, e, h => by simp at h; subst h; rfl
  | a :: r, k, j + 1, e, h => by
    have ih := stzG_drop r (k + 1) j e (by simpa using h)
    rw [show k + 1 + j = k + (j + 1) by omega, show k + 1 + (j + 1) = k + (j + 1 + 1) by omega] at ih
    exact ih
theorem stzG_map {β : Type} (f : β → α) : ∀ (k : Nat) (es : List β), (stzG (fun b => κ (f b)) k es).map (fun x => (x.1, f x.2)) = stzG κ k (es.map f)
  | k, [] => rfl
  | k, e :: r => by
    have ih := stzG_map f (k + 1) r
    show ((if κ (f e) = 3 then (k, e) :: stzG _ (k + 1) r else stzG _ (k + 1) r).map _) = if κ (f e) = 3 then (k, f e) :: stzG κ (k + 1) (r.map f) else stzG κ (k + 1) (r.map f)
    split
    · rw [List.map_cons, ih]
    · exact ih
end
abbrev stzOn : Nat → List En → List (Nat × En) := stzG fun e => e.1.kind
abbrev stzs (es : List En) : List (Nat × En) := stzOn 0 es
/-- Where the stanza of a number stands. -/
def findE (es : List En) (id : Int) : Option Nat := ((stzs es).find? fun x => x.2.2 == id).map Prod.fst
/-- .. by definition. -/
def findR (es : List En) (id : Int) : Option Nat := if 0 < id then es.findIdx? fun e => e.2 == id else none
/-- Stanzas have numbers, other items 0. -/
def WF (es : List En) : Prop := ∀ e ∈ es, (e.1.kind = 3 ∧ 0 < e.2) ∨ (e.1.kind ≠ 3 ∧ e.2 = 0)
theorem find_on : ∀ (k : Nat) (es : List En) (id : Int), WF es → 0 < id → ((stzOn k es).find? fun x => x.2.2 == id).map Prod.fst = (es.findIdx? fun e => e.2 == id).map (· + k)
  | k, [], id, _, _ => rfl
  | k, e :: r, id, h, hid => by
    have ih := find_on (k + 1) r id (fun y hy => h y (List.mem_cons_of_mem _ hy)) hid
    have he := h e List.mem_cons_self
    unfold stzG
    rw [List.findIdx?_cons]
    by_cases hk : e.1.kind = 3
    · rw [if_pos hk, List.find?_cons]
      cases hq : e.2 == id with
      | true => simp
      | false =>
        simp only
        rw [ih]
        cases List.findIdx? (fun e => e.2 == id) r with
        | none => rfl
        | some q => simp; omega
    · rw [if_neg hk]
      have h0 : e.2 = 0 := by
        rcases he with he | he
        · exact absurd he.1 hk
        · exact he.2
      have hq : (e.2 == id) = false := by rw [h0]; exact beq_eq_false_iff_ne.2 (by omega)
      rw [ih, hq]
      cases List.findIdx? (fun e => e.2 == id) r with
      | none => rfl
      | some q => simp; omega
theorem find_on_neg : ∀ (k : Nat) (es : List En) (id : Int), WF es → id ≤ 0 → ((stzOn k es).find? fun x => x.2.2 == id) = none
  | k, [], id, _, _ => rfl
  | k, e :: r, id, h, hid => by
    have ih := find_on_neg (k + 1) r id (fun y hy => h y (List.mem_cons_of_mem _ hy)) hid
    have he := h e List.mem_cons_self
    unfold stzG
    split
    · rename_i hk
      have h0 : 0 < e.2 := by
        rcases he with he | he
        · exact he.2
        · exact absurd hk he.1
      have hq : (e.2 == id) = false := beq_eq_false_iff_ne.2 (by omega)
      rw [List.find?_cons]
      simp only [hq]
      exact ih
    · exact ih
theorem find_both {es : List En} (h : WF es) (id : Int) : findE es id = findR es id := by
  unfold findE findR
  split
  · rename_i hid
    have := find_on 0 es id h hid
    rw [this]
    cases List.findIdx? (fun e => e.2 == id) es with
    | none => rfl
    | some q => rfl
  · rename_i hid
    show Option.map _ ((stzOn 0 es).find? _) = none
    rw [find_on_neg 0 es id h (by omega)]; rfl
/-- How many stanzas there are. -/
def lenR (es : List En) : Nat := (es.filter fun e => decide (0 < e.2)).length
theorem stz_filter : ∀ (k : Nat) (es : List En), WF es → (stzOn k es).map Prod.snd = es.filter fun e => decide (0 < e.2)
  | k, [], _ => rfl
  | k, e :: r, h => by
    have ih := stz_filter (k + 1) r (fun y hy => h y (List.mem_cons_of_mem _ hy))
    unfold stzG
    rw [List.filter_cons]
    rcases h e List.mem_cons_self with ⟨a, b⟩ | ⟨a, b⟩
    · rw [if_pos a, if_pos (by simpa using b), List.map_cons, ih]
    · rw [if_neg a, if_neg (by simp; omega), ih]
theorem len_both {es : List En} (h : WF es) : (stzs es).length = lenR es := by
  have := congrArg List.length (stz_filter 0 es h)
  rw [List.length_map] at this
  exact this
def setE (es : List En) (k : Nat) (it : It) : List En := es.modify k fun e => (it, e.2)
def cutE (es : List En) (k : Nat) : List En := es.take k ++ es.drop (k + 1)
def putE (es : List En) (k : Nat) (e : En) : List En := es.take k ++ e :: es.drop k
theorem WF.set {es : List En} (h : WF es) (k : Nat) (it : It) (hk : it.kind = 3) (e : En) (he : es[k]? = some e) (hn : e.1.kind = 3) : WF (setE es k it) := by
  intro x hx
  obtain ⟨j, hj⟩ := List.mem_iff_getElem?.1 hx
  unfold setE at hj
  rw [List.getElem?_modify] at hj
  rcases hjj : es[j]? with _ | y
  · rw [hjj] at hj; simp at hj
  · rw [hjj] at hj
    simp only [Option.map_eq_map, Option.map_some, Option.some.injEq] at hj
    have hy := h y (List.mem_of_getElem? hjj)
    by_cases e1 : k = j
    · rw [if_pos e1] at hj
      subst hj
      subst e1
      rw [he] at hjj
      cases hjj
      rcases h e (List.mem_of_getElem? he) with q | q
      · exact .inl ⟨hk, q.2⟩
      · exact absurd hn q.1
    · rw [if_neg e1] at hj
      subst hj; exact hy
theorem WF.cut {es : List En} (h : WF es) (k : Nat) : WF (cutE es k) := by
  intro x hx
  rcases List.mem_append.1 hx with q | q
  · exact h x (List.mem_of_mem_take q)
  · exact h x (List.mem_of_mem_drop q)
theorem WF.put {es : List En} (h : WF es) (k : Nat) {e : En} (he : (e.1.kind = 3 ∧ 0 < e.2)) : WF (putE es k e) := by
  intro x hx
  rcases List.mem_append.1 hx with q | q
  · exact h x (List.mem_of_mem_take q)
  · rcases List.mem_cons.1 q with rfl | q
    · exact .inl he
    · exact h x (List.mem_of_mem_drop q)
theorem setE_len (es : List En) (k : Nat) (it : It) : (setE es k it).length = es.length := by unfold setE; simp
theorem cutE_len {es : List En} {k : Nat} (h : k < es.length) : (cutE es k).length = es.length - 1 := by unfold cutE; simp; omega
theorem putE_len {es : List En} {k : Nat} (h : k ≤ es.length) (e : En) : (putE es k e).length = es.length + 1 := by unfold putE; simp; omega

/-- What an edit comes to: the list then, the field at which it is refused, an error's number, the new number. -/
structure Did where
  ls : LS
  at_ : Int
  bad : Nat
  id : Int
def replaceR (l : LS) (id : Int) (fs : List Fld) : Did :=
  match findR l.es id with
  | none => ⟨l, -9, 7, 0⟩
  | some k => if chkN fs = 0 then ⟨⟨setE l.es k (itemOf fs), l.next⟩, -9, 0, 0⟩ else ⟨l, chkAt fs, chkN fs, 0⟩
def deleteR (l : LS) (id : Int) : Did :=
  match findR l.es id with
  | none => ⟨l, -9, 7, 0⟩
  | some k => ⟨⟨cutE l.es k, l.next⟩, -9, 0, 0⟩
/-- Where one is inserted behind a number. -/
def gapR (es : List En) (behind : Int) : Option Nat := if behind = 0 then some 0 else (findR es behind).map (· + 1)
def insertR (l : LS) (behind : Int) (fs : List Fld) : Did :=
  match gapR l.es behind with
  | none => ⟨l, -9, 7, 0⟩
  | some k => if chkN fs = 0 then (if 400 ≤ lenR l.es then ⟨l, -9, 11, 0⟩ else ⟨⟨putE l.es k (itemOf fs, l.next), l.next + 1⟩, -9, 0, l.next⟩) else ⟨l, chkAt fs, chkN fs, 0⟩
def editR (l : LS) (kind id : Int) (fs : List Fld) : Did :=
  if kind = 1 then replaceR l id fs else if kind = 2 then deleteR l id else insertR l id fs
theorem findR_lt {es : List En} {id : Int} {k : Nat} (h : findR es id = some k) : k < es.length ∧ ∃ e, es[k]? = some e ∧ e.2 = id ∧ 0 < id := by
  unfold findR at h
  split at h
  · rename_i hid
    obtain ⟨a, b, _⟩ := List.findIdx?_eq_some_iff_getElem.1 h
    exact ⟨a, _, List.getElem?_eq_getElem a, by simpa using b, hid⟩
  · cases h
theorem gapR_le {es : List En} {id : Int} {k : Nat} (h : gapR es id = some k) : k ≤ es.length := by
  unfold gapR at h
  split at h
  · cases h; omega
  · obtain ⟨q, hq, rfl⟩ := Option.map_eq_some_iff.1 h
    have := (findR_lt hq).1
    omega
theorem chkN_of (fs : List Fld) : chkN fs = 0 ∨ chkN fs ≠ 0 := by omega
/-- A list as it comes of a text. -/
def fromOn : Int → List It → List En
  | _, [] => []
  | n, it :: r => if it.kind = 3 then (it, n) :: fromOn (n + 1) r else (it, 0) :: fromOn n r
def fromNext : Int → List It → Int
  | n, [] => n
  | n, it :: r => if it.kind = 3 then fromNext (n + 1) r else fromNext n r
def fromL (its : List It) : LS := ⟨fromOn 1 its, fromNext 1 its⟩
theorem from_snoc : ∀ (n : Int) (l : List It) (it : It), fromOn n (l ++ [it]) = fromOn n l ++ [(it, if it.kind = 3 then fromNext n l else 0)] ∧ fromNext n (l ++ [it]) = if it.kind = 3 then fromNext n l + 1 else fromNext n l
  | n, [], it => by
    simp only [List.nil_append, fromOn, fromNext]
    split <;> simp
  | n, a :: l, it => by
    obtain ⟨h1, h2⟩ := from_snoc (n + 1) l it
    obtain ⟨g1, g2⟩ := from_snoc n l it
    simp only [List.cons_append, fromOn, fromNext]
    split
    · rw [h1, h2]; exact ⟨rfl, rfl⟩
    · rw [g1, g2]; exact ⟨rfl, rfl⟩
theorem from_len : ∀ (n : Int) (l : List It), (fromOn n l).length = l.length
  | n, [] => rfl
  | n, a :: l => by
    unfold fromOn
    split
    · rw [List.length_cons, from_len]; rfl
    · rw [List.length_cons, from_len]; rfl
theorem from_items : ∀ (n : Int) (l : List It), (fromOn n l).map Prod.fst = l
  | n, [] => rfl
  | n, a :: l => by
    unfold fromOn
    split
    · rw [List.map_cons, from_items]
    · rw [List.map_cons, from_items]
theorem from_next : ∀ (n : Int) (l : List It), n ≤ fromNext n l ∧ fromNext n l ≤ n + l.length
  | n, [] => by simp [fromNext]
  | n, a :: l => by
    have h1 := from_next (n + 1) l
    have h2 := from_next n l
    unfold fromNext
    rw [List.length_cons]
    split <;> omega
theorem from_wf : ∀ (n : Int) (l : List It), 0 < n → WF (fromOn n l)
  | n, [], _ => fun e h => by cases h
  | n, a :: l, hn => by
    unfold fromOn
    split
    · rename_i hk
      intro e he
      rcases List.mem_cons.1 he with rfl | he
      · exact .inl ⟨hk, hn⟩
      · exact from_wf (n + 1) l (by omega) e he
    · rename_i hk
      intro e he
      rcases List.mem_cons.1 he with rfl | he
      · exact .inr ⟨hk, rfl⟩
      · exact from_wf n l hn e he
end Go.Proofs.YtiebbgbcojgeoaaGreatDoor
/- What every edit keeps of a list: plainly. -/
namespace Go.Proofs.YtiebbgbcojgeoaaGreatDoor

def nums (es : List En) : List Int := (es.map Prod.snd).filter fun n => decide (0 < n)
theorem nums_append (a b : List En) : nums (a ++ b) = nums a ++ nums b := by unfold nums; rw [List.map_append, List.filter_append]
theorem nums_len (es : List En) : (nums es).length = lenR es := by
  unfold nums lenR
  rw [List.filter_map, List.length_map]; rfl
theorem nums_mem {es : List En} {n : Int} (h : n ∈ nums es) : ∃ e ∈ es, e.2 = n ∧ 0 < n := by
  unfold nums at h
  obtain ⟨h1, h2⟩ := List.mem_filter.1 h
  obtain ⟨e, he, hn⟩ := List.mem_map.1 h1
  exact ⟨e, he, hn, of_decide_eq_true h2⟩
theorem setE_snd (es : List En) (k : Nat) (it : It) : (setE es k it).map Prod.snd = es.map Prod.snd := by
  unfold setE
  apply List.ext_getElem?
  intro j
  rw [List.getElem?_map, List.getElem?_modify, List.getElem?_map]
  cases es[j]? with
  | none => rfl
  | some e =>
    by_cases h : k = j
    · simp [h]
    · simp [h]
/-- A list whose stanzas are well numbered. -/
structure OkL (l : LS) : Prop where
  wf : WF l.es
  pos : 0 < l.next
  lt : ∀ n ∈ nums l.es, n < l.next
  nd : (nums l.es).Nodup
  len : lenR l.es ≤ 400
theorem OkL.replace {l : LS} (h : OkL l) {k : Nat} {e : En} (he : l.es[k]? = some e) (h3 : e.1.kind = 3) (fs : List Fld) : OkL ⟨setE l.es k (itemOf fs), l.next⟩ := by
  have hn : nums (setE l.es k (itemOf fs)) = nums l.es := by unfold nums; rw [setE_snd]
  refine ⟨h.wf.set k (itemOf fs) rfl e he h3, h.pos, ?_, ?_, ?_⟩
  · show ∀ n ∈ nums (setE l.es k (itemOf fs)), n < l.next
    rw [hn]; exact h.lt
  · show (nums (setE l.es k (itemOf fs))).Nodup
    rw [hn]; exact h.nd
  · show lenR (setE l.es k (itemOf fs)) ≤ 400
    rw [← nums_len, hn, nums_len]; exact h.len
theorem cut_sub (es : List En) (k : Nat) : (nums (cutE es k)).Sublist (nums es) := by
  unfold nums cutE
  refine List.Sublist.filter _ (List.Sublist.map _ ?_)
  conv => rhs; rw [← List.take_append_drop k es]
  exact (List.Sublist.refl _).append (by rw [← List.drop_drop]; exact List.drop_sublist _ _)
theorem OkL.delete {l : LS} (h : OkL l) (k : Nat) : OkL ⟨cutE l.es k, l.next⟩ := by
  have hs := cut_sub l.es k
  refine ⟨h.wf.cut k, h.pos, fun n hn => h.lt n (hs.subset hn), hs.nodup h.nd, ?_⟩
  show lenR (cutE l.es k) ≤ 400
  have := hs.length_le
  rw [nums_len, nums_len] at this
  have := h.len
  omega
theorem put_perm (es : List En) (k : Nat) (it : It) {n : Int} (hn : 0 < n) : (nums (putE es k (it, n))).Perm (n :: nums es) := by
  have e1 : nums (putE es k (it, n)) = nums (es.take k) ++ n :: nums (es.drop k) := by
    unfold putE
    rw [nums_append]
    congr 1
    unfold nums
    rw [List.map_cons, List.filter_cons, if_pos (by simpa using hn)]
  have e2 : nums es = nums (es.take k) ++ nums (es.drop k) := by rw [← nums_append, List.take_append_drop]
  rw [e1, e2]
  exact List.perm_middle
theorem OkL.insert {l : LS} (h : OkL l) (k : Nat) (fs : List Fld) (hf : ¬ 400 ≤ lenR l.es) : OkL ⟨putE l.es k (itemOf fs, l.next), l.next + 1⟩ := by
  have hp := put_perm l.es k (itemOf fs) h.pos
  have hpos := h.pos
  refine ⟨h.wf.put k ⟨rfl, h.pos⟩, by show 0 < l.next + 1; omega, fun n hn => ?_, hp.nodup_iff.2 (List.nodup_cons.2 ⟨fun q => ?_, h.nd⟩), ?_⟩
  · show n < l.next + 1
    rcases List.mem_cons.1 (hp.subset hn) with q | q
    · omega
    · have := h.lt n q; omega
  · have := h.lt _ q; omega
  · show lenR (putE l.es k (itemOf fs, l.next)) ≤ 400
    have := hp.length_eq
    rw [nums_len, List.length_cons, nums_len] at this
    omega
theorem findR_stz {es : List En} (h : WF es) {id : Int} {k : Nat} (hf : findR es id = some k) : ∃ e, es[k]? = some e ∧ e.1.kind = 3 ∧ e.2 = id := by
  obtain ⟨_, e, he, h2, h3⟩ := findR_lt hf
  rcases h e (List.mem_of_getElem? he) with ⟨q, _⟩ | ⟨_, q⟩
  · exact ⟨e, he, q, h2⟩
  · omega
theorem OkL.edit {l : LS} (h : OkL l) (kind id : Int) (fs : List Fld) : OkL (editR l kind id fs).ls := by
  unfold editR
  split
  · unfold replaceR
    split
    · exact h
    · rename_i k hk
      obtain ⟨e, he, h3, _⟩ := findR_stz h.wf hk
      split
      · exact h.replace he h3 fs
      · exact h
  · split
    · unfold deleteR
      split
      · exact h
      · exact h.delete _
    · unfold insertR
      split
      · exact h
      · split
        · split
          · exact h
          · rename_i hf; exact h.insert _ fs hf
        · exact h
/-- How an edit's length and next number grow. -/
theorem edit_len (l : LS) (kind id : Int) (fs : List Fld) : (editR l kind id fs).ls.es.length ≤ l.es.length + 1 ∧ l.next ≤ (editR l kind id fs).ls.next ∧ (editR l kind id fs).ls.next ≤ l.next + 1 := by
  unfold editR
  split
  · unfold replaceR
    split
    · exact ⟨Nat.le_succ _, Int.le_refl _, by show l.next ≤ l.next + 1; omega⟩
    · split
      · exact ⟨by show (setE _ _ _).length ≤ _; rw [setE_len]; omega, Int.le_refl _, by show l.next ≤ l.next + 1; omega⟩
      · exact ⟨Nat.le_succ _, Int.le_refl _, by show l.next ≤ l.next + 1; omega⟩
  · split
    · unfold deleteR
      split
      · exact ⟨Nat.le_succ _, Int.le_refl _, by show l.next ≤ l.next + 1; omega⟩
      · exact ⟨by show (cutE _ _).length ≤ _; unfold cutE; rw [List.length_append, List.length_take, List.length_drop]; omega, Int.le_refl _, by show l.next ≤ l.next + 1; omega⟩
    · unfold insertR
      split
      · exact ⟨Nat.le_succ _, Int.le_refl _, by show l.next ≤ l.next + 1; omega⟩
      · split
        · split
          · exact ⟨Nat.le_succ _, Int.le_refl _, by show l.next ≤ l.next + 1; omega⟩
          · exact ⟨by show (putE _ _ _).length ≤ _; unfold putE; rw [List.length_append, List.length_cons, List.length_take, List.length_drop]; omega, by show l.next ≤ l.next + 1; omega, Int.le_refl _⟩
        · exact ⟨Nat.le_succ _, Int.le_refl _, by show l.next ≤ l.next + 1; omega⟩
/-- An insert that is done gives the next number; one that isn't gives none. -/
theorem insert_id (l : LS) (id : Int) (fs : List Fld) : ((insertR l id fs).bad = 0 ∧ (insertR l id fs).id = l.next ∧ (insertR l id fs).ls.next = l.next + 1) ∨ ((insertR l id fs).bad ≠ 0 ∧ (insertR l id fs).id = 0 ∧ (insertR l id fs).ls = l) := by
  unfold insertR
  split
  · exact .inr ⟨by show (7 : Nat) ≠ 0; decide, rfl, rfl⟩
  · split
    · split
      · exact .inr ⟨by show (11 : Nat) ≠ 0; decide, rfl, rfl⟩
      · exact .inl ⟨rfl, rfl, rfl⟩
    · rename_i hc; exact .inr ⟨hc, rfl, rfl⟩
end Go.Proofs.YtiebbgbcojgeoaaGreatDoor
/- A parsed text's list is well numbered. -/
namespace Go.Proofs.YtiebbgbcojgeoaaGreatDoor

def cnt3 (its : List It) : Nat := (its.filter fun it => decide (it.kind = 3)).length
theorem cnt3_snoc (its : List It) (it : It) : cnt3 (its ++ [it]) = cnt3 its + if it.kind = 3 then 1 else 0 := by
  unfold cnt3
  rw [List.filter_append, List.length_append]
  congr 1
  by_cases h : it.kind = 3
  · rw [if_pos h, List.filter_cons, if_pos (by simpa using h)]; rfl
  · rw [if_neg h, List.filter_cons, if_neg (by simpa using h)]; rfl
def CntP (p : PS) : Prop := cnt3 p.items = p.stanzas
theorem CntP.endField {p : PS} (h : CntP p) : CntP (endFieldP p) := by
  unfold endFieldP
  split
  · exact h
  · exact h
theorem CntP.endItem {t : List UInt8} {p : PS} (h : CntP p) (kind e : Nat) (hk : kind ≠ 3) : CntP (endItemP t p kind e) := by
  show cnt3 (p.items ++ [_]) = p.stanzas
  rw [cnt3_snoc, if_neg (by show ((kind : Nat) : Int) ≠ 3; omega), h]; rfl
theorem CntP.endBlock {t : List UInt8} {p : PS} (h : CntP p) (e : Nat) : CntP (endBlockP t p e) := by
  unfold endBlockP
  split
  · exact h
  · split
    · exact h.endItem 2 e (by decide)
    · show cnt3 (p.items ++ [_]) = p.stanzas + 1
      rw [cnt3_snoc, if_pos (by rfl), h]
theorem CntP.went {p : PS} (h : CntP p) (x : Ln) : CntP (wentP p x) := by
  unfold wentP
  split <;> exact h
theorem CntP.then_ {p : PS} (h : CntP p) (x : Ln) : CntP (thenP p x) := by
  unfold thenP
  split
  · exact (h.went x).endField
  · exact h.went x
theorem CntP.put {t : List UInt8} {p : PS} (h : CntP p) (x : Ln) : CntP (putP t p x) := by
  unfold putP
  split
  · exact h
  · split
    · exact (h.endBlock x.at_).endItem 1 _ (by decide)
    · exact h
theorem CntP.take {t : List UInt8} {p q : PS} {x : Ln} (h : CntP p) (he : takeP t p x = .ok q) : CntP q := by
  obtain ⟨_, _, rfl⟩ := take_parts he
  exact (h.then_ x).put x
theorem CntP.run (t : List UInt8) : ∀ (xs : List Ln) (p q : PS), CntP p → runP t p xs = .ok q → CntP q
  | [], p, q, h, he => by cases he; exact h
  | x :: xs, p, q, h, he => by
    unfold runP at he
    cases ht : takeP t p x with
    | error e => rw [ht] at he; cases he
    | ok p1 =>
      rw [ht] at he
      exact CntP.run t xs p1 q (h.take ht) he
theorem parse_cnt {t : List UInt8} {its : List It} (h : parseL t = .ok its) : cnt3 its ≤ 400 := by
  obtain ⟨p, hr, h0, rfl, g, _⟩ := parse_good h
  have hc : CntP (endBlockP t (endFieldP p) t.length) := ((CntP.run t _ _ _ (by rfl) hr).endField).endBlock _
  rw [show cnt3 _ = _ from hc]
  exact g.st
theorem nums_from : ∀ (n : Int) (its : List It), 0 < n → (∀ m ∈ nums (fromOn n its), n ≤ m ∧ m < fromNext n its) ∧ (nums (fromOn n its)).Nodup ∧ (nums (fromOn n its)).length = cnt3 its ∧ n ≤ fromNext n its
  | n, [], h => ⟨(fun m hm => by cases hm), List.nodup_nil, rfl, Int.le_refl _⟩
  | n, it :: r, h => by
    by_cases hk : it.kind = 3
    · obtain ⟨a, b, c, d⟩ := nums_from (n + 1) r (by omega)
      have e1 : nums (fromOn n (it :: r)) = n :: nums (fromOn (n + 1) r) := by
        unfold nums
        rw [fromOn, if_pos hk, List.map_cons, List.filter_cons, if_pos (by simpa using h)]
      have e2 : fromNext n (it :: r) = fromNext (n + 1) r := by rw [fromNext, if_pos hk]
      rw [e1, e2]
      refine ⟨fun m hm => ?_, List.nodup_cons.2 ⟨fun q => ?_, b⟩, ?_, by omega⟩
      · rcases List.mem_cons.1 hm with rfl | hm
        · exact ⟨Int.le_refl _, by omega⟩
        · have := a m hm; exact ⟨by omega, this.2⟩
      · have := (a n q).1; omega
      · unfold cnt3 at c ⊢
        rw [List.length_cons, c, List.filter_cons, if_pos (by simpa using hk)]; rfl
    · obtain ⟨a, b, c, d⟩ := nums_from n r h
      have e1 : nums (fromOn n (it :: r)) = nums (fromOn n r) := by
        unfold nums
        rw [fromOn, if_neg hk, List.map_cons, List.filter_cons, if_neg (by simp)]
      have e2 : fromNext n (it :: r) = fromNext n r := by rw [fromNext, if_neg hk]
      rw [e1, e2]
      refine ⟨a, b, ?_, d⟩
      unfold cnt3 at c ⊢
      rw [c, List.filter_cons, if_neg (by simpa using hk)]
theorem from_ok {t : List UInt8} {its : List It} (h : parseL t = .ok its) : OkL (fromL its) := by
  obtain ⟨a, b, c, d⟩ := nums_from 1 its (by decide)
  refine ⟨from_wf 1 its (by decide), by show 0 < fromNext 1 its; omega, fun n hn => (a n hn).2, b, ?_⟩
  rw [← nums_len]
  show (nums (fromOn 1 its)).length ≤ 400
  rw [c]; exact parse_cnt h
end Go.Proofs.YtiebbgbcojgeoaaGreatDoor
/- A range over an iterator that keeps state in boxes and reads what the caller's rounds keep (K): the iterator's contract and the law of the statement (as RF's). -/
namespace Go.Proofs.YtiebbgbcojgeoaaGreatDoor
open Go.RowKit Go.Shelf

/-- THE ITERATOR's CONTRACT: as Hands, where K holds in every world of the caller's rounds. -/
def HandsK {α : Type} (P : Program) (g : Nat) (lb : Array Value) (encs : α → Array Value) (k : Nat) (xs : List α) (K : World → Prop) (w : World) : Prop :=
  ∀ (l : Nat) (J Jx : List α → World → Prop) (W : World), Below w.heap.size w W → Abide W.heap.size k J → (∀ pre W, J pre W → K W) →
    (∀ pre x post W1, xs = pre ++ x :: post → W.heap.size + k ≤ W1.heap.size → J pre W1 → YieldAt Fence.wide 7 P l (encs x) W1 fun e W' =>
      (e = .returned (.bool true) ∧ J (pre ++ [x]) W' ∧ Stay W.heap.size k W1 W') ∨ (e = .returned (.bool false) ∧ Jx (pre ++ [x]) W')) →
    J [] W →
    CallsIn Fence.wide 8 P g (#[.func (.yield l) #[] #[]] ++ lb) W fun e W' => (∃ v, e = .returned v) ∧ (J xs W' ∨ ∃ pre, pre <+: xs ∧ Jx pre W')
variable {P : Program}

theorem wp_rangedK {α : Type} {g : Operand} {ps : Array Tmp} {assign body : Code} {Q : Exit → Act → World → Prop} {a : Act} {w : World}
    {gf : Nat} {lb : Array Value} (hg : a.eval g = .func (.func gf) #[] lb) (eg : ∀ args w, (callFunc gf args).run P w = .ok (.enter gf args) w)
    {encs : α → Array Value} {k : Nat} {xs : List α} {K : World → Prop} (hseq : HandsK P gf lb encs k xs K w) (hps : ∀ x, (encs x).size = ps.size)
    (I : List α → World → Prop) (Ix : Code → List α → World → Prop) (hI : Abide w.heap.size (k + 2) I) (hIx : ∀ c, Abide w.heap.size 2 (Ix c)) (h0 : I [] w) (hK : ∀ pre W, I pre W → K W)
    (M : List α → α → Act → World → Prop) (hM : ∀ pre x a', Abide w.heap.size 2 (fun (_ : Unit) W => M pre x a' W))
    (hassign : ∀ (l : Nat) (pre : List α) (x : α) (post : List α) (W : World), xs = pre ++ x :: post → w.heap.size + (k + 2) ≤ W.heap.size → I pre W →
      assign.wpIn (Fence.wide.inRound l) 7 P (assigned w.heap.size (k + 2) (M pre x) W) { tmps := (ps.zip (encs x)).foldl (fun t (p, v) => t.setIfInBounds p v) a.tmps, defers := [] } W)
    (hbody : ∀ (l : Nat) (pre : List α) (x : α) (post : List α) (a' : Act) (W : World), xs = pre ++ x :: post → w.heap.size + (k + 2) ≤ W.heap.size → M pre x a' W →
      body.wpIn (Fence.wide.inRound l) 7 P (left w.heap.size (k + 2) I Ix (pre ++ [x]) W) a' W)
    (hdone : ∀ (W : World), I xs W → W.heap[w.heap.size]? = some (.deferred (some [])) → Q .normal { a with defers := { target := .collected w.heap.size, args := #[] } :: a.defers } W)
    (hstop : ∀ (c : Code) (pre : List α) (W : World), pre <+: xs → Ix c pre W → W.heap[w.heap.size]? = some (.deferred (some [])) → c.wpIn Fence.wide 9 P Q { a with defers := { target := .collected w.heap.size, args := #[] } :: a.defers } W) :
    (Code.rangeFunc g ps assign body).wpIn Fence.wide 9 P Q a w := by
  refine wpIn_rangeFunc fun fn _ => ?_
  show ∃ l mark w₁ d w₁' f args w₂, (Instr.enterLoop fn a.tmps ps assign body none).run P w = .ok (l, mark) w₁ ∧ _
  obtain ⟨rec, hrec⟩ : ∃ rec : LoopState → Option Code → Loop, rec = fun st pe => { state := st, pending := pe, fn, tmps := a.tmps, params := ps, assign, body, defers := w.heap.size } := ⟨_, rfl⟩
  obtain ⟨W1, hW1⟩ : ∃ W1, (w.alloc (.deferred (some []))).alloc (.loop (rec .ready none)) = W1 := ⟨_, rfl⟩
  have hz1 : W1.heap.size = w.heap.size + 2 := by rw [← hW1]; simp
  have hL1 : W1.heap[w.heap.size + 1]? = some (.loop (rec .ready none)) := by
    rw [← hW1]; have := World.alloc_heap_new (w.alloc (.deferred (some []))) (.loop (rec .ready none)); rwa [World.size_alloc] at this
  have hK1 : W1.heap[w.heap.size]? = some (.deferred (some [])) := by
    rw [← hW1]; exact (Below.heap_alloc _ _ _ (by simp)).trans (World.alloc_heap_new w _)
  have hI1 : I [] W1 := by rw [← hW1]; exact hI.alloc _ (hI.alloc _ h0)
  have hb1 : Below w.heap.size w W1 := by rw [← hW1]; exact ((Below.refl _ w).alloc (Nat.le_refl _) _).alloc (by simp) _
  -- a turn of one of the iterator's own boxes leaves the two blocks of the statement as they were
  have two : ∀ {A B : World}, Turned W1.heap.size k A B → ∀ q o, q < w.heap.size + 2 → A.heap[q]? = some o → B.heap[q]? = some o :=
    fun ht q o hq ho => (ht.same q (Array.getElem?_eq_some_iff.1 ho).1 (by omega)).trans ho
  refine ⟨w.heap.size + 1, [{ target := .collected w.heap.size, args := #[] }], W1, { target := .fn (.func gf) lb, args := #[.func (.yield (w.heap.size + 1)) #[] #[]] }, W1, gf,
    #[.func (.yield (w.heap.size + 1)) #[] #[]] ++ lb, W1, ?_, ?_, fun _ _ => trivial, ?_, (fun h => by cases h), ?_⟩
  · rw [← hW1, hrec]; exact run_enterLoop_outer _ _ _ _ _
  · simp only [resolve, hg]
    simp [go_sem]
  · simp [invoke, go_sem, eg]
  refine (hseq (w.heap.size + 1)
    (fun pre W => I pre W ∧ W.heap[w.heap.size + 1]? = some (.loop (rec .ready none)) ∧ W.heap[w.heap.size]? = some (.deferred (some [])))
    (fun pre W => ∃ c, Ix c pre W ∧ W.heap[w.heap.size + 1]? = some (.loop (rec .done (some c))) ∧ W.heap[w.heap.size]? = some (.deferred (some [])))
    W1 hb1
    (fun s A B hs ht => ⟨hI s A B hs.1 (ht.sub (by omega) (by omega)), two ht _ _ (by omega) hs.2.1, two ht _ _ (by omega) hs.2.2⟩)
    (fun s A hs => hK s A hs.1)
    ?_ ⟨hI1, hL1, hK1⟩).mono ?_
  · -- one round
    rintro pre x post W hx hsz ⟨hi, hl, hk⟩
    rw [hz1] at hsz
    have hy := run_yield (P := P) (args := encs x) hl (by rw [hrec]; exact hps x)
    rw [hrec] at hy
    refine ⟨fn, _, assign, body, hy, roundIn_of_wpIn trivial (wpIn_mono (hassign _ pre x post W hx (by omega) hi) ?_)⟩
    intro e a' Wa hp
    cases e with
    | normal =>
      obtain ⟨hs1, hm⟩ := hp
      have hla := (hs1.same (w.heap.size + 1) (by omega) (by omega)).trans hl
      have hka := (hs1.same w.heap.size (by omega) (by omega)).trans hk
      have hlt := (Array.getElem?_eq_some_iff.1 hla).1
      refine ⟨_, run_beginRound hla (by rw [hrec]), ?_⟩
      have hl2 : (Wa.putObj (w.heap.size + 1) (.loop { rec .ready none with state := .busy })).heap[w.heap.size + 1]? = some (.loop { rec .ready none with state := .busy }) := World.putObj_heap_same hlt
      have hk2 : (Wa.putObj (w.heap.size + 1) (.loop { rec .ready none with state := .busy })).heap[w.heap.size]? = some (.deferred (some [])) := (World.putObj_heap_other (by omega)).trans hka
      have hn2 : ∀ r, w.heap.size + 2 ≤ r → (Wa.putObj (w.heap.size + 1) (.loop { rec .ready none with state := .busy })).heap[r]? = Wa.heap[r]? := fun r hr => World.putObj_heap_other (by omega)
      have hz2 : ∀ o, (Wa.putObj (w.heap.size + 1) o).heap.size = Wa.heap.size := fun o => by simp
      have hm2 := (hM pre x a').putObj (s := ()) (.loop { rec .ready none with state := .busy }) hm (l := w.heap.size + 1) (by omega) (by omega)
      have hsa := hs1.size
      refine wpIn_mono (hbody _ pre x post a' _ hx (by rw [hz2]; omega) hm2) ?_
      have fin : ∀ (jump : Option Code) (W3 : World), Stay w.heap.size (k + 2) (Wa.putObj (w.heap.size + 1) (.loop { rec .ready none with state := .busy })) W3 →
          (Instr.endRound (w.heap.size + 1) jump).run P W3 = .ok (.bool jump.isNone) (W3.putObj (w.heap.size + 1) (.loop (rec (if jump.isNone then .ready else .done) jump))) ∧
          (W3.putObj (w.heap.size + 1) (.loop (rec (if jump.isNone then .ready else .done) jump))).heap[w.heap.size + 1]? = some (.loop (rec (if jump.isNone then .ready else .done) jump)) ∧
          (W3.putObj (w.heap.size + 1) (.loop (rec (if jump.isNone then .ready else .done) jump))).heap[w.heap.size]? = some (.deferred (some [])) := fun jump W3 hs3 => by
        have hl3 := (hs3.same (w.heap.size + 1) (by omega) (by omega)).trans hl2
        have hk3 := (hs3.same w.heap.size (by omega) (by omega)).trans hk2
        have := run_endRound (P := P) jump hl3
        rw [hrec] at this ⊢
        exact ⟨this, World.putObj_heap_same (Array.getElem?_eq_some_iff.1 hl3).1, (World.putObj_heap_other (by omega)).trans hk3⟩
      intro e a3 W3 hp
      cases e with
      | normal =>
        obtain ⟨hs3, hi3⟩ := hp
        obtain ⟨hr, hl4, hk4⟩ := fin none W3 hs3
        refine ⟨_, _, hr, .inl ⟨rfl, ⟨hI.putObj _ hi3 (by omega) (by omega), hl4, hk4⟩, ?_⟩⟩
        have hsz3 := hs3.size
        refine ⟨by simp only [World.putObj, Array.size_setIfInBounds] at hsz3 ⊢; omega, fun r a b => ?_⟩
        rw [hz1] at a b
        rw [World.putObj_heap_other (by omega), hs3.same r (by omega) (by omega), hn2 r a, hs1.same r (by omega) (by omega)]
      | ret =>
        obtain ⟨hs3, hi3⟩ := hp
        obtain ⟨hr, hl4, hk4⟩ := fin (some .ret) W3 hs3
        exact ⟨_, _, hr, .inr ⟨rfl, .ret, (hIx _).putObj _ hi3 (by omega) (by omega), hl4, hk4⟩⟩
      | exit id =>
        obtain ⟨hs3, hi3⟩ := hp
        obtain ⟨hr, hl4, hk4⟩ := fin (some (.exit id)) W3 hs3
        exact ⟨_, _, hr, .inr ⟨rfl, .exit id, (hIx _).putObj _ hi3 (by omega) (by omega), hl4, hk4⟩⟩
      | goto t =>
        obtain ⟨hs3, hi3⟩ := hp
        obtain ⟨hr, hl4, hk4⟩ := fin (some (.goto t)) W3 hs3
        exact ⟨_, _, hr, .inr ⟨rfl, .goto t, (hIx _).putObj _ hi3 (by omega) (by omega), hl4, hk4⟩⟩
      | panic ch => exact hp.elim
      | outgrown => exact hp.elim
    | ret => exact hp.elim
    | exit id => exact hp.elim
    | goto t => exact hp.elim
    | panic ch => exact hp.elim
    | outgrown => exact hp.elim
  · -- behind the iterator
    rintro e W2 ⟨⟨v, rfl⟩, (⟨hi, hl, hk⟩ | ⟨pre, hpre, c, hi, hl, hk⟩)⟩
    · exact ⟨none, _, by have := run_endLoop (P := P) hl (by rw [hrec]; simp); rw [hrec] at this; exact this, hdone _ (hI.putObj _ hi (by omega) (by omega)) ((World.putObj_heap_other (by omega)).trans hk)⟩
    · exact ⟨some c, _, by have := run_endLoop (P := P) hl (by rw [hrec]; simp); rw [hrec] at this; exact this, hstop c pre _ hpre ((hIx c).putObj _ hi (by omega) (by omega)) ((World.putObj_heap_other (by omega)).trans hk)⟩
theorem wp_rangedKA {α : Type} {g : Operand} {ps : Array Tmp} {assign body : Code} {Q : Exit → Act → World → Prop} {a : Act} {w : World}
    {gf : Nat} {lb : Array Value} (hg : a.eval g = .func (.func gf) #[] lb) (eg : ∀ args w, (callFunc gf args).run P w = .ok (.enter gf args) w)
    {encs : α → Array Value} {k : Nat} {xs : List α} {K : World → Prop} (hseq : HandsK P gf lb encs k xs K w) (hps : ∀ x, (encs x).size = ps.size)
    (I : List α → World → Prop) (Ix : Code → List α → World → Prop) (hI : Abide w.heap.size (k + 2) I) (hIx : ∀ c, Abide w.heap.size 2 (Ix c)) (h0 : I [] w) (hK : ∀ pre W, I pre W → K W)
    (M : Act → List α → α → Act → World → Prop) (hM : ∀ a pre x a', Abide w.heap.size 2 (fun (_ : Unit) W => M a pre x a' W))
    (hassign : ∀ (l : Nat) (pre : List α) (x : α) (post : List α) (W : World), xs = pre ++ x :: post → w.heap.size + (k + 2) ≤ W.heap.size → I pre W →
      assign.wpIn (Fence.wide.inRound l) 7 P (assigned w.heap.size (k + 2) (M a pre x) W) { tmps := (ps.zip (encs x)).foldl (fun t (p, v) => t.setIfInBounds p v) a.tmps, defers := [] } W)
    (hbody : ∀ (l : Nat) (pre : List α) (x : α) (post : List α) (a' : Act) (W : World), xs = pre ++ x :: post → w.heap.size + (k + 2) ≤ W.heap.size → M a pre x a' W →
      body.wpIn (Fence.wide.inRound l) 7 P (left w.heap.size (k + 2) I Ix (pre ++ [x]) W) a' W)
    (hdone : ∀ (W : World), I xs W → W.heap[w.heap.size]? = some (.deferred (some [])) → Q .normal { a with defers := { target := .collected w.heap.size, args := #[] } :: a.defers } W)
    (hstop : ∀ (c : Code) (pre : List α) (W : World), pre <+: xs → Ix c pre W → W.heap[w.heap.size]? = some (.deferred (some [])) → c.wpIn Fence.wide 9 P Q { a with defers := { target := .collected w.heap.size, args := #[] } :: a.defers } W) :
    (Code.rangeFunc g ps assign body).wpIn Fence.wide 9 P Q a w :=
  wp_rangedK hg eg hseq hps I Ix hI hIx h0 hK (M a) (hM a) hassign hbody hdone hstop
end Go.Proofs.YtiebbgbcojgeoaaGreatDoor
/- Entries in memory; the closure that tells where the stanzas stand; the iterator over them. -/
namespace Go.Proofs.YtiebbgbcojgeoaaGreatDoor
open Go.RowKit Go.Shelf

/-- An entry and its fields' slice. -/
abbrev Pr := En × Value
def entCell (p : Pr) : List Value := [.int .i64 p.1.1.kind, .string (B p.1.1.raw), p.2, .int .i64 p.1.2]
def entCells (ps : List Pr) : List Value := ps.flatMap entCell
theorem entCells_len : ∀ ps : List Pr, (entCells ps).length = ps.length * 4
  | [] => rfl
  | p :: r => by
    have := entCells_len r
    show (entCell p ++ entCells r).length = _
    rw [List.length_append, this, List.length_cons]
    show 4 + _ = _
    omega
theorem entCells_snoc (ps : List Pr) (p : Pr) : entCells (ps ++ [p]) = entCells ps ++ entCell p := by unfold entCells; simp
theorem entCells_append (ps qs : List Pr) : entCells (ps ++ qs) = entCells ps ++ entCells qs := by unfold entCells; simp
theorem entCells_take : ∀ (ps : List Pr) (k : Nat), entCells (ps.take k) = (entCells ps).take (k * 4)
  | [], k => by simp [entCells]
  | p :: r, 0 => by simp [entCells]
  | p :: r, k + 1 => by
    have ih := entCells_take r k
    have e : entCells (p :: r) = entCell p ++ entCells r := rfl
    rw [List.take_succ_cons, e, show entCells (p :: r.take k) = entCell p ++ entCells (r.take k) from rfl, ih, List.take_append]
    have hl : (entCell p).length = 4 := rfl
    rw [hl, List.take_of_length_le (l := entCell p) (by rw [hl]; omega), show (k + 1) * 4 - 4 = k * 4 by omega]
theorem entCells_drop : ∀ (ps : List Pr) (k : Nat), entCells (ps.drop k) = (entCells ps).drop (k * 4)
  | [], k => by simp [entCells]
  | p :: r, 0 => by simp
  | p :: r, k + 1 => by
    have ih := entCells_drop r k
    have e : entCells (p :: r) = entCell p ++ entCells r := rfl
    have hl : (entCell p).length = 4 := rfl
    rw [List.drop_succ_cons, e, ih, List.drop_append, hl, List.drop_of_length_le (l := entCell p) (by rw [hl]; omega), show (k + 1) * 4 - 4 = k * 4 by omega, List.nil_append]
theorem entCells_at : ∀ (ps : List Pr) (i : Nat) (p : Pr), ps[i]? = some p → ∀ j u, (entCell p)[j]? = some u → (entCells ps)[i * 4 + j]? = some u
  | [], i, p, h => by simp at h
  | q :: r, 0, p, h => by
    simp at h; subst h
    intro j u hj
    have e : entCells (q :: r) = entCell q ++ entCells r := rfl
    rw [e, Nat.zero_mul, Nat.zero_add, List.getElem?_append_left (by have := (List.getElem?_eq_some_iff.1 hj).1; exact this)]
    exact hj
  | q :: r, i + 1, p, h => by
    intro j u hj
    have ih := entCells_at r i p (by simpa using h) j u hj
    have e : entCells (q :: r) = entCell q ++ entCells r := rfl
    have hl : (entCell q).length = 4 := rfl
    rw [e, List.getElem?_append_right (by rw [hl]; omega), hl, show (i + 1) * 4 + j - 4 = i * 4 + j by omega]
    exact ih
theorem entCells_one {ps : List Pr} (h : ∀ p ∈ ps, p.2.oneCell' = true) : ∀ u ∈ entCells ps, u.oneCell' = true := by
  intro u hu
  obtain ⟨p, hp, hu⟩ := List.mem_flatMap.1 hu
  unfold entCell at hu
  simp at hu
  rcases hu with rfl | rfl | rfl | rfl
  · rfl
  · rfl
  · exact h p hp
  · rfl
/-- Fields that can be copied. -/
def FldR (w : World) (v : Value) (fs : List Fld) : Prop := Flds w v fs ∧ ∀ n c, v = .slice none n c → c = 0
theorem FldR.below {w w' : World} {v : Value} {fs : List Fld} {n : Nat} (h : FldR w v fs) (hb : Below n w w') (hn : w.heap.size ≤ n) : FldR w' v fs := ⟨h.1.below hb hn, h.2⟩
theorem FldR.form {w : World} {v : Value} {fs : List Fld} (h : FldR w v fs) : ∃ A c, v = .slice A fs.length c := by
  obtain ⟨A, c, e, _⟩ := h.1
  exact ⟨A, c, e⟩
theorem FldR.own {w : World} {base : Nat} {v : Value} {fs : List Fld} (h : w.ownsRow base 73 2 v fs.length (cellsF fs)) : FldR w v fs :=
  ⟨flds_of_own h, fun n c e => by
    rcases h.2 with ⟨q, _⟩ | ⟨g, cap, cur, q, _⟩
    · rw [q] at e; cases e; rfl
    · rw [q] at e; cases e⟩
/-- The entries, readable. -/
structure EntsR (w : World) (v : Value) (ps : List Pr) : Prop where
  row : w.ownsRow 0 100 4 v ps.length (entCells ps)
  each : ∀ p ∈ ps, FldR w p.2 p.1.1.fields
theorem EntsR.below {w w' : World} {v : Value} {ps : List Pr} {n : Nat} (h : EntsR w v ps) (hb : Below n w w') (hn : w.heap.size ≤ n) : EntsR w' v ps :=
  ⟨own_kept h.row hb hn, fun p hp => (h.each p hp).below hb hn⟩
theorem EntsR.here {w : World} {v : Value} {ps : List Pr} (h : EntsR w v ps) {i : Nat} {p : Pr} (hi : ps[i]? = some p) : ∃ g cap A c, v = .slice (some ⟨g, 0, none⟩) ps.length cap ∧ ps.length ≤ cap ∧ g < w.heap.size ∧ p.2 = .slice A p.1.1.fields.length c ∧
    w.cell? ⟨g, i * 4, none⟩ = some (.int .i64 p.1.1.kind) ∧ w.cell? ⟨g, i * 4 + 1, none⟩ = some (.string (B p.1.1.raw)) ∧ w.cell? ⟨g, i * 4 + 1 + 1, none⟩ = some p.2 ∧ w.cell? ⟨g, i * 4 + 1 + 1 + 1, none⟩ = some (.int .i64 p.1.2) := by
  have hlt : i < ps.length := (List.getElem?_eq_some_iff.1 hi).1
  obtain ⟨A, c, hA⟩ := (h.each p (List.mem_of_getElem? hi)).form
  have hr := h.row
  rcases h.row.2 with ⟨_, hn⟩ | ⟨g, cap, cur, e, _, hg, hle, _⟩
  · omega
  · rw [e] at hr
    have at_ := entCells_at ps i p hi
    refine ⟨g, cap, A, c, e, hle, (World.ownsRow.lt hr g rfl).2, hA, ?_, ?_, ?_, ?_⟩
    · rw [World.ownsRow.cellAt hr (i * 4) (by omega)]; exact at_ 0 _ rfl
    · rw [World.ownsRow.cellAt hr (i * 4 + 1) (by omega)]; exact at_ 1 _ rfl
    · rw [World.ownsRow.cellAt hr (i * 4 + 1 + 1) (by omega)]; exact at_ 2 _ rfl
    · rw [World.ownsRow.cellAt hr (i * 4 + 1 + 1 + 1) (by omega)]; exact at_ 3 _ rfl
theorem EntsR.empty {w : World} {v : Value} {ps : List Pr} (h : EntsR w v ps) : ∃ A cap, v = .slice A ps.length cap ∧ ps.length ≤ cap := by
  rcases h.row.2 with ⟨e, hn⟩ | ⟨g, cap, cur, e, _, hg, hle, _⟩
  · exact ⟨none, 0, by rw [e, hn], by omega⟩
  · exact ⟨_, cap, e, hle⟩
/-- An entry as a value. -/
def entV (p : Pr) : Value := .agg #[.int .i64 p.1.1.kind, .string (B p.1.1.raw), p.2, .int .i64 p.1.2]
/-- The stanzas among the entries. -/
abbrev stzP : Nat → List Pr → List (Nat × Pr) := stzG fun p => p.1.1.kind

theorem from7_any (v : Value) (w : World) (A : Option Addr) (n c : Nat) (hv : v = .slice A n c) :
    Calls Tryz.prog 101 #[v] w fun e w' => e = .returned (.func (.func 133) #[] #[.pointer (some ⟨w.heap.size + 1, 0, none⟩), .pointer (some ⟨w.heap.size, 0, none⟩)]) ∧
      w' = (w.alloc (.cells #[v] 96)).alloc (.cells #[.int .i64 0] 3) := by
  subst hv
  go_enter Tryz.func101, Tryz.ntmps101
  go_wp2
  go_ret
  exact ⟨rfl, rfl⟩
/-- What the closure answers. -/
def NextR (ps : List Pr) (n : Nat) (Bn : Nat) (w : World) (e : Ending) (w' : World) : Prop :=
  ∃ n', Boxed w' Bn 3 (.int .i64 (n' : Nat)) ∧ Only (· = Bn) w w' ∧ n' ≤ ps.length ∧
    ((e = .returned (.tuple #[.int .i64 0, .bool false]) ∧ stzP n (ps.drop n) = []) ∨
      ∃ k p, n ≤ k ∧ n' = k + 1 ∧ e = .returned (.tuple #[.int .i64 (k : Nat), .bool true]) ∧ ps[k]? = some p ∧ stzP n (ps.drop n) = (k, p) :: stzP n' (ps.drop n'))
set_option maxRecDepth 100000 in
set_option maxHeartbeats 4000000 in
theorem next7_any (ps : List Pr) (v : Value) (n Bn Be : Nat) (w : World) (hn : n ≤ ps.length) (hps : ps.length ≤ 1000000) (hbn : Boxed w Bn 3 (.int .i64 (n : Nat))) (hbe : Boxed w Be 96 v) (hne : Be ≠ Bn) (hE : EntsR w v ps) (hg : ∀ g, v.ownBlock = some g → g ≠ Bn) :
    Calls Tryz.prog 133 #[.pointer (some ⟨Bn, 0, none⟩), .pointer (some ⟨Be, 0, none⟩)] w fun e w' => NextR ps n Bn w e w' := by
  obtain ⟨A, cap, rfl, hle⟩ := hE.empty
  have HE := Lib.hid hE
  have HG := Lib.hid hg
  have HBE := Lib.hid hbe
  have HN := Lib.hid hne
  have HBN := Lib.hid hbn
  clear hE hg hbe hbn
  go_enter Tryz.func133, Tryz.ntmps133
  go_wp2_with fail
  go_loopw [4] (fun _ wr => ∃ k : Nat, n ≤ k ∧ k ≤ ps.length ∧ Boxed wr Bn 3 (.int .i64 (k : Nat)) ∧ Only (· = Bn) w wr ∧ stzP n (ps.drop n) = stzP k (ps.drop k)) (fun _ wr => ps.length - atOf Bn wr)
  case atStart => exact ⟨n, Nat.le_refl _, hn, HBN.out, Only.refl _ _, rfl⟩
  case round =>
    obtain ⟨k, hk1, hk2, hb, ho, hs⟩ := hrel
    have c0 := hb.cell
    have f0 := hb.frozen
    have c1 : wr.cell? ⟨Be, 0, none⟩ = some (.slice A ps.length cap) := Boxed.cell (show Boxed wr Be _ _ from (ho.same Be HBE.out.lt HN.out).trans HBE.out)
    have HB := Lib.hid hb
    have HO := Lib.hid ho
    have HS := Lib.hid hs
    have hk3 : k ≤ 1000000 := by omega
    clear hb ho hs
    by_cases hlt : k < ps.length
    · obtain ⟨p, hp⟩ : ∃ p, ps[k]? = some p := ⟨_, List.getElem?_eq_getElem hlt⟩
      obtain ⟨g, cap', pa, pc, e, _, hgl, _, d0, _⟩ := HE.out.here hp
      cases e
      have hgn : g ≠ Bn := HG.out g rfl
      replace d0 : wr.cell? ⟨g, k * 4, none⟩ = some (.int .i64 p.1.1.kind) := (World.cell?_of_block (w := w) (a := ⟨g, k * 4, none⟩) (HO.out.same g hgl hgn)).trans d0
      have hbe2 : Be ≠ Bn := HN.out
      have SD := Lib.hid (stzG_drop (κ := fun p : Pr => p.1.1.kind) ps 0 k p hp)
      have HP := Lib.hid hp
      clear hp
      by_cases hk : p.1.1.kind = 3
      · rw [hk] at d0
        go_wp2_with fail
        go_ret2
        refine ⟨k + 1, ?_, HO.out.cellS 0 _, hlt, .inr ⟨k, p, hk1, rfl, rfl, HP.out, ?_⟩⟩
        · exact Boxed.set _ HB.out
        · rw [HS.out]
          have := SD.out
          rw [if_pos hk, Nat.zero_add, Nat.zero_add] at this
          exact this
      · have hk' : ((p.1.1.kind : Int) == 3) = false := beq_eq_false_iff_ne.2 hk
        go_wp2_with fail
        go_roundw
        case rel =>
          refine ⟨k + 1, by omega, hlt, Boxed.set _ HB.out, HO.out.cellS 0 _, ?_⟩
          rw [HS.out]
          have := SD.out
          rw [if_neg hk, Nat.zero_add, Nat.zero_add] at this
          exact this
        case measure =>
          rw [atOf_eq HB.out, atOf_eq (B := Bn) (n := k + 1) (w := wr.setCell ⟨Bn, 0, none⟩ (.int .i64 ((k : Int) + 1))) (Boxed.set (.int .i64 ((k : Int) + 1)) HB.out)]
          omega
    · obtain rfl : k = ps.length := by omega
      go_wp2_with fail
      go_ret2
      refine ⟨ps.length, HB.out, HO.out, Nat.le_refl _, .inl ⟨rfl, ?_⟩⟩
      rw [HS.out, List.drop_of_length_le (Nat.le_refl _)]; rfl
end Go.Proofs.YtiebbgbcojgeoaaGreatDoor
/- The iterator over the stanzas: its contract. -/
namespace Go.Proofs.YtiebbgbcojgeoaaGreatDoor
open Go.RowKit Go.Shelf
attribute [local go_sem] Oper.semAt_some

theorem stz7_any (v : Value) (w : World) (A : Option Addr) (n c : Nat) (hv : v = .slice A n c) :
    Calls Tryz.prog 66 #[v] w fun e w' => e = .returned (.func (.func 100) #[] #[.pointer (some ⟨w.heap.size, 0, none⟩)]) ∧ w' = w.alloc (.cells #[v] 96) := by
  subst hv
  go_enter Tryz.func66, Tryz.ntmps66
  go_wp2
  go_ret
  exact ⟨rfl, rfl⟩
set_option maxRecDepth 100000 in
set_option maxHeartbeats 4000000 in
theorem stz_hands (ps : List Pr) (v : Value) (Be : Nat) (w : World) (hbox : Boxed w Be 96 v) (hps : ps.length ≤ 1000000) (hE : EntsR w v ps) :
    HandsK Tryz.prog 100 #[.pointer (some ⟨Be, 0, none⟩)] (fun x => #[.int .i64 (x.1 : Nat), entV x.2]) 2 (stzP 0 ps) (fun W => EntsR W v ps ∧ Boxed W Be 96 v) w := by
  intro l J Jx W hW hJ hK hY h0
  have hb : Boxed W Be 96 v := (hW.block Be hbox.lt).trans hbox
  have hEW := hE.below hW (Nat.le_refl _)
  have hgw : ∀ g, v.ownBlock = some g → g < W.heap.size := fun g e => (hEW.row.lt g e).2
  obtain ⟨A, cap, hv, hle⟩ := hE.empty
  have c0 := hb.cell
  have hbw := hb.lt
  have FR := callsIn_wide (n := 7).2 (from7_any v W A ps.length cap hv)
  have HV := Lib.hid hv
  have HE0 := Lib.hid hEW
  clear hE hEW hv
  refine callsIn_of_wp Tryz.func100 rfl trivial ?_ rfl
  simp only [Tryz.ntmps100, List.size_toArray, List.length_cons, List.length_nil, Nat.reduceAdd, Nat.reduceSub, Array.replicate_succ, Array.replicate_zero, List.push_toArray, List.append_toArray, List.nil_append, List.cons_append]
  gi_wp2_with (refine ⟨trivial, ?_⟩; gi_at_call 101; refine FR.mono ?_; rintro e w' ⟨rfl, rfl⟩)
  gi_loopw [4, 5] (fun _ _ wr => ∃ (pre : List (Nat × Pr)) (n : Nat), n ≤ ps.length ∧ stzP 0 ps = pre ++ stzP n (ps.drop n) ∧ Boxed wr W.heap.size 96 v ∧ Boxed wr (W.heap.size + 1) 3 (.int .i64 (n : Nat)) ∧ J pre wr)
    (fun _ _ wr => ps.length - atOf (W.heap.size + 1) wr)
  case atStart =>
    refine ⟨[], 0, Nat.zero_le _, rfl, ?_, ?_, hJ.alloc _ (hJ.alloc _ h0)⟩
    · exact (Boxed.new W _ _).alloc _
    · have := Boxed.new (W.alloc (.cells #[v] 96)) 3 (.int .i64 0)
      rw [World.size_alloc] at this; exact this
  case round =>
    obtain ⟨pre, n, hn, hx, b1, b2, hj⟩ := hrel
    obtain ⟨hE1, hb1⟩ := hK _ _ hj
    have NX0 := next7_any ps v n (W.heap.size + 1) W.heap.size wr hn hps b2 b1 (by omega) hE1 (fun g e => by have := hgw g e; omega)
    have HX := Lib.hid hx
    have HE1 := Lib.hid hE1
    have HB1 := Lib.hid hb1
    have B1 := Lib.hid b1
    have B2 := Lib.hid b2
    clear hE1 hb1 hx b1 b2
    have turn : ∀ (w' : World), Only (· = W.heap.size + 1) wr w' → Turned W.heap.size 2 wr w' := fun w' ho => ⟨ho.os, ho.tape, ho.output, ho.size, fun r a b => ho.same r a (by omega)⟩
    cases hq : stzP n (ps.drop n) with
    | nil =>
      have NX := callsIn_wide (n := 7).2 (NX0.mono (R' := fun e w' => e = .returned (.tuple #[.int .i64 0, .bool false]) ∧ Only (· = W.heap.size + 1) wr w') (by
        rintro e w' ⟨n', b2', ho, hn', (⟨rfl, hs⟩ | ⟨k, p, hk, hk2, rfl, hp, hs⟩)⟩
        · exact ⟨rfl, ho⟩
        · rw [hs] at hq; cases hq))
      have HQ := Lib.hid hq
      clear NX0 hq
      gi_wp2_with (refine ⟨trivial, ?_⟩; gi_at_call 133; refine NX.mono ?_; clear NX; rintro e w' ⟨rfl, ho⟩)
      refine ⟨fun _ h => (by cases h), ?_⟩
      gi_wp2
      refine bodyPost_ret (results_none rfl _ _ _) rfl ⟨⟨_, rfl⟩, .inl ?_⟩
      have e0 : stzP 0 ps = pre := by rw [HX.out, HQ.out, List.append_nil]
      rw [e0]
      exact hJ _ _ _ hj (turn _ ho)
    | cons x post =>
      obtain ⟨k, p⟩ := x
      have NX := callsIn_wide (n := 7).2 (NX0.mono (R' := fun e w' => e = .returned (.tuple #[.int .i64 (k : Nat), .bool true]) ∧ Only (· = W.heap.size + 1) wr w' ∧ n ≤ k ∧ k < ps.length ∧ Boxed w' (W.heap.size + 1) 3 (.int .i64 (k + 1 : Nat)) ∧ ps[k]? = some p ∧ post = stzP (k + 1) (ps.drop (k + 1))) (by
        rintro e w' ⟨n', b2', ho, hn', (⟨rfl, hs⟩ | ⟨k', p', hk, hk2, rfl, hp, hs⟩)⟩
        · rw [hs] at hq; cases hq
        · rw [hs] at hq
          cases hq
          subst hk2
          exact ⟨rfl, ho, hk, hn', b2', hp, rfl⟩))
      have HQ := Lib.hid hq
      have hpk : ps[k]? = some p := by
        have := (stzG_mem n (ps.drop n) (k, p) (by rw [show stzG (fun p : Pr => p.1.1.kind) n (ps.drop n) = _ from hq]; exact List.mem_cons_self)).2.1
        have h2 := (stzG_mem n (ps.drop n) (k, p) (by rw [show stzG (fun p : Pr => p.1.1.kind) n (ps.drop n) = _ from hq]; exact List.mem_cons_self)).1
        rw [List.getElem?_drop, show n + ((k, p).1 - n) = k by simp only at h2 ⊢; omega] at this
        exact this
      have hkl0 := (List.getElem?_eq_some_iff.1 hpk).1
      obtain ⟨g, cap', pa, pc, e1, _, hg, e2, d0, d1, d2, d3⟩ := HE1.out.here hpk
      have q0 : wr.cell? ⟨Be, 0, none⟩ = some v := HB1.out.cell
      have hgw' := hgw g (by rw [e1]; rfl)
      rw [e2] at d2
      rw [e1] at q0
      have moved : ∀ (w' : World), Only (· = W.heap.size + 1) wr w' → w'.cell? ⟨Be, 0, none⟩ = some (.slice (some ⟨g, 0, none⟩) ps.length cap') ∧ w'.cell? ⟨g, k * 4, none⟩ = some (.int .i64 p.1.1.kind) ∧ w'.cell? ⟨g, k * 4 + 1, none⟩ = some (.string (B p.1.1.raw)) ∧ w'.cell? ⟨g, k * 4 + 1 + 1, none⟩ = some (.slice pa p.1.1.fields.length pc) ∧ w'.cell? ⟨g, k * 4 + 1 + 1 + 1, none⟩ = some (.int .i64 p.1.2) := fun w' ho =>
        ⟨(World.cell?_of_block (w := wr) (a := ⟨Be, 0, none⟩) (ho.same Be HB1.out.lt (by omega))).trans q0, (World.cell?_of_block (w := wr) (a := ⟨g, k * 4, none⟩) (ho.same g hg (by omega))).trans d0, (World.cell?_of_block (w := wr) (a := ⟨g, k * 4 + 1, none⟩) (ho.same g hg (by omega))).trans d1, (World.cell?_of_block (w := wr) (a := ⟨g, k * 4 + 1 + 1, none⟩) (ho.same g hg (by omega))).trans d2, (World.cell?_of_block (w := wr) (a := ⟨g, k * 4 + 1 + 1 + 1, none⟩) (ho.same g hg (by omega))).trans d3⟩
      have MV := Lib.hid moved
      have T := Lib.hid turn
      have E1 := Lib.hid e1
      have E2 := Lib.hid e2
      have HPK := Lib.hid hpk
      clear NX0 hq moved d0 d1 d2 d3 e1 e2 q0 hpk turn
      gi_wp2_with (refine ⟨trivial, ?_⟩; gi_at_call 133; refine NX.mono ?_; clear NX; rintro e w' ⟨rfl, ho, hk, hkl, b2', hp, hpost⟩; obtain ⟨m0, m1, m2, m3, m4⟩ := MV.out _ ho; clear hp; have HPO := Lib.hid hpost; clear hpost)
      have jw : J pre w' := hJ _ _ _ hj (T.out _ ho)
      have hz := ho.size
      have hz1 := B1.out.lt
      have hz2 := B2.out.lt
      have hxp : stzP 0 ps = pre ++ (k, p) :: post := by rw [HX.out, HQ.out]
      obtain ⟨fn, tmps, assign, body, hy, hR⟩ := hY pre (k, p) post w' hxp (by omega) jw
      dsimp only [entV] at hy
      rw [E2.out] at hy
      rw [hy, Oper.uponIn_round]
      refine ⟨fun h => (by cases h), hR.mono ?_⟩
      clear hR hy
      rintro e W3 (⟨rfl, hJ3, hk3⟩ | ⟨rfl, hJx3⟩)
      · gi_wp2
        go_roundw
        case rel =>
          refine ⟨pre ++ [(k, p)], k + 1, hkl, ?_, ?_, ?_, hJ3⟩
          · rw [hxp, HPO.out, List.append_assoc, List.singleton_append]
          · exact (hk3.same _ (by omega) (by omega)).trans ((ho.same _ hz1 (by omega)).trans B1.out)
          · exact (hk3.same _ (by omega) (by omega)).trans b2'
        case measure =>
          rw [atOf_eq B2.out, atOf_eq (B := W.heap.size + 1) (w := W3) (n := k + 1) ((hk3.same _ (by omega) (by omega)).trans b2')]
          omega
      · gi_wp2
        refine bodyPost_ret (results_none rfl _ _ _) rfl ⟨⟨_, rfl⟩, .inr ⟨_, ⟨post, ?_⟩, hJx3⟩⟩
        rw [hxp, List.append_assoc, List.singleton_append]
end Go.Proofs.YtiebbgbcojgeoaaGreatDoor
/- A list in memory, readable; find, gap, Place, Len, Next. -/
namespace Go.Proofs.YtiebbgbcojgeoaaGreatDoor
open Go.RowKit Go.Shelf
attribute [local go_sem] Oper.semAt_some

/-- A list in memory, readable: its block, its entries' slice. -/
structure LR (w : World) (lb : Nat) (ev : Value) (ps : List Pr) (nx : Int) : Prop where
  head : Cells w lb 98 #[ev, .int .i64 (nx - 1)]
  ents : EntsR w ev ps
theorem LR.below {w w' : World} {lb : Nat} {ev : Value} {ps : List Pr} {nx : Int} {n : Nat} (h : LR w lb ev ps nx) (hb : Below n w w') (hn : w.heap.size ≤ n) : LR w' lb ev ps nx :=
  ⟨h.head.below hb (Nat.lt_of_lt_of_le h.head.lt hn), h.ents.below hb hn⟩
abbrev ptr (b : Nat) : Value := .pointer (some ⟨b, 0, none⟩)
theorem all_any (lb : Nat) (ev : Value) (ps : List Pr) (nx : Int) (w : World) (h : LR w lb ev ps nx) :
    Calls Tryz.prog 67 #[ptr lb] w fun e w' => e = .returned ev ∧ w = w' := by
  obtain ⟨A, cap, rfl, hle⟩ := h.ents.empty
  have c0 : w.cell? ⟨lb, 0, none⟩ = some (.slice A ps.length cap) := h.head.cell 0
  clear h
  unfold ptr
  go_enter Tryz.func67, Tryz.ntmps67
  go_wp2_with fail
  go_ret
  exact ⟨rfl, rfl⟩
theorem all_none (w : World) : Calls Tryz.prog 67 #[.pointer none] w fun e w' => e = .returned (.slice none 0 0) ∧ w = w' := by
  go_enter Tryz.func67, Tryz.ntmps67
  go_wp2_with fail
  go_ret
  exact ⟨rfl, rfl⟩
/-- Where the stanza of a number stands. -/
def findP (ps : List Pr) (id : Int) : Option Nat := ((stzP 0 ps).find? fun x => x.2.1.2 == id).map Prod.fst
def foundV (o : Option Nat) : Value := match o with | none => .tuple #[.int .i64 0, .bool false] | some k => .tuple #[.int .i64 (k : Nat), .bool true]
theorem entsNone (w : World) : EntsR w (.slice none 0 0) [] := ⟨⟨rfl, .inl ⟨rfl, rfl⟩⟩, fun p h => by cases h⟩
/-- What all answers: of a list, or of none. -/
def AllR (w : World) (l v : Value) (ps : List Pr) : Prop := EntsR w v ps ∧ Calls Tryz.prog 67 #[l] w fun e w' => e = .returned v ∧ w = w'
theorem AllR.of {w : World} {lb : Nat} {ev : Value} {ps : List Pr} {nx : Int} (h : LR w lb ev ps nx) : AllR w (ptr lb) ev ps := ⟨h.ents, all_any lb ev ps nx w h⟩
theorem AllR.none (w : World) : AllR w (.pointer none) (.slice none 0 0) [] := ⟨entsNone w, all_none w⟩
theorem find_none {ps : List Pr} {id : Int} (h : ∀ y ∈ stzP 0 ps, y.2.1.2 ≠ id) : findP ps id = none := by
  unfold findP
  rw [List.find?_eq_none.2 (fun x hx => by simpa using h x hx)]; rfl
theorem find_some {ps : List Pr} {id : Int} {pre post : List (Nat × Pr)} {x : Nat × Pr} (h : stzP 0 ps = pre ++ x :: post) (h1 : ∀ y ∈ pre, y.2.1.2 ≠ id) (h2 : x.2.1.2 = id) : findP ps id = some x.1 := by
  unfold findP
  rw [h, List.find?_append, List.find?_eq_none.2 (fun y hy => by simpa using h1 y hy), List.find?_cons_of_pos (by simpa using h2)]; rfl
theorem entBox {W : World} {Bx : Nat} {p : Pr} (h : Cells W Bx 100 #[.int .i64 p.1.1.kind, .string (B p.1.1.raw), p.2, .int .i64 p.1.2]) : W.cell? ⟨Bx, 0, none⟩ = some (.int .i64 p.1.1.kind) ∧ W.cell? ⟨Bx, 1, none⟩ = some (.string (B p.1.1.raw)) ∧ W.cell? ⟨Bx, 2, none⟩ = some p.2 ∧ W.cell? ⟨Bx, 3, none⟩ = some (.int .i64 p.1.2) :=
  ⟨h.cell 0, h.cell 1, h.cell 2, h.cell 3⟩
theorem findOut {Q : Ending → World → Prop} (w W : World) (v e : Value) (tmps : Array Value) (hv1 : v.oneCell' = true) (he1 : e.oneCell' = true) (h4 : Boxed W (w.heap.size + 1) 3 v) (h5 : Boxed W (w.heap.size + 1 + 1) 4 e) (hB : Below w.heap.size w W)
    (hK : W.heap[w.heap.size + 4]? = some (.deferred (some []))) (t4 : tmps[4]? = some (.pointer (some ⟨w.heap.size + 1, 0, none⟩))) (t5 : tmps[5]? = some (.pointer (some ⟨w.heap.size + 1 + 1, 0, none⟩)))
    (hQ : ∀ W', Below w.heap.size w W' → Q (.returned (.tuple #[v, e])) W') :
    bodyPostM Fence.wide 9 Tryz.prog Tryz.f63 Q .ret { tmps := tmps, defers := [{ target := .collected (w.heap.size + 4), args := #[] }] } W := by
  have p1 := grownBy_putObj' W (w.heap.size + 4) (.deferred none)
  have r4 : Boxed (W.putObj (w.heap.size + 4) (.deferred none)) (w.heap.size + 1) 3 v := (p1.block _ h4.lt (fun e => by have := Option.some.inj e; omega)).trans h4
  have r5 : Boxed (W.putObj (w.heap.size + 4) (.deferred none)) (w.heap.size + 1 + 1) 4 e := (p1.block _ h5.lt (fun e => by have := Option.some.inj e; omega)).trans h5
  have c4 := r4.cell
  have c5 := r5.cell
  refine ⟨by simp, .inl ⟨_, _, rfl, run_takeDeferred hK, ?_⟩⟩
  exact ⟨.tuple #[v, e], by simp [results, Tryz.f63, go_sem, t4, t5, c4, c5], hQ _ (hB.trans (belowK_b (w := w) (Nat.le_refl _) W _ _ _ (by omega) hK rfl rfl))⟩
set_option maxRecDepth 100000 in
set_option maxHeartbeats 4000000 in
theorem find_gen (ps : List Pr) (v : Value) (q : Option Addr) (id : Int) (w : World) (hl : ∀ W, Below w.heap.size w W → AllR W (.pointer q) v ps) (hps : ps.length ≤ 1000000) :
    Calls Tryz.prog 63 #[.pointer q, .int .i64 id] w fun e w' => e = .returned (foundV (findP ps id)) ∧ Below w.heap.size w w' := by
  obtain ⟨A, cap, hv, hle⟩ := (hl w (Below.refl _ _)).1.empty
  have ALL := Lib.hid (fun W hB => callsIn_wide (n := 8).2 (hl W hB).2)
  have HE := Lib.hid (fun W hB => (hl W hB).1)
  have ST := Lib.hid (fun W => callsIn_wide (n := 8).2 (stz7_any v W A ps.length cap hv))
  have HV := Lib.hid hv
  clear hl hv
  refine callsIn_wide (n := 9).1 ?_
  refine callsIn_of_wp_marks Tryz.func63 rfl trivial ?_ rfl
  simp only [Tryz.ntmps63, List.size_toArray, List.length_cons, List.length_nil, Nat.reduceAdd, Nat.reduceSub, Array.replicate_succ, Array.replicate_zero, List.push_toArray, List.append_toArray, List.nil_append, List.cons_append]
  gi_wp2_with fail
  have hb0 : Below w.heap.size w (((w.alloc (.cells #[.int .i64 id] 3)).alloc (.cells #[.int .i64 0] 3)).alloc (.cells #[.bool false] 4)) := (((Below.refl _ w).alloc (Nat.le_refl _) _).alloc (by simp) _).alloc (by simp; omega) _
  refine ⟨trivial, (ALL.out _ hb0).mono ?_⟩
  rintro e w1 ⟨rfl, rfl⟩
  gi_wp2_with fail
  refine ⟨trivial, (ST.out _).mono ?_⟩
  rintro e w1 ⟨rfl, rfl⟩
  gi_wp2_with fail
  obtain ⟨w1, hw1⟩ : ∃ w1, w1 = ((((w.alloc (.cells #[.int .i64 id] 3)).alloc (.cells #[.int .i64 0] 3)).alloc (.cells #[.bool false] 4)).alloc (.cells #[v] 96)) := ⟨_, rfl⟩
  have hz : w1.heap.size = w.heap.size + 4 := by rw [hw1]; simp
  have B0 : Boxed w1 w.heap.size 3 (.int .i64 id) := by rw [hw1]; exact (((Boxed.new w _ _).alloc _).alloc _).alloc _
  have B1 : Boxed w1 (w.heap.size + 1) 3 (.int .i64 0) := by rw [hw1]; exact ((boxNew2 w _ _ _).alloc _).alloc _
  have B2 : Boxed w1 (w.heap.size + 1 + 1) 4 (.bool false) := by rw [hw1]; exact (boxNew3 w _ _ _ _).alloc _
  have B3 : Boxed w1 (w.heap.size + 1 + 1 + 1) 96 v := by rw [hw1]; exact boxNew4 w _ _ _ _ _
  have hb1 : Below w.heap.size w w1 := by rw [hw1]; exact hb0.alloc (by simp; omega) _
  rw [← hw1]
  clear hw1 hb0
  have HH := stz_hands ps v _ w1 B3 hps (HE.out _ hb1)
  refine wp_rangedKA (gf := 100) (lb := #[.pointer (some ⟨w.heap.size + 1 + 1 + 1, 0, none⟩)]) rfl (enters_of Tryz.func100 (by kernel_rfl) rfl) HH (fun _ => rfl)
    (fun pre W => (∀ y ∈ pre, y.2.1.2 ≠ id) ∧ Boxed W w.heap.size 3 (.int .i64 id) ∧ Boxed W (w.heap.size + 1) 3 (.int .i64 0) ∧ Boxed W (w.heap.size + 1 + 1) 4 (.bool false) ∧ Boxed W (w.heap.size + 1 + 1 + 1) 96 v ∧ Below w.heap.size w W)
    (fun c pre W => c = .ret ∧ (∃ k, findP ps id = some k ∧ Boxed W (w.heap.size + 1) 3 (.int .i64 (k : Nat)) ∧ Boxed W (w.heap.size + 1 + 1) 4 (.bool true) ∧ Below w.heap.size w W))
    (by
      rw [hz]
      exact (Abide.pure _ _ _).and ((Abide.box (.inl (by omega)) _).and ((Abide.box (.inl (by omega)) _).and ((Abide.box (.inl (by omega)) _).and ((Abide.box (.inl (by omega)) _).and (Abide.below (Nat.le_refl _) (by omega)))))))
    (by
      rw [hz]
      rintro c s W W' ⟨h0, k, h1, h2, h3, h4⟩ ht
      exact ⟨h0, k, h1, ht.box h2 (.inl (by omega)), ht.box h3 (.inl (by omega)), h4.trans (ht.below (by omega) (by have := h4.size; omega))⟩)
    ⟨(fun y h => by cases h), B0, B1, B2, B3, hb1⟩
    (fun pre W h => ⟨HE.out _ h.2.2.2.2.2, h.2.2.2.2.1⟩)
    (fun a pre x a' W => ∃ Bx, w.heap.size + 8 ≤ Bx ∧ a' = { tmps := (((a.tmps.setIfInBounds 11 (.int .i64 (x.1 : Nat))).setIfInBounds 12 (entV x.2)).setIfInBounds 6 (.int .i64 (x.1 : Nat))).setIfInBounds 7 (ptr Bx), defers := [] } ∧ Cells W Bx 100 #[.int .i64 x.2.1.1.kind, .string (B x.2.1.1.raw), x.2.2, .int .i64 x.2.1.2] ∧
      (∀ y ∈ pre, y.2.1.2 ≠ id) ∧ Boxed W w.heap.size 3 (.int .i64 id) ∧ Boxed W (w.heap.size + 1) 3 (.int .i64 0) ∧ Boxed W (w.heap.size + 1 + 1) 4 (.bool false) ∧ Boxed W (w.heap.size + 1 + 1 + 1) 96 v ∧ Below w.heap.size w W)
    ?hM ?assign ?body ?done ?stop
  case hM =>
    rw [hz]
    rintro a pre x a' _ W W' ⟨Bx, h1, h2, h3, h4, h5, h6, h7, h8, h9⟩ ht
    exact ⟨Bx, h1, h2, (ht.same Bx h3.lt (.inr (by omega))).trans h3, h4, ht.box h5 (.inl (by omega)), ht.box h6 (.inl (by omega)), ht.box h7 (.inl (by omega)), ht.box h8 (.inl (by omega)), h9.trans (ht.below (by omega) (by have := h9.size; omega))⟩
  case assign =>
    rw [hz]
    intro l pre x post W hx hsz hi
    have hfr : ∃ fa fc, x.2.2 = .slice fa x.2.1.1.fields.length fc := by
      have hm := stzG_mem 0 ps x (by rw [show stzG (fun p : Pr => p.1.1.kind) 0 ps = _ from hx]; simp)
      exact ((HE.out _ hi.2.2.2.2.2).each x.2 (List.mem_of_getElem? hm.2.1)).form
    obtain ⟨k, ⟨⟨⟨kd, raw, fs⟩, num⟩, fv⟩⟩ := x
    obtain ⟨fa, fc, e⟩ := hfr
    dsimp only at e
    subst e
    clear hx
    dsimp only [entV]
    gi_wp2
    exact ⟨(Stay.refl _ _ W).alloc hsz _, W.heap.size, by omega, rfl, Cells.new _ _ _, hi.1, hi.2.1.alloc _, hi.2.2.1.alloc _, hi.2.2.2.1.alloc _, hi.2.2.2.2.1.alloc _, hi.2.2.2.2.2.alloc hi.2.2.2.2.2.size _⟩
  case body =>
    rw [hz]
    rintro l pre x post a' W hx hsz ⟨Bx, hB, rfl, hc, hpre, b0, b1, b2, b3, hb⟩
    simp only [List.setIfInBounds_toArray, List.set_cons_zero, List.set_cons_succ, entV]
    have q3 := (entBox hc).2.2.2
    have c0 := b0.cell
    have c1 := b1.cell
    have c2 := b2.cell
    have f1 := b1.frozen
    have f2 := b2.frozen
    have FS := Lib.hid (fun h => find_some hx hpre h)
    have HPRE := Lib.hid hpre
    clear hpre hx
    by_cases hq : x.2.1.2 = id
    · rw [hq] at q3
      gi_wp2_with fail
      have hst : Stay (w.heap.size + 4) 4 W ((W.setCell ⟨w.heap.size + 1, 0, none⟩ (.int .i64 (x.1 : Nat))).setCell ⟨w.heap.size + 1 + 1, 0, none⟩ (.bool true)) := ((Stay.refl _ _ W).setCell (.inl (by show w.heap.size + 1 < _; omega)) _).setCell (.inl (by show w.heap.size + 1 + 1 < _; omega)) _
      refine ⟨hst, rfl, x.1, FS.out hq, (Boxed.set _ b1).other (by show w.heap.size + 1 ≠ w.heap.size + 1 + 1; omega) _, Boxed.set _ (b2.other (by show w.heap.size + 1 + 1 ≠ w.heap.size + 1; omega) _), ?_⟩
      exact (hb.setCell (p := ⟨w.heap.size + 1, 0, none⟩) (by show w.heap.size ≤ w.heap.size + 1; omega) _).setCell (p := ⟨w.heap.size + 1 + 1, 0, none⟩) (by show w.heap.size ≤ w.heap.size + 1 + 1; omega) _
    · have hq' : ((x.2.1.2 : Int) == id) = false := beq_eq_false_iff_ne.2 hq
      gi_wp2_with fail
      refine ⟨Stay.refl _ _ _, ?_, b0, b1, b2, b3, hb⟩
      intro y hy
      rcases List.mem_append.1 hy with h | h
      · exact HPRE.out y h
      · rw [List.mem_singleton.1 h]; exact hq
  case done =>
    rw [hz]
    rintro W ⟨hpre, b0, b1, b2, b3, hb⟩ hK
    have c1 := b1.cell
    have c2 := b2.cell
    have f1 := b1.frozen
    have f2 := b2.frozen
    have FN := Lib.hid (find_none hpre)
    have zK := (Array.getElem?_eq_some_iff.1 hK).1
    clear hpre
    gi_wp2_with fail
    refine findOut w _ (.int .i64 0) (.bool false) _ rfl rfl ((Boxed.set _ b1).other (by show w.heap.size + 1 ≠ w.heap.size + 1 + 1; omega) _) (Boxed.set _ (b2.other (by show w.heap.size + 1 + 1 ≠ w.heap.size + 1; omega) _))
      ((hb.setCell (p := ⟨w.heap.size + 1, 0, none⟩) (by show w.heap.size ≤ w.heap.size + 1; omega) _).setCell (p := ⟨w.heap.size + 1 + 1, 0, none⟩) (by show w.heap.size ≤ w.heap.size + 1 + 1; omega) _)
      (((Below.heap_setCell _ _ _ _ (by show w.heap.size + 4 ≠ w.heap.size + 1 + 1; omega)).trans (Below.heap_setCell _ _ _ _ (by show w.heap.size + 4 ≠ w.heap.size + 1; omega))).trans hK) rfl rfl (fun W' h => ⟨?_, h⟩)
    rw [FN.out]; rfl
  case stop =>
    rw [hz]
    rintro c pre W _ ⟨rfl, k, hk, b1, b2, hb⟩ hK
    gi_wp2_with fail
    refine findOut w _ (.int .i64 (k : Nat)) (.bool true) _ rfl rfl b1 b2 hb hK rfl rfl (fun W' h => ⟨?_, h⟩)
    rw [hk]; rfl
end Go.Proofs.YtiebbgbcojgeoaaGreatDoor
/- Place, Len, Next. -/
namespace Go.Proofs.YtiebbgbcojgeoaaGreatDoor
open Go.RowKit Go.Shelf
attribute [local go_sem] Oper.semAt_some

/-- Which one a stanza is. -/
def placeP (ps : List Pr) (id : Int) : Int := match (stzP 0 ps).findIdx? fun x => x.2.1.2 == id with | none => -1 | some k => (k : Nat)
theorem place_none {ps : List Pr} {id : Int} (h : ∀ y ∈ stzP 0 ps, y.2.1.2 ≠ id) : placeP ps id = -1 := by
  unfold placeP
  rw [List.findIdx?_eq_none_iff.2 (fun x hx => by simpa using h x hx)]
theorem place_some {ps : List Pr} {id : Int} {pre post : List (Nat × Pr)} {x : Nat × Pr} (h : stzP 0 ps = pre ++ x :: post) (h1 : ∀ y ∈ pre, y.2.1.2 ≠ id) (h2 : x.2.1.2 = id) : placeP ps id = (pre.length : Nat) := by
  unfold placeP
  rw [h, List.findIdx?_append, List.findIdx?_eq_none_iff.2 (fun y hy => by simpa using h1 y hy), List.findIdx?_cons, h2]
  simp
theorem placeOut {Q : Ending → World → Prop} (w W : World) (v : Value) (tmps : Array Value) (hv1 : v.oneCell' = true) (h4 : Boxed W (w.heap.size + 1) 3 v) (hB : Below w.heap.size w W)
    (hK : W.heap[w.heap.size + 4]? = some (.deferred (some []))) (t4 : tmps[4]? = some (.pointer (some ⟨w.heap.size + 1, 0, none⟩)))
    (hQ : ∀ W', Below w.heap.size w W' → Q (.returned v) W') :
    bodyPostM Fence.wide 9 Tryz.prog Tryz.f22 Q .ret { tmps := tmps, defers := [{ target := .collected (w.heap.size + 4), args := #[] }] } W := by
  have p1 := grownBy_putObj' W (w.heap.size + 4) (.deferred none)
  have r4 : Boxed (W.putObj (w.heap.size + 4) (.deferred none)) (w.heap.size + 1) 3 v := (p1.block _ h4.lt (fun e => by have := Option.some.inj e; omega)).trans h4
  have c4 := r4.cell
  refine ⟨by simp, .inl ⟨_, _, rfl, run_takeDeferred hK, ?_⟩⟩
  exact ⟨v, by simp [results, Tryz.f22, go_sem, t4, c4], hQ _ (hB.trans (belowK_b (w := w) (Nat.le_refl _) W _ _ _ (by omega) hK rfl rfl))⟩
set_option maxRecDepth 100000 in
set_option maxHeartbeats 4000000 in
theorem place_gen (ps : List Pr) (v : Value) (q : Option Addr) (id : Int) (w : World) (hl : ∀ W, Below w.heap.size w W → AllR W (.pointer q) v ps) (hps : ps.length ≤ 1000000) :
    Calls Tryz.prog 22 #[.pointer q, .int .i64 id] w fun e w' => e = .returned (.int .i64 (placeP ps id)) ∧ Below w.heap.size w w' := by
  obtain ⟨A, cap, hv, hle⟩ := (hl w (Below.refl _ _)).1.empty
  have ALL := Lib.hid (fun W hB => callsIn_wide (n := 8).2 (hl W hB).2)
  have HE := Lib.hid (fun W hB => (hl W hB).1)
  have ST := Lib.hid (fun W => callsIn_wide (n := 8).2 (stz7_any v W A ps.length cap hv))
  have HV := Lib.hid hv
  clear hl hv
  refine callsIn_wide (n := 9).1 ?_
  refine callsIn_of_wp_marks Tryz.func22 rfl trivial ?_ rfl
  simp only [Tryz.ntmps22, List.size_toArray, List.length_cons, List.length_nil, Nat.reduceAdd, Nat.reduceSub, Array.replicate_succ, Array.replicate_zero, List.push_toArray, List.append_toArray, List.nil_append, List.cons_append]
  gi_wp2_with fail
  have hb0 : Below w.heap.size w (((w.alloc (.cells #[.int .i64 id] 3)).alloc (.cells #[.int .i64 0] 3)).alloc (.cells #[.int .i64 0] 3)) := (((Below.refl _ w).alloc (Nat.le_refl _) _).alloc (by simp) _).alloc (by simp; omega) _
  refine ⟨trivial, (ALL.out _ hb0).mono ?_⟩
  rintro e w1 ⟨rfl, rfl⟩
  gi_wp2_with fail
  refine ⟨trivial, (ST.out _).mono ?_⟩
  rintro e w1 ⟨rfl, rfl⟩
  gi_wp2_with fail
  obtain ⟨w1, hw1⟩ : ∃ w1, w1 = ((((w.alloc (.cells #[.int .i64 id] 3)).alloc (.cells #[.int .i64 0] 3)).alloc (.cells #[.int .i64 0] 3)).alloc (.cells #[v] 96)) := ⟨_, rfl⟩
  have hz : w1.heap.size = w.heap.size + 4 := by rw [hw1]; simp
  have B0 : Boxed w1 w.heap.size 3 (.int .i64 id) := by rw [hw1]; exact (((Boxed.new w _ _).alloc _).alloc _).alloc _
  have B1 : Boxed w1 (w.heap.size + 1) 3 (.int .i64 0) := by rw [hw1]; exact ((boxNew2 w _ _ _).alloc _).alloc _
  have B2 : Boxed w1 (w.heap.size + 1 + 1) 3 (.int .i64 0) := by rw [hw1]; exact (boxNew3 w _ _ _ _).alloc _
  have B3 : Boxed w1 (w.heap.size + 1 + 1 + 1) 96 v := by rw [hw1]; exact boxNew4 w _ _ _ _ _
  have hb1 : Below w.heap.size w w1 := by rw [hw1]; exact hb0.alloc (by simp; omega) _
  rw [← hw1]
  clear hw1 hb0
  have HH := stz_hands ps v _ w1 B3 hps (HE.out _ hb1)
  refine wp_rangedKA (gf := 100) (lb := #[.pointer (some ⟨w.heap.size + 1 + 1 + 1, 0, none⟩)]) rfl (enters_of Tryz.func100 (by kernel_rfl) rfl) HH (fun _ => rfl)
    (fun pre W => (∀ y ∈ pre, y.2.1.2 ≠ id) ∧ Boxed W w.heap.size 3 (.int .i64 id) ∧ Boxed W (w.heap.size + 1) 3 (.int .i64 0) ∧ Boxed W (w.heap.size + 1 + 1) 3 (.int .i64 (pre.length : Nat)) ∧ Boxed W (w.heap.size + 1 + 1 + 1) 96 v ∧ Below w.heap.size w W)
    (fun c pre W => c = .ret ∧ (Boxed W (w.heap.size + 1) 3 (.int .i64 (placeP ps id)) ∧ Below w.heap.size w W))
    (by
      rw [hz]
      exact (Abide.pure _ _ _).and ((Abide.box (.inl (by omega)) _).and ((Abide.box (.inl (by omega)) _).and ((Abide.box (.inl (by omega)) (fun pre : List (Nat × Pr) => .int .i64 (pre.length : Nat))).and ((Abide.box (.inl (by omega)) _).and (Abide.below (Nat.le_refl _) (by omega)))))))
    (by
      rw [hz]
      rintro c s W W' ⟨h0, h2, h4⟩ ht
      exact ⟨h0, ht.box h2 (.inl (by omega)), h4.trans (ht.below (by omega) (by have := h4.size; omega))⟩)
    ⟨(fun y h => by cases h), B0, B1, B2, B3, hb1⟩
    (fun pre W h => ⟨HE.out _ h.2.2.2.2.2, h.2.2.2.2.1⟩)
    (fun a pre x a' W => ∃ Bx, w.heap.size + 8 ≤ Bx ∧ a' = { tmps := ((a.tmps.setIfInBounds 11 (.int .i64 (x.1 : Nat))).setIfInBounds 12 (entV x.2)).setIfInBounds 7 (ptr Bx), defers := [] } ∧ Cells W Bx 100 #[.int .i64 x.2.1.1.kind, .string (B x.2.1.1.raw), x.2.2, .int .i64 x.2.1.2] ∧
      (∀ y ∈ pre, y.2.1.2 ≠ id) ∧ Boxed W w.heap.size 3 (.int .i64 id) ∧ Boxed W (w.heap.size + 1) 3 (.int .i64 0) ∧ Boxed W (w.heap.size + 1 + 1) 3 (.int .i64 (pre.length : Nat)) ∧ Boxed W (w.heap.size + 1 + 1 + 1) 96 v ∧ Below w.heap.size w W)
    ?hM ?assign ?body ?done ?stop
  case hM =>
    rw [hz]
    rintro a pre x a' _ W W' ⟨Bx, h1, h2, h3, h4, h5, h6, h7, h8, h9⟩ ht
    exact ⟨Bx, h1, h2, (ht.same Bx h3.lt (.inr (by omega))).trans h3, h4, ht.box h5 (.inl (by omega)), ht.box h6 (.inl (by omega)), ht.box h7 (.inl (by omega)), ht.box h8 (.inl (by omega)), h9.trans (ht.below (by omega) (by have := h9.size; omega))⟩
  case assign =>
    rw [hz]
    intro l pre x post W hx hsz hi
    have hfr : ∃ fa fc, x.2.2 = .slice fa x.2.1.1.fields.length fc := by
      have hm := stzG_mem 0 ps x (by rw [show stzG (fun p : Pr => p.1.1.kind) 0 ps = _ from hx]; simp)
      exact ((HE.out _ hi.2.2.2.2.2).each x.2 (List.mem_of_getElem? hm.2.1)).form
    obtain ⟨k, ⟨⟨⟨kd, raw, fs⟩, num⟩, fv⟩⟩ := x
    obtain ⟨fa, fc, e⟩ := hfr
    dsimp only at e
    subst e
    clear hx
    dsimp only [entV]
    gi_wp2
    exact ⟨(Stay.refl _ _ W).alloc hsz _, W.heap.size, by omega, rfl, Cells.new _ _ _, hi.1, hi.2.1.alloc _, hi.2.2.1.alloc _, hi.2.2.2.1.alloc _, hi.2.2.2.2.1.alloc _, hi.2.2.2.2.2.alloc hi.2.2.2.2.2.size _⟩
  case body =>
    rw [hz]
    rintro l pre x post a' W hx hsz ⟨Bx, hB, rfl, hc, hpre, b0, b1, b2, b3, hb⟩
    simp only [List.setIfInBounds_toArray, List.set_cons_zero, List.set_cons_succ, entV]
    have q3 := (entBox hc).2.2.2
    have c0 := b0.cell
    have c1 := b1.cell
    have c2 := b2.cell
    have f1 := b1.frozen
    have f2 := b2.frozen
    have FS := Lib.hid (fun h => place_some hx hpre h)
    have hn : pre.length ≤ 1000000 := by have h1 := congrArg List.length hx; have h2 := stzG_len (κ := fun p : Pr => p.1.1.kind) 0 ps; simp at h1; simp only [stzP] at h1 h2; omega
    have HPRE := Lib.hid hpre
    clear hpre hx
    by_cases hq : x.2.1.2 = id
    · rw [hq] at q3
      gi_wp2_with fail
      have hst : Stay (w.heap.size + 4) (2 + 2) W (W.setCell ⟨w.heap.size + 1, 0, none⟩ (.int .i64 (pre.length : Nat))) := (Stay.refl _ _ W).setCell (.inl (by show w.heap.size + 1 < _; omega)) _
      refine ⟨hst, rfl, ?_, hb.setCell (p := ⟨w.heap.size + 1, 0, none⟩) (by show w.heap.size ≤ w.heap.size + 1; omega) _⟩
      rw [FS.out hq]
      exact Boxed.set _ b1
    · have hq' : ((x.2.1.2 : Int) == id) = false := beq_eq_false_iff_ne.2 hq
      gi_wp2_with fail
      have hwr : (((pre ++ [x]).length : Nat) : Int) = (pre.length : Int) + 1 := by simp
      refine ⟨(Stay.refl _ _ W).setCell (.inl (by show w.heap.size + 1 + 1 < _; omega)) _, ?_, b0.other (by show w.heap.size ≠ w.heap.size + 1 + 1; omega) _, b1.other (by show w.heap.size + 1 ≠ w.heap.size + 1 + 1; omega) _, ?_, b3.other (by show w.heap.size + 1 + 1 + 1 ≠ w.heap.size + 1 + 1; omega) _, hb.setCell (p := ⟨w.heap.size + 1 + 1, 0, none⟩) (by show w.heap.size ≤ w.heap.size + 1 + 1; omega) _⟩
      · intro y hy
        rcases List.mem_append.1 hy with h | h
        · exact HPRE.out y h
        · rw [List.mem_singleton.1 h]; exact hq
      · rw [hwr]; exact Boxed.set _ b2
  case done =>
    rw [hz]
    rintro W ⟨hpre, b0, b1, b2, b3, hb⟩ hK
    have c1 := b1.cell
    have f1 := b1.frozen
    have FN := Lib.hid (place_none hpre)
    have zK := (Array.getElem?_eq_some_iff.1 hK).1
    clear hpre
    gi_wp2_with fail
    refine placeOut w _ (.int .i64 (-1)) _ rfl (Boxed.set _ b1) (hb.setCell (p := ⟨w.heap.size + 1, 0, none⟩) (by show w.heap.size ≤ w.heap.size + 1; omega) _)
      ((Below.heap_setCell _ _ _ _ (by show w.heap.size + 4 ≠ w.heap.size + 1; omega)).trans hK) rfl (fun W' h => ⟨?_, h⟩)
    rw [FN.out]
  case stop =>
    rw [hz]
    rintro c pre W _ ⟨rfl, b1, hb⟩ hK
    gi_wp2_with fail
    exact placeOut w _ (.int .i64 (placeP ps id)) _ rfl b1 hb hK rfl (fun W' h => ⟨rfl, h⟩)
set_option maxRecDepth 100000 in
set_option maxHeartbeats 4000000 in
theorem len_gen (ps : List Pr) (v : Value) (q : Option Addr) (w : World) (hl : ∀ W, Below w.heap.size w W → AllR W (.pointer q) v ps) (hps : ps.length ≤ 1000000) :
    Calls Tryz.prog 31 #[.pointer q] w fun e w' => e = .returned (.int .i64 ((stzP 0 ps).length : Nat)) ∧ Below w.heap.size w w' := by
  obtain ⟨A, cap, hv, hle⟩ := (hl w (Below.refl _ _)).1.empty
  have ALL := Lib.hid (fun W hB => callsIn_wide (n := 8).2 (hl W hB).2)
  have HE := Lib.hid (fun W hB => (hl W hB).1)
  have ST := Lib.hid (fun W => callsIn_wide (n := 8).2 (stz7_any v W A ps.length cap hv))
  have HSL := Lib.hid (Nat.le_trans (stzG_len (κ := fun p : Pr => p.1.1.kind) 0 ps) hps)
  clear hl hv
  refine callsIn_wide (n := 9).1 ?_
  refine callsIn_of_wp_marks Tryz.func31 rfl trivial ?_ rfl
  simp only [Tryz.ntmps31, List.size_toArray, List.length_cons, List.length_nil, Nat.reduceAdd, Nat.reduceSub, Array.replicate_succ, Array.replicate_zero, List.push_toArray, List.append_toArray, List.nil_append, List.cons_append]
  gi_wp2_with fail
  have hb0 : Below w.heap.size w (w.alloc (.cells #[.int .i64 0] 3)) := (Below.refl _ w).alloc (Nat.le_refl _) _
  refine ⟨trivial, (ALL.out _ hb0).mono ?_⟩
  rintro e w1 ⟨rfl, rfl⟩
  gi_wp2_with fail
  refine ⟨trivial, (ST.out _).mono ?_⟩
  rintro e w1 ⟨rfl, rfl⟩
  gi_wp2_with fail
  obtain ⟨w1, hw1⟩ : ∃ w1, w1 = ((w.alloc (.cells #[.int .i64 0] 3)).alloc (.cells #[v] 96)) := ⟨_, rfl⟩
  have hz : w1.heap.size = w.heap.size + 2 := by rw [hw1]; simp
  have B0 : Boxed w1 w.heap.size 3 (.int .i64 0) := by rw [hw1]; exact (Boxed.new w _ _).alloc _
  have B1 : Boxed w1 (w.heap.size + 1) 96 v := by rw [hw1]; exact boxNew2 w _ _ _
  have hb1 : Below w.heap.size w w1 := by rw [hw1]; exact hb0.alloc (by simp) _
  rw [← hw1]
  clear hw1 hb0
  have HH := stz_hands ps v _ w1 B1 hps (HE.out _ hb1)
  refine wp_rangedKA (gf := 100) (lb := #[.pointer (some ⟨w.heap.size + 1, 0, none⟩)]) rfl (enters_of Tryz.func100 (by kernel_rfl) rfl) HH (fun _ => rfl)
    (fun pre W => Boxed W w.heap.size 3 (.int .i64 (pre.length : Nat)) ∧ Boxed W (w.heap.size + 1) 96 v ∧ Below w.heap.size w W)
    (fun _ _ _ => False)
    (by
      rw [hz]
      exact (Abide.box (.inl (by omega)) (fun pre : List (Nat × Pr) => .int .i64 (pre.length : Nat))).and ((Abide.box (.inl (by omega)) _).and (Abide.below (Nat.le_refl _) (by omega))))
    (fun _ _ _ _ hs _ => hs)
    ⟨B0, B1, hb1⟩
    (fun pre W h => ⟨HE.out _ h.2.2, h.2.1⟩)
    (fun a pre x a' W => a' = { tmps := (a.tmps.setIfInBounds 7 (.int .i64 (x.1 : Nat))).setIfInBounds 8 (entV x.2), defers := [] } ∧
      Boxed W w.heap.size 3 (.int .i64 (pre.length : Nat)) ∧ Boxed W (w.heap.size + 1) 96 v ∧ Below w.heap.size w W)
    ?hM ?assign ?body ?done ?stop
  case hM =>
    rw [hz]
    rintro a pre x a' _ W W' ⟨h1, h2, h3, h4⟩ ht
    exact ⟨h1, ht.box h2 (.inl (by omega)), ht.box h3 (.inl (by omega)), h4.trans (ht.below (by omega) (by have := h4.size; omega))⟩
  case assign =>
    rw [hz]
    intro l pre x post W hx hsz hi
    clear hx
    gi_wp2
    exact ⟨Stay.refl _ _ _, rfl, hi⟩
  case body =>
    rw [hz]
    rintro l pre x post a' W hx hsz ⟨rfl, b0, b1, hb⟩
    have hn : pre.length ≤ 1000000 := by have := congrArg List.length hx; have h2 := HSL.out; rw [this] at h2; simp at h2; omega
    simp only [List.setIfInBounds_toArray, List.set_cons_zero, List.set_cons_succ, entV]
    have c0 := b0.cell
    have f0 := b0.frozen
    clear hx
    gi_wp2_with fail
    have hwr : (((pre ++ [x]).length : Nat) : Int) = (pre.length : Int) + 1 := by simp
    refine ⟨(Stay.refl _ _ W).setCell (.inl (by show w.heap.size < _; omega)) _, ?_, b1.other (by show w.heap.size + 1 ≠ w.heap.size; omega) _, hb.setCell (p := ⟨w.heap.size, 0, none⟩) (Nat.le_refl _) _⟩
    rw [hwr]; exact Boxed.set _ b0
  case done =>
    rw [hz]
    rintro W ⟨b0, b1, hb⟩ hK
    have c := b0.cell
    gi_wp2
    refine ⟨by simp, .inl ⟨_, _, rfl, run_takeDeferred hK, ?_⟩⟩
    exact ⟨_, results_tmp rfl _ _ _, rfl, hb.trans (belowK_b (w := w) (Nat.le_refl _) W _ _ _ (by omega) hK rfl rfl)⟩
  case stop =>
    intro c pre W _ h _
    exact h.elim
theorem next_any (lb : Nat) (ev : Value) (ps : List Pr) (nx : Int) (w : World) (h : LR w lb ev ps nx) (hn : -1000000 ≤ nx ∧ nx ≤ 1000000) :
    Calls Tryz.prog 29 #[ptr lb] w fun e w' => e = .returned (.int .i64 nx) ∧ w = w' := by
  have c1 : w.cell? ⟨lb, 1, none⟩ = some (.int .i64 (nx - 1)) := h.head.cell 1
  clear h
  have hw : IntKind.i64.wrap (nx - 1 + 1) = nx := by rw [show nx - 1 + 1 = nx by omega]; exact IntWalk.i64_in _ (by omega)
  unfold ptr
  go_enter Tryz.func29, Tryz.ntmps29
  go_wp2_with fail
  go_ret
  exact ⟨by rw [← hw]; rfl, rfl⟩
theorem next_none (w : World) : Calls Tryz.prog 29 #[.pointer none] w fun e w' => e = .returned (.int .i64 0) ∧ w = w' := by
  go_enter Tryz.func29, Tryz.ntmps29
  go_wp2_with fail
  go_ret
  exact ⟨rfl, rfl⟩
end Go.Proofs.YtiebbgbcojgeoaaGreatDoor
/- Items put apart, by the program. (Written by gen_apart.py.) -/
namespace Go.Proofs.YtiebbgbcojgeoaaGreatDoor
open Go.RowKit Go.Shelf

theorem own_ne {W : World} {base n b : Nat} {v : Value} {xs : List Value} {cs : Array Value} (h : W.ownsRow base 47 3 v n xs) (hc : Cells W b 47 cs) (hs : cs.size = 3) (hn : 2 ≤ n) : v.ownBlock ≠ some b := by
  intro e
  rcases h.2 with ⟨rfl, h0⟩ | ⟨g, cap, cur, rfl, _, hg, h1, h2, h3, _⟩
  · cases e
  · cases e
    have h4 := hc
    unfold Cells at h4
    rw [h4] at hg
    injection hg with hg
    injection hg with hg
    subst hg
    omega
theorem AccM.set {w W : World} {v : Value} {fvs : List Value} {its : List It} {b : Nat} {cs : Array Value} (h : AccM w W v fvs its) (i : Nat) (hc : Cells W b 47 cs) (hne : v.ownBlock ≠ some b) (hb : w.heap.size ≤ b) (x : Value) : AccM w (W.setCell ⟨b, i, none⟩ x) v fvs its := by
  refine ⟨row_cell (p := ⟨b, i, none⟩) h.row hne x, h.len, fun j y s hy hs => row_cell (p := ⟨b, i, none⟩) (h.each j y s hy hs) (fun e => ?_) x, h.below.setCell (p := ⟨b, i, none⟩) hb x⟩
  rcases (h.each j y s hy hs).2 with ⟨rfl, _⟩ | ⟨g, cap, cur, rfl, _, hg, _⟩
  · cases e
  · cases e
    have h4 := hc
    unfold Cells at h4
    rw [h4] at hg
    injection hg with hg
    injection hg with _ h2 _
    exact absurd h2 (by decide)
theorem held_alloc {w w' : World} {o : Obj} (h : Below w.heap.size w w') : Below w.heap.size w (w'.alloc o) := h.alloc h.size o
theorem held_call {w w' w'' : World} (h : Below w.heap.size w w') (h2 : Below w'.heap.size w' w'') : Below w.heap.size w w'' := h.trans (h2.mono h.size)
theorem grown_cells {W w3 : World} {o : Option Nat} {b : Nat} {t : TypeId} {cs : Array Value} (hc : Cells W b t cs) (hg : W.grownBy w3 o) (hne : o ≠ some b) : Cells w3 b t cs :=
  (hg.block b hc.lt (fun e => hne (by first | exact e | exact e.symm))).trans hc
theorem row_ne {W : World} {base n : Nat} {e : TypeId} {sz : Nat} {v : Value} {xs : List Value} (h : W.ownsRow base e sz v n xs) : v.ownBlock ≠ some W.heap.size := fun q => by have := (h.lt _ q).2; omega
set_option maxRecDepth 100000 in
set_option maxHeartbeats 8000000 in
theorem apart_any (its : List It) (v : Value) (w : World) (h : Its w v its) (hnil : NilI w v its) (hn : its.length ≤ 100000) (hf : ∀ it ∈ its, it.fields.length ≤ 1000000) :
    Calls Tryz.prog 103 #[v] w fun e w' => ∃ u fvs, e = .returned u ∧ AccM w w' u fvs (apartL its) := by
  obtain ⟨i0, hi, hz0, hz1, hz2⟩ := info_parts infoItem
  have HN := Lib.hid hnil
  obtain ⟨A, cap, rfl, hle, hc⟩ := h
  have HC := Lib.hid hc
  have HFS := Lib.hid hf
  clear hc hf hnil
  go_enter Tryz.func103, Tryz.ntmps103
  go_wp2_with fail
  go_loopw [3, 8] (fun u i wr => ∃ (k : Nat) (fvs : List Value), k ≤ its.length ∧ i = .int .i64 k ∧ AccM w wr u fvs (apartL (its.take k))) (fun _ i _ => its.length - (intOf i).toNat)
  case atStart => exact ⟨0, [], Nat.zero_le _, rfl, AccM.start w⟩
  case round =>
    obtain ⟨k, fvs, hk, rfl, hacc⟩ := hrel
    by_cases hlt : k < its.length
    · obtain ⟨it, hit⟩ : ∃ it, its[k]? = some it := ⟨_, List.getElem?_eq_getElem hlt⟩
      obtain ⟨b, off, fv, rfl, hbb, c0, c1, c2, hfl⟩ := HC.out k it hit
      have NI : Hid (∀ n c, fv = .slice none n c → c = 0) := fun n c e => HN.out k b off _ cap n c rfl hlt (by rw [c2, e])
      obtain ⟨fa, fc, rfl, _, _⟩ := id hfl
      have nf := HFS.out it (List.mem_of_getElem? hit)
      have hb := hacc.below
      have hzw := hb.size
      have al := apart_len (its.take k)
      rw [List.length_take] at al
      have SN := apart_snoc its k it hit
      have HFL := Lib.hid hfl
      replace c0 := (hb.cell (p := ⟨b, off + k * 3, none⟩) hbb).trans c0
      replace c1 := (hb.cell (p := ⟨b, off + k * 3 + 1, none⟩) hbb).trans c1
      replace c2 := (hb.cell (p := ⟨b, off + k * 3 + 1 + 1, none⟩) hbb).trans c2
      obtain ⟨gap, hgap⟩ : ∃ gap : Bool, (lastF false (its.take k) && it.kind != 1) = gap := ⟨_, rfl⟩
      have SN2 : Hid (apartL (its.take (k + 1)) = (apartL (its.take k) ++ if gap = true then [⟨1, [10], []⟩] else []) ++ [it]) := by
        show _ = _
        rw [SN, ← hgap]
        simp
      have PV : Hid (0 < k → ∃ (jt : It) (ga : Option Addr) (gc : Nat), (∀ W, Below w.heap.size w W → W.cell? ⟨b, off + (k - 1) * 3, none⟩ = some (.int .i64 jt.kind) ∧ W.cell? ⟨b, off + (k - 1) * 3 + 1, none⟩ = some (.string (B jt.raw)) ∧ W.cell? ⟨b, off + (k - 1) * 3 + 1 + 1, none⟩ = some (.slice ga jt.fields.length gc)) ∧ gap = (jt.kind != 1 && it.kind != 1)) := by
        intro hj
        obtain ⟨jt, hjt⟩ : ∃ jt, its[k - 1]? = some jt := ⟨_, List.getElem?_eq_getElem (by omega)⟩
        obtain ⟨b', off', fv', e, hbb', d0, d1, d2, hfj⟩ := HC.out (k - 1) jt hjt
        cases e
        obtain ⟨ga, gc, rfl, _, _⟩ := id hfj
        refine ⟨jt, ga, gc, fun W hW => ⟨(hW.cell (p := ⟨b, off + (k - 1) * 3, none⟩) hbb').trans d0, (hW.cell (p := ⟨b, off + (k - 1) * 3 + 1, none⟩) hbb').trans d1, (hW.cell (p := ⟨b, off + (k - 1) * 3 + 1 + 1, none⟩) hbb').trans d2⟩, ?_⟩
        have := lastF_at its (k - 1) jt hjt
        rw [show k - 1 + 1 = k by omega] at this
        rw [← hgap, this]
      have P0 : Hid (k = 0 → gap = false) := by
        intro h; rw [← hgap, h]; rfl
      have PG : Hid (gap = true → 1 ≤ (apartL (its.take k)).length) := by
        intro h
        have : k ≠ 0 := fun e => by rw [P0.out e] at h; cases h
        have h2 := apart_snoc its (k - 1) (its[k - 1]'(by omega)) (List.getElem?_eq_getElem (by omega))
        rw [show k - 1 + 1 = k by omega] at h2
        rw [h2, List.length_append]; simp
      have ACC0 := Lib.hid hacc
      obtain ⟨ua, uc, hue, _⟩ := own_slice hacc.row
      subst hue
      have BX := Lib.hid (Cells.new wr 47 #[.int .i64 it.kind, .string (B it.raw), .slice fa it.fields.length fc])
      have hba : Below wr.heap.size wr (wr.alloc (.cells #[.int .i64 it.kind, .string (B it.raw), .slice fa it.fields.length fc] 47)) := (Below.refl _ _).alloc (Nat.le_refl _) _
      have NE0 := Lib.hid (row_ne hacc.row)
      clear hacc hit hfl SN hgap
      generalize hap : apartL (its.take k) = ap at *
      clear hap
      go_upto_region 5 with fail
      have hzwb : (wr.alloc (.cells #[.int .i64 it.kind, .string (B it.raw), .slice fa it.fields.length fc] 47)).heap.size = wr.heap.size + 1 := by simp
      generalize wr.alloc (.cells #[.int .i64 it.kind, .string (B it.raw), .slice fa it.fields.length fc] 47) = wb at *
      go_cut [23] (fun c wx => c = .bool gap ∧ Below wb.heap.size wb wx)
      case first =>
        rcases Nat.eq_zero_or_pos k with h0 | h0
        · have hg := P0.out h0
          have hk0 : ¬ (0 < k) := by omega
          clear h0
          go_wp2_with (go_quiet (fail))
          go_meet
          exact ⟨by rw [hg], by first | exact Below.refl _ _ | exact drewN_below (Below.refl _ _) _⟩
        · obtain ⟨jt, ga, gc, dd, hg⟩ := PV.out h0
          have hbw : Below w.heap.size w wb := hb.trans (hba.mono hzw)
          have HS := Lib.hid (show ∀ W, Below wb.heap.size wb W → (Below wb.heap.size wb W ∧ W.cell? ⟨b, off + (k - 1) * 3, none⟩ = some (.int .i64 jt.kind) ∧ W.cell? ⟨b, off + (k - 1) * 3 + 1, none⟩ = some (.string (B jt.raw)) ∧ W.cell? ⟨b, off + (k - 1) * 3 + 1 + 1, none⟩ = some (.slice ga jt.fields.length gc) ∧ W.cell? ⟨wr.heap.size, 0, none⟩ = some (.int .i64 it.kind) ∧ W.cell? ⟨wr.heap.size, 1, none⟩ = some (.string (B it.raw)) ∧ W.cell? ⟨wr.heap.size, 2, none⟩ = some (.slice fa it.fields.length fc)) from fun W hB =>
            have hW := dd W (hbw.trans (hB.mono hbw.size))
            have hX := cells_kept BX.out hB (by omega)
            ⟨hB, hW.1, hW.2.1, hW.2.2, hX.cell 0, hX.cell 1, hX.cell 2⟩)
          have TO := Lib.hid (fun W => touch_any jt.kind it.kind (.string (B jt.raw)) (.string (B it.raw)) (.slice ga jt.fields.length gc) (.slice fa it.fields.length fc) rfl W _ _ _ _ _ _ _ _ rfl rfl rfl rfl)
          have HG := Lib.hid hg
          obtain ⟨m, rfl⟩ : ∃ m, k = m + 1 := ⟨k - 1, by omega⟩
          rw [show m + 1 - 1 = m by omega] at HS
          have hki : (0 : Int) ≤ (m : Int) := by omega
          have hki2 : (m : Int) < (its.length : Int) := by omega
          have hki3 : m < its.length := by omega
          have hki4 : IntKind.i64.wrap (((m + 1 : Nat) : Int) - 1) = (m : Int) := by rw [show ((m + 1 : Nat) : Int) - 1 = (m : Int) by omega]; exact IntWalk.i64_in _ (by omega)
          have hki5 : IntKind.i64.wrap (m : Int) = (m : Int) := IntWalk.i64_in _ (by omega)
          have hki6 : IntKind.i64.wrap ((m : Int) + 1 - 1) = (m : Int) := by rw [show (m : Int) + 1 - 1 = (m : Int) by omega]; exact hki5
          clear hg dd c0 c1 c2 hbw
          go_region_held3 (fun W => Below wb.heap.size wb W ∧ W.cell? ⟨b, off + m * 3, none⟩ = some (.int .i64 jt.kind) ∧ W.cell? ⟨b, off + m * 3 + 1, none⟩ = some (.string (B jt.raw)) ∧ W.cell? ⟨b, off + m * 3 + 1 + 1, none⟩ = some (.slice ga jt.fields.length gc) ∧ W.cell? ⟨wr.heap.size, 0, none⟩ = some (.int .i64 it.kind) ∧ W.cell? ⟨wr.heap.size, 1, none⟩ = some (.string (B it.raw)) ∧ W.cell? ⟨wr.heap.size, 2, none⟩ = some (.slice fa it.fields.length fc)) ((refine HS.out _ ?_; repeat (first | exact Below.refl _ _ | assumption | (refine Below.drew ?_) | (refine held_alloc ?_) | (refine held_call ?_ (by assumption))))) ((go_at_call 136; refine (TO.out _).mono ?_; rintro e w5 ⟨rfl, hb5⟩))
          all_goals go_wp2_with fail
          all_goals go_meet
          all_goals exact ⟨by rw [HG.out], by repeat (first | exact Below.refl _ _ | assumption | (refine Below.drew ?_) | (refine held_alloc ?_) | (refine held_call ?_ (by assumption)))⟩
      case rest =>
        obtain ⟨rfl, hcb⟩ := hcut
        have hcz := hcb.size
        have hrc : Below wr.heap.size wr wc := hba.trans (hcb.mono (by omega))
        have BXY : Hid (Cells wc wr.heap.size 47 #[.int .i64 it.kind, .string (B it.raw), .slice fa it.fields.length fc]) := cells_kept BX.out hcb (by omega)
        have ACC := Lib.hid (ACC0.out.kept hrc)
        have HNE := NE0
        clear PV P0 HC BX ACC0 hcb hba c0 c1 c2 NE0 hb HN HFS
        obtain ⟨j, hjk⟩ : ∃ j, j = k := ⟨k, rfl⟩
        subst hjk
        cases gap with
        | false =>
          have SNH : Hid (apartL (its.take (j + 1)) = ap ++ [it]) := by
            show _ = _
            rw [SN2.out, if_neg (by decide), List.append_nil]
          clear SN2 PG
          have hby := ACC.out.below
          have hzy := hby.size
          have FLy := HFL.out.below hby (Nat.le_refl _)
          have CO := Lib.hid (clone_any it.fields _ wc FLy NI.out nf)
          have lby := BXY.out.lt
          have d2 : wc.cell? ⟨wr.heap.size, 2, none⟩ = some (.slice fa it.fields.length fc) := BXY.out.cell 2
          clear FLy
          go_wp2_with fail
          refine CO.out.mono ?_
          rintro e w3 ⟨x, rfl, hx, b3⟩
          obtain ⟨xa, xc, hxe, _⟩ := own_slice hx
          subst hxe
          have bx3 := cells_kept BXY.out b3 lby
          have hz3 := b3.size
          have hb3 := hby.trans (b3.mono hzy)
          have d2' : w3.cell? ⟨wr.heap.size, 2, none⟩ = some (.slice fa it.fields.length fc) := bx3.cell 2
          have f2' := bx3.frozen 2
          have lz3 := bx3.lt
          have hb4 : Below w.heap.size w (w3.setCell ⟨wr.heap.size, 2, none⟩ (.slice xa it.fields.length xc)) := hb3.setCell (p := ⟨wr.heap.size, 2, none⟩) hzw _
          have hacc4 := (ACC.out.kept b3).set 2 bx3 HNE.out hzw (.slice xa it.fields.length xc)
          have hx4 : (w3.setCell ⟨wr.heap.size, 2, none⟩ (.slice xa it.fields.length xc)).ownsRow w.heap.size 73 2 (.slice xa it.fields.length xc) it.fields.length (cellsF it.fields) :=
            row_cell (p := ⟨wr.heap.size, 2, none⟩) (rowBase hx (by omega)) (fun e => by have h9 : wc.heap.size ≤ wr.heap.size := (hx.lt _ e).1; omega) _
          have bx4 : Cells (w3.setCell ⟨wr.heap.size, 2, none⟩ (.slice xa it.fields.length xc)) wr.heap.size 47 #[.int .i64 it.kind, .string (B it.raw), .slice xa it.fields.length xc] := by
            simpa using bx3.set 2 (.slice xa it.fields.length xc)
          have e0 : (w3.setCell ⟨wr.heap.size, 2, none⟩ (.slice xa it.fields.length xc)).cell? ⟨wr.heap.size, 0, none⟩ = some (.int .i64 it.kind) := bx4.cell 0
          have e1 : (w3.setCell ⟨wr.heap.size, 2, none⟩ (.slice xa it.fields.length xc)).cell? ⟨wr.heap.size, 1, none⟩ = some (.string (B it.raw)) := bx4.cell 1
          have e2 : (w3.setCell ⟨wr.heap.size, 2, none⟩ (.slice xa it.fields.length xc)).cell? ⟨wr.heap.size, 2, none⟩ = some (.slice xa it.fields.length xc) := bx4.cell 2
          have hrow := hacc4.row
          have hz14 := hacc4.below.size
          have HACC := Lib.hid hacc4
          have HX := Lib.hid hx4
          have hv := cells_new_add (w3.setCell ⟨wr.heap.size, 2, none⟩ (.slice xa it.fields.length xc)) 47 [.int .i64 it.kind, .string (B it.raw), .slice xa it.fields.length xc]
          rw [show (w3.setCell ⟨wr.heap.size, 2, none⟩ (.slice xa it.fields.length xc)).heap.size = w3.heap.size by simp [World.setCell]] at hv hz14
          have HV := Lib.hid hv
          clear hv
          clear hacc4 hx4 hx bx3 bx4 CO b3 BXY ACC
          go_wp2_with (at_builtin; refine wpList_append_own _ rfl _ _ 55 rfl w.heap.size 47 i0 _ 3 48 Tryz.underlying55 hi hz0 hz1 hz2 rfl (by decide) _ _ _ rfl (hrow.alloc _) ⟨w3.heap.size, 0, none⟩ 1 1 _ rfl rfl HV.out (by intro u hu; simp at hu; rcases hu with rfl | rfl | rfl <;> rfl) (by unfold maxLen; omega) (by omega) (by first | omega | (simp only [World.size_alloc]; omega) | (simp [World.setCell]; omega)) ?_)
          intro v' w5 hown' hgrow _
          have hacc5 := HACC.out.snoc HX.out hown' _ hgrow
          obtain ⟨g', cap5, rfl⟩ := ownsRow_succ hown'
          go_wp2_with fail
          go_roundw
          case rel => exact ⟨j + 1, _, hlt, by go_num, by rw [SNH.out]; exact hacc5⟩
          case measure => simp [intOf]; omega
        | true =>
          have SNH : Hid (apartL (its.take (j + 1)) = (ap ++ [⟨1, [10], []⟩]) ++ [it]) := by
            show _ = _
            rw [SN2.out, if_pos rfl]
          have hap1 := PG.out rfl
          clear SN2 PG
          have HV0 := Lib.hid (cells_new_add wc 47 [.int .i64 1, .string ⟨#[10]⟩, .slice none 0 0])
          have hrow0 := ACC.out.row
          have hzc := ACC.out.below.size
          go_wp2_with (at_builtin; refine wpList_append_own _ rfl _ _ 55 rfl w.heap.size 47 i0 _ 3 48 Tryz.underlying55 hi hz0 hz1 hz2 rfl (by decide) _ _ _ rfl (hrow0.alloc _) ⟨wc.heap.size, 0, none⟩ 1 1 _ rfl rfl HV0.out (by intro u hu; simp at hu; rcases hu with rfl | rfl | rfl <;> rfl) (by unfold maxLen; omega) (by omega) (by first | omega | (simp only [World.size_alloc]; omega) | (simp [World.setCell]; omega)) ?_)
          intro v4 w4 hown4 hgrow4 _
          have hacc4 := ACC.out.snoc (it := ⟨1, [10], []⟩) (x := .slice none 0 0) ⟨rfl, .inl ⟨rfl, rfl⟩⟩ hown4 _ hgrow4
          have BX4 := grown_cells (BXY.out.alloc _) hgrow4 HNE.out
          have HN4 := own_ne hown4 BX4 rfl (by omega)
          obtain ⟨g4, cap4, rfl⟩ := ownsRow_succ hown4
          have hlen4 : (ap ++ [(⟨1, [10], []⟩ : It)]).length = ap.length + 1 := by simp
          have HLEN := Lib.hid hlen4
          clear ACC hgrow4 hown4 hrow0 HV0 BXY HNE hlen4
          have ACC := Lib.hid hacc4
          have BXY := Lib.hid BX4
          have HNE := Lib.hid HN4
          clear hacc4 BX4 HN4
          have hby := ACC.out.below
          have hzy := hby.size
          have FLy := HFL.out.below hby (Nat.le_refl _)
          have CO := Lib.hid (clone_any it.fields _ w4 FLy NI.out nf)
          have lby := BXY.out.lt
          have d2 : w4.cell? ⟨wr.heap.size, 2, none⟩ = some (.slice fa it.fields.length fc) := BXY.out.cell 2
          clear FLy
          go_wp2_with fail
          refine CO.out.mono ?_
          rintro e w3 ⟨x, rfl, hx, b3⟩
          obtain ⟨xa, xc, hxe, _⟩ := own_slice hx
          subst hxe
          have bx3 := cells_kept BXY.out b3 lby
          have hz3 := b3.size
          have hb3 := hby.trans (b3.mono hzy)
          have d2' : w3.cell? ⟨wr.heap.size, 2, none⟩ = some (.slice fa it.fields.length fc) := bx3.cell 2
          have f2' := bx3.frozen 2
          have lz3 := bx3.lt
          have hb4 : Below w.heap.size w (w3.setCell ⟨wr.heap.size, 2, none⟩ (.slice xa it.fields.length xc)) := hb3.setCell (p := ⟨wr.heap.size, 2, none⟩) hzw _
          have hacc4 := (ACC.out.kept b3).set 2 bx3 HNE.out hzw (.slice xa it.fields.length xc)
          have hx4 : (w3.setCell ⟨wr.heap.size, 2, none⟩ (.slice xa it.fields.length xc)).ownsRow w.heap.size 73 2 (.slice xa it.fields.length xc) it.fields.length (cellsF it.fields) :=
            row_cell (p := ⟨wr.heap.size, 2, none⟩) (rowBase hx (by omega)) (fun e => by have h9 : w4.heap.size ≤ wr.heap.size := (hx.lt _ e).1; omega) _
          have bx4 : Cells (w3.setCell ⟨wr.heap.size, 2, none⟩ (.slice xa it.fields.length xc)) wr.heap.size 47 #[.int .i64 it.kind, .string (B it.raw), .slice xa it.fields.length xc] := by
            simpa using bx3.set 2 (.slice xa it.fields.length xc)
          have e0 : (w3.setCell ⟨wr.heap.size, 2, none⟩ (.slice xa it.fields.length xc)).cell? ⟨wr.heap.size, 0, none⟩ = some (.int .i64 it.kind) := bx4.cell 0
          have e1 : (w3.setCell ⟨wr.heap.size, 2, none⟩ (.slice xa it.fields.length xc)).cell? ⟨wr.heap.size, 1, none⟩ = some (.string (B it.raw)) := bx4.cell 1
          have e2 : (w3.setCell ⟨wr.heap.size, 2, none⟩ (.slice xa it.fields.length xc)).cell? ⟨wr.heap.size, 2, none⟩ = some (.slice xa it.fields.length xc) := bx4.cell 2
          have hrow := hacc4.row
          rw [HLEN.out] at hrow
          have hz14 := hacc4.below.size
          have HACC := Lib.hid hacc4
          have HX := Lib.hid hx4
          have hv := cells_new_add (w3.setCell ⟨wr.heap.size, 2, none⟩ (.slice xa it.fields.length xc)) 47 [.int .i64 it.kind, .string (B it.raw), .slice xa it.fields.length xc]
          rw [show (w3.setCell ⟨wr.heap.size, 2, none⟩ (.slice xa it.fields.length xc)).heap.size = w3.heap.size by simp [World.setCell]] at hv hz14
          have HV := Lib.hid hv
          clear hv
          clear hacc4 hx4 hx bx3 bx4 CO b3 BXY ACC
          go_wp2_with (at_builtin; refine wpList_append_own _ rfl _ _ 55 rfl w.heap.size 47 i0 _ 3 48 Tryz.underlying55 hi hz0 hz1 hz2 rfl (by decide) _ _ _ rfl (hrow.alloc _) ⟨w3.heap.size, 0, none⟩ 1 1 _ rfl rfl HV.out (by intro u hu; simp at hu; rcases hu with rfl | rfl | rfl <;> rfl) (by unfold maxLen; omega) (by omega) (by first | omega | (simp only [World.size_alloc]; omega) | (simp [World.setCell]; omega)) ?_)
          intro v' w5 hown' hgrow _
          have hacc5 := HACC.out.snoc HX.out (by rw [HLEN.out]; exact hown') _ hgrow
          obtain ⟨g', cap5, rfl⟩ := ownsRow_succ hown'
          go_wp2_with fail
          go_roundw
          case rel => exact ⟨j + 1, _, hlt, by go_num, by rw [SNH.out]; exact hacc5⟩
          case measure => simp [intOf]; omega
    · obtain rfl : k = its.length := by omega
      rw [List.take_length] at hacc
      clear HC HN HFS
      go_wp2_with fail
      go_ret
      exact ⟨_, fvs, rfl, hacc⟩
end Go.Proofs.YtiebbgbcojgeoaaGreatDoor
/- Render; the document's item, render and plain; the laws' fixed fact. -/
namespace Go.Proofs.YtiebbgbcojgeoaaGreatDoor
open Go.RowKit Go.Shelf

theorem apart_raw {its : List It} {n : Nat} (h : ∀ it ∈ its, it.raw.length ≤ n) (hn : 1 ≤ n) : ∀ it ∈ apartL its, it.raw.length ≤ n := by
  intro it hi
  rcases apart_mem hi with h1 | rfl
  · exact h it h1
  · exact hn
theorem apart_fields {its : List It} {n : Nat} (h : ∀ it ∈ its, it.fields.length ≤ n) : ∀ it ∈ apartL its, it.fields.length ≤ n := by
  intro it hi
  rcases apart_mem hi with h1 | rfl
  · exact h it h1
  · exact Nat.zero_le _
set_option maxRecDepth 100000 in
set_option maxHeartbeats 4000000 in
theorem render_any (its : List It) (v : Value) (w : World) (h : Its w v its) (hnil : NilI w v its) (hn : its.length ≤ 10000) (hf : ∀ it ∈ its, it.fields.length ≤ 1000000) (hr : ∀ it ∈ its, it.raw.length ≤ 100000) :
    Calls Tryz.prog 68 #[v] w fun e w' => e = .returned (.string (B ((apartL its).flatMap It.raw))) ∧ Below w.heap.size w w' := by
  have AP := Lib.hid (apart_any its v w h hnil (by omega) hf)
  have RW := Lib.hid (apart_raw hr (by decide))
  have al := apart_len its
  obtain ⟨A, cap, rfl, hle, _⟩ := id h
  clear h hnil hf hr
  go_enter Tryz.func68, Tryz.ntmps68
  go_wp2_with fail
  refine AP.out.mono ?_
  rintro e w1 ⟨u, fvs, rfl, acc⟩
  obtain ⟨ua, uc, hue, _⟩ := own_slice acc.row
  subst hue
  have b1 := acc.below
  have hz1 := b1.size
  have J := Lib.hid (join_any (apartL its) _ w1 acc.its (by omega) RW.out)
  clear AP acc
  go_wp2_with fail
  refine J.out.mono ?_
  rintro e w2 ⟨rfl, b2⟩
  have hb2 := b1.trans (b2.mono hz1)
  go_wp2_with fail
  go_ret
  exact ⟨rfl, hb2⟩
set_option maxRecDepth 100000 in
set_option maxHeartbeats 4000000 in
theorem refRender_any (its : List It) (v : Value) (w : World) (h : Its w v its) (hn : its.length ≤ 10000) (hr : ∀ it ∈ its, it.raw.length ≤ 100000) :
    Calls Tryz.prog 99 #[v] w fun e w' => e = .returned (.string (B ((apartL its).flatMap It.raw))) ∧ Below w.heap.size w w' := by
  have AP := Lib.hid (refApart_any its v w h (by omega))
  have RW := Lib.hid (apart_raw hr (by decide))
  have al := apart_len its
  obtain ⟨A, cap, rfl, hle, _⟩ := id h
  clear h hr
  go_enter Tryz.func99, Tryz.ntmps99
  go_wp2_with fail
  refine AP.out.mono ?_
  rintro e w1 ⟨u, fvs, rfl, acc⟩
  obtain ⟨ua, uc, hue, _⟩ := own_slice acc.row
  subst hue
  have b1 := acc.below
  have hz1 := b1.size
  have J := Lib.hid (refJoin_any (apartL its) _ w1 acc.its (by omega) RW.out)
  clear AP acc
  go_wp2_with fail
  refine J.out.mono ?_
  rintro e w2 ⟨rfl, b2⟩
  have hb2 := b1.trans (b2.mono hz1)
  go_wp2_with fail
  go_ret
  exact ⟨rfl, hb2⟩
set_option maxRecDepth 100000 in
theorem ret_i1 {fn : Func} {p : Tmp} (h : fn.results = #[.cell p 47]) (tmps : Array Value) (w : World) (b : Nat) (cur : Array Value) (hp : tmps.getD p undef = .pointer (some ⟨b, 0, none⟩))
    (hc : Cells w b 47 cur) (hz : cur.size = 3) : (results fn tmps).run Tryz.prog w = .ok (.agg cur) w := by
  have L := run_loadVar_row (P := Tryz.prog) w b 47 47 cur (0, 0) _ hc Tryz.underlying47 rfl (by rw [hz]; kernel_rfl)
  rw [results_cell1 h, hp]
  show (loadVar _ _).run _ _ = _
  exact L
set_option maxRecDepth 100000 in
set_option maxHeartbeats 4000000 in
theorem refItem_any (fs : List Fld) (A : Option Addr) (n cap : Nat) (w : World) (hs : Flds w (.slice A n cap) fs) (hn : fs.length ≤ 1000) (hl : ∀ f ∈ fs, f.1.length ≤ 100000 ∧ f.2.length ≤ 100000) :
    Calls Tryz.prog 97 #[.slice A n cap] w fun e w' => e = .returned (.agg #[.int .i64 3, .string (B (foldG fs)), .slice A n cap]) ∧ Below w.heap.size w w' := by
  have hba : Below w.heap.size w (w.alloc (.cells #[.int .i64 0, .string ⟨#[]⟩, .slice none 0 0] 47)) := (Below.refl _ _).alloc (Nat.le_refl _) _
  have hza : (w.alloc (.cells #[.int .i64 0, .string ⟨#[]⟩, .slice none 0 0] 47)).heap.size = w.heap.size + 1 := by simp
  have RF := Lib.hid (refFold_any fs _ _ (hs.below hba (Nat.le_refl _)) hn hl)
  have BX := Lib.hid (Cells.new w 47 #[.int .i64 0, .string ⟨#[]⟩, .slice none 0 0])
  clear hs hl
  generalize foldG fs = T at *
  go_enter Tryz.func97, Tryz.ntmps97
  go_wp2_with fail
  refine RF.out.mono ?_
  rintro e w2 ⟨rfl, b2⟩
  have R2 := cells_kept BX.out b2 (by omega)
  have hb2 : Below w.heap.size w w2 := hba.trans (b2.mono (by omega))
  have hz2 := b2.size
  have c0 := R2.cell 0
  have c1 := R2.cell 1
  have c2 := R2.cell 2
  have f0 := R2.frozen 0
  have f1 := R2.frozen 1
  have f2 := R2.frozen 2
  simp only [List.getElem?_toArray, List.getElem?_cons_zero, List.getElem?_cons_succ] at c0 c1 c2
  have RE := ((R2.set 0 (.int .i64 3)).set 1 (.string (B T))).set 2 (.slice A n cap)
  rw [set3] at RE
  have HB : Below w.heap.size w (((w2.setCell ⟨w.heap.size, 0, none⟩ (.int .i64 3)).setCell ⟨w.heap.size, 1, none⟩ (.string (B T))).setCell ⟨w.heap.size, 2, none⟩ (.slice A n cap)) :=
    ((hb2.setCell (p := ⟨w.heap.size, 0, none⟩) (Nat.le_refl _) _).setCell (p := ⟨w.heap.size, 1, none⟩) (Nat.le_refl _) _).setCell (p := ⟨w.heap.size, 2, none⟩) (Nat.le_refl _) _
  have HBH := Lib.hid HB
  clear hb2 b2 RF HB
  go_wp2_with fail
  refine bodyPost_ret (ret_i1 rfl _ _ w.heap.size _ rfl RE rfl) rfl ?_
  exact ⟨rfl, HBH.out⟩
theorem joinT_two : joinT [[([65], [49])], [([66], [50])]] = [65, 58, 32, 49, 10, 10, 66, 58, 32, 50, 10] := by kernel_rfl
theorem badR_two : badR [[([65], [49])], [([66], [50])]] = none := by kernel_rfl
theorem rws_two (w : World) : Rws (((w.alloc (.cells #[.string (B [65]), .string (B [49])] 73)).alloc (.cells #[.string (B [66]), .string (B [50])] 73)).alloc (.cells #[.slice (some ⟨w.heap.size, 0, none⟩) 1 1, .slice (some ⟨w.heap.size + 1, 0, none⟩) 1 1] 36)) (.slice (some ⟨w.heap.size + 1 + 1, 0, none⟩) 2 2) [[([65], [49])], [([66], [50])]] := by
  have f1 := Flds.one w 73 [65] [49]
  have f2 := Flds.one (w.alloc (.cells #[.string (B [65]), .string (B [49])] 73)) 73 [66] [50]
  rw [World.size_alloc] at f2
  have b1 : Below (w.alloc (.cells #[.string (B [65]), .string (B [49])] 73)).heap.size (w.alloc (.cells #[.string (B [65]), .string (B [49])] 73)) (((w.alloc (.cells #[.string (B [65]), .string (B [49])] 73)).alloc (.cells #[.string (B [66]), .string (B [50])] 73)).alloc (.cells #[.slice (some ⟨w.heap.size, 0, none⟩) 1 1, .slice (some ⟨w.heap.size + 1, 0, none⟩) 1 1] 36)) := ((Below.refl _ _).alloc (Nat.le_refl _) _).alloc (by simp) _
  have b2 : Below ((w.alloc (.cells #[.string (B [65]), .string (B [49])] 73)).alloc (.cells #[.string (B [66]), .string (B [50])] 73)).heap.size ((w.alloc (.cells #[.string (B [65]), .string (B [49])] 73)).alloc (.cells #[.string (B [66]), .string (B [50])] 73)) (((w.alloc (.cells #[.string (B [65]), .string (B [49])] 73)).alloc (.cells #[.string (B [66]), .string (B [50])] 73)).alloc (.cells #[.slice (some ⟨w.heap.size, 0, none⟩) 1 1, .slice (some ⟨w.heap.size + 1, 0, none⟩) 1 1] 36)) := (Below.refl _ _).alloc (Nat.le_refl _) _
  refine ⟨_, 2, rfl, Nat.le_refl _, fun i r h => ?_⟩
  match i, h with
  | 0, h =>
    simp at h; subst h
    exact ⟨_, 0, _, rfl, by simp, by rw [World.cell?_alloc_at _ _ _ _ (by simp)]; rfl, f1.below b1 (Nat.le_refl _)⟩
  | 1, h =>
    simp at h; subst h
    exact ⟨_, 0, _, rfl, by simp, by rw [World.cell?_alloc_at _ _ _ _ (by simp)]; rfl, f2.below b2 (Nat.le_refl _)⟩
  | n + 2, h => simp at h
end Go.Proofs.YtiebbgbcojgeoaaGreatDoor
/- An entry's item; Items, Text, Raw, Get, gap. -/
namespace Go.Proofs.YtiebbgbcojgeoaaGreatDoor
open Go.RowKit Go.Shelf
attribute [local go_sem] Oper.semAt_some

/-- What is asked of entries: how long they are. -/
structure EntsOk (ps : List Pr) : Prop where
  len : ps.length ≤ 10000
  raw : ∀ p ∈ ps, p.1.1.raw.length ≤ 100000
  fields : ∀ p ∈ ps, p.1.1.fields.length ≤ 1000000
  num : ∀ p ∈ ps, -1000000 ≤ p.1.2 ∧ p.1.2 ≤ 1000000
set_option maxRecDepth 100000 in
theorem ret_item {fn : Func} {p : Tmp} (h : fn.results = #[.cell p 47]) (tmps : Array Value) (w : World) (b : Nat) (cur : Array Value) (hp : tmps.getD p undef = .pointer (some ⟨b, 0, none⟩))
    (hc : Cells w b 47 cur) (hz : cur.size = 3) : (results fn tmps).run Tryz.prog w = .ok (.agg cur) w := ret_i1 h tmps w b cur hp hc hz
set_option maxRecDepth 100000 in
set_option maxHeartbeats 4000000 in
theorem item7_any (p : Pr) (w : World) (h : FldR w p.2 p.1.1.fields) (hn : p.1.1.fields.length ≤ 1000000) :
    Calls Tryz.prog 74 #[entV p] w fun e w' => ∃ x, e = .returned (.agg #[.int .i64 p.1.1.kind, .string (B p.1.1.raw), x]) ∧ w'.ownsRow w.heap.size 73 2 x p.1.1.fields.length (cellsF p.1.1.fields) ∧ Below w.heap.size w w' := by
  obtain ⟨⟨⟨kd, raw, fs⟩, num⟩, fv⟩ := p
  dsimp only at h hn ⊢
  obtain ⟨fa, fc, rfl⟩ := h.form
  unfold entV
  dsimp only
  generalize B raw = rw_ at *
  have hb3 : Below w.heap.size w (((w.alloc (.cells #[.int .i64 kd, .string rw_, .slice fa fs.length fc, .int .i64 num] 100)).alloc (.cells #[.int .i64 0, .string ⟨#[]⟩, .slice none 0 0] 47)).alloc (.cells #[.int .i64 kd, .string rw_, .slice fa fs.length fc] 47)) := (((Below.refl _ w).alloc (Nat.le_refl _) _).alloc (by simp) _).alloc (by simp; omega) _
  have CL := Lib.hid (clone_any fs (.slice fa fs.length fc) _ (h.1.below hb3 (Nat.le_refl _)) h.2 hn)
  have BX := Lib.hid (Cells.new ((w.alloc (.cells #[.int .i64 kd, .string rw_, .slice fa fs.length fc, .int .i64 num] 100)).alloc (.cells #[.int .i64 0, .string ⟨#[]⟩, .slice none 0 0] 47)) 47 #[.int .i64 kd, .string rw_, .slice fa fs.length fc])
  have BR := Lib.hid ((Cells.new (w.alloc (.cells #[.int .i64 kd, .string rw_, .slice fa fs.length fc, .int .i64 num] 100)) 47 #[.int .i64 0, .string ⟨#[]⟩, .slice none 0 0]).alloc (.cells #[.int .i64 kd, .string rw_, .slice fa fs.length fc] 47))
  have HB3 := Lib.hid hb3
  clear h hb3
  go_enter Tryz.func74, Tryz.ntmps74
  go_wp2_with fail
  refine CL.out.mono ?_
  rintro e w1 ⟨x, rfl, hx, b1⟩
  obtain ⟨xa, xc, rfl, _⟩ := own_slice hx
  have R1 := cells_kept BX.out b1 (by simp)
  have R2 := cells_kept BR.out b1 (by simp)
  rw [World.size_alloc, World.size_alloc] at R1
  rw [World.size_alloc] at R2
  have hz := b1.size
  simp only [World.size_alloc] at hz
  have c0 := R1.cell 0
  have c1 := R1.cell 1
  have c2 := R1.cell 2
  have f2 := R1.frozen 2
  have d0 := R2.cell 0
  have d1 := R2.cell 1
  have d2 := R2.cell 2
  have g0 := R2.frozen 0
  have g1 := R2.frozen 1
  have g2 := R2.frozen 2
  have HX := Lib.hid hx
  have hb1 := Lib.hid (HB3.out.trans (b1.mono HB3.out.size))
  have S1 := Lib.hid R1
  have S2 := Lib.hid R2
  simp only [List.getElem?_toArray, List.getElem?_cons_zero, List.getElem?_cons_succ] at c0 c1 c2 d0 d1 d2
  clear CL BX BR hx R1 R2 b1
  go_wp2_with fail
  have hne : ∀ k, k < w.heap.size + 3 → ∀ y : Value, (Value.slice xa fs.length xc).ownBlock ≠ some k := fun k hk y e => by
    have := (HX.out.lt k e).1
    simp at this
    omega
  have RE := (((S2.out.other (p := ⟨w.heap.size + 1 + 1, 2, none⟩) (by show w.heap.size + 1 ≠ w.heap.size + 1 + 1; omega) (.slice xa fs.length xc)).set 0 (.int .i64 kd)).set 1 (.string rw_)).set 2 (.slice xa fs.length xc)
  rw [set3] at RE
  refine bodyPost_ret (ret_item rfl _ _ (w.heap.size + 1) _ rfl RE rfl) rfl ?_
  refine ⟨_, rfl, rowBase (row_cell (row_cell (row_cell (row_cell HX.out ?_ _) ?_ _) ?_ _) ?_ _) (by simp; omega), ?_⟩
  · exact hne _ (by show w.heap.size + 1 + 1 < _; omega) undef
  · exact hne _ (by show w.heap.size + 1 < _; omega) undef
  · exact hne _ (by show w.heap.size + 1 < _; omega) undef
  · exact hne _ (by show w.heap.size + 1 < _; omega) undef
  · exact (((hb1.out.setCell (p := ⟨w.heap.size + 1 + 1, 2, none⟩) (by show w.heap.size ≤ w.heap.size + 1 + 1; omega) _).setCell (p := ⟨w.heap.size + 1, 0, none⟩) (by show w.heap.size ≤ w.heap.size + 1; omega) _).setCell (p := ⟨w.heap.size + 1, 1, none⟩) (by show w.heap.size ≤ w.heap.size + 1; omega) _).setCell (p := ⟨w.heap.size + 1, 2, none⟩) (by show w.heap.size ≤ w.heap.size + 1; omega) _
/-- The items of entries. -/
def itsP (ps : List Pr) : List It := ps.map fun p => p.1.1
theorem itsP_len (ps : List Pr) : (itsP ps).length = ps.length := by unfold itsP; simp
set_option maxRecDepth 100000 in
set_option maxHeartbeats 4000000 in
theorem items_gen (ps : List Pr) (v : Value) (q : Option Addr) (w : World) (hl : AllR w (.pointer q) v ps) (ok : EntsOk ps) :
    Calls Tryz.prog 30 #[.pointer q] w fun e w' => ∃ u fvs, e = .returned u ∧ AccM w w' u fvs (itsP ps) := by
  obtain ⟨i0, hi, hz0, hz1, hz2⟩ := info_parts infoItem
  have ALL := Lib.hid hl.2
  have HE := Lib.hid hl.1
  have HF := Lib.hid ok.fields
  have hlen := ok.len
  obtain ⟨A, cap, rfl, hle⟩ := hl.1.empty
  clear hl ok
  go_enter Tryz.func30, Tryz.ntmps30
  go_wp2_with fail
  refine ALL.out.mono ?_
  rintro e w1 ⟨rfl, rfl⟩
  go_wp2_with fail
  go_loopw [3, 9] (fun u i wr => ∃ (k : Nat) (fvs : List Value), k ≤ ps.length ∧ i = .int .i64 k ∧ AccM w wr u fvs (itsP (ps.take k))) (fun _ i _ => ps.length - (intOf i).toNat)
  case atStart => exact ⟨0, [], Nat.zero_le _, rfl, AccM.start w⟩
  case round =>
    obtain ⟨k, fvs, hk, rfl, hacc⟩ := hrel
    by_cases hlt : k < ps.length
    · obtain ⟨p, hp⟩ : ∃ p, ps[k]? = some p := ⟨_, List.getElem?_eq_getElem hlt⟩
      have hb := hacc.below
      have hE := HE.out.below hb (Nat.le_refl _)
      obtain ⟨g, cap', pa, pc, e1, _, hg, e2, d0, d1, d2, d3⟩ := hE.here hp
      cases e1
      have hfr := hE.each p (List.mem_of_getElem? hp)
      have hfn := HF.out p (List.mem_of_getElem? hp)
      rw [e2] at d2
      have hba := (Below.refl wr.heap.size wr).alloc (Nat.le_refl _) (.cells #[.int .i64 p.1.1.kind, .string (B p.1.1.raw), p.2, .int .i64 p.1.2] 100)
      have IT := item7_any p _ (hfr.below hba (Nat.le_refl _)) hfn
      unfold entV at IT
      rw [e2] at IT hba
      have IT := Lib.hid IT
      have ACC := Lib.hid (hacc.kept hba)
      have ITK := Lib.hid (show itsP (ps.take (k + 1)) = itsP (ps.take k) ++ [p.1.1] by unfold itsP; rw [List.take_add_one, hp]; simp)
      have hll : (itsP (ps.take k)).length = k := by unfold itsP; rw [List.length_map, List.length_take]; omega
      clear hacc hE hfr hp
      go_wp2_with fail
      refine IT.out.mono ?_
      rintro e w2 ⟨x, rfl, hx, b2⟩
      obtain ⟨xa, xc, rfl, _⟩ := own_slice hx
      have acc2 := ACC.out.kept b2
      have hx2 := rowBase hx (show w.heap.size ≤ _ by have := hb.size; simp; omega)
      have hrow := acc2.row
      rw [hll] at hrow
      have ACC2 := Lib.hid acc2
      have HX2 := Lib.hid hx2
      have HV := Lib.hid (cells_new_add w2 47 [.int .i64 p.1.1.kind, .string (B p.1.1.raw), .slice xa p.1.1.fields.length xc])
      clear IT ACC hx hx2 acc2 b2
      go_wp2_with (at_builtin; refine wpList_append_own _ rfl _ _ 55 rfl w.heap.size 47 i0 _ 3 48 Tryz.underlying55 hi hz0 hz1 hz2 rfl (by decide) _ _ _ rfl (hrow.alloc _) ⟨w2.heap.size, 0, none⟩ 1 1 _ rfl rfl HV.out ?c2 ?c3 ?c4 ?c5 ?_)
      case c2 => intro u hu; simp at hu; rcases hu with rfl | rfl | rfl <;> rfl
      case c3 => unfold maxLen; omega
      case c4 => omega
      case c5 => simp; have := ACC2.out.below.size; omega
      intro v' w3 hown' hgrow _
      have hacc3 := ACC2.out.snoc HX2.out (by rw [hll]; exact hown') _ hgrow
      obtain ⟨g', cap', rfl⟩ := ownsRow_succ hown'
      go_wp2_with fail
      go_roundw
      case rel => exact ⟨k + 1, _, hlt, by go_num, by rw [ITK.out]; exact hacc3⟩
      case measure => simp [intOf]; omega
    · obtain rfl : k = ps.length := by omega
      rw [List.take_length] at hacc
      clear HE HF ALL
      go_wp2_with fail
      go_ret
      exact ⟨_, fvs, rfl, hacc⟩
theorem itsP_raw {ps : List Pr} (ok : EntsOk ps) : ∀ it ∈ itsP ps, it.raw.length ≤ 100000 := by
  intro it h
  obtain ⟨p, hp, rfl⟩ := List.mem_map.1 h
  exact ok.raw p hp
theorem itsP_fields {ps : List Pr} (ok : EntsOk ps) : ∀ it ∈ itsP ps, it.fields.length ≤ 1000000 := by
  intro it h
  obtain ⟨p, hp, rfl⟩ := List.mem_map.1 h
  exact ok.fields p hp
set_option maxRecDepth 100000 in
set_option maxHeartbeats 4000000 in
theorem text_gen (ps : List Pr) (v : Value) (q : Option Addr) (w : World) (hl : AllR w (.pointer q) v ps) (ok : EntsOk ps) :
    Calls Tryz.prog 24 #[.pointer q] w fun e w' => e = .returned (.string (B ((apartL (itsP ps)).flatMap It.raw))) ∧ Below w.heap.size w w' := by
  have IT := Lib.hid (items_gen ps v q w hl ok)
  have OK := Lib.hid ok
  clear hl ok
  go_enter Tryz.func24, Tryz.ntmps24
  go_wp2_with fail
  refine IT.out.mono ?_
  rintro e w1 ⟨u, fvs, rfl, acc⟩
  obtain ⟨ua, uc, rfl, _⟩ := own_slice acc.row
  have b1 := acc.below
  have RN := Lib.hid (render_any (itsP ps) _ w1 acc.its acc.nil (by have := OK.out.len; rw [itsP_len]; omega) (itsP_fields OK.out) (itsP_raw OK.out))
  clear IT acc
  go_wp2_with fail
  refine RN.out.mono ?_
  rintro e w2 ⟨rfl, b2⟩
  have hb2 := b1.trans (b2.mono b1.size)
  go_wp2_with fail
  go_ret
  exact ⟨rfl, hb2⟩
theorem find_any (lb : Nat) (ev : Value) (ps : List Pr) (nx id : Int) (w : World) (h : LR w lb ev ps nx) (hps : ps.length ≤ 1000000) :
    Calls Tryz.prog 63 #[ptr lb, .int .i64 id] w fun e w' => e = .returned (foundV (findP ps id)) ∧ Below w.heap.size w w' :=
  find_gen ps ev (some ⟨lb, 0, none⟩) id w (fun _ hB => AllR.of (h.below hB (Nat.le_refl _))) hps
theorem find_nil (id : Int) (w : World) : Calls Tryz.prog 63 #[.pointer none, .int .i64 id] w fun e w' => e = .returned (.tuple #[.int .i64 0, .bool false]) ∧ Below w.heap.size w w' :=
  find_gen [] (.slice none 0 0) none id w (fun W _ => AllR.none W) (by decide)
theorem findP_lt {ps : List Pr} {id : Int} {k : Nat} (h : findP ps id = some k) : ∃ p, ps[k]? = some p ∧ p.1.1.kind = 3 ∧ p.1.2 = id := by
  unfold findP at h
  obtain ⟨x, hx, rfl⟩ := Option.map_eq_some_iff.1 h
  have hm := List.mem_of_find?_eq_some hx
  have hq := List.find?_some hx
  obtain ⟨_, a, b⟩ := stzG_mem 0 ps x hm
  exact ⟨x.2, a, b, by simpa using hq⟩
set_option maxRecDepth 100000 in
set_option maxHeartbeats 4000000 in
theorem raw_any (lb : Nat) (ev : Value) (ps : List Pr) (nx id : Int) (w : World) (h : LR w lb ev ps nx) (hps : ps.length ≤ 1000000) :
    Calls Tryz.prog 19 #[ptr lb, .int .i64 id] w fun e w' => e = .returned (match (findP ps id).bind (ps[·]?) with | some p => .tuple #[.string (B p.1.1.raw), .bool true] | none => .tuple #[.string ⟨#[]⟩, .bool false]) ∧ Below w.heap.size w w' := by
  have FD := Lib.hid (find_any lb ev ps nx id w h hps)
  have H := Lib.hid h
  clear h
  unfold ptr at *
  cases hf : findP ps id with
  | none =>
    rw [hf] at FD
    unfold foundV at FD
    dsimp only [Option.bind_none] at FD ⊢
    go_enter Tryz.func19, Tryz.ntmps19
    go_wp2_with fail
    refine FD.out.mono ?_
    rintro e w1 ⟨rfl, b1⟩
    go_wp2_with fail
    go_ret2
    exact ⟨rfl, b1⟩
  | some k =>
    obtain ⟨p, hp, _, _⟩ := findP_lt hf
    rw [hf] at FD
    unfold foundV at FD
    dsimp only [Option.bind_some] at FD ⊢
    rw [hp]
    dsimp only
    have hk := (List.getElem?_eq_some_iff.1 hp).1
    have HP := Lib.hid hp
    clear hf hp
    go_enter Tryz.func19, Tryz.ntmps19
    go_wp2_with fail
    refine FD.out.mono ?_
    rintro e w1 ⟨rfl, b1⟩
    have L1 := H.out.below b1 (Nat.le_refl _)
    obtain ⟨g, cap', pa, pc, rfl, hle, _, _, _, d1, _, _⟩ := L1.ents.here HP.out
    have c0 : w1.cell? ⟨lb, 0, none⟩ = some (.slice (some ⟨g, 0, none⟩) ps.length cap') := L1.head.cell 0
    have B1 := Lib.hid b1
    clear L1 FD b1
    go_wp2_with fail
    go_ret2
    exact ⟨rfl, B1.out⟩
set_option maxRecDepth 100000 in
set_option maxHeartbeats 4000000 in
theorem get_none (lb : Nat) (ev : Value) (ps : List Pr) (nx id : Int) (w : World) (h : LR w lb ev ps nx) (hps : ps.length ≤ 1000000) (hf : findP ps id = none) :
    Calls Tryz.prog 18 #[ptr lb, .int .i64 id] w fun e w' => e = .returned (.tuple #[.slice none 0 0, .bool false]) ∧ Below w.heap.size w w' := by
  have FD := Lib.hid (find_any lb ev ps nx id w h hps)
  clear h
  unfold ptr at *
  rw [hf] at FD
  unfold foundV at FD
  dsimp only at FD
  go_enter Tryz.func18, Tryz.ntmps18
  go_wp2_with fail
  refine FD.out.mono ?_
  rintro e w1 ⟨rfl, b1⟩
  go_wp2_with fail
  go_ret2
  exact ⟨rfl, b1⟩
set_option maxRecDepth 100000 in
set_option maxHeartbeats 4000000 in
theorem get_some (lb : Nat) (ev : Value) (ps : List Pr) (nx id : Int) (w : World) (h : LR w lb ev ps nx) (hps : ps.length ≤ 1000000) {k : Nat} {p : Pr} (hf : findP ps id = some k) (hp : ps[k]? = some p) (hn : p.1.1.fields.length ≤ 1000000) :
    Calls Tryz.prog 18 #[ptr lb, .int .i64 id] w fun e w' => ∃ x, e = .returned (.tuple #[x, .bool true]) ∧ w'.ownsRow w.heap.size 73 2 x p.1.1.fields.length (cellsF p.1.1.fields) ∧ Below w.heap.size w w' := by
  have FD := Lib.hid (find_any lb ev ps nx id w h hps)
  have H := Lib.hid h
  clear h
  unfold ptr at *
  rw [hf] at FD
  unfold foundV at FD
  dsimp only at FD
  have hk := (List.getElem?_eq_some_iff.1 hp).1
  have HP := Lib.hid hp
  clear hf hp
  go_enter Tryz.func18, Tryz.ntmps18
  go_wp2_with fail
  refine FD.out.mono ?_
  rintro e w1 ⟨rfl, b1⟩
  have L1 := H.out.below b1 (Nat.le_refl _)
  obtain ⟨g, cap', pa, pc, rfl, hle, _, e2, _, _, d2, _⟩ := L1.ents.here HP.out
  have c0 : w1.cell? ⟨lb, 0, none⟩ = some (.slice (some ⟨g, 0, none⟩) ps.length cap') := L1.head.cell 0
  have hfr := L1.ents.each p (List.mem_of_getElem? HP.out)
  rw [e2] at d2 hfr
  have CL := Lib.hid (clone_any _ _ _ hfr.1 hfr.2 hn)
  have B1 := Lib.hid b1
  have hz := b1.size
  clear L1 FD b1 hfr
  go_wp2_with fail
  refine CL.out.mono ?_
  rintro e w2 ⟨x, rfl, hx, b2⟩
  have hb2 := B1.out.trans (b2.mono hz)
  have hx2 := rowBase hx hz
  obtain ⟨xa, xc, rfl, _⟩ := own_slice hx
  have HX := Lib.hid hx2
  clear hx hx2 CL
  go_wp2_with fail
  go_ret2
  exact ⟨_, rfl, HX.out, hb2⟩
/-- Where one is inserted behind a number. -/
def gapP (ps : List Pr) (behind : Int) : Option Nat := if behind = 0 then some 0 else (findP ps behind).map (· + 1)
set_option maxRecDepth 100000 in
set_option maxHeartbeats 4000000 in
theorem gap_any (lb : Nat) (ev : Value) (ps : List Pr) (nx id : Int) (w : World) (h : LR w lb ev ps nx) (hps : ps.length ≤ 1000000) :
    Calls Tryz.prog 75 #[ptr lb, .int .i64 id] w fun e w' => (∃ k : Nat, e = .returned (.tuple #[.int .i64 k, .bool (gapP ps id).isSome]) ∧ ∀ j, gapP ps id = some j → k = j) ∧ Below w.heap.size w w' := by
  have FD := Lib.hid (find_any lb ev ps nx id w h hps)
  clear h
  unfold ptr at *
  by_cases h0 : id = 0
  · subst h0
    go_enter Tryz.func75, Tryz.ntmps75
    go_wp2_with fail
    go_ret2
    exact ⟨⟨0, rfl, fun j h => by cases h; rfl⟩, Below.refl _ _⟩
  · have h1 : ((id : Int) == 0) = false := beq_eq_false_iff_ne.2 h0
    unfold gapP
    rw [if_neg h0]
    cases hf : findP ps id with
    | none =>
      rw [hf] at FD
      unfold foundV at FD
      dsimp only at FD
      go_enter Tryz.func75, Tryz.ntmps75
      go_wp2_with fail
      refine FD.out.mono ?_
      rintro e w1 ⟨rfl, b1⟩
      go_wp2_with fail
      go_ret2
      exact ⟨⟨1, rfl, fun j h => by cases h⟩, b1⟩
    | some k =>
      obtain ⟨p, hp, _, _⟩ := findP_lt hf
      have hk := (List.getElem?_eq_some_iff.1 hp).1
      rw [hf] at FD
      unfold foundV at FD
      dsimp only at FD
      clear hf hp
      go_enter Tryz.func75, Tryz.ntmps75
      go_wp2_with fail
      refine FD.out.mono ?_
      rintro e w1 ⟨rfl, b1⟩
      go_wp2_with fail
      go_ret2
      exact ⟨⟨k + 1, rfl, fun j h => by cases h; rfl⟩, b1⟩
theorem gap_nil (id : Int) (w : World) : Calls Tryz.prog 75 #[.pointer none, .int .i64 id] w fun e w' => (∃ k : Int, e = .returned (.tuple #[.int .i64 k, .bool false])) ∧ Below w.heap.size w w' := by
  have FD := Lib.hid (find_nil id w)
  by_cases h0 : id = 0
  · subst h0
    go_enter Tryz.func75, Tryz.ntmps75
    go_wp2_with fail
    go_ret2
    exact ⟨⟨0, rfl⟩, Below.refl _ _⟩
  · have h1 : ((id : Int) == 0) = false := beq_eq_false_iff_ne.2 h0
    go_enter Tryz.func75, Tryz.ntmps75
    go_wp2_with fail
    refine FD.out.mono ?_
    rintro e w1 ⟨rfl, b1⟩
    go_wp2_with fail
    go_ret2
    exact ⟨⟨1, rfl⟩, b1⟩
end Go.Proofs.YtiebbgbcojgeoaaGreatDoor
/- A region whose order is drawn, by an invariant: what holds of each operation that was carried out, whatever the order. -/
namespace Go.Proofs.YtiebbgbcojgeoaaGreatDoor
open Go.RowKit
def todo (l : Array Bool) : Nat := (l.toList.filter (fun b => !b)).length
theorem ready_spec {ops : Array Oper} {l : Array Bool} {i : Nat} (h : i ∈ Region.ready .any ops l) :
    ∃ o, ops[i]? = some o ∧ l.getD i true = false ∧ ∀ e ∈ o.after, Region.binds .any e = true → l.getD e.on false = true := by
  unfold Region.ready at h
  rw [List.mem_filter] at h
  obtain ⟨hi, h⟩ := h
  rw [List.mem_range] at hi
  have ho : ops[i]? = some ops[i] := Array.getElem?_eq_getElem hi
  rw [ho] at h
  simp only [Option.map_some, Option.getD_some, Bool.and_eq_true, Bool.not_eq_true'] at h
  refine ⟨_, ho, h.1, fun e he hb => ?_⟩
  have := (Array.all_eq_true_iff_forall_mem.1 h.2) e he
  simpa [hb] using this
theorem wpAny_inv {P : Program} {ops : Array Oper} {Q : Exit → Act → World → Prop} (I : Array Bool → Act → World → Prop)
    (step : ∀ l i o a w, I l a w → l.size = ops.size → ops[i]? = some o → l.getD i true = false → (∀ e ∈ o.after, Region.binds .any e = true → l.getD e.on false = true) →
      wpOp P ops Q i (fun a' w' => I (l.setIfInBounds i true) a' w') a w)
    (done : ∀ l a w, I l a w → l.size = ops.size → Region.ready .any ops l = [] → Q .normal a w) :
    ∀ (n : Nat) (l : Array Bool) (a : Act) (w : World), I l a w → l.size = ops.size → todo l ≤ n → wpAny P .any ops Q n l a w := by
  intro n
  induction n with
  | zero =>
    intro l a w hI hs hn
    have hr : Region.ready .any ops l = [] := by
      cases hq : Region.ready .any ops l with
      | nil => rfl
      | cons i rs =>
        obtain ⟨o, ho, hl, _⟩ := ready_spec (show i ∈ Region.ready .any ops l by rw [hq]; simp)
        exfalso
        have hi : i < l.size := by
          rcases Nat.lt_or_ge i l.size with h | h
          · exact h
          · simp [Array.getD, Nat.not_lt.2 h] at hl
        have hm : l[i] ∈ l.toList.filter (fun b => !b) := by
          rw [List.mem_filter]
          refine ⟨by simp, ?_⟩
          simp [Array.getD, hi] at hl
          simp [hl]
        have : 0 < todo l := List.length_pos_of_mem hm
        omega
    exact ⟨hr, done l a w hI hs hr⟩
  | succ n ih =>
    intro l a w hI hs hn
    refine ⟨fun hr => done l a w hI hs hr, fun i hi => ?_⟩
    obtain ⟨o, ho, hl, he⟩ := ready_spec hi
    refine wpOp_mono (fun a' w' hI' => ih _ _ _ hI' (by simpa using hs) ?_) (step l i o a w hI hs ho hl he)
    have hi' : i < l.size := by
      rcases Nat.lt_or_ge i l.size with h | h
      · exact h
      · simp [Array.getD, Nat.not_lt.2 h] at hl
    have hlf : l[i] = false := by simpa [Array.getD, hi'] using hl
    have key : ∀ (xs : List Bool) (j : Nat) (hj : j < xs.length), xs[j] = false → ((xs.set j true).filter (fun b => !b)).length + 1 = (xs.filter (fun b => !b)).length := by
      intro xs
      induction xs with
      | nil => intro j hj; simp at hj
      | cons x xs ih2 =>
        intro j hj hx
        cases j with
        | zero => simp at hx; subst hx; simp
        | succ j =>
          have := ih2 j (by simpa using hj) (by simpa using hx)
          cases x <;> simp at this ⊢ <;> omega
    have h2 := key l.toList i (by simpa using hi') (by simpa using hlf)
    unfold todo at hn ⊢
    have e : (l.setIfInBounds i true).toList = l.toList.set i true := by simp
    rw [e]
    omega
/-- the rule: I at the start; each operation that may come up keeps it; where none may come up, the region is done. -/
theorem wp_region_inv {P : Program} {id : Nat} {ops : Array Oper} {Q : Exit → Act → World → Prop} {a : Act} {w : World} (hm : P.follows .mixedOrders = true) (I : Array Bool → Act → World → Prop)
    (start : I (Array.replicate ops.size false) a w.drew)
    (step : ∀ l i o a w, I l a w → l.size = ops.size → ops[i]? = some o → l.getD i true = false → (∀ e ∈ o.after, Region.binds .any e = true → l.getD e.on false = true) →
      wpOp P ops Q i (fun a' w' => I (l.setIfInBounds i true) a' w') a w)
    (done : ∀ l a w, I l a w → l.size = ops.size → Region.ready .any ops l = [] → Q .normal a w) :
    (Code.region id ops true).wp P Q a w :=
  wp_region_any hm (wpAny_inv I step done ops.size _ a _ start (by simp) (by
    unfold todo
    simp))
end Go.Proofs.YtiebbgbcojgeoaaGreatDoor
/- A region that draws its order and only reads, in a round of a range over an iterator: one walk in the text's order. -/
namespace Go.Proofs.YtiebbgbcojgeoaaGreatDoor
open Go.RowKit

def calm (ops : Array Oper) : Bool := ops.all fun o => match o.op with | .defer _ => false | _ => true
theorem calm_of {ops : Array Oper} (h : calm ops = true) {i : Nat} {o : Oper} (ho : ops[i]? = some o) : ∀ c, o.op ≠ .defer c := by
  intro c e
  have hm := Array.mem_of_getElem? ho
  have := (Array.all_eq_true_iff_forall_mem.1 h) o hm
  simp [e] at this

theorem opIn_round {n l : Nat} {P : Program} {o : Oper} {a : Act} {w : World} {next : Act → World → Prop} {Q : Exit → Act → World → Prop} (h : ∀ c, o.op ≠ .defer c)
    (g : o.wpIn Fence.wide n P a w next Q) : o.wpIn (Fence.wide.inRound l) n P a w next Q := by
  refine ⟨g.1, ?_⟩
  have g2 := g.2
  rw [Oper.semAt_eq _ _ _ h] at g2 ⊢
  generalize (execOp a.eval o).run P w = r at g2 ⊢
  cases r with
  | ok x w' => cases x <;> exact g2
  | halt x w' => cases x <;> exact g2
theorem opsIn_round {n l : Nat} {P : Program} {md : Region.Mode} {ops : Array Oper} {Q : Exit → Act → World → Prop} (h : calm ops = true) : ∀ (fuel : Nat) (listed : Array Bool) (a : Act) (w : World),
    wpAnyIn Fence.wide n P md ops Q fuel listed a w → wpAnyIn (Fence.wide.inRound l) n P md ops Q fuel listed a w
  | 0, _, _, _, g => g
  | fuel + 1, listed, a, w, g => by
    refine ⟨g.1, fun i hi => ?_⟩
    have g2 := g.2 i hi
    unfold wpOpIn at g2 ⊢
    cases ho : ops[i]? with
    | none => rw [ho] at g2; exact opsIn_round h fuel _ _ _ g2
    | some o =>
      rw [ho] at g2
      simp only at g2 ⊢
      split at g2
      · rename_i hw
        rw [if_pos hw]
        exact opIn_round (calm_of h ho) (opIn_mono (fun a w => opsIn_round h fuel _ a w) g2)
      · rename_i hw
        rw [if_neg hw]
        exact ⟨g2.1, opsIn_round h fuel _ _ _ g2.2⟩
where
  opIn_mono {n : Nat} {P : Program} {o : Oper} {a : Act} {w : World} {K K' : Act → World → Prop} {Q : Exit → Act → World → Prop} (h : ∀ a w, K a w → K' a w) (g : o.wpIn Fence.wide n P a w K Q) : o.wpIn Fence.wide n P a w K' Q := by
    refine ⟨g.1, ?_⟩
    have g2 := g.2
    generalize (Oper.semAt Fence.wide.round a.eval o).run P w = r at g2 ⊢
    cases r with
    | ok x w' =>
      cases x with
      | enter f args => exact ⟨g2.1, g2.2.mono fun e w hh => by cases e <;> first | exact h _ _ hh | exact hh⟩
      | row f args => exact ⟨g2.1, fun c cs hr => by obtain ⟨v, w', hv, hs⟩ := g2.2 c cs hr; exact ⟨v, w', h _ _ hv, hs⟩⟩
      | round l f t x y => exact ⟨g2.1, g2.2.mono fun e w hh => by cases e <;> first | exact h _ _ hh | exact hh⟩
      | value v => exact h _ _ g2
      | skip => exact h _ _ g2
      | defer d => exact h _ _ g2
      | _ => exact g2
    | halt x w' => cases x <;> exact g2

/-- The law, as the quiet walk's words take it. -/
theorem quiet_round {n r : Nat} {P : Program} {id : Nat} {Q : Exit → Act → World → Prop} {a : Act} {w : World} {l : List Oper} (hd : calm l.toArray = true) (hm : P.follows .mixedOrders = true) (hB : Region.lexB .any l.toArray = true)
    (h : wpQuietIn Fence.wide n P l.toArray (fun w' => ∃ n, w' = w.drewN n) (fun a' => ∀ w', (∃ n, w' = w.drewN n) → Q .normal a' w') l a) : (Code.region id l.toArray true).wpIn (Fence.wide.inRound r) n P Q a w := by
  simp only [Region.lexB, Bool.and_eq_true] at hB
  refine wpIn_region_any hm (opsIn_round hd _ _ _ _ (wpAnyIn_of_quiet (C := fun w' => ∃ n, w' = w.drewN n) (Q := fun a' => ∀ w', (∃ n, w' = w.drewN n) → Q .normal a' w') rfl (fun _ w' hw' h => h w' hw') _ _ _ _ ⟨1, rfl⟩ ?_))
  have := wpAnyQIn_lex (F := Fence.wide) (n := n) (C := fun w' => ∃ n, w' = w.drewN n) (md := .any) hB.1 l 0 (Array.replicate l.toArray.size false) a (by simp) (by simpa using hB.2) h
  simpa using this
end Go.Proofs.YtiebbgbcojgeoaaGreatDoor
/- A region that draws its order, in a round of a range over an iterator, out of the plain calculus. -/
namespace Go.Proofs.YtiebbgbcojgeoaaGreatDoor
open Go.RowKit

theorem rows_wide {n : Nat} {P : Program} {row : String} {args : Array Value} {w : World} {R : Value → World → Prop} (h : Rows P row args w R) : RowsIn Fence.wide n P row args w R := by
  intro c cs _
  obtain ⟨v, w', r, s⟩ := h c cs
  exact ⟨v, w', r, stepsIn_wide.2 s⟩
theorem oper_wide {n : Nat} {P : Program} {o : Oper} {a : Act} {w : World} {K : Act → World → Prop} {Q : Exit → Act → World → Prop} (h : ∀ c, o.op ≠ .defer c) (g : o.wp P a w K Q) : o.wpIn Fence.wide n P a w K Q := by
  refine ⟨fun _ _ => trivial, ?_⟩
  unfold Oper.wp at g
  rw [Oper.semAt_eq _ _ _ h]
  generalize (execOp a.eval o).run P w = r at g ⊢
  cases r with
  | ok x w' =>
    cases x with
    | enter f args => exact ⟨fun q => by simp [Fence.wide] at q, callsIn_wide.2 g⟩
    | row f args => exact ⟨fun q => by simp [Fence.wide] at q, rows_wide g⟩
    | round l f t x y => exact g.elim
    | value v => exact g
    | skip => exact g
    | defer d => exact g
    | _ => exact g
  | halt x w' => cases x <;> exact g
theorem ops_wide {n : Nat} {P : Program} {md : Region.Mode} {ops : Array Oper} {Q : Exit → Act → World → Prop} (h : calm ops = true) (hno : ¬ LetsOut Q) : ∀ (fuel : Nat) (listed : Array Bool) (a : Act) (w : World),
    wpAny P md ops Q fuel listed a w → wpAnyIn Fence.wide n P md ops Q fuel listed a w
  | 0, _, _, _, g => g
  | fuel + 1, listed, a, w, g => by
    refine ⟨g.1, fun i hi => ?_⟩
    have g2 := g.2 i hi
    unfold wpOpIn
    unfold wpOp at g2
    cases ho : ops[i]? with
    | none => rw [ho] at g2; exact ops_wide h hno fuel _ _ _ g2
    | some o =>
      rw [ho] at g2
      simp only at g2 ⊢
      split at g2
      · rename_i hw
        rw [if_pos hw]
        exact oper_wide (calm_of h ho) (Oper.wp_mono (fun a w => ops_wide h hno fuel _ a w) (g2.resolve_right fun q => hno q.2))
      · rename_i hw
        rw [if_neg hw]
        exact ⟨fun _ _ => trivial, ops_wide h hno fuel _ _ _ g2⟩
theorem wp_region_round {n r : Nat} {P : Program} {id : Nat} {ops : Array Oper} {Q : Exit → Act → World → Prop} {a : Act} {w : World} (hd : calm ops = true) (hno : ¬ LetsOut Q) (hm : P.follows .mixedOrders = true) (h : wpAny P .any ops Q ops.size (Array.replicate ops.size false) a w.drew) :
    (Code.region id ops true).wpIn (Fence.wide.inRound r) n P Q a w :=
  wpIn_region_any hm (opsIn_round hd _ _ _ _ (ops_wide hd hno _ _ _ _ h))
end Go.Proofs.YtiebbgbcojgeoaaGreatDoor
/- The document's Parse: a row of fields copied, and one more, in any order that is drawn: by an invariant. (Written by gen_qi.py.) -/
namespace Go.Proofs.YtiebbgbcojgeoaaGreatDoor
open Go.RowKit Go.Shelf

def ops29 : Array Oper := #[{ dst := some 106, op := Op.buildSlice 36 0 #[], type := 36, pos := "ref.go:71", after := #[], guard := none }, { dst := some 107, op := Op.fieldAddr 47 (Operand.tmp 9) 2, type := 0, pos := "ref.go:71", after := #[], guard := none }, { dst := some 108, op := Op.load 36 (Operand.tmp 107), type := 36, pos := "ref.go:71", after := #[{ on := 1, ground := Ground.data }], guard := none }, { dst := some 109, op := Op.call { callee := Callee.builtin Builtin.append, args := #[Operand.tmp 106, Operand.tmp 108], argTypes := #[36, 36] }, type := 36, pos := "ref.go:71", after := #[{ on := 0, ground := Ground.data }, { on := 2, ground := Ground.data }], guard := none }, { dst := some 110, op := Op.load 73 (Operand.tmp 13), type := 73, pos := "ref.go:71", after := #[], guard := none }, { dst := some 111, op := Op.buildSlice 36 1 #[(0, Operand.tmp 110)], type := 36, pos := "ref.go:71", after := #[{ on := 4, ground := Ground.data }], guard := none }, { dst := some 112, op := Op.call { callee := Callee.builtin Builtin.append, args := #[Operand.tmp 109, Operand.tmp 111], argTypes := #[36, 36] }, type := 36, pos := "ref.go:71", after := #[{ on := 3, ground := Ground.data }, { on := 5, ground := Ground.data }, { on := 3, ground := Ground.chain }], guard := none }, { dst := some 113, op := Op.fieldAddr 47 (Operand.tmp 9) 2, type := 0, pos := "ref.go:71", after := #[{ on := 0, ground := Ground.phase }, { on := 1, ground := Ground.phase }, { on := 2, ground := Ground.phase }, { on := 3, ground := Ground.phase }, { on := 4, ground := Ground.phase }, { on := 5, ground := Ground.phase }, { on := 6, ground := Ground.phase }], guard := none }, { dst := none, op := Op.store 36 (Operand.tmp 113) (Operand.tmp 112), type := 0, pos := "ref.go:71", after := #[{ on := 7, ground := Ground.data }, { on := 6, ground := Ground.data }, { on := 6, ground := Ground.chain }, { on := 0, ground := Ground.phase }, { on := 1, ground := Ground.phase }, { on := 2, ground := Ground.phase }, { on := 3, ground := Ground.phase }, { on := 4, ground := Ground.phase }, { on := 5, ground := Ground.phase }, { on := 6, ground := Ground.phase }], guard := none }]
theorem done29 : ∀ b0 b1 b2 b3 b4 b5 b6 b7 b8 : Bool, Region.ready .any ops29 #[b0, b1, b2, b3, b4, b5, b6, b7, b8] = [] → b8 = true := by decide +kernel
theorem ev29 {a : Act} {i : Nat} {v : Value} (h : a.tmps[i]? = some v) : a.eval (.tmp i) = v := by
  show a.tmps.getD i undef = v
  rw [Array.getD_eq_getD_getElem?, h]; rfl
theorem put29 {a : Act} {d : Nat} {v : Value} (hd : d < a.tmps.size) (j : Nat) : (a.put (some d) v).tmps[j]? = if j = d then some v else a.tmps[j]? := by
  show (a.tmps.setIfInBounds d v)[j]? = _
  rw [Array.getElem?_setIfInBounds]
  by_cases h : d = j
  · subst h; simp [hd]
  · rw [if_neg h, if_neg (Ne.symm h)]
theorem size29 (a : Act) (d : Nat) (v : Value) : (a.put (some d) v).tmps.size = a.tmps.size := by show (a.tmps.setIfInBounds d v).size = _; simp
set_option maxHeartbeats 1000000 in
theorem go_lit0 {o : Oper} {a : Act} {w : World} {K : Act → World → Prop} {Q : Exit → Act → World → Prop} (ho : o.op = Op.buildSlice 36 0 #[]) (hK : K (a.put o.dst (.slice (some ⟨w.heap.size, 0, none⟩) 0 0)) (w.alloc (.cells #[] 73))) : Oper.wp Tryz.prog o a w K Q := by
  unfold Oper.wp
  have e : (execOp a.eval o).run Tryz.prog w = .ok (.value (.slice (some ⟨w.heap.size, 0, none⟩) 0 0)) (w.alloc (.cells #[] 73)) := by
    simp only [execOp, ho]
    kernel_rfl
  rw [e]; exact hK
set_option maxHeartbeats 1000000 in
theorem go_lit1 {o : Oper} {a : Act} {w : World} {K : Act → World → Prop} {Q : Exit → Act → World → Prop} {x : Operand} {s t : ByteArray} (ho : o.op = Op.buildSlice 36 1 #[(0, x)]) (hx : a.eval x = .agg #[.string s, .string t]) (hK : K (a.put o.dst (.slice (some ⟨w.heap.size, 0, none⟩) 1 1)) (w.alloc (.cells #[.string s, .string t] 73))) : Oper.wp Tryz.prog o a w K Q := by
  unfold Oper.wp
  have e : (execOp a.eval o).run Tryz.prog w = .ok (.value (.slice (some ⟨w.heap.size, 0, none⟩) 1 1)) (w.alloc (.cells #[.string s, .string t] 73)) := by
    simp only [execOp, ho]
    rw [show (Array.map (fun (p : Nat × Operand) => match p with | (i, x) => (i, a.eval x)) #[((0 : Nat), x)]) = #[((0 : Nat), Value.agg #[.string s, .string t])] from by rw [← hx]; simp]
    kernel_rfl
  rw [e]; exact hK
set_option maxHeartbeats 1000000 in
theorem go_faddr {o : Oper} {a : Act} {w : World} {K : Act → World → Prop} {Q : Exit → Act → World → Prop} {x : Operand} {b : Nat} (ho : o.op = Op.fieldAddr 47 x 2) (hx : a.eval x = .pointer (some ⟨b, 0, none⟩)) (hK : K (a.put o.dst (.pointer (some ⟨b, 2, none⟩))) w) : Oper.wp Tryz.prog o a w K Q := by
  unfold Oper.wp
  have e : (execOp a.eval o).run Tryz.prog w = .ok (.value (.pointer (some ⟨b, 2, none⟩))) w := by
    simp only [execOp, ho, hx]
    simp [go_sem, Result.andThen]
  rw [e]; exact hK
set_option maxHeartbeats 1000000 in
theorem go_load1 {o : Oper} {a : Act} {w : World} {K : Act → World → Prop} {Q : Exit → Act → World → Prop} {x : Operand} {p : Addr} {v : Value} (ho : o.op = Op.load 36 x) (hx : a.eval x = .pointer (some p)) (hc : w.cell? p = some v) (hK : K (a.put o.dst v) w) : Oper.wp Tryz.prog o a w K Q := by
  unfold Oper.wp
  have e : (execOp a.eval o).run Tryz.prog w = .ok (.value v) w := by
    simp only [execOp, ho, hx]
    simp [go_sem, Result.andThen, hc]
  rw [e]; exact hK
set_option maxHeartbeats 1000000 in
theorem go_load2 {o : Oper} {a : Act} {w : World} {K : Act → World → Prop} {Q : Exit → Act → World → Prop} {x : Operand} {b : Nat} {u v : Value} (ho : o.op = Op.load 73 x) (hx : a.eval x = .pointer (some ⟨b, 0, none⟩)) (hc : w.cell? ⟨b, 0, none⟩ = some u) (hd : w.cell? ⟨b, 1, none⟩ = some v) (hK : K (a.put o.dst (.agg #[u, v])) w) : Oper.wp Tryz.prog o a w K Q := by
  unfold Oper.wp
  have e : (execOp a.eval o).run Tryz.prog w = .ok (.value (.agg #[u, v])) w := by
    simp only [execOp, ho, hx]
    simp [go_sem, Result.andThen, hc, hd]
  rw [e]; exact hK
set_option maxHeartbeats 1000000 in
theorem go_store1 {o : Oper} {a : Act} {w : World} {K : Act → World → Prop} {Q : Exit → Act → World → Prop} {x y : Operand} {p : Addr} {u : Value} {g : Option Addr} {n c : Nat} (ho : o.op = Op.store 36 x y) (hx : a.eval x = .pointer (some p)) (hy : a.eval y = .slice g n c) (hc : w.cell? p = some u) (hf : w.frozen? p = false) (hK : K (a.put o.dst undef) (w.setCell p (.slice g n c))) : Oper.wp Tryz.prog o a w K Q := by
  unfold Oper.wp
  have e : (execOp a.eval o).run Tryz.prog w = .ok .skip (w.setCell p (.slice g n c)) := by
    simp only [execOp, ho, hx, hy]
    simp [go_sem, Result.andThen, hc, hf]
  rw [e]; exact hK
end Go.Proofs.YtiebbgbcojgeoaaGreatDoor
