/- Texts put together: FQ, FR, TD, TE, TJ, TL, TM, TO. -/
import Derived.Deep.RegionHeld3
import Derived.Test.YtafgebodmhkghaaDoorBase3
set_option linter.unusedVariables false
/- A field's lines, by definition. -/
namespace Go.Proofs.YtafgebodmhkghaaDoor
open Go.RowKit Go.Shelf

theorem kind_clean {l : List UInt8} (h : (10 : UInt8) ∉ l) : (kindL l = 1 ↔ blankAll l = true) := by
  unfold kindL
  rw [hasB_not h, if_neg (by decide)]
  cases hb : blankAll l with
  | true => simp
  | false =>
    rw [if_neg (by decide)]
    constructor
    · intro h
      split at h
      · cases h
      · split at h
        · cases h
        · split at h <;> cases h
    · intro h; cases h
set_option maxRecDepth 100000 in
set_option maxHeartbeats 4000000 in
theorem refLines_any (k v : List UInt8) (hk : k.length ≤ 100000) (hv : v.length ≤ 100000) (w : World) :
    Calls Tryd.prog 74 #[fieldV k v] w fun e w' => ∃ sv base, e = .returned sv ∧ OwnS w' base sv ((linesL k v).map B) ∧ Below w.heap.size w w' := by
  obtain ⟨i0, hi, hz0, hz1, hz2⟩ := info_parts infoStr
  have PA := fun w => refParts_any v (by omega) w
  obtain ⟨p, r, hp⟩ : ∃ p r, partsL v = p :: r := ⟨_, _, partsL_cons v⟩
  rw [hp] at PA
  obtain ⟨z1, z2, z3⟩ := piece_le hp
  have hcl : ∀ q ∈ p :: r, (10 : UInt8) ∉ q := by rw [← hp]; exact partsL_clean v
  have HL := Lib.hid (linesLen (k := k) hp)
  clear hp
  unfold fieldV
  have hzk := B_size k
  have h1 : (B k ++ ⟨#[58]⟩) = B (k ++ [58]) := B_append k [58]
  have h2 : (B (k ++ [58]) ++ ⟨#[32]⟩) = B ((k ++ [58]) ++ [32]) := B_append _ [32]
  have h3 : (B ((k ++ [58]) ++ [32]) ++ B p) = B (((k ++ [58]) ++ [32]) ++ p) := B_append _ p
  have y1 : (B (k ++ [58])).size = k.length + 1 := by rw [B_size]; simp
  have y2 : (B ((k ++ [58]) ++ [32])).size = k.length + 2 := by rw [B_size]; simp
  have hzp := B_size p
  have hfl1 : p = [] → B (firstL k p) = B (k ++ [58]) := fun h => by unfold firstL; rw [if_pos h]
  have hfl2 : p ≠ [] → B (firstL k p) = B (((k ++ [58]) ++ [32]) ++ p) := fun h => by unfold firstL; rw [if_neg h]; simp
  go_enter Tryd.func74, Tryd.ntmps74
  go_wp2_with fail
  refine (PA _).mono ?_
  rintro e w1 ⟨v1, rfl, hown, b1⟩
  obtain ⟨g, cap, rfl, hg1, hg2⟩ := hown.form (by simp)
  have c0 := b1.cell (p := ⟨w.heap.size, 0, none⟩) (by simp)
  have hb1 : Below w.heap.size w w1 := ((Below.refl _ _).alloc (Nat.le_refl _) _).trans (b1.mono (by simp))
  have PC : ∀ (j : Nat) x, (p :: r)[j]? = some x → w1.cell? ⟨g, j, none⟩ = some (.string (B x)) := fun j x hx => hown.cell rfl j (B x) (by rw [List.getElem?_map, hx]; rfl)
  have e0 := PC 0 p rfl
  simp only [List.length_map, List.length_cons]
  simp only [World.cell?_alloc_at _ _ _ _ rfl] at c0
  have PCH := Lib.hid (fun (j : Nat) x (hx : r[j]? = some x) => PC (j + 1) x (by simpa using hx))
  have hcl2 := Lib.hid (fun q hq => hcl q (List.mem_cons_of_mem _ hq))
  have BW := Lib.hid hb1
  replace c0 : w1.cell? ⟨w.heap.size, 0, none⟩ = some (.string (B k)) := c0
  have hw1 := hb1.size
  clear PC PA b1 hown hg1 hcl hb1
  generalize hfl : B (firstL k p) = FL at *
  have HFL : Hid (((linesL k v).map B) = FL :: (r.map furtherL).map B) := by
    show _ = _
    rw [HL.out, List.map_cons, hfl]
  clear hfl HL
  have hpp : (p = [] ∧ FL = B (k ++ [58])) ∨ (p ≠ [] ∧ FL = B (((k ++ [58]) ++ [32]) ++ p)) := by
    by_cases hpe : p = []
    · exact .inl ⟨hpe, hfl1 hpe⟩
    · exact .inr ⟨hpe, hfl2 hpe⟩
  clear hfl1 hfl2
  rcases hpp with ⟨hpe, hf⟩ | ⟨hpe, hf⟩
  · subst hpe
    rw [show B [] = ⟨#[]⟩ from rfl] at *
    rw [← hf] at h1
    clear hf h2 h3 y1 y2 hzp z1
    generalize B k = K at *
    go_wp2_with fail
    go_loopw [5, 6] (fun v5 i wr => ∃ n : Nat, n ≤ r.length ∧ i = .int .i64 ((n : Int) + 1) ∧ OwnS wr w1.heap.size v5 (FL :: ((r.take n).map furtherL).map B) ∧ Below w1.heap.size w1 wr) (fun _ i _ => r.length + 1 - (intOf i).toNat)
    case atStart => exact ⟨0, Nat.zero_le _, rfl, OwnS.one w1 _ (Nat.le_refl _) _, (Below.refl _ _).alloc (Nat.le_refl _) _⟩
    case round =>
      obtain ⟨n, hn, rfl, hown, hb⟩ := hrel
      by_cases hlt : n < r.length
      · obtain ⟨x, hx⟩ : ∃ x, r[n]? = some x := ⟨_, List.getElem?_eq_getElem hlt⟩
        have hcx := (hb.cell (p := ⟨g, n + 1, none⟩) hg2).trans (PCH.out n x hx)
        have hxm := List.mem_of_getElem? hx
        have hxl := z2 x hxm
        have hxc := hcl2.out x hxm
        have hxz := B_size x
        have RK := fun w => refKind_any (B x) (by omega) w
        rw [B_data] at RK
        have TK : Hid (FL :: ((r.take (n + 1)).map furtherL).map B = (FL :: ((r.take n).map furtherL).map B) ++ [B (furtherL x)]) := by
          show _ = _
          rw [List.take_add_one, hx]; simp
        have HLL : Hid ((FL :: ((r.take n).map furtherL).map B).length = n + 1) := by
          show _ = _
          simp; omega
        have hs3 := hb.size
        have kc := kind_clean hxc
        cases hbl : blankAll x with
        | true =>
          have hk1 := kc.2 hbl
          have hfx : ⟨#[32, 46]⟩ ++ B x = B (furtherL x) := by unfold furtherL dotted; rw [hbl]; exact B_append [32, 46] x
          rw [hk1] at RK
          clear hx hk1 kc hbl hxc hxm
          generalize (FL :: ((r.take n).map furtherL).map B) = ls at *
          generalize B (furtherL x) = Y at *
          generalize B x = X at *
          go_wp2_with fail
          refine (RK _).mono ?_
          rintro e w4 ⟨rfl, b4⟩
          have hcx4 := (b4.cell (p := ⟨g, n + 1, none⟩) (Nat.lt_of_lt_of_le hg2 hs3)).trans hcx
          have hown4 : w4.ownsRow w1.heap.size 9 1 u5 (n + 1) (ls.map Value.string) := by rw [← HLL.out]; exact hown.kept b4 (Nat.le_refl _)
          have hs4 := b4.size
          have HC := Lib.hid (strCell w4 Y 9)
          have hb4 : Below w1.heap.size w1 w4 := hb.trans (b4.mono hs3)
          clear hown b4 hcx
          go_wp2_with (at_builtin; refine wpList_append_own _ rfl _ _ 63 rfl w1.heap.size 9 i0 _ 1 16 Tryd.underlying63 hi hz0 hz1 hz2 rfl (by decide) _ _ _ rfl (hown4.alloc _) ⟨w4.heap.size, 0, none⟩ 1 1 _ rfl rfl HC.out ?c2 ?c3 ?c4 ?c5 ?_)
          case c2 => intro u hu; simp at hu; subst hu; rfl
          case c3 => unfold maxLen; omega
          case c4 => omega
          case c5 => simp; omega
          intro v' w5 hown' hgrow _
          obtain ⟨g', cap', rfl⟩ := ownsRow_succ hown'
          have hb5 : Below w1.heap.size w1 w5 := (hb4.alloc (by omega) _).grown hgrow (by simp; omega) (fun j ej => (hown4.lt j ej).1)
          have hown6 := OwnS.grow (ls := ls) (y := Y) hown' HLL.out
          rw [← TK.out] at hown6
          go_wp2_with fail
          go_roundw
          case rel => exact ⟨n + 1, hlt, by go_num, hown6, hb5⟩
          case measure => simp [intOf]; omega
        | false =>
          have hk1 : kindL x ≠ 1 := fun e => by rw [kc.1 e] at hbl; cases hbl
          obtain ⟨c, t, rfl⟩ := all_blank_cons hbl
          have hki : ((kindL (c :: t) : Int) == 1) = false := by rw [beq_eq_false_iff_ne]; omega
          have q2 := byte_eq (c := c) (d := 46) 46 rfl
          have hXc : ∀ h : 0 < (B (c :: t)).size, (B (c :: t))[0]'h = c := fun _ => rfl
          have hxz2 : (B (c :: t)).size = t.length + 1 := hxz
          have htl : t.length ≤ 1000000 := by simp only [List.length_cons] at hxl; omega
          have hxp : 0 < (B (c :: t)).size := by omega
          clear hxz
          by_cases hc : c = 46
          · have hfx : ⟨#[32, 46]⟩ ++ B (c :: t) = B (furtherL (c :: t)) := by unfold furtherL dotted; rw [hc]; simp; exact B_append [32, 46] (46 :: t)
            have hcb : (c == 46) = true := by simp [hc]
            rw [hcb] at q2
            clear hx hk1 kc hbl hxc hxm hc
            generalize (FL :: ((r.take n).map furtherL).map B) = ls at *
            generalize kindL (c :: t) = kx at *
            generalize B (furtherL (c :: t)) = Y at *
            generalize B (c :: t) = X at *
            go_wp2_with fail
            refine (RK _).mono ?_
            rintro e w4 ⟨rfl, b4⟩
            have hcx4 := (b4.cell (p := ⟨g, n + 1, none⟩) (Nat.lt_of_lt_of_le hg2 hs3)).trans hcx
            have hown4 : w4.ownsRow w1.heap.size 9 1 u5 (n + 1) (ls.map Value.string) := by rw [← HLL.out]; exact hown.kept b4 (Nat.le_refl _)
            have hs4 := b4.size
            have HC := Lib.hid (strCell w4 Y 9)
            have hb4 : Below w1.heap.size w1 w4 := hb.trans (b4.mono hs3)
            clear hown b4 hcx
            go_wp2_with (at_builtin; refine wpList_append_own _ rfl _ _ 63 rfl w1.heap.size 9 i0 _ 1 16 Tryd.underlying63 hi hz0 hz1 hz2 rfl (by decide) _ _ _ rfl (hown4.alloc _) ⟨w4.heap.size, 0, none⟩ 1 1 _ rfl rfl HC.out ?c2 ?c3 ?c4 ?c5 ?_)
            case c2 => intro u hu; simp at hu; subst hu; rfl
            case c3 => unfold maxLen; omega
            case c4 => omega
            case c5 => simp; omega
            intro v' w5 hown' hgrow _
            obtain ⟨g', cap', rfl⟩ := ownsRow_succ hown'
            have hb5 : Below w1.heap.size w1 w5 := (hb4.alloc (by omega) _).grown hgrow (by simp; omega) (fun j ej => (hown4.lt j ej).1)
            have hown6 := OwnS.grow (ls := ls) (y := Y) hown' HLL.out
            rw [← TK.out] at hown6
            go_wp2_with fail
            go_roundw
            case rel => exact ⟨n + 1, hlt, by go_num, hown6, hb5⟩
            case measure => simp [intOf]; omega
          · have hfx : ⟨#[32]⟩ ++ B (c :: t) = B (furtherL (c :: t)) := by unfold furtherL dotted; rw [hbl]; simp [hc]; exact B_append [32] (c :: t)
            have hcb : (c == 46) = false := by simp [hc]
            rw [hcb] at q2
            clear hx hk1 kc hbl hxc hxm hc
            generalize (FL :: ((r.take n).map furtherL).map B) = ls at *
            generalize kindL (c :: t) = kx at *
            generalize B (furtherL (c :: t)) = Y at *
            generalize B (c :: t) = X at *
            go_wp2_with fail
            refine (RK _).mono ?_
            rintro e w4 ⟨rfl, b4⟩
            have hcx4 := (b4.cell (p := ⟨g, n + 1, none⟩) (Nat.lt_of_lt_of_le hg2 hs3)).trans hcx
            have hown4 : w4.ownsRow w1.heap.size 9 1 u5 (n + 1) (ls.map Value.string) := by rw [← HLL.out]; exact hown.kept b4 (Nat.le_refl _)
            have hs4 := b4.size
            have HC := Lib.hid (strCell w4 Y 9)
            have hb4 : Below w1.heap.size w1 w4 := hb.trans (b4.mono hs3)
            clear hown b4 hcx
            go_wp2_with (at_builtin; refine wpList_append_own _ rfl _ _ 63 rfl w1.heap.size 9 i0 _ 1 16 Tryd.underlying63 hi hz0 hz1 hz2 rfl (by decide) _ _ _ rfl (hown4.alloc _) ⟨w4.heap.size, 0, none⟩ 1 1 _ rfl rfl HC.out ?c2 ?c3 ?c4 ?c5 ?_)
            case c2 => intro u hu; simp at hu; subst hu; rfl
            case c3 => unfold maxLen; omega
            case c4 => omega
            case c5 => simp; omega
            intro v' w5 hown' hgrow _
            obtain ⟨g', cap', rfl⟩ := ownsRow_succ hown'
            have hb5 : Below w1.heap.size w1 w5 := (hb4.alloc (by omega) _).grown hgrow (by simp; omega) (fun j ej => (hown4.lt j ej).1)
            have hown6 := OwnS.grow (ls := ls) (y := Y) hown' HLL.out
            rw [← TK.out] at hown6
            go_wp2_with fail
            go_roundw
            case rel => exact ⟨n + 1, hlt, by go_num, hown6, hb5⟩
            case measure => simp [intOf]; omega
      · obtain rfl : n = r.length := by omega
        rw [List.take_length] at hown
        go_wp2_with fail
        go_ret
        exact ⟨_, _, rfl, by rw [HFL.out]; exact hown, BW.out.trans (hb.mono hw1)⟩

  · obtain ⟨n1, n2⟩ := B_empty hpe
    rw [← hf] at h3
    clear hf hpe
    generalize B k = K at *
    generalize B (k ++ [58]) = K1 at *
    generalize B ((k ++ [58]) ++ [32]) = K2 at *
    generalize B p = P at *
    go_wp2_with fail
    clear h1 h2 h3 y1 y2 hzp n1 n2
    go_loopw [5, 6] (fun v5 i wr => ∃ n : Nat, n ≤ r.length ∧ i = .int .i64 ((n : Int) + 1) ∧ OwnS wr w1.heap.size v5 (FL :: ((r.take n).map furtherL).map B) ∧ Below w1.heap.size w1 wr) (fun _ i _ => r.length + 1 - (intOf i).toNat)
    case atStart => exact ⟨0, Nat.zero_le _, rfl, OwnS.one w1 _ (Nat.le_refl _) _, (Below.refl _ _).alloc (Nat.le_refl _) _⟩
    case round =>
      obtain ⟨n, hn, rfl, hown, hb⟩ := hrel
      by_cases hlt : n < r.length
      · obtain ⟨x, hx⟩ : ∃ x, r[n]? = some x := ⟨_, List.getElem?_eq_getElem hlt⟩
        have hcx := (hb.cell (p := ⟨g, n + 1, none⟩) hg2).trans (PCH.out n x hx)
        have hxm := List.mem_of_getElem? hx
        have hxl := z2 x hxm
        have hxc := hcl2.out x hxm
        have hxz := B_size x
        have RK := fun w => refKind_any (B x) (by omega) w
        rw [B_data] at RK
        have TK : Hid (FL :: ((r.take (n + 1)).map furtherL).map B = (FL :: ((r.take n).map furtherL).map B) ++ [B (furtherL x)]) := by
          show _ = _
          rw [List.take_add_one, hx]; simp
        have HLL : Hid ((FL :: ((r.take n).map furtherL).map B).length = n + 1) := by
          show _ = _
          simp; omega
        have hs3 := hb.size
        have kc := kind_clean hxc
        cases hbl : blankAll x with
        | true =>
          have hk1 := kc.2 hbl
          have hfx : ⟨#[32, 46]⟩ ++ B x = B (furtherL x) := by unfold furtherL dotted; rw [hbl]; exact B_append [32, 46] x
          rw [hk1] at RK
          clear hx hk1 kc hbl hxc hxm
          generalize (FL :: ((r.take n).map furtherL).map B) = ls at *
          generalize B (furtherL x) = Y at *
          generalize B x = X at *
          go_wp2_with fail
          refine (RK _).mono ?_
          rintro e w4 ⟨rfl, b4⟩
          have hcx4 := (b4.cell (p := ⟨g, n + 1, none⟩) (Nat.lt_of_lt_of_le hg2 hs3)).trans hcx
          have hown4 : w4.ownsRow w1.heap.size 9 1 u5 (n + 1) (ls.map Value.string) := by rw [← HLL.out]; exact hown.kept b4 (Nat.le_refl _)
          have hs4 := b4.size
          have HC := Lib.hid (strCell w4 Y 9)
          have hb4 : Below w1.heap.size w1 w4 := hb.trans (b4.mono hs3)
          clear hown b4 hcx
          go_wp2_with (at_builtin; refine wpList_append_own _ rfl _ _ 63 rfl w1.heap.size 9 i0 _ 1 16 Tryd.underlying63 hi hz0 hz1 hz2 rfl (by decide) _ _ _ rfl (hown4.alloc _) ⟨w4.heap.size, 0, none⟩ 1 1 _ rfl rfl HC.out ?c2 ?c3 ?c4 ?c5 ?_)
          case c2 => intro u hu; simp at hu; subst hu; rfl
          case c3 => unfold maxLen; omega
          case c4 => omega
          case c5 => simp; omega
          intro v' w5 hown' hgrow _
          obtain ⟨g', cap', rfl⟩ := ownsRow_succ hown'
          have hb5 : Below w1.heap.size w1 w5 := (hb4.alloc (by omega) _).grown hgrow (by simp; omega) (fun j ej => (hown4.lt j ej).1)
          have hown6 := OwnS.grow (ls := ls) (y := Y) hown' HLL.out
          rw [← TK.out] at hown6
          go_wp2_with fail
          go_roundw
          case rel => exact ⟨n + 1, hlt, by go_num, hown6, hb5⟩
          case measure => simp [intOf]; omega
        | false =>
          have hk1 : kindL x ≠ 1 := fun e => by rw [kc.1 e] at hbl; cases hbl
          obtain ⟨c, t, rfl⟩ := all_blank_cons hbl
          have hki : ((kindL (c :: t) : Int) == 1) = false := by rw [beq_eq_false_iff_ne]; omega
          have q2 := byte_eq (c := c) (d := 46) 46 rfl
          have hXc : ∀ h : 0 < (B (c :: t)).size, (B (c :: t))[0]'h = c := fun _ => rfl
          have hxz2 : (B (c :: t)).size = t.length + 1 := hxz
          have htl : t.length ≤ 1000000 := by simp only [List.length_cons] at hxl; omega
          have hxp : 0 < (B (c :: t)).size := by omega
          clear hxz
          by_cases hc : c = 46
          · have hfx : ⟨#[32, 46]⟩ ++ B (c :: t) = B (furtherL (c :: t)) := by unfold furtherL dotted; rw [hc]; simp; exact B_append [32, 46] (46 :: t)
            have hcb : (c == 46) = true := by simp [hc]
            rw [hcb] at q2
            clear hx hk1 kc hbl hxc hxm hc
            generalize (FL :: ((r.take n).map furtherL).map B) = ls at *
            generalize kindL (c :: t) = kx at *
            generalize B (furtherL (c :: t)) = Y at *
            generalize B (c :: t) = X at *
            go_wp2_with fail
            refine (RK _).mono ?_
            rintro e w4 ⟨rfl, b4⟩
            have hcx4 := (b4.cell (p := ⟨g, n + 1, none⟩) (Nat.lt_of_lt_of_le hg2 hs3)).trans hcx
            have hown4 : w4.ownsRow w1.heap.size 9 1 u5 (n + 1) (ls.map Value.string) := by rw [← HLL.out]; exact hown.kept b4 (Nat.le_refl _)
            have hs4 := b4.size
            have HC := Lib.hid (strCell w4 Y 9)
            have hb4 : Below w1.heap.size w1 w4 := hb.trans (b4.mono hs3)
            clear hown b4 hcx
            go_wp2_with (at_builtin; refine wpList_append_own _ rfl _ _ 63 rfl w1.heap.size 9 i0 _ 1 16 Tryd.underlying63 hi hz0 hz1 hz2 rfl (by decide) _ _ _ rfl (hown4.alloc _) ⟨w4.heap.size, 0, none⟩ 1 1 _ rfl rfl HC.out ?c2 ?c3 ?c4 ?c5 ?_)
            case c2 => intro u hu; simp at hu; subst hu; rfl
            case c3 => unfold maxLen; omega
            case c4 => omega
            case c5 => simp; omega
            intro v' w5 hown' hgrow _
            obtain ⟨g', cap', rfl⟩ := ownsRow_succ hown'
            have hb5 : Below w1.heap.size w1 w5 := (hb4.alloc (by omega) _).grown hgrow (by simp; omega) (fun j ej => (hown4.lt j ej).1)
            have hown6 := OwnS.grow (ls := ls) (y := Y) hown' HLL.out
            rw [← TK.out] at hown6
            go_wp2_with fail
            go_roundw
            case rel => exact ⟨n + 1, hlt, by go_num, hown6, hb5⟩
            case measure => simp [intOf]; omega
          · have hfx : ⟨#[32]⟩ ++ B (c :: t) = B (furtherL (c :: t)) := by unfold furtherL dotted; rw [hbl]; simp [hc]; exact B_append [32] (c :: t)
            have hcb : (c == 46) = false := by simp [hc]
            rw [hcb] at q2
            clear hx hk1 kc hbl hxc hxm hc
            generalize (FL :: ((r.take n).map furtherL).map B) = ls at *
            generalize kindL (c :: t) = kx at *
            generalize B (furtherL (c :: t)) = Y at *
            generalize B (c :: t) = X at *
            go_wp2_with fail
            refine (RK _).mono ?_
            rintro e w4 ⟨rfl, b4⟩
            have hcx4 := (b4.cell (p := ⟨g, n + 1, none⟩) (Nat.lt_of_lt_of_le hg2 hs3)).trans hcx
            have hown4 : w4.ownsRow w1.heap.size 9 1 u5 (n + 1) (ls.map Value.string) := by rw [← HLL.out]; exact hown.kept b4 (Nat.le_refl _)
            have hs4 := b4.size
            have HC := Lib.hid (strCell w4 Y 9)
            have hb4 : Below w1.heap.size w1 w4 := hb.trans (b4.mono hs3)
            clear hown b4 hcx
            go_wp2_with (at_builtin; refine wpList_append_own _ rfl _ _ 63 rfl w1.heap.size 9 i0 _ 1 16 Tryd.underlying63 hi hz0 hz1 hz2 rfl (by decide) _ _ _ rfl (hown4.alloc _) ⟨w4.heap.size, 0, none⟩ 1 1 _ rfl rfl HC.out ?c2 ?c3 ?c4 ?c5 ?_)
            case c2 => intro u hu; simp at hu; subst hu; rfl
            case c3 => unfold maxLen; omega
            case c4 => omega
            case c5 => simp; omega
            intro v' w5 hown' hgrow _
            obtain ⟨g', cap', rfl⟩ := ownsRow_succ hown'
            have hb5 : Below w1.heap.size w1 w5 := (hb4.alloc (by omega) _).grown hgrow (by simp; omega) (fun j ej => (hown4.lt j ej).1)
            have hown6 := OwnS.grow (ls := ls) (y := Y) hown' HLL.out
            rw [← TK.out] at hown6
            go_wp2_with fail
            go_roundw
            case rel => exact ⟨n + 1, hlt, by go_num, hown6, hb5⟩
            case measure => simp [intOf]; omega
      · obtain rfl : n = r.length := by omega
        rw [List.take_length] at hown
        go_wp2_with fail
        go_ret
        exact ⟨_, _, rfl, by rw [HFL.out]; exact hown, BW.out.trans (hb.mono hw1)⟩

end Go.Proofs.YtafgebodmhkghaaDoor
/- Fold by definition. -/
namespace Go.Proofs.YtafgebodmhkghaaDoor
open Go.RowKit Go.Shelf

theorem text_any_le (k v : List UInt8) (hk : k.length ≤ 100000) (hv : v.length ≤ 100000) : (textL (linesL k v)).length ≤ 500000 := by
  rw [textL_len]
  have := lines_sum k v
  omega
set_option maxRecDepth 100000 in
set_option maxHeartbeats 4000000 in
theorem refFold_any (fs : List (List UInt8 × List UInt8)) (v : Value) (w : World) (hs : Flds w v fs) (hn : fs.length ≤ 1000) (hl : ∀ f ∈ fs, f.1.length ≤ 100000 ∧ f.2.length ≤ 100000) :
    Calls Tryd.prog 54 #[v] w fun e w' => e = .returned (.string (B (foldG fs))) ∧ Below w.heap.size w w' := by
  obtain ⟨A, cap, rfl, hle, hc⟩ := hs
  have PC := Lib.hid hc
  clear hc
  go_enter Tryd.func54, Tryd.ntmps54
  go_wp2_with fail
  go_loopw [3, 4] (fun s i wr => ∃ k : Nat, k ≤ fs.length ∧ i = .int .i64 k ∧ s = .string (B (foldG (fs.take k))) ∧ (foldG (fs.take k)).length ≤ 500000 * k ∧ Below w.heap.size w wr) (fun _ i _ => fs.length - (intOf i).toNat)
  case atStart => exact ⟨0, Nat.zero_le _, rfl, rfl, Nat.le_refl _, Below.refl _ _⟩
  case round =>
    obtain ⟨k, hk, rfl, rfl, hlen, hb⟩ := hrel
    by_cases hlt : k < fs.length
    · obtain ⟨f, hf⟩ : ∃ f, fs[k]? = some f := ⟨_, List.getElem?_eq_getElem hlt⟩
      obtain ⟨b, off, rfl, hbb, c0, c1⟩ := PC.out k f hf
      replace c0 := (hb.cell (p := ⟨b, off + k * 2, none⟩) hbb).trans c0
      replace c1 := (hb.cell (p := ⟨b, off + k * 2 + 1, none⟩) hbb).trans c1
      obtain ⟨hl1, hl2⟩ := hl f (List.mem_of_getElem? hf)
      have htake : fs.take (k + 1) = fs.take k ++ [f] := by rw [List.take_add_one, hf]; rfl
      have G1 : Hid (foldG (fs.take (k + 1)) = foldG (fs.take k) ++ textL (linesL f.1 f.2)) := by
        show _ = _
        rw [htake, foldG_snoc]
      have RL := fun w => refLines_any f.1 f.2 hl1 hl2 w
      have htl := text_any_le f.1 f.2 hl1 hl2
      have hm1 : 1 ≤ (linesL f.1 f.2).length := by rw [linesL_len]; omega
      have hm2 : (linesL f.1 f.2).length ≤ 500000 := by rw [textL_len] at htl; omega
      unfold fieldV at RL
      clear htake hf
      generalize foldG (fs.take k) = pre at *
      go_wp2_with fail
      refine (RL _).mono ?_
      rintro e w2 ⟨sv, base, rfl, hown, b2⟩
      have hb2 := hb.trans (b2.mono hb.size)
      obtain ⟨g, cap', rfl, _, _⟩ := hown.form (by simp; omega)
      have CL := Lib.hid (fun (j : Nat) x (hx : (linesL f.1 f.2)[j]? = some x) => hown.cell rfl j (B x) (by rw [List.getElem?_map, hx]; rfl))
      rw [List.length_map] at *
      clear hown b2 RL
      generalize linesL f.1 f.2 = ls at *
      go_wp2_with fail
      go_loopw [3, 19] (fun s i wq => ∃ j : Nat, j ≤ ls.length ∧ i = .int .i64 j ∧ s = .string (B (pre ++ textL (ls.take j))) ∧ w2 = wq) (fun _ i _ => ls.length - (intOf i).toNat)
      case atStart => exact ⟨0, Nat.zero_le _, rfl, by simp [textL], rfl⟩
      case round =>
        obtain ⟨j, hj, rfl, rfl, rfl⟩ := hrel
        by_cases hjl : j < ls.length
        · obtain ⟨x, hx⟩ : ∃ x, ls[j]? = some x := ⟨_, List.getElem?_eq_getElem hjl⟩
          have hcx := CL.out j x hx
          have T1 : Hid (B (pre ++ textL (ls.take (j + 1))) = (B (pre ++ textL (ls.take j)) ++ B x) ++ ⟨#[10]⟩) := by
            show _ = _
            rw [List.take_add_one, hx, show (some x).toList = [x] from rfl, textL_snoc, show (⟨#[10]⟩ : ByteArray) = B [10] from rfl, B_append, B_append]; simp
          have t1 := textL_take ls (j + 1)
          rw [List.take_add_one, hx, show (some x).toList = [x] from rfl, textL_snoc, List.length_append, List.length_append] at t1
          simp only [List.length_singleton] at t1
          have y1 := B_size (pre ++ textL (ls.take j))
          rw [List.length_append] at y1
          have y2 := B_size x
          have y3 : (B (pre ++ textL (ls.take j)) ++ B x).size = pre.length + (textL (ls.take j)).length + x.length := by
            rw [B_append, B_size, List.length_append, List.length_append]
          clear hx
          generalize B (pre ++ textL (ls.take j)) = acc at *
          generalize B x = X at *
          go_wp2_with fail
          go_roundw
          case rel => exact ⟨j + 1, hjl, by go_num, by rw [T1.out], trivial⟩
          case measure => simp [intOf]; omega
        · obtain rfl : j = ls.length := by omega
          rw [List.take_length]
          go_wp2_with fail
          go_roundw
          case rel =>
            refine ⟨k + 1, hlt, by go_num, by rw [G1.out], ?_, hb2⟩
            rw [G1.out, List.length_append]; omega
          case measure => simp [intOf]; omega
    · obtain rfl : k = fs.length := by omega
      rw [List.take_length]
      go_wp2_with fail
      go_ret
      exact ⟨rfl, hb⟩
end Go.Proofs.YtafgebodmhkghaaDoor
/- Whether an item is printed so; the document's check, item and that. -/
namespace Go.Proofs.YtafgebodmhkghaaDoor
open Go.RowKit Go.Shelf

/-- Is an item printed so? -/
def plainB (k : Int) (raw : List UInt8) (fs : List Fld) : Bool := chkN fs == 0 && k == 3 && raw == foldG fs
theorem beq_B (a b : List UInt8) : ((B a).toList == (B b).toList) = (a == b) := by rw [Lib.toList_data, Lib.toList_data, B_data, B_data]
theorem foldG_small {fs : List Fld} (h0 : foldN fs = 0) : (foldG fs).length ≤ 4000 * fs.length := by
  induction fs with
  | nil => simp [foldG]
  | cons f r ih =>
    have h1 : checkN f.1 f.2 = 0 := by
      unfold foldN at h0
      rcases Nat.decEq (checkN f.1 f.2) 0 with h | h
      · rw [if_neg h] at h0; exact absurd h0 h
      · exact h
    have h2 : foldN r = 0 := by
      unfold foldN at h0
      rwa [if_pos h1] at h0
    have := ih h2
    have := text_le h1
    unfold foldG at *
    rw [List.flatMap_cons, List.length_append, List.length_cons]
    omega
attribute [local go_sem] errV_0
set_option maxRecDepth 100000 in
set_option maxHeartbeats 4000000 in
theorem plainIt_any (k : Int) (raw : List UInt8) (fs : List Fld) (fv : Value) (w : World) (hs : Flds w fv fs) (hn : fs.length ≤ 1000000) (hl : ∀ f ∈ fs, f.1.length ≤ 100000 ∧ f.2.length ≤ 100000) :
    Calls Tryd.prog 29 #[.agg #[.int .i64 k, .string (B raw), fv]] w fun e w' => e = .returned (.bool (plainB k raw fs)) ∧ Below w.heap.size w w' := by
  obtain ⟨fa, fc, rfl, hle, _⟩ := id hs
  have hba : Below w.heap.size w (w.alloc (.cells #[.int .i64 k, .string (B raw), .slice fa fs.length fc] 43)) := (Below.refl _ _).alloc (Nat.le_refl _) _
  have hza : (w.alloc (.cells #[.int .i64 k, .string (B raw), .slice fa fs.length fc] 43)).heap.size = w.heap.size + 1 := by simp
  have ST := Lib.hid (stanza_any fs _ _ (hs.below hba (Nat.le_refl _)) hn hl)
  have BX := Lib.hid (Cells.new w 43 #[.int .i64 k, .string (B raw), .slice fa fs.length fc])
  clear hs hl
  go_enter Tryd.func29, Tryd.ntmps29
  go_wp2_with fail
  refine ST.out.mono ?_
  rintro e w1 ⟨u, rfl, b1, hu⟩
  have R1 := cells_kept BX.out b1 (by omega)
  have hb1 : Below w.heap.size w w1 := hba.trans (b1.mono (by omega))
  have c0 : w1.cell? ⟨w.heap.size, 0, none⟩ = some (.int .i64 k) := R1.cell 0
  have c1 : w1.cell? ⟨w.heap.size, 1, none⟩ = some (.string (B raw)) := R1.cell 1
  by_cases h0 : chkN fs = 0
  · obtain rfl := hu.zero h0
    have ht : stzT fs = foldG fs := by unfold stzT; rw [if_pos h0]
    have PB : plainB k raw fs = (k == 3 && raw == foldG fs) := by unfold plainB; rw [h0]; rfl
    rw [ht]
    generalize foldG fs = T at *
    have PBH := Lib.hid PB
    clear hu ST BX R1 PB ht hba
    by_cases hk : k = 3
    · subst hk
      by_cases he : raw = T
      · subst he
        have hq : Hid (((3 : Int) == 3 && raw == raw) = true) := by show _ = _; simp
        generalize hX : B raw = X at *
        replace hX := Lib.hid hX
        go_wp2_with fail
        go_ret
        exact ⟨by rw [PBH.out, hq.out]; rfl, hb1⟩
      · have hq : Hid (((3 : Int) == 3 && raw == T) = false) := by show _ = _; simp [he]
        have hXY : ((B raw).toList == (B T).toList) = false := by rw [beq_B]; simp [he]
        have HE := Lib.hid he
        clear he
        generalize B raw = X at *
        generalize B T = Y at *
        go_wp2_with fail
        go_ret
        exact ⟨by rw [PBH.out, hq.out]; rfl, hb1⟩
    · have hk2 : (k == 3) = false := beq_eq_false_iff_ne.2 hk
      have hq : Hid ((k == 3 && raw == T) = false) := by show _ = _; rw [hk2]; rfl
      clear hk
      go_wp2_with fail
      go_ret
      exact ⟨by rw [PBH.out, hq.out]; rfl, hb1⟩
  · have hp := hu.pos h0
    have PB : plainB k raw fs = false := by unfold plainB; simp [h0]
    have PBH := Lib.hid PB
    clear hu ST BX R1 PB hba
    rcases hp with rfl | ⟨q, rfl⟩
    all_goals
      go_wp2_with fail
      go_ret
      exact ⟨by rw [PBH.out]; rfl, hb1⟩
set_option maxRecDepth 100000 in
set_option maxHeartbeats 4000000 in
theorem refChk_any (fs : List Fld) (v : Value) (w : World) (hs : Flds w v fs) (hn : fs.length ≤ 1000000) (hl : ∀ f ∈ fs, f.1.length ≤ 1000000 ∧ f.2.length ≤ 1000000) :
    Calls Tryd.prog 26 #[v] w fun e w' => e = .returned (.tuple #[.int .i64 (chkAt fs), .int .i64 (chkN fs : Nat)]) ∧ Below w.heap.size w w' := by
  obtain ⟨A, cap, rfl, hle, hc⟩ := hs
  have PC := Lib.hid hc
  have HL := Lib.hid hl
  clear hc hl
  by_cases h0 : fs.length = 0
  · have e1 : chkAt fs = -9 := by unfold chkAt; rw [if_pos (.inl h0)]
    have e2 : chkN fs = 2 := by unfold chkN; rw [if_pos h0]
    rw [e1, e2, h0]
    go_enter Tryd.func26, Tryd.ntmps26
    go_wp2_with fail
    go_ret2
    exact ⟨rfl, Below.refl _ _⟩
  have c0 : ((fs.length : Int) == 0) = false := by simp; intro h; exact h0 (by rw [h]; rfl)
  by_cases h40 : 40 < fs.length
  · have e1 : chkAt fs = -9 := by unfold chkAt; rw [if_pos (.inr (.inl h40))]
    have e2 : chkN fs = 11 := by unfold chkN; rw [if_neg h0, if_pos h40]
    rw [e1, e2]
    go_enter Tryd.func26, Tryd.ntmps26
    go_wp2_with fail
    go_ret2
    exact ⟨rfl, Below.refl _ _⟩
  have e2 : chkN fs = foldN fs := by unfold chkN; rw [if_neg h0, if_neg h40]
  have FINZ : Hid (foldN fs = 0 → chkAt fs = -9 ∧ chkN fs = 0) := by
    intro hz
    exact ⟨by unfold chkAt; rw [if_pos (.inr (.inr hz))], by rw [e2, hz]⟩
  have FINB : Hid (∀ (k n : Nat), foldN fs = n → n ≠ 0 → badAt fs = k → chkAt fs = (k : Nat) ∧ chkN fs = n) := by
    intro k n hf hnz hk
    refine ⟨?_, by rw [e2, hf]⟩
    unfold chkAt
    rw [if_neg (by unfold bare; rintro (h | h | h) <;> omega), hk]
  clear e2
  go_enter Tryd.func26, Tryd.ntmps26
  go_wp2_with fail
  go_loopw [4] (fun i wr => ∃ k : Nat, k ≤ fs.length ∧ i = .int .i64 k ∧ foldN fs = foldN (fs.drop k) ∧ badAt fs = badAt (fs.drop k) + k ∧ Below w.heap.size w wr) (fun i _ => fs.length - (intOf i).toNat)
  case atStart => exact ⟨0, Nat.zero_le _, rfl, rfl, rfl, Below.refl _ _⟩
  case round =>
    obtain ⟨k, hk, rfl, hN, hA, hb⟩ := hrel
    by_cases hlt : k < fs.length
    · obtain ⟨f, hf⟩ : ∃ f, fs[k]? = some f := ⟨_, List.getElem?_eq_getElem hlt⟩
      obtain ⟨b, off, rfl, hbb, c0', c1⟩ := PC.out k f hf
      replace c0' := (hb.cell (p := ⟨b, off + k * 2, none⟩) hbb).trans c0'
      replace c1 := (hb.cell (p := ⟨b, off + k * 2 + 1, none⟩) hbb).trans c1
      obtain ⟨hl1, hl2⟩ := HL.out f (List.mem_of_getElem? hf)
      have hdrop : fs.drop k = f :: fs.drop (k + 1) := by
        rw [List.drop_eq_getElem_cons hlt]
        rw [List.getElem?_eq_getElem hlt] at hf
        rw [Option.some.inj hf]
      have hs1 := hb.size
      have CK := fun W => refCheck_any f.1 f.2 hl1 hl2 W
      unfold fieldV at CK
      rw [hdrop] at hN hA
      by_cases hck : checkN f.1 f.2 = 0
      · have G1 : Hid (foldN fs = foldN (fs.drop (k + 1))) := by
          show _ = _
          rw [hN]; show (if checkN f.1 f.2 = 0 then foldN (fs.drop (k + 1)) else _) = _; rw [if_pos hck]
        have G2 : Hid (badAt fs = badAt (fs.drop (k + 1)) + (k + 1)) := by
          show _ = _
          rw [hA]; show (if checkN f.1 f.2 = 0 then badAt (fs.drop (k + 1)) + 1 else _) + k = _; rw [if_pos hck]; omega
        rw [hck] at CK
        clear hdrop hN hA hf hck FINB FINZ PC HL
        go_wp2_with fail
        refine (CK _).mono ?_
        rintro e w2 ⟨rfl, b2⟩
        have hb2 := hb.trans (b2.mono hs1)
        clear b2 CK
        go_wp2_with fail
        go_roundw
        case rel => exact ⟨k + 1, hlt, by go_num, G1.out, G2.out, hb2⟩
        case measure => simp [intOf]; omega
      · have hfn : foldN fs = checkN f.1 f.2 := by rw [hN]; unfold foldN; rw [if_neg hck]
        have hbn : badAt fs = k := by rw [hA]; unfold badAt; rw [if_neg hck]; omega
        obtain ⟨F1, F2⟩ := FINB.out k (checkN f.1 f.2) hfn hck hbn
        have hcn : ((checkN f.1 f.2 : Int) != 0) = true := by simp; omega
        have FH1 := Lib.hid F1
        have FH2 := Lib.hid F2
        clear hdrop hN hA hf FINB FINZ PC HL hfn hbn F1 F2
        generalize checkN f.1 f.2 = cn at *
        go_wp2_with fail
        refine (CK _).mono ?_
        rintro e w2 ⟨rfl, b2⟩
        have hb2 := hb.trans (b2.mono hs1)
        clear b2 CK
        go_wp2_with fail
        go_ret2
        exact ⟨by rw [FH1.out, FH2.out]; rfl, hb2⟩
    · obtain rfl : k = fs.length := by omega
      rw [List.drop_length] at hN
      obtain ⟨F1, F2⟩ := FINZ.out hN
      have FH1 := Lib.hid F1
      have FH2 := Lib.hid F2
      clear hN hA FINB FINZ PC HL F1 F2
      go_wp2_with fail
      go_ret2
      exact ⟨by rw [FH1.out, FH2.out]; rfl, hb⟩
end Go.Proofs.YtafgebodmhkghaaDoor
/- A list's text. -/
namespace Go.Proofs.YtafgebodmhkghaaDoor
open Go.RowKit Go.Shelf

def joinT (rs : List (List Fld)) : List UInt8 := joinNl (rs.map foldG)
theorem joinNl_snoc : ∀ (l : List (List UInt8)) (x : List UInt8), joinNl (l ++ [x]) = if l = [] then x else (joinNl l ++ [10]) ++ x
  | [], x => rfl
  | [p], x => by
    show joinNl [p, x] = _
    rw [if_neg (by simp)]
    show p ++ 10 :: x = _
    simp [joinNl]
  | p :: q :: r, x => by
    have ih := joinNl_snoc (q :: r) x
    rw [if_neg (by simp)] at ih ⊢
    show p ++ 10 :: joinNl ((q :: r) ++ [x]) = (p ++ 10 :: joinNl (q :: r) ++ [10]) ++ x
    rw [ih]; simp
theorem joinNl_le : ∀ (l : List (List UInt8)) (n : Nat), (∀ x ∈ l, x.length ≤ n) → (joinNl l).length ≤ (n + 1) * l.length
  | [], n, _ => by simp [joinNl]
  | [p], n, h => by
    have := h p (by simp)
    show p.length ≤ _
    simp only [List.length_singleton]; omega
  | p :: q :: r, n, h => by
    have ih := joinNl_le (q :: r) n (fun x hx => h x (List.mem_cons_of_mem _ hx))
    have := h p (by simp)
    show (p ++ 10 :: joinNl (q :: r)).length ≤ _
    simp only [List.length_append, List.length_cons] at ih ⊢
    have e : (n + 1) * (r.length + 1 + 1) = (n + 1) * (r.length + 1) + (n + 1) := Nat.mul_succ _ _
    omega
theorem joinT_take_len {rs : List (List Fld)} (h : ∀ r ∈ rs, chkN r = 0) (hn : rs.length ≤ 1000) : (joinT rs).length ≤ 160001000 := by
  unfold joinT
  have := joinNl_le (rs.map foldG) 160000 (fun x hx => by
    obtain ⟨r, hr, rfl⟩ := List.mem_map.1 hx
    obtain ⟨_, h2, h3⟩ := chkN_zero (h r hr)
    have := foldG_small h3
    omega)
  rw [List.length_map] at this
  omega
/-- The first stanza that is wrong. -/
def badR (rs : List (List Fld)) : Option (List Fld) := rs.find? fun r => chkN r != 0
theorem badR_none {rs : List (List Fld)} (h : ∀ r ∈ rs, chkN r = 0) : badR rs = none := by
  unfold badR
  rw [List.find?_eq_none]
  intro r hr
  simp [h r hr]
theorem badR_at : ∀ {rs : List (List Fld)} {k : Nat} {r : List Fld}, (∀ y ∈ rs.take k, chkN y = 0) → rs[k]? = some r → chkN r ≠ 0 → badR rs = some r
  | [], k, r, _, h, _ => by simp at h
  | a :: l, 0, r, _, h, hr => by
    simp only [List.getElem?_cons_zero, Option.some.injEq] at h
    subst h
    unfold badR
    rw [List.find?_cons_of_pos (by simpa using hr)]
  | a :: l, k + 1, r, ha, h, hr => by
    have h0 : chkN a = 0 := ha a (by simp)
    unfold badR
    rw [List.find?_cons_of_neg (by simp [h0])]
    exact badR_at (k := k) (fun y hy => ha y (by simp only [List.take_succ_cons, List.mem_cons]; exact .inr hy)) (by simpa using h) hr
/-- Text's answer. -/
def TextR (w : World) (rs : List (List Fld)) (e : Ending) (w' : World) : Prop :=
  Below w.heap.size w w' ∧ match badR rs with
    | some r => ∃ u, e = .returned (.tuple #[.string (B []), u]) ∧ ChkV w.heap.size w' u r ∧ chkN r ≠ 0
    | none => e = .returned (.tuple #[.string (B (joinT rs)), .nilIface]) ∧ ∀ r ∈ rs, chkN r = 0
theorem TextR.no {w w' : World} {rs : List (List Fld)} {u : Value} {r : List Fld} (h : badR rs = some r) (hb : Below w.heap.size w w') (hu : ChkV w.heap.size w' u r) (h0 : chkN r ≠ 0) : TextR w rs (.returned (.tuple #[.string (B []), u])) w' :=
  ⟨hb, by rw [h]; exact ⟨u, rfl, hu, h0⟩⟩
theorem TextR.yes {w w' : World} {rs : List (List Fld)} (h : ∀ r ∈ rs, chkN r = 0) (hb : Below w.heap.size w w') : TextR w rs (.returned (.tuple #[.string (B (joinT rs)), .nilIface])) w' :=
  ⟨hb, by rw [badR_none h]; exact ⟨rfl, h⟩⟩
attribute [local go_sem] errV_0
set_option maxRecDepth 100000 in
set_option maxHeartbeats 4000000 in
theorem text_any (rs : List (List Fld)) (v : Value) (w : World) (hs : Rws w v rs) (hn : rs.length ≤ 1000) (hl : ∀ r ∈ rs, r.length ≤ 1000000 ∧ ∀ f ∈ r, f.1.length ≤ 100000 ∧ f.2.length ≤ 100000) :
    Calls Tryd.prog 32 #[v] w fun e w' => TextR w rs e w' := by
  obtain ⟨A, cap, rfl, hle, hc⟩ := hs
  obtain ⟨i0, hi, hz0, hz1, hz2⟩ := info_parts infoStr
  have PC := Lib.hid hc
  have HL := Lib.hid hl
  clear hc hl
  by_cases hne : rs = []
  · subst hne
    simp only [List.length_nil]
    have FIN : Hid (∀ W, Below w.heap.size w W → TextR w [] (.returned (.tuple #[.string ⟨#[]⟩, .nilIface])) W) := fun W hb => .yes (by intro r hr; cases hr) hb
    go_enter Tryd.func32, Tryd.ntmps32
    go_wp2_with fail
    go_loopw [4, 11] (fun u i wr => u = .slice none 0 0 ∧ i = .int .i64 0 ∧ wr = w) (fun _ i _ => 0)
    case atStart => exact ⟨rfl, rfl, rfl⟩
    case round =>
      obtain ⟨rfl, rfl, rfl⟩ := hrel
      go_wp2_with fail
      refine (Tryd.strings_Join_none none 0 ⟨#[10]⟩ _).mono ?_
      rintro e w5 ⟨rfl, rfl⟩
      go_wp2_with fail
      go_ret2
      exact FIN.out _ (Below.refl _ _)
  · have h1 : 1 ≤ rs.length := by
      cases rs with
      | nil => exact absurd rfl hne
      | cons a l => simp
    clear hne
    go_enter Tryd.func32, Tryd.ntmps32
    go_wp2_with fail
    go_loopw [4, 11] (fun u i wr => ∃ k : Nat, k ≤ rs.length ∧ i = .int .i64 k ∧ (∀ y ∈ rs.take k, chkN y = 0) ∧ OwnS wr w.heap.size u ((rs.take k).map fun r => B (foldG r)) ∧ Below w.heap.size w wr) (fun _ i _ => rs.length - (intOf i).toNat)
    case atStart => exact ⟨0, Nat.zero_le _, rfl, (fun y hy => by simp at hy), ⟨rfl, .inl ⟨rfl, rfl⟩⟩, Below.refl _ _⟩
    case round =>
      obtain ⟨k, hk, rfl, hG, hown, hb⟩ := hrel
      have hzw := hb.size
      by_cases hlt : k < rs.length
      · obtain ⟨r, hr⟩ : ∃ r, rs[k]? = some r := ⟨_, List.getElem?_eq_getElem hlt⟩
        obtain ⟨b, off, fv, rfl, hbb, c0, hfl⟩ := PC.out k r hr
        replace c0 := (hb.cell (p := ⟨b, off + k, none⟩) hbb).trans c0
        obtain ⟨l1, l2⟩ := HL.out r (List.mem_of_getElem? hr)
        obtain ⟨fa, fc, rfl, _, _⟩ := id hfl
        have ST := Lib.hid (stanza_any r _ wr (hfl.below hb (Nat.le_refl _)) l1 l2)
        have GH := Lib.hid hG
        have HR := Lib.hid hr
        have OW := Lib.hid hown
        clear hG hr hfl l2 PC HL hown
        go_wp2_with fail
        refine ST.out.mono ?_
        rintro e w1 ⟨u, rfl, b1, hu⟩
        have hb1 := hb.trans (b1.mono hzw)
        by_cases h0 : chkN r = 0
        · obtain rfl := hu.zero h0
          have ht : stzT r = foldG r := by unfold stzT; rw [if_pos h0]
          have hown1 := OW.out.kept b1 (Nat.le_refl _)
          have hzb := hb1.size
          have TK : Hid ((rs.take (k + 1)).map (fun r => B (foldG r)) = (rs.take k).map (fun r => B (foldG r)) ++ [B (foldG r)]) := by
            show _ = _
            rw [List.take_add_one, HR.out]; simp
          have GK : Hid (∀ y ∈ rs.take (k + 1), chkN y = 0) := by
            intro y hy
            rw [List.take_add_one, HR.out] at hy
            rcases List.mem_append.1 hy with hy | hy
            · exact GH.out y hy
            · simp at hy; subst hy; exact h0
          have hll : ((rs.take k).map fun r => B (foldG r)).length = k := by rw [List.length_map, List.length_take]; omega
          have HLL := Lib.hid hll
          rw [ht]
          clear hu ht ST OW HR GH h0 b1
          generalize (rs.take k).map (fun r => B (foldG r)) = ls at *
          generalize foldG r = T at *
          have HC := Lib.hid (strCell w1 (B T) 9)
          have hown4 : w1.ownsRow w.heap.size 9 1 u4 ls.length (ls.map Value.string) := hown1
          clear hown1
          go_wp2_with (at_builtin; refine wpList_append_own _ rfl _ _ 63 rfl w.heap.size 9 i0 _ 1 16 Tryd.underlying63 hi hz0 hz1 hz2 rfl (by decide) _ _ _ rfl (hown4.alloc _) ⟨w1.heap.size, 0, none⟩ 1 1 _ rfl rfl HC.out ?c2 ?c3 ?c4 ?c5 ?_)
          case c2 => intro u hu; simp at hu; subst hu; rfl
          case c3 => unfold maxLen; omega
          case c4 => omega
          case c5 => simp; omega
          intro v' w5 hown' hgrow _
          obtain ⟨g', cap', rfl⟩ := ownsRow_succ hown'
          have hb5 : Below w.heap.size w w5 := (hb1.alloc (by omega) _).grown hgrow (by simp; omega) (fun j ej => (hown4.lt j ej).1)
          go_wp2_with fail
          go_roundw
          case rel =>
            refine ⟨k + 1, hlt, by go_num, GK.out, ?_, hb5⟩
            rw [TK.out]
            unfold OwnS
            rw [List.length_append, List.map_append, HLL.out]; exact hown'
          case measure => simp [intOf]; omega
        · have hp := hu.pos h0
          have FIN := Lib.hid (TextR.no (badR_at GH.out HR.out h0) hb1 (hu.mono hzw) h0)
          clear hu ST OW HR GH h0 b1
          rcases hp with rfl | ⟨q, rfl⟩
          all_goals
            go_wp2_with fail
            go_ret2
            exact FIN.out
      · obtain rfl : k = rs.length := by omega
        rw [List.take_length] at hown hG
        have hJ : Lib.join ((rs.map fun r => B (foldG r)).map (·.data.toList)) [10] = joinT rs := by
          rw [joinNl_eq, List.map_map]
          unfold joinT
          congr 1
          try exact List.map_congr_left fun r _ => B_data _
        have hjl := joinT_take_len hG hn
        have hll : (rs.map fun r => B (foldG r)).length = rs.length := List.length_map _
        have GH := Lib.hid hG
        obtain ⟨g, cap', e⟩ := Joins.ownsRow_form hown (by omega)
        subst e
        have hst := hown.strs
        obtain ⟨A', cap2, e, hle2, hc2⟩ := hst
        cases e
        have JN := Tryd.strings_Join g 0 cap' _ ⟨#[10]⟩ wr (fun j x hx => by obtain ⟨b', o', e, _, h⟩ := hc2 j x hx; cases e; exact h) (by
          obtain ⟨x, hx⟩ : ∃ x, (rs.map fun r => B (foldG r))[0]? = some x := ⟨_, List.getElem?_eq_getElem (by omega)⟩
          obtain ⟨b', o', e, h, _⟩ := hc2 0 x hx; cases e; exact h) (by omega) hle2 (by show (Lib.join _ [10]).length ≤ _; rw [hJ]; first | omega | (unfold maxLen; omega))
        rw [show (⟨#[10]⟩ : ByteArray).data.toList = [10] from rfl, hJ] at JN
        rw [hll] at JN ⊢
        have JNH := Lib.hid JN
        clear hown hc2 hle2 hJ hG JN PC HL
        go_wp2_with fail
        refine JNH.out.mono ?_
        rintro e w5 ⟨rfl, b5⟩
        have FIN := Lib.hid (TextR.yes GH.out (hb.trans (b5.mono hzw)))
        clear JNH
        go_wp2_with fail
        go_ret2
        exact FIN.out
set_option maxRecDepth 100000 in
set_option maxHeartbeats 4000000 in
theorem refText_any (rs : List (List Fld)) (v : Value) (w : World) (hs : Rws w v rs) (hn : rs.length ≤ 1000) (hl : ∀ r ∈ rs, r.length ≤ 1000000 ∧ ∀ f ∈ r, f.1.length ≤ 100000 ∧ f.2.length ≤ 100000) (hg : ∀ r ∈ rs, chkN r = 0) :
    Calls Tryd.prog 33 #[v] w fun e w' => e = .returned (.string (B (joinT rs))) ∧ Below w.heap.size w w' := by
  obtain ⟨A, cap, rfl, hle, hc⟩ := hs
  have PC := Lib.hid hc
  have HL := Lib.hid hl
  have HG := Lib.hid hg
  have LEN := Lib.hid (fun k => joinT_take_len (rs := rs.take k) (fun r hr => hg r (List.mem_of_mem_take hr)) (by rw [List.length_take]; omega))
  clear hc hl hg
  go_enter Tryd.func33, Tryd.ntmps33
  go_wp2_with fail
  go_loopw [3, 4] (fun s i wr => ∃ k : Nat, k ≤ rs.length ∧ i = .int .i64 k ∧ s = .string (B (joinT (rs.take k))) ∧ Below w.heap.size w wr) (fun _ i _ => rs.length - (intOf i).toNat)
  case atStart => exact ⟨0, Nat.zero_le _, rfl, rfl, Below.refl _ _⟩
  case round =>
    obtain ⟨k, hk, rfl, rfl, hb⟩ := hrel
    have hzw := hb.size
    by_cases hlt : k < rs.length
    · obtain ⟨r, hr⟩ : ∃ r, rs[k]? = some r := ⟨_, List.getElem?_eq_getElem hlt⟩
      obtain ⟨b, off, fv, rfl, hbb, c0, hfl⟩ := PC.out k r hr
      replace c0 := (hb.cell (p := ⟨b, off + k, none⟩) hbb).trans c0
      obtain ⟨l1, l2⟩ := HL.out r (List.mem_of_getElem? hr)
      obtain ⟨g1, g2, g3⟩ := chkN_zero (HG.out r (List.mem_of_getElem? hr))
      obtain ⟨fa, fc, rfl, _, _⟩ := id hfl
      have RF := Lib.hid (refFold_any r _ wr (hfl.below hb (Nat.le_refl _)) (by omega) l2)
      have hj1 := LEN.out k
      have hj2 := LEN.out (k + 1)
      have SN : joinT (rs.take (k + 1)) = if k = 0 then foldG r else (joinT (rs.take k) ++ [10]) ++ foldG r := by
        unfold joinT
        rw [List.take_add_one, hr, List.map_append]
        show joinNl (_ ++ [foldG r]) = _
        rw [joinNl_snoc]
        by_cases h : k = 0
        · subst h; rfl
        · rw [if_neg h, if_neg (by intro e; have q := congrArg List.length e; rw [List.length_map, List.length_take, List.length_nil] at q; omega)]
      have zp := B_size (joinT (rs.take k))
      have zg := B_size (foldG r)
      have hsm := foldG_small g3
      by_cases h0 : k = 0
      · have e0 : joinT (rs.take k) = [] := by rw [h0]; rfl
        rw [if_pos h0] at SN
        have SNH := Lib.hid SN
        rw [e0, show B [] = ⟨#[]⟩ from rfl]
        have hk0 : ¬ (0 < k) := by omega
        clear SN hr hfl l2 PC HL HG LEN hj1 hj2 zp e0 g3 h0
        generalize foldG r = T at *
        go_wp2_with fail
        refine RF.out.mono ?_
        rintro e w1 ⟨rfl, b1⟩
        have hb1 := hb.trans (b1.mono hzw)
        clear RF
        go_wp2_with fail
        go_roundw
        case rel => exact ⟨k + 1, hlt, by go_num, by rw [SNH.out]; first | rfl | simp, hb1⟩
        case measure => simp [intOf]; omega
      · rw [if_neg h0] at SN
        have SNH := Lib.hid SN
        have hB2 : (B (joinT (rs.take k)) ++ ⟨#[10]⟩).size = (joinT (rs.take k)).length + 1 := by
          rw [show (⟨#[10]⟩ : ByteArray) = B [10] from rfl, B_append, B_size, List.length_append]; rfl
        clear SN hr hfl l2 PC HL HG LEN hj2 g3
        generalize joinT (rs.take k) = P at *
        generalize foldG r = T at *
        go_wp2_with fail
        refine RF.out.mono ?_
        rintro e w1 ⟨rfl, b1⟩
        have hb1 := hb.trans (b1.mono hzw)
        clear RF
        go_wp2_with fail
        go_roundw
        case rel => exact ⟨k + 1, hlt, by go_num, by rw [SNH.out, ← B_append, ← B_append]; rfl, hb1⟩
        case measure => simp [intOf]; omega
    · obtain rfl : k = rs.length := by omega
      rw [List.take_length]
      clear PC HL HG LEN
      go_wp2_with fail
      go_ret
      exact ⟨rfl, hb⟩
end Go.Proofs.YtafgebodmhkghaaDoor
/- Render; the document's item, render and plain; the laws' fixed fact. -/
namespace Go.Proofs.YtafgebodmhkghaaDoor
open Go.RowKit Go.Shelf

theorem apart_raw {its : List It} {n : Nat} (h : ∀ it ∈ its, it.raw.length ≤ n) (hn : 1 ≤ n) : ∀ it ∈ apartL its, it.raw.length ≤ n := by
  intro it hi
  rcases apart_mem hi with h1 | rfl
  · exact h it h1
  · exact hn
theorem apart_fields {its : List It} {n : Nat} (h : ∀ it ∈ its, it.fields.length ≤ n) : ∀ it ∈ apartL its, it.fields.length ≤ n := by
  intro it hi
  rcases apart_mem hi with h1 | rfl
  · exact h it h1
  · exact Nat.zero_le _
set_option maxRecDepth 100000 in
set_option maxHeartbeats 4000000 in
theorem render_any (its : List It) (v : Value) (w : World) (h : Its w v its) (hnil : NilI w v its) (hn : its.length ≤ 10000) (hf : ∀ it ∈ its, it.fields.length ≤ 1000000) (hr : ∀ it ∈ its, it.raw.length ≤ 100000) :
    Calls Tryd.prog 36 #[v] w fun e w' => e = .returned (.string (B ((apartL its).flatMap It.raw))) ∧ Below w.heap.size w w' := by
  have AP := Lib.hid (apart_any its v w h hnil (by omega) hf)
  have RW := Lib.hid (apart_raw hr (by decide))
  have al := apart_len its
  obtain ⟨A, cap, rfl, hle, _⟩ := id h
  clear h hnil hf hr
  go_enter Tryd.func36, Tryd.ntmps36
  go_wp2_with fail
  refine AP.out.mono ?_
  rintro e w1 ⟨u, fvs, rfl, acc⟩
  obtain ⟨ua, uc, hue, _⟩ := own_slice acc.row
  subst hue
  have b1 := acc.below
  have hz1 := b1.size
  have J := Lib.hid (join_any (apartL its) _ w1 acc.its (by omega) RW.out)
  clear AP acc
  go_wp2_with fail
  refine J.out.mono ?_
  rintro e w2 ⟨rfl, b2⟩
  have hb2 := b1.trans (b2.mono hz1)
  go_wp2_with fail
  go_ret
  exact ⟨rfl, hb2⟩
set_option maxRecDepth 100000 in
set_option maxHeartbeats 4000000 in
theorem refRender_any (its : List It) (v : Value) (w : World) (h : Its w v its) (hn : its.length ≤ 10000) (hr : ∀ it ∈ its, it.raw.length ≤ 100000) :
    Calls Tryd.prog 37 #[v] w fun e w' => e = .returned (.string (B ((apartL its).flatMap It.raw))) ∧ Below w.heap.size w w' := by
  have AP := Lib.hid (refApart_any its v w h (by omega))
  have RW := Lib.hid (apart_raw hr (by decide))
  have al := apart_len its
  obtain ⟨A, cap, rfl, hle, _⟩ := id h
  clear h hr
  go_enter Tryd.func37, Tryd.ntmps37
  go_wp2_with fail
  refine AP.out.mono ?_
  rintro e w1 ⟨u, fvs, rfl, acc⟩
  obtain ⟨ua, uc, hue, _⟩ := own_slice acc.row
  subst hue
  have b1 := acc.below
  have hz1 := b1.size
  have J := Lib.hid (refJoin_any (apartL its) _ w1 acc.its (by omega) RW.out)
  clear AP acc
  go_wp2_with fail
  refine J.out.mono ?_
  rintro e w2 ⟨rfl, b2⟩
  have hb2 := b1.trans (b2.mono hz1)
  go_wp2_with fail
  go_ret
  exact ⟨rfl, hb2⟩
set_option maxRecDepth 100000 in
theorem ret_i1 {fn : Func} {p : Tmp} (h : fn.results = #[.cell p 43]) (tmps : Array Value) (w : World) (b : Nat) (cur : Array Value) (hp : tmps.getD p undef = .pointer (some ⟨b, 0, none⟩))
    (hc : Cells w b 43 cur) (hz : cur.size = 3) : (results fn tmps).run Tryd.prog w = .ok (.agg cur) w := by
  have L := run_loadVar_row (P := Tryd.prog) w b 43 43 cur (0, 0) _ hc Tryd.underlying43 rfl (by rw [hz]; kernel_rfl)
  rw [results_cell1 h, hp]
  show (loadVar _ _).run _ _ = _
  exact L
set_option maxRecDepth 100000 in
set_option maxHeartbeats 4000000 in
theorem refItem_any (fs : List Fld) (A : Option Addr) (n cap : Nat) (w : World) (hs : Flds w (.slice A n cap) fs) (hn : fs.length ≤ 1000) (hl : ∀ f ∈ fs, f.1.length ≤ 100000 ∧ f.2.length ≤ 100000) :
    Calls Tryd.prog 28 #[.slice A n cap] w fun e w' => e = .returned (.agg #[.int .i64 3, .string (B (foldG fs)), .slice A n cap]) ∧ Below w.heap.size w w' := by
  have hba : Below w.heap.size w (w.alloc (.cells #[.int .i64 0, .string ⟨#[]⟩, .slice none 0 0] 43)) := (Below.refl _ _).alloc (Nat.le_refl _) _
  have hza : (w.alloc (.cells #[.int .i64 0, .string ⟨#[]⟩, .slice none 0 0] 43)).heap.size = w.heap.size + 1 := by simp
  have RF := Lib.hid (refFold_any fs _ _ (hs.below hba (Nat.le_refl _)) hn hl)
  have BX := Lib.hid (Cells.new w 43 #[.int .i64 0, .string ⟨#[]⟩, .slice none 0 0])
  clear hs hl
  generalize foldG fs = T at *
  go_enter Tryd.func28, Tryd.ntmps28
  go_wp2_with fail
  refine RF.out.mono ?_
  rintro e w2 ⟨rfl, b2⟩
  have R2 := cells_kept BX.out b2 (by omega)
  have hb2 : Below w.heap.size w w2 := hba.trans (b2.mono (by omega))
  have hz2 := b2.size
  have c0 := R2.cell 0
  have c1 := R2.cell 1
  have c2 := R2.cell 2
  have f0 := R2.frozen 0
  have f1 := R2.frozen 1
  have f2 := R2.frozen 2
  simp only [List.getElem?_toArray, List.getElem?_cons_zero, List.getElem?_cons_succ] at c0 c1 c2
  have RE := ((R2.set 0 (.int .i64 3)).set 1 (.string (B T))).set 2 (.slice A n cap)
  rw [set3] at RE
  have HB : Below w.heap.size w (((w2.setCell ⟨w.heap.size, 0, none⟩ (.int .i64 3)).setCell ⟨w.heap.size, 1, none⟩ (.string (B T))).setCell ⟨w.heap.size, 2, none⟩ (.slice A n cap)) :=
    ((hb2.setCell (p := ⟨w.heap.size, 0, none⟩) (Nat.le_refl _) _).setCell (p := ⟨w.heap.size, 1, none⟩) (Nat.le_refl _) _).setCell (p := ⟨w.heap.size, 2, none⟩) (Nat.le_refl _) _
  have HBH := Lib.hid HB
  clear hb2 b2 RF HB
  go_wp2_with fail
  refine bodyPost_ret (ret_i1 rfl _ _ w.heap.size _ rfl RE rfl) rfl ?_
  exact ⟨rfl, HBH.out⟩
theorem joinT_two : joinT [[([65], [49])], [([66], [50])]] = [65, 58, 32, 49, 10, 10, 66, 58, 32, 50, 10] := by kernel_rfl
theorem badR_two : badR [[([65], [49])], [([66], [50])]] = none := by kernel_rfl
theorem rws_two (w : World) : Rws (((w.alloc (.cells #[.string (B [65]), .string (B [49])] 83)).alloc (.cells #[.string (B [66]), .string (B [50])] 83)).alloc (.cells #[.slice (some ⟨w.heap.size, 0, none⟩) 1 1, .slice (some ⟨w.heap.size + 1, 0, none⟩) 1 1] 37)) (.slice (some ⟨w.heap.size + 1 + 1, 0, none⟩) 2 2) [[([65], [49])], [([66], [50])]] := by
  have f1 := Flds.one w 83 [65] [49]
  have f2 := Flds.one (w.alloc (.cells #[.string (B [65]), .string (B [49])] 83)) 83 [66] [50]
  rw [World.size_alloc] at f2
  have b1 : Below (w.alloc (.cells #[.string (B [65]), .string (B [49])] 83)).heap.size (w.alloc (.cells #[.string (B [65]), .string (B [49])] 83)) (((w.alloc (.cells #[.string (B [65]), .string (B [49])] 83)).alloc (.cells #[.string (B [66]), .string (B [50])] 83)).alloc (.cells #[.slice (some ⟨w.heap.size, 0, none⟩) 1 1, .slice (some ⟨w.heap.size + 1, 0, none⟩) 1 1] 37)) := ((Below.refl _ _).alloc (Nat.le_refl _) _).alloc (by simp) _
  have b2 : Below ((w.alloc (.cells #[.string (B [65]), .string (B [49])] 83)).alloc (.cells #[.string (B [66]), .string (B [50])] 83)).heap.size ((w.alloc (.cells #[.string (B [65]), .string (B [49])] 83)).alloc (.cells #[.string (B [66]), .string (B [50])] 83)) (((w.alloc (.cells #[.string (B [65]), .string (B [49])] 83)).alloc (.cells #[.string (B [66]), .string (B [50])] 83)).alloc (.cells #[.slice (some ⟨w.heap.size, 0, none⟩) 1 1, .slice (some ⟨w.heap.size + 1, 0, none⟩) 1 1] 37)) := (Below.refl _ _).alloc (Nat.le_refl _) _
  refine ⟨_, 2, rfl, Nat.le_refl _, fun i r h => ?_⟩
  match i, h with
  | 0, h =>
    simp at h; subst h
    exact ⟨_, 0, _, rfl, by simp, by rw [World.cell?_alloc_at _ _ _ _ (by simp)]; rfl, f1.below b1 (Nat.le_refl _)⟩
  | 1, h =>
    simp at h; subst h
    exact ⟨_, 0, _, rfl, by simp, by rw [World.cell?_alloc_at _ _ _ _ (by simp)]; rfl, f2.below b2 (Nat.le_refl _)⟩
  | n + 2, h => simp at h
set_option maxRecDepth 100000 in
set_option maxHeartbeats 4000000 in
theorem alive6_any (w : World) : Calls Tryd.prog 20 #[] w fun e w' => e = .returned (.bool true) ∧ Below w.heap.size w w' := by
  have TX := text_any _ _ _ (rws_two w) (by decide) (by intro r hr; simp at hr; rcases hr with rfl | rfl <;> simp)
  have hb0 : Below w.heap.size w (((w.alloc (.cells #[.string (B [65]), .string (B [49])] 83)).alloc (.cells #[.string (B [66]), .string (B [50])] 83)).alloc (.cells #[.slice (some ⟨w.heap.size, 0, none⟩) 1 1, .slice (some ⟨w.heap.size + 1, 0, none⟩) 1 1] 37)) := (((Below.refl _ _).alloc (Nat.le_refl _) _).alloc (by simp) _).alloc (by simp; omega) _
  have TXH := Lib.hid TX
  have HB := Lib.hid hb0
  clear TX hb0
  go_enter Tryd.func20, Tryd.ntmps20
  go_wp2_with fail
  refine TXH.out.mono ?_
  rintro e w1 ⟨b1, hT⟩
  rw [badR_two] at hT
  obtain ⟨rfl, _⟩ := hT
  rw [joinT_two]
  have hb1 := HB.out.trans (b1.mono HB.out.size)
  have hbb : ((B [65, 58, 32, 49, 10, 10, 66, 58, 32, 50, 10]).toList == [65, 58, 32, 49, 10, 10, 66, 58, 32, 50, 10]) = true := by kernel_rfl
  clear TXH HB b1
  go_wp2_with fail
  go_ret
  exact ⟨rfl, hb1⟩
end Go.Proofs.YtafgebodmhkghaaDoor
/- The blocks of two texts, by turns, plainly; what is parsed of stanzas' texts. -/
namespace Go.Proofs.YtafgebodmhkghaaDoor

/-- The item at a place, if it isn't blank. -/
def pickI (l : List It) (i : Nat) : List It := match l[i]? with | some it => if it.kind ≠ 1 then [it] else [] | none => []
def mixTo (turn : Bool) (l m : List It) : Nat → List It
  | 0 => []
  | k + 1 => (mixTo turn l m k ++ pickI l k) ++ (if turn = true then pickI m k else [])
theorem pick_mem {l : List It} {i : Nat} {x : It} (h : x ∈ pickI l i) : x ∈ l ∧ x.kind ≠ 1 := by
  unfold pickI at h
  split at h
  · rename_i it hit
    split at h
    · rename_i hk
      rw [List.mem_singleton.1 h]; exact ⟨List.mem_of_getElem? hit, hk⟩
    · cases h
  · cases h
theorem mix_mem {turn : Bool} {l m : List It} : ∀ (k : Nat) {x : It}, x ∈ mixTo turn l m k → (x ∈ l ∨ x ∈ m) ∧ x.kind ≠ 1
  | 0, x, h => by cases h
  | k + 1, x, h => by
    rcases List.mem_append.1 (show x ∈ (mixTo turn l m k ++ pickI l k) ++ _ from h) with h | h
    · rcases List.mem_append.1 h with h | h
      · exact mix_mem k h
      · exact ⟨.inl (pick_mem h).1, (pick_mem h).2⟩
    · split at h
      · exact ⟨.inr (pick_mem h).1, (pick_mem h).2⟩
      · cases h
theorem pick_len (l : List It) (i : Nat) : (pickI l i).length ≤ 1 := by
  unfold pickI; split
  · split <;> simp
  · simp
theorem mix_len (turn : Bool) (l m : List It) : ∀ k, (mixTo turn l m k).length ≤ 2 * k
  | 0 => by simp [mixTo]
  | k + 1 => by
    have ih := mix_len turn l m k
    have h1 := pick_len l k
    have h2 := pick_len m k
    show ((mixTo turn l m k ++ pickI l k) ++ _).length ≤ _
    rw [List.length_append, List.length_append]
    split
    · omega
    · simp only [List.length_nil]; omega
theorem pick_yes {l : List It} {i : Nat} {it : It} (h : l[i]? = some it) (hk : it.kind ≠ 1) : pickI l i = [it] := by unfold pickI; rw [h]; exact if_pos hk
theorem pick_blank {l : List It} {i : Nat} {it : It} (h : l[i]? = some it) (hk : it.kind = 1) : pickI l i = [] := by unfold pickI; rw [h]; exact if_neg (fun q => q hk)
theorem pick_none {l : List It} {i : Nat} (h : l.length ≤ i) : pickI l i = [] := by unfold pickI; rw [List.getElem?_eq_none h]
/-- Items that aren't blank, put apart: what isn't blank of them are those items. -/
def solid (it : It) : Bool := it.kind != 1
theorem apart_solid : ∀ (b : Bool) (l : List It), (∀ x ∈ l, x.kind ≠ 1) → (apartOn b l).filter solid = l
  | b, [], _ => rfl
  | b, x :: r, h => by
    have hx := h x List.mem_cons_self
    have ih := apart_solid (x.kind != 1) r (fun y hy => h y (List.mem_cons_of_mem _ hy))
    show ((if b = true ∧ x.kind ≠ 1 then [_] else []) ++ x :: apartOn _ r).filter solid = _
    rw [List.filter_append, List.filter_cons, ih]
    have e : solid x = true := by unfold solid; simpa using hx
    rw [e, if_pos rfl]
    split
    · rfl
    · rfl
theorem filter_at {α : Type} (p : α → Bool) : ∀ (g : List α) (c : Nat) (x : α), g[c]? = some x → p x = true → (g.filter p)[((g.take c).filter p).length]? = some x
  | [], c, x, h, _ => by simp at h
  | a :: g, 0, x, h, hp => by
    simp only [List.getElem?_cons_zero, Option.some.injEq] at h
    subst h
    rw [List.filter_cons, hp]; rfl
  | a :: g, c + 1, x, h, hp => by
    have ih := filter_at p g c x (by simpa using h) hp
    rw [List.take_succ_cons, List.filter_cons, List.filter_cons]
    cases p a with
    | true => simpa using ih
    | false => simpa using ih
theorem filter_snoc {α : Type} (p : α → Bool) (g : List α) (c : Nat) (x : α) (h : g[c]? = some x) : ((g.take (c + 1)).filter p).length = ((g.take c).filter p).length + if p x = true then 1 else 0 := by
  rw [List.take_add_one, h, List.filter_append, List.length_append]
  simp only [Option.toList_some, List.filter_cons, List.filter_nil]
  split <;> rfl
theorem raws_apart : ∀ (b : Bool) (l : List It) (n : Nat), (∀ x ∈ l, x.raw.length ≤ n) → ((apartOn b l).flatMap It.raw).length ≤ (n + 1) * l.length
  | b, [], n, _ => by simp [apartOn]
  | b, x :: r, n, h => by
    have ih := raws_apart (x.kind != 1) r n (fun y hy => h y (List.mem_cons_of_mem _ hy))
    have hx := h x List.mem_cons_self
    show (((if b = true ∧ x.kind ≠ 1 then [(⟨1, [10], []⟩ : It)] else []) ++ x :: apartOn (x.kind != 1) r).flatMap It.raw).length ≤ _
    rw [List.flatMap_append, List.length_append, List.flatMap_cons, List.length_append, List.length_cons, Nat.mul_succ]
    split
    · simp only [List.flatMap_cons, List.flatMap_nil, List.append_nil, List.length_cons, List.length_nil]; omega
    · simp only [List.flatMap_nil, List.length_nil]; omega
theorem allGood : ∀ (fs : List Fld), foldN fs = 0 → ∀ f ∈ fs, goodKey f.1 = true ∧ f.2.length ≤ 1000
  | [], _, f, hf => by cases hf
  | g :: r, h, f, hf => by
    unfold foldN at h
    split at h
    · rename_i h0
      rcases List.mem_cons.1 hf with rfl | hf
      · exact checkN_zero h0
      · exact allGood r h f hf
    · rename_i h0; exact absurd h h0
theorem textL_len6 (k v : List UInt8) : (textL (linesL k v)).length ≤ k.length + 3 * v.length + 8 := by
  rw [textL_len]; have := lines_sum k v; omega
theorem foldT_len6 : ∀ (fs : List Fld), minF fs ≤ 6000 → (textL (linesFs fs)).length ≤ 3 * minF fs + 8 * fs.length
  | [], _ => by simp [linesFs, textL]
  | f :: r, h => by
    have e : minF (f :: r) = (min f.1.length 10000 + min f.2.length 10000) + minF r := rfl
    rw [e] at h ⊢
    have ih := foldT_len6 r (by omega)
    have h1 := textL_len6 f.1 f.2
    have e2 : textL (linesFs (f :: r)) = textL (linesL f.1 f.2) ++ textL (linesFs r) := by unfold linesFs; rw [List.flatMap_cons, textL_append]
    rw [e2, List.length_append, List.length_cons]
    omega

/-- What stanzas of good fields are, as items. -/
def itemOf (fs : List Fld) : It := ⟨3, foldG fs, fs⟩
theorem foldG_lines (fs : List Fld) : foldG fs = textL (linesFs fs) := by
  unfold foldG linesFs textL
  rw [List.flatMap_assoc]
theorem blk_item {fs : List Fld} (h : chkN fs = 0) : Blk (itemOf fs) := by
  obtain ⟨h1, h2, h3⟩ := chkN_zero h
  unfold itemOf
  rw [foldG_lines]
  exact blk_fields fs (allGood fs h3) (fun e => h1 (by rw [e]; rfl)) h2
theorem parse_item {fs : List Fld} (h : chkN fs = 0) : parseL (foldG fs) = .ok [itemOf fs] := by
  have := parse_between [itemOf fs] (by simp) (fun it hi => by rw [List.mem_singleton.1 hi]; exact blk_item h)
  have e : apartL [itemOf fs] = [itemOf fs] := rfl
  rw [e] at this
  simpa [itemOf] using this
theorem apart_join : ∀ (b : Bool) (rs : List (List Fld)), rs ≠ [] → (apartOn b (rs.map itemOf)).flatMap It.raw = (if b = true then [10] else []) ++ joinT rs
  | b, [], h => absurd rfl h
  | b, [r], _ => by
    show (((if b = true ∧ (3 : Int) ≠ 1 then [(⟨1, [10], []⟩ : It)] else []) ++ [itemOf r]).flatMap It.raw) = _
    have e : joinT [r] = foldG r := rfl
    rw [e]
    cases b <;> simp [itemOf]
  | b, r :: q :: l, _ => by
    have ih := apart_join true (q :: l) (by simp)
    have e : apartOn b ((r :: q :: l).map itemOf) = (if b = true ∧ (3 : Int) ≠ 1 then [(⟨1, [10], []⟩ : It)] else []) ++ itemOf r :: apartOn true ((q :: l).map itemOf) := rfl
    rw [e, List.flatMap_append, List.flatMap_cons, ih]
    have e2 : joinT (r :: q :: l) = foldG r ++ 10 :: joinT (q :: l) := rfl
    rw [e2]
    cases b <;> simp [itemOf]
theorem parse_texts {rs : List (List Fld)} (h : ∀ r ∈ rs, chkN r = 0) (hn : rs.length ≤ 400) : parseL (joinT rs) = .ok (apartL (rs.map itemOf)) := by
  have := parse_between (rs.map itemOf) (by rw [List.length_map]; exact hn) (fun it hi => by
    obtain ⟨r, hr, rfl⟩ := List.mem_map.1 hi
    exact blk_item (h r hr))
  cases rs with
  | nil => exact this
  | cons a l =>
    unfold apartL at this ⊢
    rw [apart_join false (a :: l) (by simp)] at this
    exact this
theorem recs_apart : ∀ (b : Bool) (rs : List (List Fld)), recs (apartOn b (rs.map itemOf)) = rs
  | b, [] => rfl
  | b, r :: l => by
    have ih := recs_apart true l
    have e : apartOn b ((r :: l).map itemOf) = (if b = true ∧ (3 : Int) ≠ 1 then [(⟨1, [10], []⟩ : It)] else []) ++ itemOf r :: apartOn true (l.map itemOf) := rfl
    rw [e]
    unfold recs at ih ⊢
    rw [List.filter_append, List.map_append, List.filter_cons]
    have e3 : ((itemOf r).kind == 3) = true := rfl
    rw [e3, if_pos rfl, List.map_cons, ih]
    cases b <;> simp [itemOf]
end Go.Proofs.YtafgebodmhkghaaDoor
/- What Parse comes to, by cases; parts of rows of items. -/
namespace Go.Proofs.YtafgebodmhkghaaDoor
open Go.RowKit Go.Shelf

theorem parseNo {w w' : World} {t : List UInt8} {e : Ending} {a n : Nat} (h : Parsed w t e w') (hp : parseL t = .error (a, n)) : Below w.heap.size w w' ∧ ∃ v, e = .returned (.tuple #[.slice none 0 0, v]) ∧ FaultAt w.heap.size w' v a n := by
  obtain ⟨h1, h2⟩ := h
  rw [hp] at h2
  exact ⟨h1, h2⟩
theorem parseYes {w w' : World} {t : List UInt8} {e : Ending} {its : List It} (h : Parsed w t e w') (hp : parseL t = .ok its) : Below w.heap.size w w' ∧ ∃ v, e = .returned (.tuple #[v, .nilIface]) ∧ Its w' v its ∧ NilI w' v its := by
  obtain ⟨h1, h2⟩ := h
  rw [hp] at h2
  exact ⟨h1, h2⟩
theorem Its.part {w : World} {A : Option Addr} {n cap : Nat} {its : List It} (h : Its w (.slice A n cap) its) (k : Nat) (hk : k ≤ its.length) : Its w (.slice A k cap) (its.take k) := by
  obtain ⟨A', cap', e, hle, hc⟩ := h
  cases e
  have hl : (its.take k).length = k := by rw [List.length_take]; omega
  refine ⟨A, cap, by rw [hl], by omega, fun i it hi => hc i it ?_⟩
  rw [List.getElem?_take] at hi
  split at hi
  · exact hi
  · cases hi
theorem Its.rest {w : World} {b off n cap : Nat} {its : List It} (h : Its w (.slice (some ⟨b, off, none⟩) n cap) its) (k : Nat) (hk : k ≤ its.length) : Its w (.slice (some ⟨b, off + k * 3, none⟩) (its.length - k) (cap - k)) (its.drop k) := by
  obtain ⟨A', cap', e, hle, hc⟩ := h
  cases e
  refine ⟨_, cap - k, by rw [List.length_drop], by rw [List.length_drop]; omega, fun i it hi => ?_⟩
  rw [List.getElem?_drop] at hi
  obtain ⟨b', off', fv, e, h1, h2, h3, h4, h5⟩ := hc _ it hi
  cases e
  refine ⟨b, off + k * 3, fv, rfl, h1, ?_, ?_, ?_, h5⟩
  · rw [show off + k * 3 + i * 3 = off + (k + i) * 3 by omega]; exact h2
  · rw [show off + k * 3 + i * 3 + 1 = off + (k + i) * 3 + 1 by omega]; exact h3
  · rw [show off + k * 3 + i * 3 + 1 + 1 = off + (k + i) * 3 + 1 + 1 by omega]; exact h4
theorem Its.empty (w : World) (A : Option Addr) (cap : Nat) : Its w (.slice A 0 cap) [] := ⟨A, cap, rfl, Nat.zero_le _, fun i it h => by simp at h⟩
theorem ItsIn.here {w : World} {v : Value} {its : List It} (h : ItsIn w v its) {i : Nat} {it : It} (hi : its[i]? = some it) : ∃ b off cap fa fc, v = .slice (some ⟨b, off, none⟩) its.length cap ∧ b < w.heap.size ∧ w.cell? ⟨b, off + i * 3, none⟩ = some (.int .i64 it.kind) ∧ w.cell? ⟨b, off + i * 3 + 1, none⟩ = some (.string (B it.raw)) ∧ w.cell? ⟨b, off + i * 3 + 1 + 1, none⟩ = some (.slice fa it.fields.length fc) ∧ FldsIn w (.slice fa it.fields.length fc) it.fields := by
  obtain ⟨A, cap, rfl, hle, hc⟩ := h.is_
  obtain ⟨b, off, fv, rfl, hlt, c0, c1, c2, hf⟩ := hc i it hi
  obtain ⟨b', off', n, cap', fv', e, c2', hin⟩ := h.each i it hi
  cases e
  have e2 : fv = fv' := Option.some.inj (c2.symm.trans c2')
  subst e2
  obtain ⟨fa, fc, rfl, _, _⟩ := id hf
  exact ⟨b, off, cap, fa, fc, rfl, hlt, c0, c1, c2, hin⟩
end Go.Proofs.YtafgebodmhkghaaDoor
/- Whether an item is printed so, by the document; fields that are written over, block by block. -/
namespace Go.Proofs.YtafgebodmhkghaaDoor
open Go.RowKit Go.Shelf

set_option maxRecDepth 100000 in
set_option maxHeartbeats 8000000 in
theorem refPlainIt_any (k : Int) (raw : List UInt8) (fs : List Fld) (fv : Value) (w : World) (hs : Flds w fv fs) (hn : fs.length ≤ 1000) (hl : ∀ f ∈ fs, f.1.length ≤ 100000 ∧ f.2.length ≤ 100000) :
    Calls Tryd.prog 38 #[.agg #[.int .i64 k, .string (B raw), fv]] w fun e w' => e = .returned (.bool (plainB k raw fs)) ∧ Below w.heap.size w w' := by
  obtain ⟨fa, fc, rfl, hle, _⟩ := id hs
  have hba : Below w.heap.size w (w.alloc (.cells #[.int .i64 k, .string (B raw), .slice fa fs.length fc] 43)) := (Below.refl _ _).alloc (Nat.le_refl _) _
  have hza : (w.alloc (.cells #[.int .i64 k, .string (B raw), .slice fa fs.length fc] 43)).heap.size = w.heap.size + 1 := by simp
  have ST := Lib.hid (refChk_any fs _ _ (hs.below hba (Nat.le_refl _)) (by omega) (fun f hf => by have := hl f hf; omega))
  have BX := Lib.hid (Cells.new w 43 #[.int .i64 k, .string (B raw), .slice fa fs.length fc])
  have RF := Lib.hid (fun W (hW : Below w.heap.size w W) => refFold_any fs _ W (hs.below hW (Nat.le_refl _)) hn hl)
  clear hs hl
  go_enter Tryd.func38, Tryd.ntmps38
  go_wp2_with fail
  refine ST.out.mono ?_
  rintro e w1 ⟨rfl, b1⟩
  have R1 := cells_kept BX.out b1 (by omega)
  have hb1 : Below w.heap.size w w1 := hba.trans (b1.mono (by omega))
  have c0 : w1.cell? ⟨w.heap.size, 0, none⟩ = some (.int .i64 k) := R1.cell 0
  have c1 : w1.cell? ⟨w.heap.size, 1, none⟩ = some (.string (B raw)) := R1.cell 1
  have c2 : w1.cell? ⟨w.heap.size, 2, none⟩ = some (.slice fa fs.length fc) := R1.cell 2
  have hzz := hb1.size
  by_cases h0 : chkN fs = 0
  · have PB : plainB k raw fs = (k == 3 && raw == foldG fs) := by unfold plainB; rw [h0]; rfl
    have PBH := Lib.hid PB
    rw [h0]
    clear ST BX PB hba h0
    generalize chkAt fs = ca at *
    by_cases hk : k = 3
    · subst hk
      have hl1 := R1.lt
      have HS := Lib.hid (show ∀ W, Below w1.heap.size w1 W → (Below w1.heap.size w1 W ∧ W.cell? ⟨w.heap.size, 0, none⟩ = some (.int .i64 3) ∧ W.cell? ⟨w.heap.size, 1, none⟩ = some (.string (B raw)) ∧ W.cell? ⟨w.heap.size, 2, none⟩ = some (.slice fa fs.length fc)) from fun W hB =>
        have hX := cells_kept R1 hB hl1
        ⟨hB, hX.cell 0, hX.cell 1, hX.cell 2⟩)
      have RF1 := Lib.hid (fun W (hB : Below w1.heap.size w1 W) => RF.out W (hb1.trans (hB.mono hzz)))
      have EQ := Lib.hid (beq_B raw (foldG fs))
      clear R1 RF c0 c1 c2 b1
      generalize foldG fs = T at *
      generalize B raw = X at *
      generalize B T = Y at *
      go_wp2_with fail
      go_region_held3 (fun W => Below w1.heap.size w1 W ∧ W.cell? ⟨w.heap.size, 0, none⟩ = some (.int .i64 3) ∧ W.cell? ⟨w.heap.size, 1, none⟩ = some (.string X) ∧ W.cell? ⟨w.heap.size, 2, none⟩ = some (.slice fa fs.length fc)) ((refine HS.out _ ?_; repeat (first | exact Below.refl _ _ | assumption | (refine Below.drew ?_) | (refine held_alloc ?_) | (refine held_call ?_ (by assumption))))) ((go_at_call 54; refine (RF1.out _ ?_).mono ?_; (focus (repeat (first | exact Below.refl _ _ | assumption | (refine Below.drew ?_) | (refine held_alloc ?_) | (refine held_call ?_ (by assumption))))); rintro e w5 ⟨rfl, hb5⟩))
      all_goals go_wp2_with fail
      all_goals
        have hbk : Below w1.heap.size w1 w5 := by repeat (first | exact Below.refl _ _ | assumption | (refine Below.drew ?_) | (refine held_alloc ?_) | (refine held_call ?_ (by assumption)))
        go_ret
        exact ⟨by rw [PBH.out, ← EQ.out]; rfl, by repeat (first | exact hb1.trans (hbk.mono hzz) | (refine Below.drew ?_))⟩
    · have hk2 : (k == 3) = false := beq_eq_false_iff_ne.2 hk
      have hq : Hid ((k == 3 && raw == foldG fs) = false) := by show _ = _; rw [hk2]; rfl
      clear hk RF R1
      go_wp2_with (go_quiet (fail))
      go_ret
      exact ⟨by rw [PBH.out, hq.out]; rfl, by first | exact hb1 | exact drewN_below hb1 _⟩
  · have PB : plainB k raw fs = false := by unfold plainB; simp [h0]
    have PBH := Lib.hid PB
    have hnz : ((chkN fs : Int) == 0) = false := by simp; omega
    clear ST BX R1 PB hba RF
    generalize chkAt fs = ca at *
    generalize chkN fs = cn at *
    go_wp2_with (go_quiet (fail))
    go_ret
    exact ⟨by rw [PBH.out]; rfl, by first | exact hb1 | exact drewN_below hb1 _⟩

/-- A slice of fields that may be written over: its block. -/
def MineP (w : World) (P : Nat → Prop) (v : Value) (n : Nat) : Prop :=
  n = 0 ∧ (∃ A c, v = .slice A 0 c) ∨ ∃ g cap cur, v = .slice (some ⟨g, 0, none⟩) n cap ∧ n ≤ cap ∧ P g ∧ w.heap[g]? = some (.cells cur 83 (0, 0)) ∧ n * 2 ≤ cur.size
/-- Fields in those blocks may have turned. -/
structure Spoils (P : Nat → Prop) (w w' : World) : Prop where
  os : w'.os = w.os
  tape : w'.tape = w.tape
  output : w'.output = w.output
  size : w.heap.size ≤ w'.heap.size
  same : ∀ (r : Nat) o, w.heap[r]? = some o → w'.heap[r]? = some o ∨ (P r ∧ ∃ cur cur', o = .cells cur 83 (0, 0) ∧ w'.heap[r]? = some (.cells cur' 83 (0, 0)) ∧ cur'.size = cur.size)
theorem Spoils.refl (P : Nat → Prop) (w : World) : Spoils P w w := ⟨rfl, rfl, rfl, Nat.le_refl _, fun _ _ h => .inl h⟩
theorem Spoils.trans {P : Nat → Prop} {a b c : World} (h : Spoils P a b) (g : Spoils P b c) : Spoils P a c := by
  refine ⟨g.os.trans h.os, g.tape.trans h.tape, g.output.trans h.output, Nat.le_trans h.size g.size, fun r o ho => ?_⟩
  rcases h.same r o ho with h1 | ⟨h1, cur, cur', rfl, h2, h3⟩
  · exact g.same r o h1
  · rcases g.same r _ h2 with g1 | ⟨_, c1, c2, g1, g2, g3⟩
    · exact .inr ⟨h1, cur, cur', rfl, g1, h3⟩
    · injection g1 with g1
      subst g1
      exact .inr ⟨h1, cur, c2, rfl, g2, g3.trans h3⟩
theorem Spoils.set {P : Nat → Prop} {g : Nat} {w : World} {cur : Array Value} (h : w.heap[g]? = some (.cells cur 83 (0, 0))) (hg : P g) (i : Nat) (u : Value) : Spoils P w (w.setCell ⟨g, i, none⟩ u) := by
  refine ⟨rfl, rfl, rfl, by simp [World.setCell], fun r o ho => ?_⟩
  by_cases e : r = g
  · subst e
    rw [h] at ho
    cases ho
    exact .inr ⟨hg, cur, cur.setIfInBounds i u, rfl, Cells.set (t := 83) h i u, by simp⟩
  · exact .inl ((Below.heap_setCell _ _ _ _ e).trans ho)
theorem Spoils.block {P : Nat → Prop} {w w' : World} (h : Spoils P w w') {r : Nat} (hr : r < w.heap.size) (hP : ¬ P r) : w'.heap[r]? = w.heap[r]? := by
  rcases h.same r _ (Array.getElem?_eq_getElem hr) with e | ⟨e, _⟩
  · rw [e]; exact (Array.getElem?_eq_getElem hr).symm
  · exact absurd e hP
theorem Spoils.below {P : Nat → Prop} {lo : Nat} {w w' : World} (h : Spoils P w w') (hP : ∀ r, P r → lo ≤ r) (hl : lo ≤ w.heap.size) : Below lo w w' :=
  ⟨h.os, h.tape, h.output, h.size, fun r hr => h.block (by omega) (fun q => by have := hP r q; omega)⟩
theorem MineP.spoils {P : Nat → Prop} {n : Nat} {w w' : World} {v : Value} (h : MineP w P v n) (hs : Spoils P w w') : MineP w' P v n := by
  rcases h with h | ⟨g, cap, cur, e, h0, h1, h2, h3⟩
  · exact .inl h
  · rcases hs.same g _ h2 with k | ⟨_, c1, c2, k1, k2, k3⟩
    · exact .inr ⟨g, cap, cur, e, h0, h1, k, h3⟩
    · injection k1 with k1
      subst k1
      exact .inr ⟨g, cap, c2, e, h0, h1, k2, by omega⟩
theorem minep_of_own {lo n : Nat} {P : Nat → Prop} {w : World} {v : Value} {xs : List Value} (h : w.ownsRow lo 83 2 v n xs) (hP : ∀ r, lo ≤ r → r < w.heap.size → P r) : MineP w P v n := by
  have hlt := fun k e => (h.lt k e).2
  rcases h.2 with ⟨rfl, hn⟩ | ⟨g, cap, cur, rfl, hb, hc, hle, _, hs, _⟩
  · exact .inl ⟨hn, none, 0, rfl⟩
  · exact .inr ⟨g, cap, cur, rfl, hle, hP g hb (hlt g rfl), hc, by rw [hs]; exact Nat.mul_le_mul_right 2 hle⟩
theorem MineP.below {P : Nat → Prop} {n N : Nat} {w w' : World} {v : Value} (h : MineP w P v n) (hb : Below N w w') (hN : w.heap.size ≤ N) : MineP w' P v n := by
  rcases h with h | ⟨g, cap, cur, e, h0, h1, h2, h3⟩
  · exact .inl h
  · have hg : g < w.heap.size := (Array.getElem?_eq_some_iff.1 h2).1
    exact .inr ⟨g, cap, cur, e, h0, h1, (hb.block g (by omega)).trans h2, h3⟩
theorem Spoils.alloc {P : Nat → Prop} {w w' : World} (h : Spoils P w w') (o : Obj) : Spoils P w (w'.alloc o) := by
  have hb := (Below.refl w'.heap.size w').alloc (Nat.le_refl _) o
  refine ⟨h.os, h.tape, h.output, Nat.le_trans h.size hb.size, fun r o ho => ?_⟩
  have hr : r < w'.heap.size := Nat.lt_of_lt_of_le (Array.getElem?_eq_some_iff.1 ho).1 h.size
  rw [hb.block r hr]
  exact h.same r o ho
theorem Spoils.kept {P : Nat → Prop} {w w' : World} {b : Nat} {t : TypeId} {cs : Array Value} (h : Spoils P w w') (hc : Cells w b t cs) (ht : t ≠ 83) : Cells w' b t cs := by
  rcases h.same b _ hc with e | ⟨_, c1, c2, e, _⟩
  · exact e
  · injection e with _ e _
    exact absurd e ht
theorem AccM.itsSpoils {P : Nat → Prop} {w W W' : World} {v : Value} {fvs : List Value} {its : List It} (h : AccM w W v fvs its) (hs : Spoils P W W') (hP : ∀ r, P r → r < w.heap.size) : Its W' v its :=
  its_of_own (row_same h.row fun b e => hs.block (h.row.lt b e).2 (fun q => by have := hP b q; have := (h.row.lt b e).1; omega)) h.len
    fun j it x h1 h2 => flds_of_own (row_same (h.each j it x h1 h2) fun b e => hs.block ((h.each j it x h1 h2).lt b e).2 (fun q => by have := hP b q; have := ((h.each j it x h1 h2).lt b e).1; omega))
theorem AccM.cellAt {w W : World} {v : Value} {fvs : List Value} {its : List It} {k : Nat} {it : It} (h : AccM w W v fvs its) (hi : its[k]? = some it) : ∃ g cap fv cur, v = .slice (some ⟨g, 0, none⟩) its.length cap ∧ fvs[k]? = some fv ∧ Cells W g 43 cur ∧ cur[k * 3]? = some (.int .i64 it.kind) ∧ cur[k * 3 + 1]? = some (.string (B it.raw)) ∧ cur[k * 3 + 1 + 1]? = some fv := by
  have hlt : k < its.length := by
    rcases Nat.lt_or_ge k its.length with q | q
    · exact q
    · rw [List.getElem?_eq_none q] at hi; cases hi
  obtain ⟨fv, hfv⟩ : ∃ fv, fvs[k]? = some fv := ⟨_, List.getElem?_eq_getElem (by rw [h.len]; exact hlt)⟩
  obtain ⟨a0, a1, a2⟩ := itemsCells_at _ _ k it fv hi hfv
  have hr := h.row
  rcases h.row.2 with ⟨_, q2⟩ | ⟨g, cap, cur, q1, q2, q3, _⟩
  · omega
  · have hC : Cells W g 43 cur := q3
    rw [q1] at hr
    refine ⟨g, cap, fv, cur, q1, hfv, hC, ?_, ?_, ?_⟩
    · rw [← hC.cell, World.ownsRow.cellAt hr (k * 3) (by omega)]; exact a0
    · rw [← hC.cell, World.ownsRow.cellAt hr (k * 3 + 1) (by omega)]; exact a1
    · rw [← hC.cell, World.ownsRow.cellAt hr (k * 3 + 1 + 1) (by omega)]; exact a2
theorem ItsIn.nilI {w W : World} {v : Value} {its : List It} (h : ItsIn w v its) (hb : Below w.heap.size w W) : NilI W v its := by
  intro i b off n cap m c e hi hc
  obtain ⟨it, hit⟩ : ∃ it, its[i]? = some it := ⟨_, List.getElem?_eq_getElem hi⟩
  obtain ⟨b', off', cap', fa, fc, e', hbb, _, _, c2, hin⟩ := h.here hit
  rw [e] at e'
  cases e'
  have h2 := (hb.cell (p := ⟨b, off + i * 3 + 1 + 1, none⟩) hbb).trans c2
  rw [hc] at h2
  injection h2 with h2
  exact hin.nil m c h2.symm
set_option maxRecDepth 100000 in
set_option maxHeartbeats 4000000 in
theorem spoilP_any (n : Nat) (P : Nat → Prop) (v : Value) (w : World) (h : MineP w P v n) (hn : n ≤ 1000000) :
    Calls Tryd.prog 30 #[v] w fun e w' => e = .returned (.tuple #[]) ∧ Spoils P w w' := by
  have HM := Lib.hid h
  rcases h with ⟨rfl, A, c, rfl⟩ | ⟨g, cap, cur, rfl, hle, _, _, _⟩
  · go_enter Tryd.func30, Tryd.ntmps30
    go_wp2_with fail
    refine wp_loop_rounds 1 ?_
    rw [rounds_succ]
    go_wp2_with fail
    go_end0
    exact ⟨rfl, Spoils.refl _ _⟩
  · go_enter Tryd.func30, Tryd.ntmps30
    go_wp2_with fail
    go_loopw [5] (fun i wr => ∃ k : Nat, k ≤ n ∧ i = .int .i64 k ∧ Spoils P w wr) (fun i _ => n - (intOf i).toNat)
    case atStart => exact ⟨0, Nat.zero_le _, rfl, Spoils.refl _ _⟩
    case round =>
      obtain ⟨k, hk, rfl, hs⟩ := hrel
      by_cases hlt : k < n
      · rcases HM.out.spoils hs with ⟨h0, _⟩ | ⟨g', cap', cur', e, h0, h1, h2, h3⟩
        · omega
        · cases e
          have hC : Cells wr g 83 cur' := h2
          obtain ⟨x0, hx0⟩ : ∃ x, cur'[k * 2]? = some x := ⟨_, Array.getElem?_eq_getElem (by omega)⟩
          obtain ⟨x1, hx1⟩ : ∃ x, cur'[k * 2 + 1]? = some x := ⟨_, Array.getElem?_eq_getElem (by omega)⟩
          have c0 : wr.cell? ⟨g, k * 2, none⟩ = some x0 := (hC.cell _).trans hx0
          have c1 : wr.cell? ⟨g, k * 2 + 1, none⟩ = some x1 := (hC.cell _).trans hx1
          have f0 := hC.frozen (k * 2)
          have f1 := hC.frozen (k * 2 + 1)
          have HC := Lib.hid hC
          have HS := Lib.hid hs
          have H1 := Lib.hid h1
          clear HM hs h2 hC hx0 hx1 h1
          go_wp2_with fail
          go_roundw
          case rel =>
            refine ⟨k + 1, hlt, by go_num, HS.out.trans ((Spoils.set HC.out H1.out (k * 2) _).trans (Spoils.set (HC.out.set (k * 2) _) H1.out (k * 2 + 1) _))⟩
          case measure => simp [intOf]; omega
      · obtain rfl : k = n := by omega
        clear HM
        go_wp2_with fail
        go_end0
        exact ⟨rfl, hs⟩
end Go.Proofs.YtafgebodmhkghaaDoor
