/- A field's lines, by definition. -/
import Derived.Test.YtcakphfjeplnnaaDoorFP
namespace Go.Proofs.YtcakphfjeplnnaaDoor
open Go.RowKit Go.Shelf

theorem kind_clean {l : List UInt8} (h : (10 : UInt8) ∉ l) : (kindL l = 1 ↔ blankAll l = true) := by
  unfold kindL
  rw [hasB_not h, if_neg (by decide)]
  cases hb : blankAll l with
  | true => simp
  | false =>
    rw [if_neg (by decide)]
    constructor
    · intro h
      split at h
      · cases h
      · split at h
        · cases h
        · split at h <;> cases h
    · intro h; cases h
set_option maxRecDepth 100000 in
set_option maxHeartbeats 4000000 in
theorem refLines_any (k v : List UInt8) (hk : k.length ≤ 100000) (hv : v.length ≤ 100000) (w : World) :
    Calls Tryd.prog 15 #[fieldV k v] w fun e w' => ∃ sv base, e = .returned sv ∧ OwnS w' base sv ((linesL k v).map B) ∧ Below w.heap.size w w' := by
  obtain ⟨i0, hi, hz0, hz1, hz2⟩ := info_parts infoStr
  have PA := fun w => refParts_any v (by omega) w
  obtain ⟨p, r, hp⟩ : ∃ p r, partsL v = p :: r := ⟨_, _, partsL_cons v⟩
  rw [hp] at PA
  obtain ⟨z1, z2, z3⟩ := piece_le hp
  have hcl : ∀ q ∈ p :: r, (10 : UInt8) ∉ q := by rw [← hp]; exact partsL_clean v
  have HL := Lib.hid (linesLen (k := k) hp)
  clear hp
  unfold fieldV
  have hzk := B_size k
  have h1 : (B k ++ ⟨#[58]⟩) = B (k ++ [58]) := B_append k [58]
  have h2 : (B (k ++ [58]) ++ ⟨#[32]⟩) = B ((k ++ [58]) ++ [32]) := B_append _ [32]
  have h3 : (B ((k ++ [58]) ++ [32]) ++ B p) = B (((k ++ [58]) ++ [32]) ++ p) := B_append _ p
  have y1 : (B (k ++ [58])).size = k.length + 1 := by rw [B_size]; simp
  have y2 : (B ((k ++ [58]) ++ [32])).size = k.length + 2 := by rw [B_size]; simp
  have hzp := B_size p
  have hfl1 : p = [] → B (firstL k p) = B (k ++ [58]) := fun h => by unfold firstL; rw [if_pos h]
  have hfl2 : p ≠ [] → B (firstL k p) = B (((k ++ [58]) ++ [32]) ++ p) := fun h => by unfold firstL; rw [if_neg h]; simp
  go_enter Tryd.func15, Tryd.ntmps15
  go_wp2_with fail
  refine (PA _).mono ?_
  rintro e w1 ⟨v1, rfl, hown, b1⟩
  obtain ⟨g, cap, rfl, hg1, hg2⟩ := hown.form (by simp)
  have c0 := b1.cell (p := ⟨w.heap.size, 0, none⟩) (by simp)
  have hb1 : Below w.heap.size w w1 := ((Below.refl _ _).alloc (Nat.le_refl _) _).trans (b1.mono (by simp))
  have PC : ∀ (j : Nat) x, (p :: r)[j]? = some x → w1.cell? ⟨g, j, none⟩ = some (.string (B x)) := fun j x hx => hown.cell rfl j (B x) (by rw [List.getElem?_map, hx]; rfl)
  have e0 := PC 0 p rfl
  simp only [List.length_map, List.length_cons]
  simp only [World.cell?_alloc_at _ _ _ _ rfl] at c0
  have PCH := Lib.hid (fun (j : Nat) x (hx : r[j]? = some x) => PC (j + 1) x (by simpa using hx))
  have hcl2 := Lib.hid (fun q hq => hcl q (List.mem_cons_of_mem _ hq))
  have BW := Lib.hid hb1
  replace c0 : w1.cell? ⟨w.heap.size, 0, none⟩ = some (.string (B k)) := c0
  have hw1 := hb1.size
  clear PC PA b1 hown hg1 hcl hb1
  generalize hfl : B (firstL k p) = FL at *
  have HFL : Hid (((linesL k v).map B) = FL :: (r.map furtherL).map B) := by
    show _ = _
    rw [HL.out, List.map_cons, hfl]
  clear hfl HL
  have hpp : (p = [] ∧ FL = B (k ++ [58])) ∨ (p ≠ [] ∧ FL = B (((k ++ [58]) ++ [32]) ++ p)) := by
    by_cases hpe : p = []
    · exact .inl ⟨hpe, hfl1 hpe⟩
    · exact .inr ⟨hpe, hfl2 hpe⟩
  clear hfl1 hfl2
  rcases hpp with ⟨hpe, hf⟩ | ⟨hpe, hf⟩
  · subst hpe
    rw [show B [] = ⟨#[]⟩ from rfl] at *
    rw [← hf] at h1
    clear hf h2 h3 y1 y2 hzp z1
    generalize B k = K at *
    go_wp2_with fail
    go_loopw [5, 6] (fun v5 i wr => ∃ n : Nat, n ≤ r.length ∧ i = .int .i64 ((n : Int) + 1) ∧ OwnS wr w1.heap.size v5 (FL :: ((r.take n).map furtherL).map B) ∧ Below w1.heap.size w1 wr) (fun _ i _ => r.length + 1 - (intOf i).toNat)
    case atStart => exact ⟨0, Nat.zero_le _, rfl, OwnS.one w1 _ (Nat.le_refl _) _, (Below.refl _ _).alloc (Nat.le_refl _) _⟩
    case round =>
      obtain ⟨n, hn, rfl, hown, hb⟩ := hrel
      by_cases hlt : n < r.length
      · obtain ⟨x, hx⟩ : ∃ x, r[n]? = some x := ⟨_, List.getElem?_eq_getElem hlt⟩
        have hcx := (hb.cell (p := ⟨g, n + 1, none⟩) hg2).trans (PCH.out n x hx)
        have hxm := List.mem_of_getElem? hx
        have hxl := z2 x hxm
        have hxc := hcl2.out x hxm
        have hxz := B_size x
        have RK := fun w => refKind_any (B x) (by omega) w
        rw [B_data] at RK
        have TK : Hid (FL :: ((r.take (n + 1)).map furtherL).map B = (FL :: ((r.take n).map furtherL).map B) ++ [B (furtherL x)]) := by
          show _ = _
          rw [List.take_add_one, hx]; simp
        have HLL : Hid ((FL :: ((r.take n).map furtherL).map B).length = n + 1) := by
          show _ = _
          simp; omega
        have hs3 := hb.size
        have kc := kind_clean hxc
        cases hbl : blankAll x with
        | true =>
          have hk1 := kc.2 hbl
          have hfx : ⟨#[32, 46]⟩ ++ B x = B (furtherL x) := by unfold furtherL dotted; rw [hbl]; exact B_append [32, 46] x
          rw [hk1] at RK
          clear hx hk1 kc hbl hxc hxm
          generalize (FL :: ((r.take n).map furtherL).map B) = ls at *
          generalize B (furtherL x) = Y at *
          generalize B x = X at *
          go_wp2_with fail
          refine (RK _).mono ?_
          rintro e w4 ⟨rfl, b4⟩
          have hcx4 := (b4.cell (p := ⟨g, n + 1, none⟩) (Nat.lt_of_lt_of_le hg2 hs3)).trans hcx
          have hown4 : w4.ownsRow w1.heap.size 9 1 u5 (n + 1) (ls.map Value.string) := by rw [← HLL.out]; exact hown.kept b4 (Nat.le_refl _)
          have hs4 := b4.size
          have HC := Lib.hid (strCell w4 Y 9)
          have hb4 : Below w1.heap.size w1 w4 := hb.trans (b4.mono hs3)
          clear hown b4 hcx
          go_wp2_with (at_builtin; refine wpList_append_own _ rfl _ _ 25 rfl w1.heap.size 9 i0 _ 1 16 Tryd.underlying25 hi hz0 hz1 hz2 rfl (by decide) _ _ _ rfl (hown4.alloc _) ⟨w4.heap.size, 0, none⟩ 1 1 _ rfl rfl HC.out ?c2 ?c3 ?c4 ?c5 ?_)
          case c2 => intro u hu; simp at hu; subst hu; rfl
          case c3 => unfold maxLen; omega
          case c4 => omega
          case c5 => simp; omega
          intro v' w5 hown' hgrow _
          obtain ⟨g', cap', rfl⟩ := ownsRow_succ hown'
          have hb5 : Below w1.heap.size w1 w5 := (hb4.alloc (by omega) _).grown hgrow (by simp; omega) (fun j ej => (hown4.lt j ej).1)
          have hown6 := OwnS.grow (ls := ls) (y := Y) hown' HLL.out
          rw [← TK.out] at hown6
          go_wp2_with fail
          go_roundw
          case rel => exact ⟨n + 1, hlt, by go_num, hown6, hb5⟩
          case measure => simp [intOf]; omega
        | false =>
          have hk1 : kindL x ≠ 1 := fun e => by rw [kc.1 e] at hbl; cases hbl
          obtain ⟨c, t, rfl⟩ := all_blank_cons hbl
          have hki : ((kindL (c :: t) : Int) == 1) = false := by rw [beq_eq_false_iff_ne]; omega
          have q2 := byte_eq (c := c) (d := 46) 46 rfl
          have hXc : ∀ h : 0 < (B (c :: t)).size, (B (c :: t))[0]'h = c := fun _ => rfl
          have hxz2 : (B (c :: t)).size = t.length + 1 := hxz
          have htl : t.length ≤ 1000000 := by simp only [List.length_cons] at hxl; omega
          have hxp : 0 < (B (c :: t)).size := by omega
          clear hxz
          by_cases hc : c = 46
          · have hfx : ⟨#[32, 46]⟩ ++ B (c :: t) = B (furtherL (c :: t)) := by unfold furtherL dotted; rw [hc]; simp; exact B_append [32, 46] (46 :: t)
            have hcb : (c == 46) = true := by simp [hc]
            rw [hcb] at q2
            clear hx hk1 kc hbl hxc hxm hc
            generalize (FL :: ((r.take n).map furtherL).map B) = ls at *
            generalize kindL (c :: t) = kx at *
            generalize B (furtherL (c :: t)) = Y at *
            generalize B (c :: t) = X at *
            go_wp2_with fail
            refine (RK _).mono ?_
            rintro e w4 ⟨rfl, b4⟩
            have hcx4 := (b4.cell (p := ⟨g, n + 1, none⟩) (Nat.lt_of_lt_of_le hg2 hs3)).trans hcx
            have hown4 : w4.ownsRow w1.heap.size 9 1 u5 (n + 1) (ls.map Value.string) := by rw [← HLL.out]; exact hown.kept b4 (Nat.le_refl _)
            have hs4 := b4.size
            have HC := Lib.hid (strCell w4 Y 9)
            have hb4 : Below w1.heap.size w1 w4 := hb.trans (b4.mono hs3)
            clear hown b4 hcx
            go_wp2_with (at_builtin; refine wpList_append_own _ rfl _ _ 25 rfl w1.heap.size 9 i0 _ 1 16 Tryd.underlying25 hi hz0 hz1 hz2 rfl (by decide) _ _ _ rfl (hown4.alloc _) ⟨w4.heap.size, 0, none⟩ 1 1 _ rfl rfl HC.out ?c2 ?c3 ?c4 ?c5 ?_)
            case c2 => intro u hu; simp at hu; subst hu; rfl
            case c3 => unfold maxLen; omega
            case c4 => omega
            case c5 => simp; omega
            intro v' w5 hown' hgrow _
            obtain ⟨g', cap', rfl⟩ := ownsRow_succ hown'
            have hb5 : Below w1.heap.size w1 w5 := (hb4.alloc (by omega) _).grown hgrow (by simp; omega) (fun j ej => (hown4.lt j ej).1)
            have hown6 := OwnS.grow (ls := ls) (y := Y) hown' HLL.out
            rw [← TK.out] at hown6
            go_wp2_with fail
            go_roundw
            case rel => exact ⟨n + 1, hlt, by go_num, hown6, hb5⟩
            case measure => simp [intOf]; omega
          · have hfx : ⟨#[32]⟩ ++ B (c :: t) = B (furtherL (c :: t)) := by unfold furtherL dotted; rw [hbl]; simp [hc]; exact B_append [32] (c :: t)
            have hcb : (c == 46) = false := by simp [hc]
            rw [hcb] at q2
            clear hx hk1 kc hbl hxc hxm hc
            generalize (FL :: ((r.take n).map furtherL).map B) = ls at *
            generalize kindL (c :: t) = kx at *
            generalize B (furtherL (c :: t)) = Y at *
            generalize B (c :: t) = X at *
            go_wp2_with fail
            refine (RK _).mono ?_
            rintro e w4 ⟨rfl, b4⟩
            have hcx4 := (b4.cell (p := ⟨g, n + 1, none⟩) (Nat.lt_of_lt_of_le hg2 hs3)).trans hcx
            have hown4 : w4.ownsRow w1.heap.size 9 1 u5 (n + 1) (ls.map Value.string) := by rw [← HLL.out]; exact hown.kept b4 (Nat.le_refl _)
            have hs4 := b4.size
            have HC := Lib.hid (strCell w4 Y 9)
            have hb4 : Below w1.heap.size w1 w4 := hb.trans (b4.mono hs3)
            clear hown b4 hcx
            go_wp2_with (at_builtin; refine wpList_append_own _ rfl _ _ 25 rfl w1.heap.size 9 i0 _ 1 16 Tryd.underlying25 hi hz0 hz1 hz2 rfl (by decide) _ _ _ rfl (hown4.alloc _) ⟨w4.heap.size, 0, none⟩ 1 1 _ rfl rfl HC.out ?c2 ?c3 ?c4 ?c5 ?_)
            case c2 => intro u hu; simp at hu; subst hu; rfl
            case c3 => unfold maxLen; omega
            case c4 => omega
            case c5 => simp; omega
            intro v' w5 hown' hgrow _
            obtain ⟨g', cap', rfl⟩ := ownsRow_succ hown'
            have hb5 : Below w1.heap.size w1 w5 := (hb4.alloc (by omega) _).grown hgrow (by simp; omega) (fun j ej => (hown4.lt j ej).1)
            have hown6 := OwnS.grow (ls := ls) (y := Y) hown' HLL.out
            rw [← TK.out] at hown6
            go_wp2_with fail
            go_roundw
            case rel => exact ⟨n + 1, hlt, by go_num, hown6, hb5⟩
            case measure => simp [intOf]; omega
      · obtain rfl : n = r.length := by omega
        rw [List.take_length] at hown
        go_wp2_with fail
        go_ret
        exact ⟨_, _, rfl, by rw [HFL.out]; exact hown, BW.out.trans (hb.mono hw1)⟩

  · obtain ⟨n1, n2⟩ := B_empty hpe
    rw [← hf] at h3
    clear hf hpe
    generalize B k = K at *
    generalize B (k ++ [58]) = K1 at *
    generalize B ((k ++ [58]) ++ [32]) = K2 at *
    generalize B p = P at *
    go_wp2_with fail
    clear h1 h2 h3 y1 y2 hzp n1 n2
    go_loopw [5, 6] (fun v5 i wr => ∃ n : Nat, n ≤ r.length ∧ i = .int .i64 ((n : Int) + 1) ∧ OwnS wr w1.heap.size v5 (FL :: ((r.take n).map furtherL).map B) ∧ Below w1.heap.size w1 wr) (fun _ i _ => r.length + 1 - (intOf i).toNat)
    case atStart => exact ⟨0, Nat.zero_le _, rfl, OwnS.one w1 _ (Nat.le_refl _) _, (Below.refl _ _).alloc (Nat.le_refl _) _⟩
    case round =>
      obtain ⟨n, hn, rfl, hown, hb⟩ := hrel
      by_cases hlt : n < r.length
      · obtain ⟨x, hx⟩ : ∃ x, r[n]? = some x := ⟨_, List.getElem?_eq_getElem hlt⟩
        have hcx := (hb.cell (p := ⟨g, n + 1, none⟩) hg2).trans (PCH.out n x hx)
        have hxm := List.mem_of_getElem? hx
        have hxl := z2 x hxm
        have hxc := hcl2.out x hxm
        have hxz := B_size x
        have RK := fun w => refKind_any (B x) (by omega) w
        rw [B_data] at RK
        have TK : Hid (FL :: ((r.take (n + 1)).map furtherL).map B = (FL :: ((r.take n).map furtherL).map B) ++ [B (furtherL x)]) := by
          show _ = _
          rw [List.take_add_one, hx]; simp
        have HLL : Hid ((FL :: ((r.take n).map furtherL).map B).length = n + 1) := by
          show _ = _
          simp; omega
        have hs3 := hb.size
        have kc := kind_clean hxc
        cases hbl : blankAll x with
        | true =>
          have hk1 := kc.2 hbl
          have hfx : ⟨#[32, 46]⟩ ++ B x = B (furtherL x) := by unfold furtherL dotted; rw [hbl]; exact B_append [32, 46] x
          rw [hk1] at RK
          clear hx hk1 kc hbl hxc hxm
          generalize (FL :: ((r.take n).map furtherL).map B) = ls at *
          generalize B (furtherL x) = Y at *
          generalize B x = X at *
          go_wp2_with fail
          refine (RK _).mono ?_
          rintro e w4 ⟨rfl, b4⟩
          have hcx4 := (b4.cell (p := ⟨g, n + 1, none⟩) (Nat.lt_of_lt_of_le hg2 hs3)).trans hcx
          have hown4 : w4.ownsRow w1.heap.size 9 1 u5 (n + 1) (ls.map Value.string) := by rw [← HLL.out]; exact hown.kept b4 (Nat.le_refl _)
          have hs4 := b4.size
          have HC := Lib.hid (strCell w4 Y 9)
          have hb4 : Below w1.heap.size w1 w4 := hb.trans (b4.mono hs3)
          clear hown b4 hcx
          go_wp2_with (at_builtin; refine wpList_append_own _ rfl _ _ 25 rfl w1.heap.size 9 i0 _ 1 16 Tryd.underlying25 hi hz0 hz1 hz2 rfl (by decide) _ _ _ rfl (hown4.alloc _) ⟨w4.heap.size, 0, none⟩ 1 1 _ rfl rfl HC.out ?c2 ?c3 ?c4 ?c5 ?_)
          case c2 => intro u hu; simp at hu; subst hu; rfl
          case c3 => unfold maxLen; omega
          case c4 => omega
          case c5 => simp; omega
          intro v' w5 hown' hgrow _
          obtain ⟨g', cap', rfl⟩ := ownsRow_succ hown'
          have hb5 : Below w1.heap.size w1 w5 := (hb4.alloc (by omega) _).grown hgrow (by simp; omega) (fun j ej => (hown4.lt j ej).1)
          have hown6 := OwnS.grow (ls := ls) (y := Y) hown' HLL.out
          rw [← TK.out] at hown6
          go_wp2_with fail
          go_roundw
          case rel => exact ⟨n + 1, hlt, by go_num, hown6, hb5⟩
          case measure => simp [intOf]; omega
        | false =>
          have hk1 : kindL x ≠ 1 := fun e => by rw [kc.1 e] at hbl; cases hbl
          obtain ⟨c, t, rfl⟩ := all_blank_cons hbl
          have hki : ((kindL (c :: t) : Int) == 1) = false := by rw [beq_eq_false_iff_ne]; omega
          have q2 := byte_eq (c := c) (d := 46) 46 rfl
          have hXc : ∀ h : 0 < (B (c :: t)).size, (B (c :: t))[0]'h = c := fun _ => rfl
          have hxz2 : (B (c :: t)).size = t.length + 1 := hxz
          have htl : t.length ≤ 1000000 := by simp only [List.length_cons] at hxl; omega
          have hxp : 0 < (B (c :: t)).size := by omega
          clear hxz
          by_cases hc : c = 46
          · have hfx : ⟨#[32, 46]⟩ ++ B (c :: t) = B (furtherL (c :: t)) := by unfold furtherL dotted; rw [hc]; simp; exact B_append [32, 46] (46 :: t)
            have hcb : (c == 46) = true := by simp [hc]
            rw [hcb] at q2
            clear hx hk1 kc hbl hxc hxm hc
            generalize (FL :: ((r.take n).map furtherL).map B) = ls at *
            generalize kindL (c :: t) = kx at *
            generalize B (furtherL (c :: t)) = Y at *
            generalize B (c :: t) = X at *
            go_wp2_with fail
            refine (RK _).mono ?_
            rintro e w4 ⟨rfl, b4⟩
            have hcx4 := (b4.cell (p := ⟨g, n + 1, none⟩) (Nat.lt_of_lt_of_le hg2 hs3)).trans hcx
            have hown4 : w4.ownsRow w1.heap.size 9 1 u5 (n + 1) (ls.map Value.string) := by rw [← HLL.out]; exact hown.kept b4 (Nat.le_refl _)
            have hs4 := b4.size
            have HC := Lib.hid (strCell w4 Y 9)
            have hb4 : Below w1.heap.size w1 w4 := hb.trans (b4.mono hs3)
            clear hown b4 hcx
            go_wp2_with (at_builtin; refine wpList_append_own _ rfl _ _ 25 rfl w1.heap.size 9 i0 _ 1 16 Tryd.underlying25 hi hz0 hz1 hz2 rfl (by decide) _ _ _ rfl (hown4.alloc _) ⟨w4.heap.size, 0, none⟩ 1 1 _ rfl rfl HC.out ?c2 ?c3 ?c4 ?c5 ?_)
            case c2 => intro u hu; simp at hu; subst hu; rfl
            case c3 => unfold maxLen; omega
            case c4 => omega
            case c5 => simp; omega
            intro v' w5 hown' hgrow _
            obtain ⟨g', cap', rfl⟩ := ownsRow_succ hown'
            have hb5 : Below w1.heap.size w1 w5 := (hb4.alloc (by omega) _).grown hgrow (by simp; omega) (fun j ej => (hown4.lt j ej).1)
            have hown6 := OwnS.grow (ls := ls) (y := Y) hown' HLL.out
            rw [← TK.out] at hown6
            go_wp2_with fail
            go_roundw
            case rel => exact ⟨n + 1, hlt, by go_num, hown6, hb5⟩
            case measure => simp [intOf]; omega
          · have hfx : ⟨#[32]⟩ ++ B (c :: t) = B (furtherL (c :: t)) := by unfold furtherL dotted; rw [hbl]; simp [hc]; exact B_append [32] (c :: t)
            have hcb : (c == 46) = false := by simp [hc]
            rw [hcb] at q2
            clear hx hk1 kc hbl hxc hxm hc
            generalize (FL :: ((r.take n).map furtherL).map B) = ls at *
            generalize kindL (c :: t) = kx at *
            generalize B (furtherL (c :: t)) = Y at *
            generalize B (c :: t) = X at *
            go_wp2_with fail
            refine (RK _).mono ?_
            rintro e w4 ⟨rfl, b4⟩
            have hcx4 := (b4.cell (p := ⟨g, n + 1, none⟩) (Nat.lt_of_lt_of_le hg2 hs3)).trans hcx
            have hown4 : w4.ownsRow w1.heap.size 9 1 u5 (n + 1) (ls.map Value.string) := by rw [← HLL.out]; exact hown.kept b4 (Nat.le_refl _)
            have hs4 := b4.size
            have HC := Lib.hid (strCell w4 Y 9)
            have hb4 : Below w1.heap.size w1 w4 := hb.trans (b4.mono hs3)
            clear hown b4 hcx
            go_wp2_with (at_builtin; refine wpList_append_own _ rfl _ _ 25 rfl w1.heap.size 9 i0 _ 1 16 Tryd.underlying25 hi hz0 hz1 hz2 rfl (by decide) _ _ _ rfl (hown4.alloc _) ⟨w4.heap.size, 0, none⟩ 1 1 _ rfl rfl HC.out ?c2 ?c3 ?c4 ?c5 ?_)
            case c2 => intro u hu; simp at hu; subst hu; rfl
            case c3 => unfold maxLen; omega
            case c4 => omega
            case c5 => simp; omega
            intro v' w5 hown' hgrow _
            obtain ⟨g', cap', rfl⟩ := ownsRow_succ hown'
            have hb5 : Below w1.heap.size w1 w5 := (hb4.alloc (by omega) _).grown hgrow (by simp; omega) (fun j ej => (hown4.lt j ej).1)
            have hown6 := OwnS.grow (ls := ls) (y := Y) hown' HLL.out
            rw [← TK.out] at hown6
            go_wp2_with fail
            go_roundw
            case rel => exact ⟨n + 1, hlt, by go_num, hown6, hb5⟩
            case measure => simp [intOf]; omega
      · obtain rfl : n = r.length := by omega
        rw [List.take_length] at hown
        go_wp2_with fail
        go_ret
        exact ⟨_, _, rfl, by rw [HFL.out]; exact hown, BW.out.trans (hb.mono hw1)⟩

end Go.Proofs.YtcakphfjeplnnaaDoor
