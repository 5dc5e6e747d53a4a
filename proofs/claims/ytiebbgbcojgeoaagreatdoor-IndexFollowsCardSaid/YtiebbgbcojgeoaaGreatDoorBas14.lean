/- Texts put together: FQ, FR, TD, TE, TL, UA, NG, NH. -/
import Derived.Test.YtiebbgbcojgeoaaGreatDoorBas6
import Derived.Test.YtiebbgbcojgeoaaGreatDoorBas7
import Derived.Test.YtiebbgbcojgeoaaGreatDoorBas9
import Derived.Test.YtiebbgbcojgeoaaGreatDoorBas12
import Derived.Test.YtiebbgbcojgeoaaGreatDoorBas13
set_option linter.unusedVariables false
namespace Go.Proofs.YtiebbgbcojgeoaaGreatDoor
open Go.RowKit Go.Shelf

theorem kind_clean {l : List UInt8} (h : (10 : UInt8) ∉ l) : (kindL l = 1 ↔ blankAll l = true) := by
  unfold kindL
  rw [hasB_not h, if_neg (by decide)]
  cases hb : blankAll l with
  | true => simp
  | false =>
    rw [if_neg (by decide)]
    constructor
    · intro h
      split at h
      · cases h
      · split at h
        · cases h
        · split at h <;> cases h
    · intro h; cases h
set_option maxRecDepth 100000 in
set_option maxHeartbeats 4000000 in
theorem refLines_any (k v : List UInt8) (hk : k.length ≤ 100000) (hv : v.length ≤ 100000) (w : World) :
    Calls Tryz.prog 156 #[fieldV k v] w fun e w' => ∃ sv base, e = .returned sv ∧ OwnS w' base sv ((linesL k v).map B) ∧ Below w.heap.size w w' := by
  obtain ⟨i0, hi, hz0, hz1, hz2⟩ := info_parts infoStr
  have PA := fun w => refParts_any v (by omega) w
  obtain ⟨p, r, hp⟩ : ∃ p r, partsL v = p :: r := ⟨_, _, partsL_cons v⟩
  rw [hp] at PA
  obtain ⟨z1, z2, z3⟩ := piece_le hp
  have hcl : ∀ q ∈ p :: r, (10 : UInt8) ∉ q := by rw [← hp]; exact partsL_clean v
  have HL := Lib.hid (linesLen (k := k) hp)
  clear hp
  unfold fieldV
  have hzk := B_size k
  have h1 : (B k ++ ⟨#[58]⟩) = B (k ++ [58]) := B_append k [58]
  have h2 : (B (k ++ [58]) ++ ⟨#[32]⟩) = B ((k ++ [58]) ++ [32]) := B_append _ [32]
  have h3 : (B ((k ++ [58]) ++ [32]) ++ B p) = B (((k ++ [58]) ++ [32]) ++ p) := B_append _ p
  have y1 : (B (k ++ [58])).size = k.length + 1 := by rw [B_size]; simp
  have y2 : (B ((k ++ [58]) ++ [32])).size = k.length + 2 := by rw [B_size]; simp
  have hzp := B_size p
  have hfl1 : p = [] → B (firstL k p) = B (k ++ [58]) := fun h => by unfold firstL; rw [if_pos h]
  have hfl2 : p ≠ [] → B (firstL k p) = B (((k ++ [58]) ++ [32]) ++ p) := fun h => by unfold firstL; rw [if_neg h]; simp
  go_enter Tryz.func156, Tryz.ntmps156
  go_wp2_with fail
  refine (PA _).mono ?_
  rintro e w1 ⟨v1, rfl, hown, b1⟩
  obtain ⟨g, cap, rfl, hg1, hg2⟩ := hown.form (by simp)
  have c0 := b1.cell (p := ⟨w.heap.size, 0, none⟩) (by simp)
  have hb1 : Below w.heap.size w w1 := ((Below.refl _ _).alloc (Nat.le_refl _) _).trans (b1.mono (by simp))
  have PC : ∀ (j : Nat) x, (p :: r)[j]? = some x → w1.cell? ⟨g, j, none⟩ = some (.string (B x)) := fun j x hx => hown.cell rfl j (B x) (by rw [List.getElem?_map, hx]; rfl)
  have e0 := PC 0 p rfl
  simp only [List.length_map, List.length_cons]
  simp only [World.cell?_alloc_at _ _ _ _ rfl] at c0
  have PCH := Lib.hid (fun (j : Nat) x (hx : r[j]? = some x) => PC (j + 1) x (by simpa using hx))
  have hcl2 := Lib.hid (fun q hq => hcl q (List.mem_cons_of_mem _ hq))
  have BW := Lib.hid hb1
  replace c0 : w1.cell? ⟨w.heap.size, 0, none⟩ = some (.string (B k)) := c0
  have hw1 := hb1.size
  clear PC PA b1 hown hg1 hcl hb1
  generalize hfl : B (firstL k p) = FL at *
  have HFL : Hid (((linesL k v).map B) = FL :: (r.map furtherL).map B) := by
    show _ = _
    rw [HL.out, List.map_cons, hfl]
  clear hfl HL
  have hpp : (p = [] ∧ FL = B (k ++ [58])) ∨ (p ≠ [] ∧ FL = B (((k ++ [58]) ++ [32]) ++ p)) := by
    by_cases hpe : p = []
    · exact .inl ⟨hpe, hfl1 hpe⟩
    · exact .inr ⟨hpe, hfl2 hpe⟩
  clear hfl1 hfl2
  rcases hpp with ⟨hpe, hf⟩ | ⟨hpe, hf⟩
  · subst hpe
    rw [show B [] = ⟨#[]⟩ from rfl] at *
    rw [← hf] at h1
    clear hf h2 h3 y1 y2 hzp z1
    generalize B k = K at *
    go_wp2_with fail
    go_loopw [5, 6] (fun v5 i wr => ∃ n : Nat, n ≤ r.length ∧ i = .int .i64 ((n : Int) + 1) ∧ OwnS wr w1.heap.size v5 (FL :: ((r.take n).map furtherL).map B) ∧ Below w1.heap.size w1 wr) (fun _ i _ => r.length + 1 - (intOf i).toNat)
    case atStart => exact ⟨0, Nat.zero_le _, rfl, OwnS.one w1 _ (Nat.le_refl _) _, (Below.refl _ _).alloc (Nat.le_refl _) _⟩
    case round =>
      obtain ⟨n, hn, rfl, hown, hb⟩ := hrel
      by_cases hlt : n < r.length
      · obtain ⟨x, hx⟩ : ∃ x, r[n]? = some x := ⟨_, List.getElem?_eq_getElem hlt⟩
        have hcx := (hb.cell (p := ⟨g, n + 1, none⟩) hg2).trans (PCH.out n x hx)
        have hxm := List.mem_of_getElem? hx
        have hxl := z2 x hxm
        have hxc := hcl2.out x hxm
        have hxz := B_size x
        have RK := fun w => refKind_any (B x) (by omega) w
        rw [B_data] at RK
        have TK : Hid (FL :: ((r.take (n + 1)).map furtherL).map B = (FL :: ((r.take n).map furtherL).map B) ++ [B (furtherL x)]) := by
          show _ = _
          rw [List.take_add_one, hx]; simp
        have HLL : Hid ((FL :: ((r.take n).map furtherL).map B).length = n + 1) := by
          show _ = _
          simp; omega
        have hs3 := hb.size
        have kc := kind_clean hxc
        cases hbl : blankAll x with
        | true =>
          have hk1 := kc.2 hbl
          have hfx : ⟨#[32, 46]⟩ ++ B x = B (furtherL x) := by unfold furtherL dotted; rw [hbl]; exact B_append [32, 46] x
          rw [hk1] at RK
          clear hx hk1 kc hbl hxc hxm
          generalize (FL :: ((r.take n).map furtherL).map B) = ls at *
          generalize B (furtherL x) = Y at *
          generalize B x = X at *
          go_wp2_with fail
          refine (RK _).mono ?_
          rintro e w4 ⟨rfl, b4⟩
          have hcx4 := (b4.cell (p := ⟨g, n + 1, none⟩) (Nat.lt_of_lt_of_le hg2 hs3)).trans hcx
          have hown4 : w4.ownsRow w1.heap.size 9 1 u5 (n + 1) (ls.map Value.string) := by rw [← HLL.out]; exact hown.kept b4 (Nat.le_refl _)
          have hs4 := b4.size
          have HC := Lib.hid (strCell w4 Y 9)
          have hb4 : Below w1.heap.size w1 w4 := hb.trans (b4.mono hs3)
          clear hown b4 hcx
          go_wp2_with (at_builtin; refine wpList_append_own _ rfl _ _ 69 rfl w1.heap.size 9 i0 _ 1 16 Tryz.underlying69 hi hz0 hz1 hz2 rfl (by decide) _ _ _ rfl (hown4.alloc _) ⟨w4.heap.size, 0, none⟩ 1 1 _ rfl rfl HC.out ?c2 ?c3 ?c4 ?c5 ?_)
          case c2 => intro u hu; simp at hu; subst hu; rfl
          case c3 => unfold maxLen; omega
          case c4 => omega
          case c5 => simp; omega
          intro v' w5 hown' hgrow _
          obtain ⟨g', cap', rfl⟩ := ownsRow_succ hown'
          have hb5 : Below w1.heap.size w1 w5 := (hb4.alloc (by omega) _).grown hgrow (by simp; omega) (fun j ej => (hown4.lt j ej).1)
          have hown6 := OwnS.grow (ls := ls) (y := Y) hown' HLL.out
          rw [← TK.out] at hown6
          go_wp2_with fail
          go_roundw
          case rel => exact ⟨n + 1, hlt, by go_num, hown6, hb5⟩
          case measure => simp [intOf]; omega
        | false =>
          have hk1 : kindL x ≠ 1 := fun e => by rw [kc.1 e] at hbl; cases hbl
          obtain ⟨c, t, rfl⟩ := all_blank_cons hbl
          have hki : ((kindL (c :: t) : Int) == 1) = false := by rw [beq_eq_false_iff_ne]; omega
          have q2 := byte_eq (c := c) (d := 46) 46 rfl
          have hXc : ∀ h : 0 < (B (c :: t)).size, (B (c :: t))[0]'h = c := fun _ => rfl
          have hxz2 : (B (c :: t)).size = t.length + 1 := hxz
          have htl : t.length ≤ 1000000 := by simp only [List.length_cons] at hxl; omega
          have hxp : 0 < (B (c :: t)).size := by omega
          clear hxz
          by_cases hc : c = 46
          · have hfx : ⟨#[32, 46]⟩ ++ B (c :: t) = B (furtherL (c :: t)) := by unfold furtherL dotted; rw [hc]; simp; exact B_append [32, 46] (46 :: t)
            have hcb : (c == 46) = true := by simp [hc]
            rw [hcb] at q2
            clear hx hk1 kc hbl hxc hxm hc
            generalize (FL :: ((r.take n).map furtherL).map B) = ls at *
            generalize kindL (c :: t) = kx at *
            generalize B (furtherL (c :: t)) = Y at *
            generalize B (c :: t) = X at *
            go_wp2_with fail
            refine (RK _).mono ?_
            rintro e w4 ⟨rfl, b4⟩
            have hcx4 := (b4.cell (p := ⟨g, n + 1, none⟩) (Nat.lt_of_lt_of_le hg2 hs3)).trans hcx
            have hown4 : w4.ownsRow w1.heap.size 9 1 u5 (n + 1) (ls.map Value.string) := by rw [← HLL.out]; exact hown.kept b4 (Nat.le_refl _)
            have hs4 := b4.size
            have HC := Lib.hid (strCell w4 Y 9)
            have hb4 : Below w1.heap.size w1 w4 := hb.trans (b4.mono hs3)
            clear hown b4 hcx
            go_wp2_with (at_builtin; refine wpList_append_own _ rfl _ _ 69 rfl w1.heap.size 9 i0 _ 1 16 Tryz.underlying69 hi hz0 hz1 hz2 rfl (by decide) _ _ _ rfl (hown4.alloc _) ⟨w4.heap.size, 0, none⟩ 1 1 _ rfl rfl HC.out ?c2 ?c3 ?c4 ?c5 ?_)
            case c2 => intro u hu; simp at hu; subst hu; rfl
            case c3 => unfold maxLen; omega
            case c4 => omega
            case c5 => simp; omega
            intro v' w5 hown' hgrow _
            obtain ⟨g', cap', rfl⟩ := ownsRow_succ hown'
            have hb5 : Below w1.heap.size w1 w5 := (hb4.alloc (by omega) _).grown hgrow (by simp; omega) (fun j ej => (hown4.lt j ej).1)
            have hown6 := OwnS.grow (ls := ls) (y := Y) hown' HLL.out
            rw [← TK.out] at hown6
            go_wp2_with fail
            go_roundw
            case rel => exact ⟨n + 1, hlt, by go_num, hown6, hb5⟩
            case measure => simp [intOf]; omega
          · have hfx : ⟨#[32]⟩ ++ B (c :: t) = B (furtherL (c :: t)) := by unfold furtherL dotted; rw [hbl]; simp [hc]; exact B_append [32] (c :: t)
            have hcb : (c == 46) = false := by simp [hc]
            rw [hcb] at q2
            clear hx hk1 kc hbl hxc hxm hc
            generalize (FL :: ((r.take n).map furtherL).map B) = ls at *
            generalize kindL (c :: t) = kx at *
            generalize B (furtherL (c :: t)) = Y at *
            generalize B (c :: t) = X at *
            go_wp2_with fail
            refine (RK _).mono ?_
            rintro e w4 ⟨rfl, b4⟩
            have hcx4 := (b4.cell (p := ⟨g, n + 1, none⟩) (Nat.lt_of_lt_of_le hg2 hs3)).trans hcx
            have hown4 : w4.ownsRow w1.heap.size 9 1 u5 (n + 1) (ls.map Value.string) := by rw [← HLL.out]; exact hown.kept b4 (Nat.le_refl _)
            have hs4 := b4.size
            have HC := Lib.hid (strCell w4 Y 9)
            have hb4 : Below w1.heap.size w1 w4 := hb.trans (b4.mono hs3)
            clear hown b4 hcx
            go_wp2_with (at_builtin; refine wpList_append_own _ rfl _ _ 69 rfl w1.heap.size 9 i0 _ 1 16 Tryz.underlying69 hi hz0 hz1 hz2 rfl (by decide) _ _ _ rfl (hown4.alloc _) ⟨w4.heap.size, 0, none⟩ 1 1 _ rfl rfl HC.out ?c2 ?c3 ?c4 ?c5 ?_)
            case c2 => intro u hu; simp at hu; subst hu; rfl
            case c3 => unfold maxLen; omega
            case c4 => omega
            case c5 => simp; omega
            intro v' w5 hown' hgrow _
            obtain ⟨g', cap', rfl⟩ := ownsRow_succ hown'
            have hb5 : Below w1.heap.size w1 w5 := (hb4.alloc (by omega) _).grown hgrow (by simp; omega) (fun j ej => (hown4.lt j ej).1)
            have hown6 := OwnS.grow (ls := ls) (y := Y) hown' HLL.out
            rw [← TK.out] at hown6
            go_wp2_with fail
            go_roundw
            case rel => exact ⟨n + 1, hlt, by go_num, hown6, hb5⟩
            case measure => simp [intOf]; omega
      · obtain rfl : n = r.length := by omega
        rw [List.take_length] at hown
        go_wp2_with fail
        go_ret
        exact ⟨_, _, rfl, by rw [HFL.out]; exact hown, BW.out.trans (hb.mono hw1)⟩

  · obtain ⟨n1, n2⟩ := B_empty hpe
    rw [← hf] at h3
    clear hf hpe
    generalize B k = K at *
    generalize B (k ++ [58]) = K1 at *
    generalize B ((k ++ [58]) ++ [32]) = K2 at *
    generalize B p = P at *
    go_wp2_with fail
    clear h1 h2 h3 y1 y2 hzp n1 n2
    go_loopw [5, 6] (fun v5 i wr => ∃ n : Nat, n ≤ r.length ∧ i = .int .i64 ((n : Int) + 1) ∧ OwnS wr w1.heap.size v5 (FL :: ((r.take n).map furtherL).map B) ∧ Below w1.heap.size w1 wr) (fun _ i _ => r.length + 1 - (intOf i).toNat)
    case atStart => exact ⟨0, Nat.zero_le _, rfl, OwnS.one w1 _ (Nat.le_refl _) _, (Below.refl _ _).alloc (Nat.le_refl _) _⟩
    case round =>
      obtain ⟨n, hn, rfl, hown, hb⟩ := hrel
      by_cases hlt : n < r.length
      · obtain ⟨x, hx⟩ : ∃ x, r[n]? = some x := ⟨_, List.getElem?_eq_getElem hlt⟩
        have hcx := (hb.cell (p := ⟨g, n + 1, none⟩) hg2).trans (PCH.out n x hx)
        have hxm := List.mem_of_getElem? hx
        have hxl := z2 x hxm
        have hxc := hcl2.out x hxm
        have hxz := B_size x
        have RK := fun w => refKind_any (B x) (by omega) w
        rw [B_data] at RK
        have TK : Hid (FL :: ((r.take (n + 1)).map furtherL).map B = (FL :: ((r.take n).map furtherL).map B) ++ [B (furtherL x)]) := by
          show _ = _
          rw [List.take_add_one, hx]; simp
        have HLL : Hid ((FL :: ((r.take n).map furtherL).map B).length = n + 1) := by
          show _ = _
          simp; omega
        have hs3 := hb.size
        have kc := kind_clean hxc
        cases hbl : blankAll x with
        | true =>
          have hk1 := kc.2 hbl
          have hfx : ⟨#[32, 46]⟩ ++ B x = B (furtherL x) := by unfold furtherL dotted; rw [hbl]; exact B_append [32, 46] x
          rw [hk1] at RK
          clear hx hk1 kc hbl hxc hxm
          generalize (FL :: ((r.take n).map furtherL).map B) = ls at *
          generalize B (furtherL x) = Y at *
          generalize B x = X at *
          go_wp2_with fail
          refine (RK _).mono ?_
          rintro e w4 ⟨rfl, b4⟩
          have hcx4 := (b4.cell (p := ⟨g, n + 1, none⟩) (Nat.lt_of_lt_of_le hg2 hs3)).trans hcx
          have hown4 : w4.ownsRow w1.heap.size 9 1 u5 (n + 1) (ls.map Value.string) := by rw [← HLL.out]; exact hown.kept b4 (Nat.le_refl _)
          have hs4 := b4.size
          have HC := Lib.hid (strCell w4 Y 9)
          have hb4 : Below w1.heap.size w1 w4 := hb.trans (b4.mono hs3)
          clear hown b4 hcx
          go_wp2_with (at_builtin; refine wpList_append_own _ rfl _ _ 69 rfl w1.heap.size 9 i0 _ 1 16 Tryz.underlying69 hi hz0 hz1 hz2 rfl (by decide) _ _ _ rfl (hown4.alloc _) ⟨w4.heap.size, 0, none⟩ 1 1 _ rfl rfl HC.out ?c2 ?c3 ?c4 ?c5 ?_)
          case c2 => intro u hu; simp at hu; subst hu; rfl
          case c3 => unfold maxLen; omega
          case c4 => omega
          case c5 => simp; omega
          intro v' w5 hown' hgrow _
          obtain ⟨g', cap', rfl⟩ := ownsRow_succ hown'
          have hb5 : Below w1.heap.size w1 w5 := (hb4.alloc (by omega) _).grown hgrow (by simp; omega) (fun j ej => (hown4.lt j ej).1)
          have hown6 := OwnS.grow (ls := ls) (y := Y) hown' HLL.out
          rw [← TK.out] at hown6
          go_wp2_with fail
          go_roundw
          case rel => exact ⟨n + 1, hlt, by go_num, hown6, hb5⟩
          case measure => simp [intOf]; omega
        | false =>
          have hk1 : kindL x ≠ 1 := fun e => by rw [kc.1 e] at hbl; cases hbl
          obtain ⟨c, t, rfl⟩ := all_blank_cons hbl
          have hki : ((kindL (c :: t) : Int) == 1) = false := by rw [beq_eq_false_iff_ne]; omega
          have q2 := byte_eq (c := c) (d := 46) 46 rfl
          have hXc : ∀ h : 0 < (B (c :: t)).size, (B (c :: t))[0]'h = c := fun _ => rfl
          have hxz2 : (B (c :: t)).size = t.length + 1 := hxz
          have htl : t.length ≤ 1000000 := by simp only [List.length_cons] at hxl; omega
          have hxp : 0 < (B (c :: t)).size := by omega
          clear hxz
          by_cases hc : c = 46
          · have hfx : ⟨#[32, 46]⟩ ++ B (c :: t) = B (furtherL (c :: t)) := by unfold furtherL dotted; rw [hc]; simp; exact B_append [32, 46] (46 :: t)
            have hcb : (c == 46) = true := by simp [hc]
            rw [hcb] at q2
            clear hx hk1 kc hbl hxc hxm hc
            generalize (FL :: ((r.take n).map furtherL).map B) = ls at *
            generalize kindL (c :: t) = kx at *
            generalize B (furtherL (c :: t)) = Y at *
            generalize B (c :: t) = X at *
            go_wp2_with fail
            refine (RK _).mono ?_
            rintro e w4 ⟨rfl, b4⟩
            have hcx4 := (b4.cell (p := ⟨g, n + 1, none⟩) (Nat.lt_of_lt_of_le hg2 hs3)).trans hcx
            have hown4 : w4.ownsRow w1.heap.size 9 1 u5 (n + 1) (ls.map Value.string) := by rw [← HLL.out]; exact hown.kept b4 (Nat.le_refl _)
            have hs4 := b4.size
            have HC := Lib.hid (strCell w4 Y 9)
            have hb4 : Below w1.heap.size w1 w4 := hb.trans (b4.mono hs3)
            clear hown b4 hcx
            go_wp2_with (at_builtin; refine wpList_append_own _ rfl _ _ 69 rfl w1.heap.size 9 i0 _ 1 16 Tryz.underlying69 hi hz0 hz1 hz2 rfl (by decide) _ _ _ rfl (hown4.alloc _) ⟨w4.heap.size, 0, none⟩ 1 1 _ rfl rfl HC.out ?c2 ?c3 ?c4 ?c5 ?_)
            case c2 => intro u hu; simp at hu; subst hu; rfl
            case c3 => unfold maxLen; omega
            case c4 => omega
            case c5 => simp; omega
            intro v' w5 hown' hgrow _
            obtain ⟨g', cap', rfl⟩ := ownsRow_succ hown'
            have hb5 : Below w1.heap.size w1 w5 := (hb4.alloc (by omega) _).grown hgrow (by simp; omega) (fun j ej => (hown4.lt j ej).1)
            have hown6 := OwnS.grow (ls := ls) (y := Y) hown' HLL.out
            rw [← TK.out] at hown6
            go_wp2_with fail
            go_roundw
            case rel => exact ⟨n + 1, hlt, by go_num, hown6, hb5⟩
            case measure => simp [intOf]; omega
          · have hfx : ⟨#[32]⟩ ++ B (c :: t) = B (furtherL (c :: t)) := by unfold furtherL dotted; rw [hbl]; simp [hc]; exact B_append [32] (c :: t)
            have hcb : (c == 46) = false := by simp [hc]
            rw [hcb] at q2
            clear hx hk1 kc hbl hxc hxm hc
            generalize (FL :: ((r.take n).map furtherL).map B) = ls at *
            generalize kindL (c :: t) = kx at *
            generalize B (furtherL (c :: t)) = Y at *
            generalize B (c :: t) = X at *
            go_wp2_with fail
            refine (RK _).mono ?_
            rintro e w4 ⟨rfl, b4⟩
            have hcx4 := (b4.cell (p := ⟨g, n + 1, none⟩) (Nat.lt_of_lt_of_le hg2 hs3)).trans hcx
            have hown4 : w4.ownsRow w1.heap.size 9 1 u5 (n + 1) (ls.map Value.string) := by rw [← HLL.out]; exact hown.kept b4 (Nat.le_refl _)
            have hs4 := b4.size
            have HC := Lib.hid (strCell w4 Y 9)
            have hb4 : Below w1.heap.size w1 w4 := hb.trans (b4.mono hs3)
            clear hown b4 hcx
            go_wp2_with (at_builtin; refine wpList_append_own _ rfl _ _ 69 rfl w1.heap.size 9 i0 _ 1 16 Tryz.underlying69 hi hz0 hz1 hz2 rfl (by decide) _ _ _ rfl (hown4.alloc _) ⟨w4.heap.size, 0, none⟩ 1 1 _ rfl rfl HC.out ?c2 ?c3 ?c4 ?c5 ?_)
            case c2 => intro u hu; simp at hu; subst hu; rfl
            case c3 => unfold maxLen; omega
            case c4 => omega
            case c5 => simp; omega
            intro v' w5 hown' hgrow _
            obtain ⟨g', cap', rfl⟩ := ownsRow_succ hown'
            have hb5 : Below w1.heap.size w1 w5 := (hb4.alloc (by omega) _).grown hgrow (by simp; omega) (fun j ej => (hown4.lt j ej).1)
            have hown6 := OwnS.grow (ls := ls) (y := Y) hown' HLL.out
            rw [← TK.out] at hown6
            go_wp2_with fail
            go_roundw
            case rel => exact ⟨n + 1, hlt, by go_num, hown6, hb5⟩
            case measure => simp [intOf]; omega
      · obtain rfl : n = r.length := by omega
        rw [List.take_length] at hown
        go_wp2_with fail
        go_ret
        exact ⟨_, _, rfl, by rw [HFL.out]; exact hown, BW.out.trans (hb.mono hw1)⟩

end Go.Proofs.YtiebbgbcojgeoaaGreatDoor

namespace Go.Proofs.YtiebbgbcojgeoaaGreatDoor
open Go.RowKit Go.Shelf

theorem text_any_le (k v : List UInt8) (hk : k.length ≤ 100000) (hv : v.length ≤ 100000) : (textL (linesL k v)).length ≤ 500000 := by
  rw [textL_len]
  have := lines_sum k v
  omega
set_option maxRecDepth 100000 in
set_option maxHeartbeats 4000000 in
theorem refFold_any (fs : List (List UInt8 × List UInt8)) (v : Value) (w : World) (hs : Flds w v fs) (hn : fs.length ≤ 1000) (hl : ∀ f ∈ fs, f.1.length ≤ 100000 ∧ f.2.length ≤ 100000) :
    Calls Tryz.prog 130 #[v] w fun e w' => e = .returned (.string (B (foldG fs))) ∧ Below w.heap.size w w' := by
  obtain ⟨A, cap, rfl, hle, hc⟩ := hs
  have PC := Lib.hid hc
  clear hc
  go_enter Tryz.func130, Tryz.ntmps130
  go_wp2_with fail
  go_loopw [3, 4] (fun s i wr => ∃ k : Nat, k ≤ fs.length ∧ i = .int .i64 k ∧ s = .string (B (foldG (fs.take k))) ∧ (foldG (fs.take k)).length ≤ 500000 * k ∧ Below w.heap.size w wr) (fun _ i _ => fs.length - (intOf i).toNat)
  case atStart => exact ⟨0, Nat.zero_le _, rfl, rfl, Nat.le_refl _, Below.refl _ _⟩
  case round =>
    obtain ⟨k, hk, rfl, rfl, hlen, hb⟩ := hrel
    by_cases hlt : k < fs.length
    · obtain ⟨f, hf⟩ : ∃ f, fs[k]? = some f := ⟨_, List.getElem?_eq_getElem hlt⟩
      obtain ⟨b, off, rfl, hbb, c0, c1⟩ := PC.out k f hf
      replace c0 := (hb.cell (p := ⟨b, off + k * 2, none⟩) hbb).trans c0
      replace c1 := (hb.cell (p := ⟨b, off + k * 2 + 1, none⟩) hbb).trans c1
      obtain ⟨hl1, hl2⟩ := hl f (List.mem_of_getElem? hf)
      have htake : fs.take (k + 1) = fs.take k ++ [f] := by rw [List.take_add_one, hf]; rfl
      have G1 : Hid (foldG (fs.take (k + 1)) = foldG (fs.take k) ++ textL (linesL f.1 f.2)) := by
        show _ = _
        rw [htake, foldG_snoc]
      have RL := fun w => refLines_any f.1 f.2 hl1 hl2 w
      have htl := text_any_le f.1 f.2 hl1 hl2
      have hm1 : 1 ≤ (linesL f.1 f.2).length := by rw [linesL_len]; omega
      have hm2 : (linesL f.1 f.2).length ≤ 500000 := by rw [textL_len] at htl; omega
      unfold fieldV at RL
      clear htake hf
      generalize foldG (fs.take k) = pre at *
      go_wp2_with fail
      refine (RL _).mono ?_
      rintro e w2 ⟨sv, base, rfl, hown, b2⟩
      have hb2 := hb.trans (b2.mono hb.size)
      obtain ⟨g, cap', rfl, _, _⟩ := hown.form (by simp; omega)
      have CL := Lib.hid (fun (j : Nat) x (hx : (linesL f.1 f.2)[j]? = some x) => hown.cell rfl j (B x) (by rw [List.getElem?_map, hx]; rfl))
      rw [List.length_map] at *
      clear hown b2 RL
      generalize linesL f.1 f.2 = ls at *
      go_wp2_with fail
      go_loopw [3, 19] (fun s i wq => ∃ j : Nat, j ≤ ls.length ∧ i = .int .i64 j ∧ s = .string (B (pre ++ textL (ls.take j))) ∧ w2 = wq) (fun _ i _ => ls.length - (intOf i).toNat)
      case atStart => exact ⟨0, Nat.zero_le _, rfl, by simp [textL], rfl⟩
      case round =>
        obtain ⟨j, hj, rfl, rfl, rfl⟩ := hrel
        by_cases hjl : j < ls.length
        · obtain ⟨x, hx⟩ : ∃ x, ls[j]? = some x := ⟨_, List.getElem?_eq_getElem hjl⟩
          have hcx := CL.out j x hx
          have T1 : Hid (B (pre ++ textL (ls.take (j + 1))) = (B (pre ++ textL (ls.take j)) ++ B x) ++ ⟨#[10]⟩) := by
            show _ = _
            rw [List.take_add_one, hx, show (some x).toList = [x] from rfl, textL_snoc, show (⟨#[10]⟩ : ByteArray) = B [10] from rfl, B_append, B_append]; simp
          have t1 := textL_take ls (j + 1)
          rw [List.take_add_one, hx, show (some x).toList = [x] from rfl, textL_snoc, List.length_append, List.length_append] at t1
          simp only [List.length_singleton] at t1
          have y1 := B_size (pre ++ textL (ls.take j))
          rw [List.length_append] at y1
          have y2 := B_size x
          have y3 : (B (pre ++ textL (ls.take j)) ++ B x).size = pre.length + (textL (ls.take j)).length + x.length := by
            rw [B_append, B_size, List.length_append, List.length_append]
          clear hx
          generalize B (pre ++ textL (ls.take j)) = acc at *
          generalize B x = X at *
          go_wp2_with fail
          go_roundw
          case rel => exact ⟨j + 1, hjl, by go_num, by rw [T1.out], trivial⟩
          case measure => simp [intOf]; omega
        · obtain rfl : j = ls.length := by omega
          rw [List.take_length]
          go_wp2_with fail
          go_roundw
          case rel =>
            refine ⟨k + 1, hlt, by go_num, by rw [G1.out], ?_, hb2⟩
            rw [G1.out, List.length_append]; omega
          case measure => simp [intOf]; omega
    · obtain rfl : k = fs.length := by omega
      rw [List.take_length]
      go_wp2_with fail
      go_ret
      exact ⟨rfl, hb⟩
end Go.Proofs.YtiebbgbcojgeoaaGreatDoor

namespace Go.Proofs.YtiebbgbcojgeoaaGreatDoor
open Go.RowKit Go.Shelf

attribute [local go_sem] errV_0
set_option maxRecDepth 100000 in
set_option maxHeartbeats 4000000 in
theorem refChk_any (fs : List Fld) (v : Value) (w : World) (hs : Flds w v fs) (hn : fs.length ≤ 1000000) (hl : ∀ f ∈ fs, f.1.length ≤ 1000000 ∧ f.2.length ≤ 1000000) :
    Calls Tryz.prog 96 #[v] w fun e w' => e = .returned (.tuple #[.int .i64 (chkAt fs), .int .i64 (chkN fs : Nat)]) ∧ Below w.heap.size w w' := by
  obtain ⟨A, cap, rfl, hle, hc⟩ := hs
  have PC := Lib.hid hc
  have HL := Lib.hid hl
  clear hc hl
  by_cases h0 : fs.length = 0
  · have e1 : chkAt fs = -9 := by unfold chkAt; rw [if_pos (.inl h0)]
    have e2 : chkN fs = 2 := by unfold chkN; rw [if_pos h0]
    rw [e1, e2, h0]
    go_enter Tryz.func96, Tryz.ntmps96
    go_wp2_with fail
    go_ret2
    exact ⟨rfl, Below.refl _ _⟩
  have c0 : ((fs.length : Int) == 0) = false := by simp; intro h; exact h0 (by rw [h]; rfl)
  by_cases h40 : 40 < fs.length
  · have e1 : chkAt fs = -9 := by unfold chkAt; rw [if_pos (.inr (.inl h40))]
    have e2 : chkN fs = 11 := by unfold chkN; rw [if_neg h0, if_pos h40]
    rw [e1, e2]
    go_enter Tryz.func96, Tryz.ntmps96
    go_wp2_with fail
    go_ret2
    exact ⟨rfl, Below.refl _ _⟩
  have e2 : chkN fs = foldN fs := by unfold chkN; rw [if_neg h0, if_neg h40]
  have FINZ : Hid (foldN fs = 0 → chkAt fs = -9 ∧ chkN fs = 0) := by
    intro hz
    exact ⟨by unfold chkAt; rw [if_pos (.inr (.inr hz))], by rw [e2, hz]⟩
  have FINB : Hid (∀ (k n : Nat), foldN fs = n → n ≠ 0 → badAt fs = k → chkAt fs = (k : Nat) ∧ chkN fs = n) := by
    intro k n hf hnz hk
    refine ⟨?_, by rw [e2, hf]⟩
    unfold chkAt
    rw [if_neg (by unfold bare; rintro (h | h | h) <;> omega), hk]
  clear e2
  go_enter Tryz.func96, Tryz.ntmps96
  go_wp2_with fail
  go_loopw [4] (fun i wr => ∃ k : Nat, k ≤ fs.length ∧ i = .int .i64 k ∧ foldN fs = foldN (fs.drop k) ∧ badAt fs = badAt (fs.drop k) + k ∧ Below w.heap.size w wr) (fun i _ => fs.length - (intOf i).toNat)
  case atStart => exact ⟨0, Nat.zero_le _, rfl, rfl, rfl, Below.refl _ _⟩
  case round =>
    obtain ⟨k, hk, rfl, hN, hA, hb⟩ := hrel
    by_cases hlt : k < fs.length
    · obtain ⟨f, hf⟩ : ∃ f, fs[k]? = some f := ⟨_, List.getElem?_eq_getElem hlt⟩
      obtain ⟨b, off, rfl, hbb, c0', c1⟩ := PC.out k f hf
      replace c0' := (hb.cell (p := ⟨b, off + k * 2, none⟩) hbb).trans c0'
      replace c1 := (hb.cell (p := ⟨b, off + k * 2 + 1, none⟩) hbb).trans c1
      obtain ⟨hl1, hl2⟩ := HL.out f (List.mem_of_getElem? hf)
      have hdrop : fs.drop k = f :: fs.drop (k + 1) := by
        rw [List.drop_eq_getElem_cons hlt]
        rw [List.getElem?_eq_getElem hlt] at hf
        rw [Option.some.inj hf]
      have hs1 := hb.size
      have CK := fun W => refCheck_any f.1 f.2 hl1 hl2 W
      unfold fieldV at CK
      rw [hdrop] at hN hA
      by_cases hck : checkN f.1 f.2 = 0
      · have G1 : Hid (foldN fs = foldN (fs.drop (k + 1))) := by
          show _ = _
          rw [hN]; show (if checkN f.1 f.2 = 0 then foldN (fs.drop (k + 1)) else _) = _; rw [if_pos hck]
        have G2 : Hid (badAt fs = badAt (fs.drop (k + 1)) + (k + 1)) := by
          show _ = _
          rw [hA]; show (if checkN f.1 f.2 = 0 then badAt (fs.drop (k + 1)) + 1 else _) + k = _; rw [if_pos hck]; omega
        rw [hck] at CK
        clear hdrop hN hA hf hck FINB FINZ PC HL
        go_wp2_with fail
        refine (CK _).mono ?_
        rintro e w2 ⟨rfl, b2⟩
        have hb2 := hb.trans (b2.mono hs1)
        clear b2 CK
        go_wp2_with fail
        go_roundw
        case rel => exact ⟨k + 1, hlt, by go_num, G1.out, G2.out, hb2⟩
        case measure => simp [intOf]; omega
      · have hfn : foldN fs = checkN f.1 f.2 := by rw [hN]; unfold foldN; rw [if_neg hck]
        have hbn : badAt fs = k := by rw [hA]; unfold badAt; rw [if_neg hck]; omega
        obtain ⟨F1, F2⟩ := FINB.out k (checkN f.1 f.2) hfn hck hbn
        have hcn : ((checkN f.1 f.2 : Int) != 0) = true := by simp; omega
        have FH1 := Lib.hid F1
        have FH2 := Lib.hid F2
        clear hdrop hN hA hf FINB FINZ PC HL hfn hbn F1 F2
        generalize checkN f.1 f.2 = cn at *
        go_wp2_with fail
        refine (CK _).mono ?_
        rintro e w2 ⟨rfl, b2⟩
        have hb2 := hb.trans (b2.mono hs1)
        clear b2 CK
        go_wp2_with fail
        go_ret2
        exact ⟨by rw [FH1.out, FH2.out]; rfl, hb2⟩
    · obtain rfl : k = fs.length := by omega
      rw [List.drop_length] at hN
      obtain ⟨F1, F2⟩ := FINZ.out hN
      have FH1 := Lib.hid F1
      have FH2 := Lib.hid F2
      clear hN hA FINB FINZ PC HL F1 F2
      go_wp2_with fail
      go_ret2
      exact ⟨by rw [FH1.out, FH2.out]; rfl, hb⟩
end Go.Proofs.YtiebbgbcojgeoaaGreatDoor

namespace Go.Proofs.YtiebbgbcojgeoaaGreatDoor
open Go.RowKit Go.Shelf

def joinT (rs : List (List Fld)) : List UInt8 := joinNl (rs.map foldG)
/-- The first stanza that is wrong. -/
def badR (rs : List (List Fld)) : Option (List Fld) := rs.find? fun r => chkN r != 0
theorem badR_none {rs : List (List Fld)} (h : ∀ r ∈ rs, chkN r = 0) : badR rs = none := by
  unfold badR
  rw [List.find?_eq_none]
  intro r hr
  simp [h r hr]
/-- Text's answer. -/
def TextR (w : World) (rs : List (List Fld)) (e : Ending) (w' : World) : Prop :=
  Below w.heap.size w w' ∧ match badR rs with
    | some r => ∃ u, e = .returned (.tuple #[.string (B []), u]) ∧ ChkV w.heap.size w' u r ∧ chkN r ≠ 0
    | none => e = .returned (.tuple #[.string (B (joinT rs)), .nilIface]) ∧ ∀ r ∈ rs, chkN r = 0
theorem TextR.no {w w' : World} {rs : List (List Fld)} {u : Value} {r : List Fld} (h : badR rs = some r) (hb : Below w.heap.size w w') (hu : ChkV w.heap.size w' u r) (h0 : chkN r ≠ 0) : TextR w rs (.returned (.tuple #[.string (B []), u])) w' :=
  ⟨hb, by rw [h]; exact ⟨u, rfl, hu, h0⟩⟩
theorem TextR.yes {w w' : World} {rs : List (List Fld)} (h : ∀ r ∈ rs, chkN r = 0) (hb : Below w.heap.size w w') : TextR w rs (.returned (.tuple #[.string (B (joinT rs)), .nilIface])) w' :=
  ⟨hb, by rw [badR_none h]; exact ⟨rfl, h⟩⟩
attribute [local go_sem] errV_0
end Go.Proofs.YtiebbgbcojgeoaaGreatDoor

namespace Go.Proofs.YtiebbgbcojgeoaaGreatDoor

theorem allGood : ∀ (fs : List Fld), foldN fs = 0 → ∀ f ∈ fs, goodKey f.1 = true ∧ f.2.length ≤ 1000
  | [], _, f, hf => by cases hf
  | g :: r, h, f, hf => by
    unfold foldN at h
    split at h
    · rename_i h0
      rcases List.mem_cons.1 hf with rfl | hf
      · exact checkN_zero h0
      · exact allGood r h f hf
    · rename_i h0; exact absurd h h0
theorem textL_len6 (k v : List UInt8) : (textL (linesL k v)).length ≤ k.length + 3 * v.length + 8 := by
  rw [textL_len]; have := lines_sum k v; omega
theorem foldT_len6 : ∀ (fs : List Fld), minF fs ≤ 6000 → (textL (linesFs fs)).length ≤ 3 * minF fs + 8 * fs.length
  | [], _ => by simp [linesFs, textL]
  | f :: r, h => by
    have e : minF (f :: r) = (min f.1.length 10000 + min f.2.length 10000) + minF r := rfl
    rw [e] at h ⊢
    have ih := foldT_len6 r (by omega)
    have h1 := textL_len6 f.1 f.2
    have e2 : textL (linesFs (f :: r)) = textL (linesL f.1 f.2) ++ textL (linesFs r) := by unfold linesFs; rw [List.flatMap_cons, textL_append]
    rw [e2, List.length_append, List.length_cons]
    omega

/-- What stanzas of good fields are, as items. -/
def itemOf (fs : List Fld) : It := ⟨3, foldG fs, fs⟩
theorem foldG_lines (fs : List Fld) : foldG fs = textL (linesFs fs) := by
  unfold foldG linesFs textL
  rw [List.flatMap_assoc]
theorem blk_item {fs : List Fld} (h : chkN fs = 0) : Blk (itemOf fs) := by
  obtain ⟨h1, h2, h3⟩ := chkN_zero h
  unfold itemOf
  rw [foldG_lines]
  exact blk_fields fs (allGood fs h3) (fun e => h1 (by rw [e]; rfl)) h2
end Go.Proofs.YtiebbgbcojgeoaaGreatDoor

namespace Go.Proofs.YtiebbgbcojgeoaaGreatDoor

/-- An entry: an item and its number. -/
abbrev En := It × Int
/-- A list: its entries, the next number. -/
structure LS where
  es : List En
  next : Int
/-- The stanzas among entries of whatever kind (κ tells an entry's kind), each with its place among these, from k on. -/
def stzG {α : Type} (κ : α → Int) : Nat → List α → List (Nat × α)
  | _, [] => []
  | k, e :: r => if κ e = 3 then (k, e) :: stzG κ (k + 1) r else stzG κ (k + 1) r
section
variable {α : Type} {κ : α → Int}
theorem stzG_len : ∀ (k : Nat) (es : List α), (stzG κ k es).length ≤ es.length
  | k, [] => Nat.le_refl _
  | k, e :: r => by
    have ih := stzG_len (k + 1) r
    show (if κ e = 3 then (k, e) :: stzG κ (k + 1) r else stzG κ (k + 1) r).length ≤ _
    split
    · simp only [List.length_cons]; omega
    · simp only [List.length_cons]; omega
theorem stzG_mem : ∀ (k : Nat) (es : List α) (x : Nat × α), x ∈ stzG κ k es → k ≤ x.1 ∧ es[x.1 - k]? = some x.2 ∧ κ x.2 = 3
  | k, [], x, h => by cases h
  | k, e :: r, x, h => by
    have ih := stzG_mem (k + 1) r x
    have go : x ∈ stzG κ (k + 1) r → k ≤ x.1 ∧ (e :: r)[x.1 - k]? = some x.2 ∧ κ x.2 = 3 := fun q => by
      obtain ⟨a, b, c⟩ := ih q
      refine ⟨by omega, ?_, c⟩
      rw [show x.1 - k = (x.1 - (k + 1)) + 1 by omega, List.getElem?_cons_succ]; exact b
    unfold stzG at h
    split at h
    · rename_i hk
      rcases List.mem_cons.1 h with rfl | h
      · exact ⟨Nat.le_refl _, by simp, hk⟩
      · exact go h
    · exact go h
theorem stzG_drop : ∀ (es : List α) (k j : Nat) (e : α), es[j]? = some e → stzG κ (k + j) (es.drop j) = if κ e = 3 then (k + j, e) :: stzG κ (k + (j + 1)) (es.drop (j + 1)) else stzG κ (k + (j + 1)) (es.drop (j + 1))
  | [], k, j, e, h => by simp at h
  | a :: r, k, 0, e, h => by simp at h; subst h; rfl
  | a :: r, k, j + 1, e, h => by
    have ih := stzG_drop r (k + 1) j e (by simpa using h)
    rw [show k + 1 + j = k + (j + 1) by omega, show k + 1 + (j + 1) = k + (j + 1 + 1) by omega] at ih
    exact ih
theorem stzG_map {β : Type} (f : β → α) : ∀ (k : Nat) (es : List β), (stzG (fun b => κ (f b)) k es).map (fun x => (x.1, f x.2)) = stzG κ k (es.map f)
  | k, [] => rfl
  | k, e :: r => by
    have ih := stzG_map f (k + 1) r
    show ((if κ (f e) = 3 then (k, e) :: stzG _ (k + 1) r else stzG _ (k + 1) r).map _) = if κ (f e) = 3 then (k, f e) :: stzG κ (k + 1) (r.map f) else stzG κ (k + 1) (r.map f)
    split
    · rw [List.map_cons, ih]
    · exact ih
end
abbrev stzOn : Nat → List En → List (Nat × En) := stzG fun e => e.1.kind
abbrev stzs (es : List En) : List (Nat × En) := stzOn 0 es
/-- Where the stanza of a number stands. -/
def findE (es : List En) (id : Int) : Option Nat := ((stzs es).find? fun x => x.2.2 == id).map Prod.fst
/-- .. by definition. -/
def findR (es : List En) (id : Int) : Option Nat := if 0 < id then es.findIdx? fun e => e.2 == id else none
/-- Stanzas have numbers, other items 0. -/
def WF (es : List En) : Prop := ∀ e ∈ es, (e.1.kind = 3 ∧ 0 < e.2) ∨ (e.1.kind ≠ 3 ∧ e.2 = 0)
theorem find_on : ∀ (k : Nat) (es : List En) (id : Int), WF es → 0 < id → ((stzOn k es).find? fun x => x.2.2 == id).map Prod.fst = (es.findIdx? fun e => e.2 == id).map (· + k)
  | k, [], id, _, _ => rfl
  | k, e :: r, id, h, hid => by
    have ih := find_on (k + 1) r id (fun y hy => h y (List.mem_cons_of_mem _ hy)) hid
    have he := h e List.mem_cons_self
    unfold stzG
    rw [List.findIdx?_cons]
    by_cases hk : e.1.kind = 3
    · rw [if_pos hk, List.find?_cons]
      cases hq : e.2 == id with
      | true => simp
      | false =>
        simp only
        rw [ih]
        cases List.findIdx? (fun e => e.2 == id) r with
        | none => rfl
        | some q => simp; omega
    · rw [if_neg hk]
      have h0 : e.2 = 0 := by
        rcases he with he | he
        · exact absurd he.1 hk
        · exact he.2
      have hq : (e.2 == id) = false := by rw [h0]; exact beq_eq_false_iff_ne.2 (by omega)
      rw [ih, hq]
      cases List.findIdx? (fun e => e.2 == id) r with
      | none => rfl
      | some q => simp; omega
theorem find_on_neg : ∀ (k : Nat) (es : List En) (id : Int), WF es → id ≤ 0 → ((stzOn k es).find? fun x => x.2.2 == id) = none
  | k, [], id, _, _ => rfl
  | k, e :: r, id, h, hid => by
    have ih := find_on_neg (k + 1) r id (fun y hy => h y (List.mem_cons_of_mem _ hy)) hid
    have he := h e List.mem_cons_self
    unfold stzG
    split
    · rename_i hk
      have h0 : 0 < e.2 := by
        rcases he with he | he
        · exact he.2
        · exact absurd hk he.1
      have hq : (e.2 == id) = false := beq_eq_false_iff_ne.2 (by omega)
      rw [List.find?_cons]
      simp only [hq]
      exact ih
    · exact ih
theorem find_both {es : List En} (h : WF es) (id : Int) : findE es id = findR es id := by
  unfold findE findR
  split
  · rename_i hid
    have := find_on 0 es id h hid
    rw [this]
    cases List.findIdx? (fun e => e.2 == id) es with
    | none => rfl
    | some q => rfl
  · rename_i hid
    show Option.map _ ((stzOn 0 es).find? _) = none
    rw [find_on_neg 0 es id h (by omega)]; rfl
/-- How many stanzas there are. -/
def lenR (es : List En) : Nat := (es.filter fun e => decide (0 < e.2)).length
theorem stz_filter : ∀ (k : Nat) (es : List En), WF es → (stzOn k es).map Prod.snd = es.filter fun e => decide (0 < e.2)
  | k, [], _ => rfl
  | k, e :: r, h => by
    have ih := stz_filter (k + 1) r (fun y hy => h y (List.mem_cons_of_mem _ hy))
    unfold stzG
    rw [List.filter_cons]
    rcases h e List.mem_cons_self with ⟨a, b⟩ | ⟨a, b⟩
    · rw [if_pos a, if_pos (by simpa using b), List.map_cons, ih]
    · rw [if_neg a, if_neg (by simp; omega), ih]
theorem len_both {es : List En} (h : WF es) : (stzs es).length = lenR es := by
  have := congrArg List.length (stz_filter 0 es h)
  rw [List.length_map] at this
  exact this
def setE (es : List En) (k : Nat) (it : It) : List En := es.modify k fun e => (it, e.2)
def cutE (es : List En) (k : Nat) : List En := es.take k ++ es.drop (k + 1)
def putE (es : List En) (k : Nat) (e : En) : List En := es.take k ++ e :: es.drop k
theorem WF.set {es : List En} (h : WF es) (k : Nat) (it : It) (hk : it.kind = 3) (e : En) (he : es[k]? = some e) (hn : e.1.kind = 3) : WF (setE es k it) := by
  intro x hx
  obtain ⟨j, hj⟩ := List.mem_iff_getElem?.1 hx
  unfold setE at hj
  rw [List.getElem?_modify] at hj
  rcases hjj : es[j]? with _ | y
  · rw [hjj] at hj; simp at hj
  · rw [hjj] at hj
    simp only [Option.map_eq_map, Option.map_some, Option.some.injEq] at hj
    have hy := h y (List.mem_of_getElem? hjj)
    by_cases e1 : k = j
    · rw [if_pos e1] at hj
      subst hj
      subst e1
      rw [he] at hjj
      cases hjj
      rcases h e (List.mem_of_getElem? he) with q | q
      · exact .inl ⟨hk, q.2⟩
      · exact absurd hn q.1
    · rw [if_neg e1] at hj
      subst hj; exact hy
theorem WF.cut {es : List En} (h : WF es) (k : Nat) : WF (cutE es k) := by
  intro x hx
  rcases List.mem_append.1 hx with q | q
  · exact h x (List.mem_of_mem_take q)
  · exact h x (List.mem_of_mem_drop q)
theorem WF.put {es : List En} (h : WF es) (k : Nat) {e : En} (he : (e.1.kind = 3 ∧ 0 < e.2)) : WF (putE es k e) := by
  intro x hx
  rcases List.mem_append.1 hx with q | q
  · exact h x (List.mem_of_mem_take q)
  · rcases List.mem_cons.1 q with rfl | q
    · exact .inl he
    · exact h x (List.mem_of_mem_drop q)
theorem setE_len (es : List En) (k : Nat) (it : It) : (setE es k it).length = es.length := by unfold setE; simp
/-- What an edit comes to: the list then, the field at which it is refused, an error's number, the new number. -/
structure Did where
  ls : LS
  at_ : Int
  bad : Nat
  id : Int
def replaceR (l : LS) (id : Int) (fs : List Fld) : Did :=
  match findR l.es id with
  | none => ⟨l, -9, 7, 0⟩
  | some k => if chkN fs = 0 then ⟨⟨setE l.es k (itemOf fs), l.next⟩, -9, 0, 0⟩ else ⟨l, chkAt fs, chkN fs, 0⟩
def deleteR (l : LS) (id : Int) : Did :=
  match findR l.es id with
  | none => ⟨l, -9, 7, 0⟩
  | some k => ⟨⟨cutE l.es k, l.next⟩, -9, 0, 0⟩
/-- Where one is inserted behind a number. -/
def gapR (es : List En) (behind : Int) : Option Nat := if behind = 0 then some 0 else (findR es behind).map (· + 1)
def insertR (l : LS) (behind : Int) (fs : List Fld) : Did :=
  match gapR l.es behind with
  | none => ⟨l, -9, 7, 0⟩
  | some k => if chkN fs = 0 then (if 400 ≤ lenR l.es then ⟨l, -9, 11, 0⟩ else ⟨⟨putE l.es k (itemOf fs, l.next), l.next + 1⟩, -9, 0, l.next⟩) else ⟨l, chkAt fs, chkN fs, 0⟩
def editR (l : LS) (kind id : Int) (fs : List Fld) : Did :=
  if kind = 1 then replaceR l id fs else if kind = 2 then deleteR l id else insertR l id fs
theorem findR_lt {es : List En} {id : Int} {k : Nat} (h : findR es id = some k) : k < es.length ∧ ∃ e, es[k]? = some e ∧ e.2 = id ∧ 0 < id := by
  unfold findR at h
  split at h
  · rename_i hid
    obtain ⟨a, b, _⟩ := List.findIdx?_eq_some_iff_getElem.1 h
    exact ⟨a, _, List.getElem?_eq_getElem a, by simpa using b, hid⟩
  · cases h
/-- A list as it comes of a text. -/
def fromOn : Int → List It → List En
  | _, [] => []
  | n, it :: r => if it.kind = 3 then (it, n) :: fromOn (n + 1) r else (it, 0) :: fromOn n r
def fromNext : Int → List It → Int
  | n, [] => n
  | n, it :: r => if it.kind = 3 then fromNext (n + 1) r else fromNext n r
def fromL (its : List It) : LS := ⟨fromOn 1 its, fromNext 1 its⟩
theorem from_snoc : ∀ (n : Int) (l : List It) (it : It), fromOn n (l ++ [it]) = fromOn n l ++ [(it, if it.kind = 3 then fromNext n l else 0)] ∧ fromNext n (l ++ [it]) = if it.kind = 3 then fromNext n l + 1 else fromNext n l
  | n, [], it => by
    simp only [List.nil_append, fromOn, fromNext]
    split <;> simp
  | n, a :: l, it => by
    obtain ⟨h1, h2⟩ := from_snoc (n + 1) l it
    obtain ⟨g1, g2⟩ := from_snoc n l it
    simp only [List.cons_append, fromOn, fromNext]
    split
    · rw [h1, h2]; exact ⟨rfl, rfl⟩
    · rw [g1, g2]; exact ⟨rfl, rfl⟩
theorem from_len : ∀ (n : Int) (l : List It), (fromOn n l).length = l.length
  | n, [] => rfl
  | n, a :: l => by
    unfold fromOn
    split
    · rw [List.length_cons, from_len]; rfl
    · rw [List.length_cons, from_len]; rfl
theorem from_items : ∀ (n : Int) (l : List It), (fromOn n l).map Prod.fst = l
  | n, [] => rfl
  | n, a :: l => by
    unfold fromOn
    split
    · rw [List.map_cons, from_items]
    · rw [List.map_cons, from_items]
theorem from_next : ∀ (n : Int) (l : List It), n ≤ fromNext n l ∧ fromNext n l ≤ n + l.length
  | n, [] => by simp [fromNext]
  | n, a :: l => by
    have h1 := from_next (n + 1) l
    have h2 := from_next n l
    unfold fromNext
    rw [List.length_cons]
    split <;> omega
theorem from_wf : ∀ (n : Int) (l : List It), 0 < n → WF (fromOn n l)
  | n, [], _ => fun e h => by cases h
  | n, a :: l, hn => by
    unfold fromOn
    split
    · rename_i hk
      intro e he
      rcases List.mem_cons.1 he with rfl | he
      · exact .inl ⟨hk, hn⟩
      · exact from_wf (n + 1) l (by omega) e he
    · rename_i hk
      intro e he
      rcases List.mem_cons.1 he with rfl | he
      · exact .inr ⟨hk, rfl⟩
      · exact from_wf n l hn e he
end Go.Proofs.YtiebbgbcojgeoaaGreatDoor

namespace Go.Proofs.YtiebbgbcojgeoaaGreatDoor

def nums (es : List En) : List Int := (es.map Prod.snd).filter fun n => decide (0 < n)
theorem nums_append (a b : List En) : nums (a ++ b) = nums a ++ nums b := by unfold nums; rw [List.map_append, List.filter_append]
theorem nums_len (es : List En) : (nums es).length = lenR es := by
  unfold nums lenR
  rw [List.filter_map, List.length_map]; rfl
theorem nums_mem {es : List En} {n : Int} (h : n ∈ nums es) : ∃ e ∈ es, e.2 = n ∧ 0 < n := by
  unfold nums at h
  obtain ⟨h1, h2⟩ := List.mem_filter.1 h
  obtain ⟨e, he, hn⟩ := List.mem_map.1 h1
  exact ⟨e, he, hn, of_decide_eq_true h2⟩
theorem setE_snd (es : List En) (k : Nat) (it : It) : (setE es k it).map Prod.snd = es.map Prod.snd := by
  unfold setE
  apply List.ext_getElem?
  intro j
  rw [List.getElem?_map, List.getElem?_modify, List.getElem?_map]
  cases es[j]? with
  | none => rfl
  | some e =>
    by_cases h : k = j
    · simp [h]
    · simp [h]
/-- A list whose stanzas are well numbered. -/
structure OkL (l : LS) : Prop where
  wf : WF l.es
  pos : 0 < l.next
  lt : ∀ n ∈ nums l.es, n < l.next
  nd : (nums l.es).Nodup
  len : lenR l.es ≤ 400
theorem OkL.replace {l : LS} (h : OkL l) {k : Nat} {e : En} (he : l.es[k]? = some e) (h3 : e.1.kind = 3) (fs : List Fld) : OkL ⟨setE l.es k (itemOf fs), l.next⟩ := by
  have hn : nums (setE l.es k (itemOf fs)) = nums l.es := by unfold nums; rw [setE_snd]
  refine ⟨h.wf.set k (itemOf fs) rfl e he h3, h.pos, ?_, ?_, ?_⟩
  · show ∀ n ∈ nums (setE l.es k (itemOf fs)), n < l.next
    rw [hn]; exact h.lt
  · show (nums (setE l.es k (itemOf fs))).Nodup
    rw [hn]; exact h.nd
  · show lenR (setE l.es k (itemOf fs)) ≤ 400
    rw [← nums_len, hn, nums_len]; exact h.len
theorem cut_sub (es : List En) (k : Nat) : (nums (cutE es k)).Sublist (nums es) := by
  unfold nums cutE
  refine List.Sublist.filter _ (List.Sublist.map _ ?_)
  conv => rhs; rw [← List.take_append_drop k es]
  exact (List.Sublist.refl _).append (by rw [← List.drop_drop]; exact List.drop_sublist _ _)
theorem OkL.delete {l : LS} (h : OkL l) (k : Nat) : OkL ⟨cutE l.es k, l.next⟩ := by
  have hs := cut_sub l.es k
  refine ⟨h.wf.cut k, h.pos, fun n hn => h.lt n (hs.subset hn), hs.nodup h.nd, ?_⟩
  show lenR (cutE l.es k) ≤ 400
  have := hs.length_le
  rw [nums_len, nums_len] at this
  have := h.len
  omega
theorem put_perm (es : List En) (k : Nat) (it : It) {n : Int} (hn : 0 < n) : (nums (putE es k (it, n))).Perm (n :: nums es) := by
  have e1 : nums (putE es k (it, n)) = nums (es.take k) ++ n :: nums (es.drop k) := by
    unfold putE
    rw [nums_append]
    congr 1
    unfold nums
    rw [List.map_cons, List.filter_cons, if_pos (by simpa using hn)]
  have e2 : nums es = nums (es.take k) ++ nums (es.drop k) := by rw [← nums_append, List.take_append_drop]
  rw [e1, e2]
  exact List.perm_middle
theorem OkL.insert {l : LS} (h : OkL l) (k : Nat) (fs : List Fld) (hf : ¬ 400 ≤ lenR l.es) : OkL ⟨putE l.es k (itemOf fs, l.next), l.next + 1⟩ := by
  have hp := put_perm l.es k (itemOf fs) h.pos
  have hpos := h.pos
  refine ⟨h.wf.put k ⟨rfl, h.pos⟩, by show 0 < l.next + 1; omega, fun n hn => ?_, hp.nodup_iff.2 (List.nodup_cons.2 ⟨fun q => ?_, h.nd⟩), ?_⟩
  · show n < l.next + 1
    rcases List.mem_cons.1 (hp.subset hn) with q | q
    · omega
    · have := h.lt n q; omega
  · have := h.lt _ q; omega
  · show lenR (putE l.es k (itemOf fs, l.next)) ≤ 400
    have := hp.length_eq
    rw [nums_len, List.length_cons, nums_len] at this
    omega
theorem findR_stz {es : List En} (h : WF es) {id : Int} {k : Nat} (hf : findR es id = some k) : ∃ e, es[k]? = some e ∧ e.1.kind = 3 ∧ e.2 = id := by
  obtain ⟨_, e, he, h2, h3⟩ := findR_lt hf
  rcases h e (List.mem_of_getElem? he) with ⟨q, _⟩ | ⟨_, q⟩
  · exact ⟨e, he, q, h2⟩
  · omega
theorem OkL.edit {l : LS} (h : OkL l) (kind id : Int) (fs : List Fld) : OkL (editR l kind id fs).ls := by
  unfold editR
  split
  · unfold replaceR
    split
    · exact h
    · rename_i k hk
      obtain ⟨e, he, h3, _⟩ := findR_stz h.wf hk
      split
      · exact h.replace he h3 fs
      · exact h
  · split
    · unfold deleteR
      split
      · exact h
      · exact h.delete _
    · unfold insertR
      split
      · exact h
      · split
        · split
          · exact h
          · rename_i hf; exact h.insert _ fs hf
        · exact h
/-- How an edit's length and next number grow. -/
theorem edit_len (l : LS) (kind id : Int) (fs : List Fld) : (editR l kind id fs).ls.es.length ≤ l.es.length + 1 ∧ l.next ≤ (editR l kind id fs).ls.next ∧ (editR l kind id fs).ls.next ≤ l.next + 1 := by
  unfold editR
  split
  · unfold replaceR
    split
    · exact ⟨Nat.le_succ _, Int.le_refl _, by show l.next ≤ l.next + 1; omega⟩
    · split
      · exact ⟨by show (setE _ _ _).length ≤ _; rw [setE_len]; omega, Int.le_refl _, by show l.next ≤ l.next + 1; omega⟩
      · exact ⟨Nat.le_succ _, Int.le_refl _, by show l.next ≤ l.next + 1; omega⟩
  · split
    · unfold deleteR
      split
      · exact ⟨Nat.le_succ _, Int.le_refl _, by show l.next ≤ l.next + 1; omega⟩
      · exact ⟨by show (cutE _ _).length ≤ _; unfold cutE; rw [List.length_append, List.length_take, List.length_drop]; omega, Int.le_refl _, by show l.next ≤ l.next + 1; omega⟩
    · unfold insertR
      split
      · exact ⟨Nat.le_succ _, Int.le_refl _, by show l.next ≤ l.next + 1; omega⟩
      · split
        · split
          · exact ⟨Nat.le_succ _, Int.le_refl _, by show l.next ≤ l.next + 1; omega⟩
          · exact ⟨by show (putE _ _ _).length ≤ _; unfold putE; rw [List.length_append, List.length_cons, List.length_take, List.length_drop]; omega, by show l.next ≤ l.next + 1; omega, Int.le_refl _⟩
        · exact ⟨Nat.le_succ _, Int.le_refl _, by show l.next ≤ l.next + 1; omega⟩
/-- An insert that is done gives the next number; one that isn't gives none. -/
theorem insert_id (l : LS) (id : Int) (fs : List Fld) : ((insertR l id fs).bad = 0 ∧ (insertR l id fs).id = l.next ∧ (insertR l id fs).ls.next = l.next + 1) ∨ ((insertR l id fs).bad ≠ 0 ∧ (insertR l id fs).id = 0 ∧ (insertR l id fs).ls = l) := by
  unfold insertR
  split
  · exact .inr ⟨by show (7 : Nat) ≠ 0; decide, rfl, rfl⟩
  · split
    · split
      · exact .inr ⟨by show (11 : Nat) ≠ 0; decide, rfl, rfl⟩
      · exact .inl ⟨rfl, rfl, rfl⟩
    · rename_i hc; exact .inr ⟨hc, rfl, rfl⟩
end Go.Proofs.YtiebbgbcojgeoaaGreatDoor

namespace Go.Proofs.YtiebbgbcojgeoaaGreatDoor

def cnt3 (its : List It) : Nat := (its.filter fun it => decide (it.kind = 3)).length
theorem cnt3_snoc (its : List It) (it : It) : cnt3 (its ++ [it]) = cnt3 its + if it.kind = 3 then 1 else 0 := by
  unfold cnt3
  rw [List.filter_append, List.length_append]
  congr 1
  by_cases h : it.kind = 3
  · rw [if_pos h, List.filter_cons, if_pos (by simpa using h)]; rfl
  · rw [if_neg h, List.filter_cons, if_neg (by simpa using h)]; rfl
def CntP (p : PS) : Prop := cnt3 p.items = p.stanzas
theorem CntP.endField {p : PS} (h : CntP p) : CntP (endFieldP p) := by
  unfold endFieldP
  split
  · exact h
  · exact h
theorem CntP.endItem {t : List UInt8} {p : PS} (h : CntP p) (kind e : Nat) (hk : kind ≠ 3) : CntP (endItemP t p kind e) := by
  show cnt3 (p.items ++ [_]) = p.stanzas
  rw [cnt3_snoc, if_neg (by show ((kind : Nat) : Int) ≠ 3; omega), h]; rfl
theorem CntP.endBlock {t : List UInt8} {p : PS} (h : CntP p) (e : Nat) : CntP (endBlockP t p e) := by
  unfold endBlockP
  split
  · exact h
  · split
    · exact h.endItem 2 e (by decide)
    · show cnt3 (p.items ++ [_]) = p.stanzas + 1
      rw [cnt3_snoc, if_pos (by rfl), h]
theorem CntP.went {p : PS} (h : CntP p) (x : Ln) : CntP (wentP p x) := by
  unfold wentP
  split <;> exact h
theorem CntP.then_ {p : PS} (h : CntP p) (x : Ln) : CntP (thenP p x) := by
  unfold thenP
  split
  · exact (h.went x).endField
  · exact h.went x
theorem CntP.put {t : List UInt8} {p : PS} (h : CntP p) (x : Ln) : CntP (putP t p x) := by
  unfold putP
  split
  · exact h
  · split
    · exact (h.endBlock x.at_).endItem 1 _ (by decide)
    · exact h
theorem CntP.take {t : List UInt8} {p q : PS} {x : Ln} (h : CntP p) (he : takeP t p x = .ok q) : CntP q := by
  obtain ⟨_, _, rfl⟩ := take_parts he
  exact (h.then_ x).put x
theorem CntP.run (t : List UInt8) : ∀ (xs : List Ln) (p q : PS), CntP p → runP t p xs = .ok q → CntP q
  | [], p, q, h, he => by cases he; exact h
  | x :: xs, p, q, h, he => by
    unfold runP at he
    cases ht : takeP t p x with
    | error e => rw [ht] at he; cases he
    | ok p1 =>
      rw [ht] at he
      exact CntP.run t xs p1 q (h.take ht) he
theorem parse_cnt {t : List UInt8} {its : List It} (h : parseL t = .ok its) : cnt3 its ≤ 400 := by
  obtain ⟨p, hr, h0, rfl, g, _⟩ := parse_good h
  have hc : CntP (endBlockP t (endFieldP p) t.length) := ((CntP.run t _ _ _ (by rfl) hr).endField).endBlock _
  rw [show cnt3 _ = _ from hc]
  exact g.st
theorem nums_from : ∀ (n : Int) (its : List It), 0 < n → (∀ m ∈ nums (fromOn n its), n ≤ m ∧ m < fromNext n its) ∧ (nums (fromOn n its)).Nodup ∧ (nums (fromOn n its)).length = cnt3 its ∧ n ≤ fromNext n its
  | n, [], h => ⟨(fun m hm => by cases hm), List.nodup_nil, rfl, Int.le_refl _⟩
  | n, it :: r, h => by
    by_cases hk : it.kind = 3
    · obtain ⟨a, b, c, d⟩ := nums_from (n + 1) r (by omega)
      have e1 : nums (fromOn n (it :: r)) = n :: nums (fromOn (n + 1) r) := by
        unfold nums
        rw [fromOn, if_pos hk, List.map_cons, List.filter_cons, if_pos (by simpa using h)]
      have e2 : fromNext n (it :: r) = fromNext (n + 1) r := by rw [fromNext, if_pos hk]
      rw [e1, e2]
      refine ⟨fun m hm => ?_, List.nodup_cons.2 ⟨fun q => ?_, b⟩, ?_, by omega⟩
      · rcases List.mem_cons.1 hm with rfl | hm
        · exact ⟨Int.le_refl _, by omega⟩
        · have := a m hm; exact ⟨by omega, this.2⟩
      · have := (a n q).1; omega
      · unfold cnt3 at c ⊢
        rw [List.length_cons, c, List.filter_cons, if_pos (by simpa using hk)]; rfl
    · obtain ⟨a, b, c, d⟩ := nums_from n r h
      have e1 : nums (fromOn n (it :: r)) = nums (fromOn n r) := by
        unfold nums
        rw [fromOn, if_neg hk, List.map_cons, List.filter_cons, if_neg (by simp)]
      have e2 : fromNext n (it :: r) = fromNext n r := by rw [fromNext, if_neg hk]
      rw [e1, e2]
      refine ⟨a, b, ?_, d⟩
      unfold cnt3 at c ⊢
      rw [c, List.filter_cons, if_neg (by simpa using hk)]
theorem from_ok {t : List UInt8} {its : List It} (h : parseL t = .ok its) : OkL (fromL its) := by
  obtain ⟨a, b, c, d⟩ := nums_from 1 its (by decide)
  refine ⟨from_wf 1 its (by decide), by show 0 < fromNext 1 its; omega, fun n hn => (a n hn).2, b, ?_⟩
  rw [← nums_len]
  show (nums (fromOn 1 its)).length ≤ 400
  rw [c]; exact parse_cnt h
end Go.Proofs.YtiebbgbcojgeoaaGreatDoor

