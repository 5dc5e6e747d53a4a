/- Texts put together: FQ, FR, TD, RI, RQ, RK, QI. -/
import Derived.WalkKit
import Derived.Orders
import Derived.Sort.BigQuietIn
import Derived.Shelf.RegionOpen
import Derived.Test.YtgaooalckjjplaaGreatDoorBfa1
import Derived.Test.YtgaooalckjjplaaGreatDoorBfa2
import Derived.Test.YtgaooalckjjplaaGreatDoorBfa3
import Derived.Test.YtgaooalckjjplaaGreatDoorBfa4
import Derived.Test.YtgaooalckjjplaaGreatDoorBfa5
import Derived.Test.YtgaooalckjjplaaGreatDoorBfa7
import Derived.Test.YtgaooalckjjplaaGreatDoorBfa8
import Derived.Test.YtgaooalckjjplaaGreatDoorBfa9
import Derived.Test.YtgaooalckjjplaaGreatDoorBfa10
import Derived.Test.YtgaooalckjjplaaGreatDoorBfa11
import Derived.Test.YtgaooalckjjplaaGreatDoorBfa12
import Derived.Test.YtgaooalckjjplaaGreatDoorBfa13
import Derived.Test.YtgaooalckjjplaaGreatDoorBdd1
import Derived.Test.YtgaooalckjjplaaGreatDoorBdd2
set_option linter.unusedVariables false
namespace Go.Proofs.YtgaooalckjjplaaGreatDoor
open Go.RowKit Go.Shelf

theorem kind_clean {l : List UInt8} (h : (10 : UInt8) ∉ l) : (kindL l = 1 ↔ blankAll l = true) := by
  unfold kindL
  rw [hasB_not h, if_neg (by decide)]
  cases hb : blankAll l with
  | true => simp
  | false =>
    rw [if_neg (by decide)]
    constructor
    · intro h
      split at h
      · cases h
      · split at h
        · cases h
        · split at h <;> cases h
    · intro h; cases h
set_option maxRecDepth 100000 in
set_option maxHeartbeats 4000000 in
theorem refLines_any (k v : List UInt8) (hk : k.length ≤ 100000) (hv : v.length ≤ 100000) (w : World) :
    Calls Tryz.prog 139 #[fieldV k v] w fun e w' => ∃ sv base, e = .returned sv ∧ OwnS w' base sv ((linesL k v).map B) ∧ Below w.heap.size w w' := by
  obtain ⟨i0, hi, hz0, hz1, hz2⟩ := info_parts infoStr
  have PA := fun w => refParts_any v (by omega) w
  obtain ⟨p, r, hp⟩ : ∃ p r, partsL v = p :: r := ⟨_, _, partsL_cons v⟩
  rw [hp] at PA
  obtain ⟨z1, z2, z3⟩ := piece_le hp
  have hcl : ∀ q ∈ p :: r, (10 : UInt8) ∉ q := by rw [← hp]; exact partsL_clean v
  have HL := Lib.hid (linesLen (k := k) hp)
  clear hp
  unfold fieldV
  have hzk := B_size k
  have h1 : (B k ++ ⟨#[58]⟩) = B (k ++ [58]) := B_append k [58]
  have h2 : (B (k ++ [58]) ++ ⟨#[32]⟩) = B ((k ++ [58]) ++ [32]) := B_append _ [32]
  have h3 : (B ((k ++ [58]) ++ [32]) ++ B p) = B (((k ++ [58]) ++ [32]) ++ p) := B_append _ p
  have y1 : (B (k ++ [58])).size = k.length + 1 := by rw [B_size]; simp
  have y2 : (B ((k ++ [58]) ++ [32])).size = k.length + 2 := by rw [B_size]; simp
  have hzp := B_size p
  have hfl1 : p = [] → B (firstL k p) = B (k ++ [58]) := fun h => by unfold firstL; rw [if_pos h]
  have hfl2 : p ≠ [] → B (firstL k p) = B (((k ++ [58]) ++ [32]) ++ p) := fun h => by unfold firstL; rw [if_neg h]; simp
  go_enter Tryz.func139, Tryz.ntmps139
  go_wp2_with fail
  refine (PA _).mono ?_
  rintro e w1 ⟨v1, rfl, hown, b1⟩
  obtain ⟨g, cap, rfl, hg1, hg2⟩ := hown.form (by simp)
  have c0 := b1.cell (p := ⟨w.heap.size, 0, none⟩) (by simp)
  have hb1 : Below w.heap.size w w1 := ((Below.refl _ _).alloc (Nat.le_refl _) _).trans (b1.mono (by simp))
  have PC : ∀ (j : Nat) x, (p :: r)[j]? = some x → w1.cell? ⟨g, j, none⟩ = some (.string (B x)) := fun j x hx => hown.cell rfl j (B x) (by rw [List.getElem?_map, hx]; rfl)
  have e0 := PC 0 p rfl
  simp only [List.length_map, List.length_cons]
  simp only [World.cell?_alloc_at _ _ _ _ rfl] at c0
  have PCH := Lib.hid (fun (j : Nat) x (hx : r[j]? = some x) => PC (j + 1) x (by simpa using hx))
  have hcl2 := Lib.hid (fun q hq => hcl q (List.mem_cons_of_mem _ hq))
  have BW := Lib.hid hb1
  replace c0 : w1.cell? ⟨w.heap.size, 0, none⟩ = some (.string (B k)) := c0
  have hw1 := hb1.size
  clear PC PA b1 hown hg1 hcl hb1
  generalize hfl : B (firstL k p) = FL at *
  have HFL : Hid (((linesL k v).map B) = FL :: (r.map furtherL).map B) := by
    show _ = _
    rw [HL.out, List.map_cons, hfl]
  clear hfl HL
  have hpp : (p = [] ∧ FL = B (k ++ [58])) ∨ (p ≠ [] ∧ FL = B (((k ++ [58]) ++ [32]) ++ p)) := by
    by_cases hpe : p = []
    · exact .inl ⟨hpe, hfl1 hpe⟩
    · exact .inr ⟨hpe, hfl2 hpe⟩
  clear hfl1 hfl2
  rcases hpp with ⟨hpe, hf⟩ | ⟨hpe, hf⟩
  · subst hpe
    rw [show B [] = ⟨#[]⟩ from rfl] at *
    rw [← hf] at h1
    clear hf h2 h3 y1 y2 hzp z1
    generalize B k = K at *
    go_wp2_with fail
    go_loopw [5, 6] (fun v5 i wr => ∃ n : Nat, n ≤ r.length ∧ i = .int .i64 ((n : Int) + 1) ∧ OwnS wr w1.heap.size v5 (FL :: ((r.take n).map furtherL).map B) ∧ Below w1.heap.size w1 wr) (fun _ i _ => r.length + 1 - (intOf i).toNat)
    case atStart => exact ⟨0, Nat.zero_le _, rfl, OwnS.one w1 _ (Nat.le_refl _) _, (Below.refl _ _).alloc (Nat.le_refl _) _⟩
    case round =>
      obtain ⟨n, hn, rfl, hown, hb⟩ := hrel
      by_cases hlt : n < r.length
      · obtain ⟨x, hx⟩ : ∃ x, r[n]? = some x := ⟨_, List.getElem?_eq_getElem hlt⟩
        have hcx := (hb.cell (p := ⟨g, n + 1, none⟩) hg2).trans (PCH.out n x hx)
        have hxm := List.mem_of_getElem? hx
        have hxl := z2 x hxm
        have hxc := hcl2.out x hxm
        have hxz := B_size x
        have RK := fun w => refKind_any (B x) (by omega) w
        rw [B_data] at RK
        have TK : Hid (FL :: ((r.take (n + 1)).map furtherL).map B = (FL :: ((r.take n).map furtherL).map B) ++ [B (furtherL x)]) := by
          show _ = _
          rw [List.take_add_one, hx]; simp
        have HLL : Hid ((FL :: ((r.take n).map furtherL).map B).length = n + 1) := by
          show _ = _
          simp; omega
        have hs3 := hb.size
        have kc := kind_clean hxc
        cases hbl : blankAll x with
        | true =>
          have hk1 := kc.2 hbl
          have hfx : ⟨#[32, 46]⟩ ++ B x = B (furtherL x) := by unfold furtherL dotted; rw [hbl]; exact B_append [32, 46] x
          rw [hk1] at RK
          clear hx hk1 kc hbl hxc hxm
          generalize (FL :: ((r.take n).map furtherL).map B) = ls at *
          generalize B (furtherL x) = Y at *
          generalize B x = X at *
          go_wp2_with fail
          refine (RK _).mono ?_
          rintro e w4 ⟨rfl, b4⟩
          have hcx4 := (b4.cell (p := ⟨g, n + 1, none⟩) (Nat.lt_of_lt_of_le hg2 hs3)).trans hcx
          have hown4 : w4.ownsRow w1.heap.size 9 1 u5 (n + 1) (ls.map Value.string) := by rw [← HLL.out]; exact hown.kept b4 (Nat.le_refl _)
          have hs4 := b4.size
          have HC := Lib.hid (strCell w4 Y 9)
          have hb4 : Below w1.heap.size w1 w4 := hb.trans (b4.mono hs3)
          clear hown b4 hcx
          go_wp2_with (at_builtin; refine wpList_append_own _ rfl _ _ 105 rfl w1.heap.size 9 i0 _ 1 16 Tryz.underlying105 hi hz0 hz1 hz2 rfl (by decide) _ _ _ rfl (hown4.alloc _) ⟨w4.heap.size, 0, none⟩ 1 1 _ rfl rfl HC.out ?c2 ?c3 ?c4 ?c5 ?_)
          case c2 => intro u hu; simp at hu; subst hu; rfl
          case c3 => unfold maxLen; omega
          case c4 => omega
          case c5 => simp; omega
          intro v' w5 hown' hgrow _
          obtain ⟨g', cap', rfl⟩ := ownsRow_succ hown'
          have hb5 : Below w1.heap.size w1 w5 := (hb4.alloc (by omega) _).grown hgrow (by simp; omega) (fun j ej => (hown4.lt j ej).1)
          have hown6 := OwnS.grow (ls := ls) (y := Y) hown' HLL.out
          rw [← TK.out] at hown6
          go_wp2_with fail
          go_roundw
          case rel => exact ⟨n + 1, hlt, by go_num, hown6, hb5⟩
          case measure => simp [intOf]; omega
        | false =>
          have hk1 : kindL x ≠ 1 := fun e => by rw [kc.1 e] at hbl; cases hbl
          obtain ⟨c, t, rfl⟩ := all_blank_cons hbl
          have hki : ((kindL (c :: t) : Int) == 1) = false := by rw [beq_eq_false_iff_ne]; omega
          have q2 := byte_eq (c := c) (d := 46) 46 rfl
          have hXc : ∀ h : 0 < (B (c :: t)).size, (B (c :: t))[0]'h = c := fun _ => rfl
          have hxz2 : (B (c :: t)).size = t.length + 1 := hxz
          have htl : t.length ≤ 1000000 := by simp only [List.length_cons] at hxl; omega
          have hxp : 0 < (B (c :: t)).size := by omega
          clear hxz
          by_cases hc : c = 46
          · have hfx : ⟨#[32, 46]⟩ ++ B (c :: t) = B (furtherL (c :: t)) := by unfold furtherL dotted; rw [hc]; simp; exact B_append [32, 46] (46 :: t)
            have hcb : (c == 46) = true := by simp [hc]
            rw [hcb] at q2
            clear hx hk1 kc hbl hxc hxm hc
            generalize (FL :: ((r.take n).map furtherL).map B) = ls at *
            generalize kindL (c :: t) = kx at *
            generalize B (furtherL (c :: t)) = Y at *
            generalize B (c :: t) = X at *
            go_wp2_with fail
            refine (RK _).mono ?_
            rintro e w4 ⟨rfl, b4⟩
            have hcx4 := (b4.cell (p := ⟨g, n + 1, none⟩) (Nat.lt_of_lt_of_le hg2 hs3)).trans hcx
            have hown4 : w4.ownsRow w1.heap.size 9 1 u5 (n + 1) (ls.map Value.string) := by rw [← HLL.out]; exact hown.kept b4 (Nat.le_refl _)
            have hs4 := b4.size
            have HC := Lib.hid (strCell w4 Y 9)
            have hb4 : Below w1.heap.size w1 w4 := hb.trans (b4.mono hs3)
            clear hown b4 hcx
            go_wp2_with (at_builtin; refine wpList_append_own _ rfl _ _ 105 rfl w1.heap.size 9 i0 _ 1 16 Tryz.underlying105 hi hz0 hz1 hz2 rfl (by decide) _ _ _ rfl (hown4.alloc _) ⟨w4.heap.size, 0, none⟩ 1 1 _ rfl rfl HC.out ?c2 ?c3 ?c4 ?c5 ?_)
            case c2 => intro u hu; simp at hu; subst hu; rfl
            case c3 => unfold maxLen; omega
            case c4 => omega
            case c5 => simp; omega
            intro v' w5 hown' hgrow _
            obtain ⟨g', cap', rfl⟩ := ownsRow_succ hown'
            have hb5 : Below w1.heap.size w1 w5 := (hb4.alloc (by omega) _).grown hgrow (by simp; omega) (fun j ej => (hown4.lt j ej).1)
            have hown6 := OwnS.grow (ls := ls) (y := Y) hown' HLL.out
            rw [← TK.out] at hown6
            go_wp2_with fail
            go_roundw
            case rel => exact ⟨n + 1, hlt, by go_num, hown6, hb5⟩
            case measure => simp [intOf]; omega
          · have hfx : ⟨#[32]⟩ ++ B (c :: t) = B (furtherL (c :: t)) := by unfold furtherL dotted; rw [hbl]; simp [hc]; exact B_append [32] (c :: t)
            have hcb : (c == 46) = false := by simp [hc]
            rw [hcb] at q2
            clear hx hk1 kc hbl hxc hxm hc
            generalize (FL :: ((r.take n).map furtherL).map B) = ls at *
            generalize kindL (c :: t) = kx at *
            generalize B (furtherL (c :: t)) = Y at *
            generalize B (c :: t) = X at *
            go_wp2_with fail
            refine (RK _).mono ?_
            rintro e w4 ⟨rfl, b4⟩
            have hcx4 := (b4.cell (p := ⟨g, n + 1, none⟩) (Nat.lt_of_lt_of_le hg2 hs3)).trans hcx
            have hown4 : w4.ownsRow w1.heap.size 9 1 u5 (n + 1) (ls.map Value.string) := by rw [← HLL.out]; exact hown.kept b4 (Nat.le_refl _)
            have hs4 := b4.size
            have HC := Lib.hid (strCell w4 Y 9)
            have hb4 : Below w1.heap.size w1 w4 := hb.trans (b4.mono hs3)
            clear hown b4 hcx
            go_wp2_with (at_builtin; refine wpList_append_own _ rfl _ _ 105 rfl w1.heap.size 9 i0 _ 1 16 Tryz.underlying105 hi hz0 hz1 hz2 rfl (by decide) _ _ _ rfl (hown4.alloc _) ⟨w4.heap.size, 0, none⟩ 1 1 _ rfl rfl HC.out ?c2 ?c3 ?c4 ?c5 ?_)
            case c2 => intro u hu; simp at hu; subst hu; rfl
            case c3 => unfold maxLen; omega
            case c4 => omega
            case c5 => simp; omega
            intro v' w5 hown' hgrow _
            obtain ⟨g', cap', rfl⟩ := ownsRow_succ hown'
            have hb5 : Below w1.heap.size w1 w5 := (hb4.alloc (by omega) _).grown hgrow (by simp; omega) (fun j ej => (hown4.lt j ej).1)
            have hown6 := OwnS.grow (ls := ls) (y := Y) hown' HLL.out
            rw [← TK.out] at hown6
            go_wp2_with fail
            go_roundw
            case rel => exact ⟨n + 1, hlt, by go_num, hown6, hb5⟩
            case measure => simp [intOf]; omega
      · obtain rfl : n = r.length := by omega
        rw [List.take_length] at hown
        go_wp2_with fail
        go_ret
        exact ⟨_, _, rfl, by rw [HFL.out]; exact hown, BW.out.trans (hb.mono hw1)⟩

  · obtain ⟨n1, n2⟩ := B_empty hpe
    rw [← hf] at h3
    clear hf hpe
    generalize B k = K at *
    generalize B (k ++ [58]) = K1 at *
    generalize B ((k ++ [58]) ++ [32]) = K2 at *
    generalize B p = P at *
    go_wp2_with fail
    clear h1 h2 h3 y1 y2 hzp n1 n2
    go_loopw [5, 6] (fun v5 i wr => ∃ n : Nat, n ≤ r.length ∧ i = .int .i64 ((n : Int) + 1) ∧ OwnS wr w1.heap.size v5 (FL :: ((r.take n).map furtherL).map B) ∧ Below w1.heap.size w1 wr) (fun _ i _ => r.length + 1 - (intOf i).toNat)
    case atStart => exact ⟨0, Nat.zero_le _, rfl, OwnS.one w1 _ (Nat.le_refl _) _, (Below.refl _ _).alloc (Nat.le_refl _) _⟩
    case round =>
      obtain ⟨n, hn, rfl, hown, hb⟩ := hrel
      by_cases hlt : n < r.length
      · obtain ⟨x, hx⟩ : ∃ x, r[n]? = some x := ⟨_, List.getElem?_eq_getElem hlt⟩
        have hcx := (hb.cell (p := ⟨g, n + 1, none⟩) hg2).trans (PCH.out n x hx)
        have hxm := List.mem_of_getElem? hx
        have hxl := z2 x hxm
        have hxc := hcl2.out x hxm
        have hxz := B_size x
        have RK := fun w => refKind_any (B x) (by omega) w
        rw [B_data] at RK
        have TK : Hid (FL :: ((r.take (n + 1)).map furtherL).map B = (FL :: ((r.take n).map furtherL).map B) ++ [B (furtherL x)]) := by
          show _ = _
          rw [List.take_add_one, hx]; simp
        have HLL : Hid ((FL :: ((r.take n).map furtherL).map B).length = n + 1) := by
          show _ = _
          simp; omega
        have hs3 := hb.size
        have kc := kind_clean hxc
        cases hbl : blankAll x with
        | true =>
          have hk1 := kc.2 hbl
          have hfx : ⟨#[32, 46]⟩ ++ B x = B (furtherL x) := by unfold furtherL dotted; rw [hbl]; exact B_append [32, 46] x
          rw [hk1] at RK
          clear hx hk1 kc hbl hxc hxm
          generalize (FL :: ((r.take n).map furtherL).map B) = ls at *
          generalize B (furtherL x) = Y at *
          generalize B x = X at *
          go_wp2_with fail
          refine (RK _).mono ?_
          rintro e w4 ⟨rfl, b4⟩
          have hcx4 := (b4.cell (p := ⟨g, n + 1, none⟩) (Nat.lt_of_lt_of_le hg2 hs3)).trans hcx
          have hown4 : w4.ownsRow w1.heap.size 9 1 u5 (n + 1) (ls.map Value.string) := by rw [← HLL.out]; exact hown.kept b4 (Nat.le_refl _)
          have hs4 := b4.size
          have HC := Lib.hid (strCell w4 Y 9)
          have hb4 : Below w1.heap.size w1 w4 := hb.trans (b4.mono hs3)
          clear hown b4 hcx
          go_wp2_with (at_builtin; refine wpList_append_own _ rfl _ _ 105 rfl w1.heap.size 9 i0 _ 1 16 Tryz.underlying105 hi hz0 hz1 hz2 rfl (by decide) _ _ _ rfl (hown4.alloc _) ⟨w4.heap.size, 0, none⟩ 1 1 _ rfl rfl HC.out ?c2 ?c3 ?c4 ?c5 ?_)
          case c2 => intro u hu; simp at hu; subst hu; rfl
          case c3 => unfold maxLen; omega
          case c4 => omega
          case c5 => simp; omega
          intro v' w5 hown' hgrow _
          obtain ⟨g', cap', rfl⟩ := ownsRow_succ hown'
          have hb5 : Below w1.heap.size w1 w5 := (hb4.alloc (by omega) _).grown hgrow (by simp; omega) (fun j ej => (hown4.lt j ej).1)
          have hown6 := OwnS.grow (ls := ls) (y := Y) hown' HLL.out
          rw [← TK.out] at hown6
          go_wp2_with fail
          go_roundw
          case rel => exact ⟨n + 1, hlt, by go_num, hown6, hb5⟩
          case measure => simp [intOf]; omega
        | false =>
          have hk1 : kindL x ≠ 1 := fun e => by rw [kc.1 e] at hbl; cases hbl
          obtain ⟨c, t, rfl⟩ := all_blank_cons hbl
          have hki : ((kindL (c :: t) : Int) == 1) = false := by rw [beq_eq_false_iff_ne]; omega
          have q2 := byte_eq (c := c) (d := 46) 46 rfl
          have hXc : ∀ h : 0 < (B (c :: t)).size, (B (c :: t))[0]'h = c := fun _ => rfl
          have hxz2 : (B (c :: t)).size = t.length + 1 := hxz
          have htl : t.length ≤ 1000000 := by simp only [List.length_cons] at hxl; omega
          have hxp : 0 < (B (c :: t)).size := by omega
          clear hxz
          by_cases hc : c = 46
          · have hfx : ⟨#[32, 46]⟩ ++ B (c :: t) = B (furtherL (c :: t)) := by unfold furtherL dotted; rw [hc]; simp; exact B_append [32, 46] (46 :: t)
            have hcb : (c == 46) = true := by simp [hc]
            rw [hcb] at q2
            clear hx hk1 kc hbl hxc hxm hc
            generalize (FL :: ((r.take n).map furtherL).map B) = ls at *
            generalize kindL (c :: t) = kx at *
            generalize B (furtherL (c :: t)) = Y at *
            generalize B (c :: t) = X at *
            go_wp2_with fail
            refine (RK _).mono ?_
            rintro e w4 ⟨rfl, b4⟩
            have hcx4 := (b4.cell (p := ⟨g, n + 1, none⟩) (Nat.lt_of_lt_of_le hg2 hs3)).trans hcx
            have hown4 : w4.ownsRow w1.heap.size 9 1 u5 (n + 1) (ls.map Value.string) := by rw [← HLL.out]; exact hown.kept b4 (Nat.le_refl _)
            have hs4 := b4.size
            have HC := Lib.hid (strCell w4 Y 9)
            have hb4 : Below w1.heap.size w1 w4 := hb.trans (b4.mono hs3)
            clear hown b4 hcx
            go_wp2_with (at_builtin; refine wpList_append_own _ rfl _ _ 105 rfl w1.heap.size 9 i0 _ 1 16 Tryz.underlying105 hi hz0 hz1 hz2 rfl (by decide) _ _ _ rfl (hown4.alloc _) ⟨w4.heap.size, 0, none⟩ 1 1 _ rfl rfl HC.out ?c2 ?c3 ?c4 ?c5 ?_)
            case c2 => intro u hu; simp at hu; subst hu; rfl
            case c3 => unfold maxLen; omega
            case c4 => omega
            case c5 => simp; omega
            intro v' w5 hown' hgrow _
            obtain ⟨g', cap', rfl⟩ := ownsRow_succ hown'
            have hb5 : Below w1.heap.size w1 w5 := (hb4.alloc (by omega) _).grown hgrow (by simp; omega) (fun j ej => (hown4.lt j ej).1)
            have hown6 := OwnS.grow (ls := ls) (y := Y) hown' HLL.out
            rw [← TK.out] at hown6
            go_wp2_with fail
            go_roundw
            case rel => exact ⟨n + 1, hlt, by go_num, hown6, hb5⟩
            case measure => simp [intOf]; omega
          · have hfx : ⟨#[32]⟩ ++ B (c :: t) = B (furtherL (c :: t)) := by unfold furtherL dotted; rw [hbl]; simp [hc]; exact B_append [32] (c :: t)
            have hcb : (c == 46) = false := by simp [hc]
            rw [hcb] at q2
            clear hx hk1 kc hbl hxc hxm hc
            generalize (FL :: ((r.take n).map furtherL).map B) = ls at *
            generalize kindL (c :: t) = kx at *
            generalize B (furtherL (c :: t)) = Y at *
            generalize B (c :: t) = X at *
            go_wp2_with fail
            refine (RK _).mono ?_
            rintro e w4 ⟨rfl, b4⟩
            have hcx4 := (b4.cell (p := ⟨g, n + 1, none⟩) (Nat.lt_of_lt_of_le hg2 hs3)).trans hcx
            have hown4 : w4.ownsRow w1.heap.size 9 1 u5 (n + 1) (ls.map Value.string) := by rw [← HLL.out]; exact hown.kept b4 (Nat.le_refl _)
            have hs4 := b4.size
            have HC := Lib.hid (strCell w4 Y 9)
            have hb4 : Below w1.heap.size w1 w4 := hb.trans (b4.mono hs3)
            clear hown b4 hcx
            go_wp2_with (at_builtin; refine wpList_append_own _ rfl _ _ 105 rfl w1.heap.size 9 i0 _ 1 16 Tryz.underlying105 hi hz0 hz1 hz2 rfl (by decide) _ _ _ rfl (hown4.alloc _) ⟨w4.heap.size, 0, none⟩ 1 1 _ rfl rfl HC.out ?c2 ?c3 ?c4 ?c5 ?_)
            case c2 => intro u hu; simp at hu; subst hu; rfl
            case c3 => unfold maxLen; omega
            case c4 => omega
            case c5 => simp; omega
            intro v' w5 hown' hgrow _
            obtain ⟨g', cap', rfl⟩ := ownsRow_succ hown'
            have hb5 : Below w1.heap.size w1 w5 := (hb4.alloc (by omega) _).grown hgrow (by simp; omega) (fun j ej => (hown4.lt j ej).1)
            have hown6 := OwnS.grow (ls := ls) (y := Y) hown' HLL.out
            rw [← TK.out] at hown6
            go_wp2_with fail
            go_roundw
            case rel => exact ⟨n + 1, hlt, by go_num, hown6, hb5⟩
            case measure => simp [intOf]; omega
      · obtain rfl : n = r.length := by omega
        rw [List.take_length] at hown
        go_wp2_with fail
        go_ret
        exact ⟨_, _, rfl, by rw [HFL.out]; exact hown, BW.out.trans (hb.mono hw1)⟩

end Go.Proofs.YtgaooalckjjplaaGreatDoor

namespace Go.Proofs.YtgaooalckjjplaaGreatDoor
open Go.RowKit Go.Shelf

theorem text_any_le (k v : List UInt8) (hk : k.length ≤ 100000) (hv : v.length ≤ 100000) : (textL (linesL k v)).length ≤ 500000 := by
  rw [textL_len]
  have := lines_sum k v
  omega
set_option maxRecDepth 100000 in
set_option maxHeartbeats 4000000 in
theorem refFold_any (fs : List (List UInt8 × List UInt8)) (v : Value) (w : World) (hs : Flds w v fs) (hn : fs.length ≤ 1000) (hl : ∀ f ∈ fs, f.1.length ≤ 100000 ∧ f.2.length ≤ 100000) :
    Calls Tryz.prog 97 #[v] w fun e w' => e = .returned (.string (B (foldG fs))) ∧ Below w.heap.size w w' := by
  obtain ⟨A, cap, rfl, hle, hc⟩ := hs
  have PC := Lib.hid hc
  clear hc
  go_enter Tryz.func97, Tryz.ntmps97
  go_wp2_with fail
  go_loopw [3, 4] (fun s i wr => ∃ k : Nat, k ≤ fs.length ∧ i = .int .i64 k ∧ s = .string (B (foldG (fs.take k))) ∧ (foldG (fs.take k)).length ≤ 500000 * k ∧ Below w.heap.size w wr) (fun _ i _ => fs.length - (intOf i).toNat)
  case atStart => exact ⟨0, Nat.zero_le _, rfl, rfl, Nat.le_refl _, Below.refl _ _⟩
  case round =>
    obtain ⟨k, hk, rfl, rfl, hlen, hb⟩ := hrel
    by_cases hlt : k < fs.length
    · obtain ⟨f, hf⟩ : ∃ f, fs[k]? = some f := ⟨_, List.getElem?_eq_getElem hlt⟩
      obtain ⟨b, off, rfl, hbb, c0, c1⟩ := PC.out k f hf
      replace c0 := (hb.cell (p := ⟨b, off + k * 2, none⟩) hbb).trans c0
      replace c1 := (hb.cell (p := ⟨b, off + k * 2 + 1, none⟩) hbb).trans c1
      obtain ⟨hl1, hl2⟩ := hl f (List.mem_of_getElem? hf)
      have htake : fs.take (k + 1) = fs.take k ++ [f] := by rw [List.take_add_one, hf]; rfl
      have G1 : Hid (foldG (fs.take (k + 1)) = foldG (fs.take k) ++ textL (linesL f.1 f.2)) := by
        show _ = _
        rw [htake, foldG_snoc]
      have RL := fun w => refLines_any f.1 f.2 hl1 hl2 w
      have htl := text_any_le f.1 f.2 hl1 hl2
      have hm1 : 1 ≤ (linesL f.1 f.2).length := by rw [linesL_len]; omega
      have hm2 : (linesL f.1 f.2).length ≤ 500000 := by rw [textL_len] at htl; omega
      unfold fieldV at RL
      clear htake hf
      generalize foldG (fs.take k) = pre at *
      go_wp2_with fail
      refine (RL _).mono ?_
      rintro e w2 ⟨sv, base, rfl, hown, b2⟩
      have hb2 := hb.trans (b2.mono hb.size)
      obtain ⟨g, cap', rfl, _, _⟩ := hown.form (by simp; omega)
      have CL := Lib.hid (fun (j : Nat) x (hx : (linesL f.1 f.2)[j]? = some x) => hown.cell rfl j (B x) (by rw [List.getElem?_map, hx]; rfl))
      rw [List.length_map] at *
      clear hown b2 RL
      generalize linesL f.1 f.2 = ls at *
      go_wp2_with fail
      go_loopw [3, 19] (fun s i wq => ∃ j : Nat, j ≤ ls.length ∧ i = .int .i64 j ∧ s = .string (B (pre ++ textL (ls.take j))) ∧ w2 = wq) (fun _ i _ => ls.length - (intOf i).toNat)
      case atStart => exact ⟨0, Nat.zero_le _, rfl, by simp [textL], rfl⟩
      case round =>
        obtain ⟨j, hj, rfl, rfl, rfl⟩ := hrel
        by_cases hjl : j < ls.length
        · obtain ⟨x, hx⟩ : ∃ x, ls[j]? = some x := ⟨_, List.getElem?_eq_getElem hjl⟩
          have hcx := CL.out j x hx
          have T1 : Hid (B (pre ++ textL (ls.take (j + 1))) = (B (pre ++ textL (ls.take j)) ++ B x) ++ ⟨#[10]⟩) := by
            show _ = _
            rw [List.take_add_one, hx, show (some x).toList = [x] from rfl, textL_snoc, show (⟨#[10]⟩ : ByteArray) = B [10] from rfl, B_append, B_append]; simp
          have t1 := textL_take ls (j + 1)
          rw [List.take_add_one, hx, show (some x).toList = [x] from rfl, textL_snoc, List.length_append, List.length_append] at t1
          simp only [List.length_singleton] at t1
          have y1 := B_size (pre ++ textL (ls.take j))
          rw [List.length_append] at y1
          have y2 := B_size x
          have y3 : (B (pre ++ textL (ls.take j)) ++ B x).size = pre.length + (textL (ls.take j)).length + x.length := by
            rw [B_append, B_size, List.length_append, List.length_append]
          clear hx
          generalize B (pre ++ textL (ls.take j)) = acc at *
          generalize B x = X at *
          go_wp2_with fail
          go_roundw
          case rel => exact ⟨j + 1, hjl, by go_num, by rw [T1.out], trivial⟩
          case measure => simp [intOf]; omega
        · obtain rfl : j = ls.length := by omega
          rw [List.take_length]
          go_wp2_with fail
          go_roundw
          case rel =>
            refine ⟨k + 1, hlt, by go_num, by rw [G1.out], ?_, hb2⟩
            rw [G1.out, List.length_append]; omega
          case measure => simp [intOf]; omega
    · obtain rfl : k = fs.length := by omega
      rw [List.take_length]
      go_wp2_with fail
      go_ret
      exact ⟨rfl, hb⟩
end Go.Proofs.YtgaooalckjjplaaGreatDoor

namespace Go.Proofs.YtgaooalckjjplaaGreatDoor
open Go.RowKit Go.Shelf

attribute [local go_sem] errV_0
set_option maxRecDepth 100000 in
set_option maxHeartbeats 4000000 in
theorem refChk_any (fs : List Fld) (v : Value) (w : World) (hs : Flds w v fs) (hn : fs.length ≤ 1000000) (hl : ∀ f ∈ fs, f.1.length ≤ 1000000 ∧ f.2.length ≤ 1000000) :
    Calls Tryz.prog 128 #[v] w fun e w' => e = .returned (.tuple #[.int .i64 (chkAt fs), .int .i64 (chkN fs : Nat)]) ∧ Below w.heap.size w w' := by
  obtain ⟨A, cap, rfl, hle, hc⟩ := hs
  have PC := Lib.hid hc
  have HL := Lib.hid hl
  clear hc hl
  by_cases h0 : fs.length = 0
  · have e1 : chkAt fs = -9 := by unfold chkAt; rw [if_pos (.inl h0)]
    have e2 : chkN fs = 2 := by unfold chkN; rw [if_pos h0]
    rw [e1, e2, h0]
    go_enter Tryz.func128, Tryz.ntmps128
    go_wp2_with fail
    go_ret2
    exact ⟨rfl, Below.refl _ _⟩
  have c0 : ((fs.length : Int) == 0) = false := by simp; intro h; exact h0 (by rw [h]; rfl)
  by_cases h40 : 40 < fs.length
  · have e1 : chkAt fs = -9 := by unfold chkAt; rw [if_pos (.inr (.inl h40))]
    have e2 : chkN fs = 11 := by unfold chkN; rw [if_neg h0, if_pos h40]
    rw [e1, e2]
    go_enter Tryz.func128, Tryz.ntmps128
    go_wp2_with fail
    go_ret2
    exact ⟨rfl, Below.refl _ _⟩
  have e2 : chkN fs = foldN fs := by unfold chkN; rw [if_neg h0, if_neg h40]
  have FINZ : Hid (foldN fs = 0 → chkAt fs = -9 ∧ chkN fs = 0) := by
    intro hz
    exact ⟨by unfold chkAt; rw [if_pos (.inr (.inr hz))], by rw [e2, hz]⟩
  have FINB : Hid (∀ (k n : Nat), foldN fs = n → n ≠ 0 → badAt fs = k → chkAt fs = (k : Nat) ∧ chkN fs = n) := by
    intro k n hf hnz hk
    refine ⟨?_, by rw [e2, hf]⟩
    unfold chkAt
    rw [if_neg (by unfold bare; rintro (h | h | h) <;> omega), hk]
  clear e2
  go_enter Tryz.func128, Tryz.ntmps128
  go_wp2_with fail
  go_loopw [4] (fun i wr => ∃ k : Nat, k ≤ fs.length ∧ i = .int .i64 k ∧ foldN fs = foldN (fs.drop k) ∧ badAt fs = badAt (fs.drop k) + k ∧ Below w.heap.size w wr) (fun i _ => fs.length - (intOf i).toNat)
  case atStart => exact ⟨0, Nat.zero_le _, rfl, rfl, rfl, Below.refl _ _⟩
  case round =>
    obtain ⟨k, hk, rfl, hN, hA, hb⟩ := hrel
    by_cases hlt : k < fs.length
    · obtain ⟨f, hf⟩ : ∃ f, fs[k]? = some f := ⟨_, List.getElem?_eq_getElem hlt⟩
      obtain ⟨b, off, rfl, hbb, c0', c1⟩ := PC.out k f hf
      replace c0' := (hb.cell (p := ⟨b, off + k * 2, none⟩) hbb).trans c0'
      replace c1 := (hb.cell (p := ⟨b, off + k * 2 + 1, none⟩) hbb).trans c1
      obtain ⟨hl1, hl2⟩ := HL.out f (List.mem_of_getElem? hf)
      have hdrop : fs.drop k = f :: fs.drop (k + 1) := by
        rw [List.drop_eq_getElem_cons hlt]
        rw [List.getElem?_eq_getElem hlt] at hf
        rw [Option.some.inj hf]
      have hs1 := hb.size
      have CK := fun W => refCheck_any f.1 f.2 hl1 hl2 W
      unfold fieldV at CK
      rw [hdrop] at hN hA
      by_cases hck : checkN f.1 f.2 = 0
      · have G1 : Hid (foldN fs = foldN (fs.drop (k + 1))) := by
          show _ = _
          rw [hN]; show (if checkN f.1 f.2 = 0 then foldN (fs.drop (k + 1)) else _) = _; rw [if_pos hck]
        have G2 : Hid (badAt fs = badAt (fs.drop (k + 1)) + (k + 1)) := by
          show _ = _
          rw [hA]; show (if checkN f.1 f.2 = 0 then badAt (fs.drop (k + 1)) + 1 else _) + k = _; rw [if_pos hck]; omega
        rw [hck] at CK
        clear hdrop hN hA hf hck FINB FINZ PC HL
        go_wp2_with fail
        refine (CK _).mono ?_
        rintro e w2 ⟨rfl, b2⟩
        have hb2 := hb.trans (b2.mono hs1)
        clear b2 CK
        go_wp2_with fail
        go_roundw
        case rel => exact ⟨k + 1, hlt, by go_num, G1.out, G2.out, hb2⟩
        case measure => simp [intOf]; omega
      · have hfn : foldN fs = checkN f.1 f.2 := by rw [hN]; unfold foldN; rw [if_neg hck]
        have hbn : badAt fs = k := by rw [hA]; unfold badAt; rw [if_neg hck]; omega
        obtain ⟨F1, F2⟩ := FINB.out k (checkN f.1 f.2) hfn hck hbn
        have hcn : ((checkN f.1 f.2 : Int) != 0) = true := by simp; omega
        have FH1 := Lib.hid F1
        have FH2 := Lib.hid F2
        clear hdrop hN hA hf FINB FINZ PC HL hfn hbn F1 F2
        generalize checkN f.1 f.2 = cn at *
        go_wp2_with fail
        refine (CK _).mono ?_
        rintro e w2 ⟨rfl, b2⟩
        have hb2 := hb.trans (b2.mono hs1)
        clear b2 CK
        go_wp2_with fail
        go_ret2
        exact ⟨by rw [FH1.out, FH2.out]; rfl, hb2⟩
    · obtain rfl : k = fs.length := by omega
      rw [List.drop_length] at hN
      obtain ⟨F1, F2⟩ := FINZ.out hN
      have FH1 := Lib.hid F1
      have FH2 := Lib.hid F2
      clear hN hA FINB FINZ PC HL F1 F2
      go_wp2_with fail
      go_ret2
      exact ⟨by rw [FH1.out, FH2.out]; rfl, hb⟩
end Go.Proofs.YtgaooalckjjplaaGreatDoor

namespace Go.Proofs.YtgaooalckjjplaaGreatDoor
open Go.RowKit
def todo (l : Array Bool) : Nat := (l.toList.filter (fun b => !b)).length
theorem ready_spec {ops : Array Oper} {l : Array Bool} {i : Nat} (h : i ∈ Region.ready .any ops l) :
    ∃ o, ops[i]? = some o ∧ l.getD i true = false ∧ ∀ e ∈ o.after, Region.binds .any e = true → l.getD e.on false = true := by
  unfold Region.ready at h
  rw [List.mem_filter] at h
  obtain ⟨hi, h⟩ := h
  rw [List.mem_range] at hi
  have ho : ops[i]? = some ops[i] := Array.getElem?_eq_getElem hi
  rw [ho] at h
  simp only [Option.map_some, Option.getD_some, Bool.and_eq_true, Bool.not_eq_true'] at h
  refine ⟨_, ho, h.1, fun e he hb => ?_⟩
  have := (Array.all_eq_true_iff_forall_mem.1 h.2) e he
  simpa [hb] using this
theorem wpAny_inv {P : Program} {ops : Array Oper} {Q : Exit → Act → World → Prop} (I : Array Bool → Act → World → Prop)
    (step : ∀ l i o a w, I l a w → l.size = ops.size → ops[i]? = some o → l.getD i true = false → (∀ e ∈ o.after, Region.binds .any e = true → l.getD e.on false = true) →
      wpOp P ops Q i (fun a' w' => I (l.setIfInBounds i true) a' w') a w)
    (done : ∀ l a w, I l a w → l.size = ops.size → Region.ready .any ops l = [] → Q .normal a w) :
    ∀ (n : Nat) (l : Array Bool) (a : Act) (w : World), I l a w → l.size = ops.size → todo l ≤ n → wpAny P .any ops Q n l a w := by
  intro n
  induction n with
  | zero =>
    intro l a w hI hs hn
    have hr : Region.ready .any ops l = [] := by
      cases hq : Region.ready .any ops l with
      | nil => rfl
      | cons i rs =>
        obtain ⟨o, ho, hl, _⟩ := ready_spec (show i ∈ Region.ready .any ops l by rw [hq]; simp)
        exfalso
        have hi : i < l.size := by
          rcases Nat.lt_or_ge i l.size with h | h
          · exact h
          · simp [Array.getD, Nat.not_lt.2 h] at hl
        have hm : l[i] ∈ l.toList.filter (fun b => !b) := by
          rw [List.mem_filter]
          refine ⟨by simp, ?_⟩
          simp [Array.getD, hi] at hl
          simp [hl]
        have : 0 < todo l := List.length_pos_of_mem hm
        omega
    exact ⟨hr, done l a w hI hs hr⟩
  | succ n ih =>
    intro l a w hI hs hn
    refine ⟨fun hr => done l a w hI hs hr, fun i hi => ?_⟩
    obtain ⟨o, ho, hl, he⟩ := ready_spec hi
    refine wpOp_mono (fun a' w' hI' => ih _ _ _ hI' (by simpa using hs) ?_) (step l i o a w hI hs ho hl he)
    have hi' : i < l.size := by
      rcases Nat.lt_or_ge i l.size with h | h
      · exact h
      · simp [Array.getD, Nat.not_lt.2 h] at hl
    have hlf : l[i] = false := by simpa [Array.getD, hi'] using hl
    have key : ∀ (xs : List Bool) (j : Nat) (hj : j < xs.length), xs[j] = false → ((xs.set j true).filter (fun b => !b)).length + 1 = (xs.filter (fun b => !b)).length := by
      intro xs
      induction xs with
      | nil => intro j hj; simp at hj
      | cons x xs ih2 =>
        intro j hj hx
        cases j with
        | zero => simp at hx; subst hx; simp
        | succ j =>
          have := ih2 j (by simpa using hj) (by simpa using hx)
          cases x <;> simp at this ⊢ <;> omega
    have h2 := key l.toList i (by simpa using hi') (by simpa using hlf)
    unfold todo at hn ⊢
    have e : (l.setIfInBounds i true).toList = l.toList.set i true := by simp
    rw [e]
    omega
/-- the rule: I at the start; each operation that may come up keeps it; where none may come up, the region is done. -/
theorem wp_region_inv {P : Program} {id : Nat} {ops : Array Oper} {Q : Exit → Act → World → Prop} {a : Act} {w : World} (hm : P.follows .mixedOrders = true) (I : Array Bool → Act → World → Prop)
    (start : I (Array.replicate ops.size false) a w.drew)
    (step : ∀ l i o a w, I l a w → l.size = ops.size → ops[i]? = some o → l.getD i true = false → (∀ e ∈ o.after, Region.binds .any e = true → l.getD e.on false = true) →
      wpOp P ops Q i (fun a' w' => I (l.setIfInBounds i true) a' w') a w)
    (done : ∀ l a w, I l a w → l.size = ops.size → Region.ready .any ops l = [] → Q .normal a w) :
    (Code.region id ops true).wp P Q a w :=
  wp_region_any hm (wpAny_inv I step done ops.size _ a _ start (by simp) (by
    unfold todo
    simp))
end Go.Proofs.YtgaooalckjjplaaGreatDoor

namespace Go.Proofs.YtgaooalckjjplaaGreatDoor
open Go.RowKit

def calm (ops : Array Oper) : Bool := ops.all fun o => match o.op with | .defer _ => false | _ => true
theorem calm_of {ops : Array Oper} (h : calm ops = true) {i : Nat} {o : Oper} (ho : ops[i]? = some o) : ∀ c, o.op ≠ .defer c := by
  intro c e
  have hm := Array.mem_of_getElem? ho
  have := (Array.all_eq_true_iff_forall_mem.1 h) o hm
  simp [e] at this

theorem opIn_round {n l : Nat} {P : Program} {o : Oper} {a : Act} {w : World} {next : Act → World → Prop} {Q : Exit → Act → World → Prop} (h : ∀ c, o.op ≠ .defer c)
    (g : o.wpIn Fence.wide n P a w next Q) : o.wpIn (Fence.wide.inRound l) n P a w next Q := by
  refine ⟨g.1, ?_⟩
  have g2 := g.2
  rw [Oper.semAt_eq _ _ _ h] at g2 ⊢
  generalize (execOp a.eval o).run P w = r at g2 ⊢
  cases r with
  | ok x w' => cases x <;> exact g2
  | halt x w' => cases x <;> exact g2
theorem opsIn_round {n l : Nat} {P : Program} {md : Region.Mode} {ops : Array Oper} {Q : Exit → Act → World → Prop} (h : calm ops = true) : ∀ (fuel : Nat) (listed : Array Bool) (a : Act) (w : World),
    wpAnyIn Fence.wide n P md ops Q fuel listed a w → wpAnyIn (Fence.wide.inRound l) n P md ops Q fuel listed a w
  | 0, _, _, _, g => g
  | fuel + 1, listed, a, w, g => by
    refine ⟨g.1, fun i hi => ?_⟩
    have g2 := g.2 i hi
    unfold wpOpIn at g2 ⊢
    cases ho : ops[i]? with
    | none => rw [ho] at g2; exact opsIn_round h fuel _ _ _ g2
    | some o =>
      rw [ho] at g2
      simp only at g2 ⊢
      split at g2
      · rename_i hw
        rw [if_pos hw]
        exact opIn_round (calm_of h ho) (opIn_mono (fun a w => opsIn_round h fuel _ a w) g2)
      · rename_i hw
        rw [if_neg hw]
        exact ⟨g2.1, opsIn_round h fuel _ _ _ g2.2⟩
where
  opIn_mono {n : Nat} {P : Program} {o : Oper} {a : Act} {w : World} {K K' : Act → World → Prop} {Q : Exit → Act → World → Prop} (h : ∀ a w, K a w → K' a w) (g : o.wpIn Fence.wide n P a w K Q) : o.wpIn Fence.wide n P a w K' Q := by
    refine ⟨g.1, ?_⟩
    have g2 := g.2
    generalize (Oper.semAt Fence.wide.round a.eval o).run P w = r at g2 ⊢
    cases r with
    | ok x w' =>
      cases x with
      | enter f args => exact ⟨g2.1, g2.2.mono fun e w hh => by cases e <;> first | exact h _ _ hh | exact hh⟩
      | row f args => exact ⟨g2.1, fun c cs hr => by obtain ⟨v, w', hv, hs⟩ := g2.2 c cs hr; exact ⟨v, w', h _ _ hv, hs⟩⟩
      | round l f t x y => exact ⟨g2.1, g2.2.mono fun e w hh => by cases e <;> first | exact h _ _ hh | exact hh⟩
      | value v => exact h _ _ g2
      | skip => exact h _ _ g2
      | defer d => exact h _ _ g2
      | _ => exact g2
    | halt x w' => cases x <;> exact g2

end Go.Proofs.YtgaooalckjjplaaGreatDoor

namespace Go.Proofs.YtgaooalckjjplaaGreatDoor
open Go.RowKit

theorem rows_wide {n : Nat} {P : Program} {row : String} {args : Array Value} {w : World} {R : Value → World → Prop} (h : Rows P row args w R) : RowsIn Fence.wide n P row args w R := by
  intro c cs _
  obtain ⟨v, w', r, s⟩ := h c cs
  exact ⟨v, w', r, stepsIn_wide.2 s⟩
theorem oper_wide {n : Nat} {P : Program} {o : Oper} {a : Act} {w : World} {K : Act → World → Prop} {Q : Exit → Act → World → Prop} (h : ∀ c, o.op ≠ .defer c) (g : o.wp P a w K Q) : o.wpIn Fence.wide n P a w K Q := by
  refine ⟨fun _ _ => trivial, ?_⟩
  unfold Oper.wp at g
  rw [Oper.semAt_eq _ _ _ h]
  generalize (execOp a.eval o).run P w = r at g ⊢
  cases r with
  | ok x w' =>
    cases x with
    | enter f args => exact ⟨fun q => by simp [Fence.wide] at q, callsIn_wide.2 g⟩
    | row f args => exact ⟨fun q => by simp [Fence.wide] at q, rows_wide g⟩
    | round l f t x y => exact g.elim
    | value v => exact g
    | skip => exact g
    | defer d => exact g
    | _ => exact g
  | halt x w' => cases x <;> exact g
theorem ops_wide {n : Nat} {P : Program} {md : Region.Mode} {ops : Array Oper} {Q : Exit → Act → World → Prop} (h : calm ops = true) (hno : ¬ LetsOut Q) : ∀ (fuel : Nat) (listed : Array Bool) (a : Act) (w : World),
    wpAny P md ops Q fuel listed a w → wpAnyIn Fence.wide n P md ops Q fuel listed a w
  | 0, _, _, _, g => g
  | fuel + 1, listed, a, w, g => by
    refine ⟨g.1, fun i hi => ?_⟩
    have g2 := g.2 i hi
    unfold wpOpIn
    unfold wpOp at g2
    cases ho : ops[i]? with
    | none => rw [ho] at g2; exact ops_wide h hno fuel _ _ _ g2
    | some o =>
      rw [ho] at g2
      simp only at g2 ⊢
      split at g2
      · rename_i hw
        rw [if_pos hw]
        exact oper_wide (calm_of h ho) (Oper.wp_mono (fun a w => ops_wide h hno fuel _ a w) (g2.resolve_right fun q => hno q.2))
      · rename_i hw
        rw [if_neg hw]
        exact ⟨fun _ _ => trivial, ops_wide h hno fuel _ _ _ g2⟩
theorem wp_region_round {n r : Nat} {P : Program} {id : Nat} {ops : Array Oper} {Q : Exit → Act → World → Prop} {a : Act} {w : World} (hd : calm ops = true) (hno : ¬ LetsOut Q) (hm : P.follows .mixedOrders = true) (h : wpAny P .any ops Q ops.size (Array.replicate ops.size false) a w.drew) :
    (Code.region id ops true).wpIn (Fence.wide.inRound r) n P Q a w :=
  wpIn_region_any hm (opsIn_round hd _ _ _ _ (ops_wide hd hno _ _ _ _ h))
end Go.Proofs.YtgaooalckjjplaaGreatDoor

namespace Go.Proofs.YtgaooalckjjplaaGreatDoor
open Go.RowKit Go.Shelf

def ops29 : Array Oper := #[{ dst := some 106, op := Op.buildSlice 46 0 #[], type := 46, pos := "ref.go:71", after := #[], guard := none }, { dst := some 107, op := Op.fieldAddr 89 (Operand.tmp 9) 2, type := 0, pos := "ref.go:71", after := #[], guard := none }, { dst := some 108, op := Op.load 46 (Operand.tmp 107), type := 46, pos := "ref.go:71", after := #[{ on := 1, ground := Ground.data }], guard := none }, { dst := some 109, op := Op.call { callee := Callee.builtin Builtin.append, args := #[Operand.tmp 106, Operand.tmp 108], argTypes := #[46, 46] }, type := 46, pos := "ref.go:71", after := #[{ on := 0, ground := Ground.data }, { on := 2, ground := Ground.data }], guard := none }, { dst := some 110, op := Op.load 66 (Operand.tmp 13), type := 66, pos := "ref.go:71", after := #[], guard := none }, { dst := some 111, op := Op.buildSlice 46 1 #[(0, Operand.tmp 110)], type := 46, pos := "ref.go:71", after := #[{ on := 4, ground := Ground.data }], guard := none }, { dst := some 112, op := Op.call { callee := Callee.builtin Builtin.append, args := #[Operand.tmp 109, Operand.tmp 111], argTypes := #[46, 46] }, type := 46, pos := "ref.go:71", after := #[{ on := 3, ground := Ground.data }, { on := 5, ground := Ground.data }, { on := 3, ground := Ground.chain }], guard := none }, { dst := some 113, op := Op.fieldAddr 89 (Operand.tmp 9) 2, type := 0, pos := "ref.go:71", after := #[{ on := 0, ground := Ground.phase }, { on := 1, ground := Ground.phase }, { on := 2, ground := Ground.phase }, { on := 3, ground := Ground.phase }, { on := 4, ground := Ground.phase }, { on := 5, ground := Ground.phase }, { on := 6, ground := Ground.phase }], guard := none }, { dst := none, op := Op.store 46 (Operand.tmp 113) (Operand.tmp 112), type := 0, pos := "ref.go:71", after := #[{ on := 7, ground := Ground.data }, { on := 6, ground := Ground.data }, { on := 6, ground := Ground.chain }, { on := 0, ground := Ground.phase }, { on := 1, ground := Ground.phase }, { on := 2, ground := Ground.phase }, { on := 3, ground := Ground.phase }, { on := 4, ground := Ground.phase }, { on := 5, ground := Ground.phase }, { on := 6, ground := Ground.phase }], guard := none }]
theorem done29 : ∀ b0 b1 b2 b3 b4 b5 b6 b7 b8 : Bool, Region.ready .any ops29 #[b0, b1, b2, b3, b4, b5, b6, b7, b8] = [] → b8 = true := by decide +kernel
theorem ev29 {a : Act} {i : Nat} {v : Value} (h : a.tmps[i]? = some v) : a.eval (.tmp i) = v := by
  show a.tmps.getD i undef = v
  rw [Array.getD_eq_getD_getElem?, h]; rfl
theorem put29 {a : Act} {d : Nat} {v : Value} (hd : d < a.tmps.size) (j : Nat) : (a.put (some d) v).tmps[j]? = if j = d then some v else a.tmps[j]? := by
  show (a.tmps.setIfInBounds d v)[j]? = _
  rw [Array.getElem?_setIfInBounds]
  by_cases h : d = j
  · subst h; simp [hd]
  · rw [if_neg h, if_neg (Ne.symm h)]
theorem size29 (a : Act) (d : Nat) (v : Value) : (a.put (some d) v).tmps.size = a.tmps.size := by show (a.tmps.setIfInBounds d v).size = _; simp
set_option maxHeartbeats 1000000 in
theorem go_lit0 {o : Oper} {a : Act} {w : World} {K : Act → World → Prop} {Q : Exit → Act → World → Prop} (ho : o.op = Op.buildSlice 46 0 #[]) (hK : K (a.put o.dst (.slice (some ⟨w.heap.size, 0, none⟩) 0 0)) (w.alloc (.cells #[] 66))) : Oper.wp Tryz.prog o a w K Q := by
  unfold Oper.wp
  have e : (execOp a.eval o).run Tryz.prog w = .ok (.value (.slice (some ⟨w.heap.size, 0, none⟩) 0 0)) (w.alloc (.cells #[] 66)) := by
    simp only [execOp, ho]
    kernel_rfl
  rw [e]; exact hK
set_option maxHeartbeats 1000000 in
theorem go_lit1 {o : Oper} {a : Act} {w : World} {K : Act → World → Prop} {Q : Exit → Act → World → Prop} {x : Operand} {s t : ByteArray} (ho : o.op = Op.buildSlice 46 1 #[(0, x)]) (hx : a.eval x = .agg #[.string s, .string t]) (hK : K (a.put o.dst (.slice (some ⟨w.heap.size, 0, none⟩) 1 1)) (w.alloc (.cells #[.string s, .string t] 66))) : Oper.wp Tryz.prog o a w K Q := by
  unfold Oper.wp
  have e : (execOp a.eval o).run Tryz.prog w = .ok (.value (.slice (some ⟨w.heap.size, 0, none⟩) 1 1)) (w.alloc (.cells #[.string s, .string t] 66)) := by
    simp only [execOp, ho]
    rw [show (Array.map (fun (p : Nat × Operand) => match p with | (i, x) => (i, a.eval x)) #[((0 : Nat), x)]) = #[((0 : Nat), Value.agg #[.string s, .string t])] from by rw [← hx]; simp]
    kernel_rfl
  rw [e]; exact hK
set_option maxHeartbeats 1000000 in
theorem go_faddr {o : Oper} {a : Act} {w : World} {K : Act → World → Prop} {Q : Exit → Act → World → Prop} {x : Operand} {b : Nat} (ho : o.op = Op.fieldAddr 89 x 2) (hx : a.eval x = .pointer (some ⟨b, 0, none⟩)) (hK : K (a.put o.dst (.pointer (some ⟨b, 2, none⟩))) w) : Oper.wp Tryz.prog o a w K Q := by
  unfold Oper.wp
  have e : (execOp a.eval o).run Tryz.prog w = .ok (.value (.pointer (some ⟨b, 2, none⟩))) w := by
    simp only [execOp, ho, hx]
    simp [go_sem, Result.andThen]
  rw [e]; exact hK
set_option maxHeartbeats 1000000 in
theorem go_load1 {o : Oper} {a : Act} {w : World} {K : Act → World → Prop} {Q : Exit → Act → World → Prop} {x : Operand} {p : Addr} {v : Value} (ho : o.op = Op.load 46 x) (hx : a.eval x = .pointer (some p)) (hc : w.cell? p = some v) (hK : K (a.put o.dst v) w) : Oper.wp Tryz.prog o a w K Q := by
  unfold Oper.wp
  have e : (execOp a.eval o).run Tryz.prog w = .ok (.value v) w := by
    simp only [execOp, ho, hx]
    simp [go_sem, Result.andThen, hc]
  rw [e]; exact hK
set_option maxHeartbeats 1000000 in
theorem go_load2 {o : Oper} {a : Act} {w : World} {K : Act → World → Prop} {Q : Exit → Act → World → Prop} {x : Operand} {b : Nat} {u v : Value} (ho : o.op = Op.load 66 x) (hx : a.eval x = .pointer (some ⟨b, 0, none⟩)) (hc : w.cell? ⟨b, 0, none⟩ = some u) (hd : w.cell? ⟨b, 1, none⟩ = some v) (hK : K (a.put o.dst (.agg #[u, v])) w) : Oper.wp Tryz.prog o a w K Q := by
  unfold Oper.wp
  have e : (execOp a.eval o).run Tryz.prog w = .ok (.value (.agg #[u, v])) w := by
    simp only [execOp, ho, hx]
    simp [go_sem, Result.andThen, hc, hd]
  rw [e]; exact hK
set_option maxHeartbeats 1000000 in
theorem go_store1 {o : Oper} {a : Act} {w : World} {K : Act → World → Prop} {Q : Exit → Act → World → Prop} {x y : Operand} {p : Addr} {u : Value} {g : Option Addr} {n c : Nat} (ho : o.op = Op.store 46 x y) (hx : a.eval x = .pointer (some p)) (hy : a.eval y = .slice g n c) (hc : w.cell? p = some u) (hf : w.frozen? p = false) (hK : K (a.put o.dst undef) (w.setCell p (.slice g n c))) : Oper.wp Tryz.prog o a w K Q := by
  unfold Oper.wp
  have e : (execOp a.eval o).run Tryz.prog w = .ok .skip (w.setCell p (.slice g n c)) := by
    simp only [execOp, ho, hx, hy]
    simp [go_sem, Result.andThen, hc, hf]
  rw [e]; exact hK
end Go.Proofs.YtgaooalckjjplaaGreatDoor

