/- A good field's lines. -/
import Derived.Test.YtngngamfceoklaaDoorFF
namespace Go.Proofs.YtngngamfceoklaaDoor
open Go.RowKit Go.Shelf

attribute [local go_sem] errV_0
theorem first_still (k l : List UInt8) (hk : k.length ≤ 100000) (hl : l.length ≤ 100000) (w : World) :
    Calls Tryd.prog 54 #[.string (B k), .string (B l)] w fun e w' => e = .returned (.string (B (firstL k l))) ∧ w' = w :=
  (first_any k l hk hl w).mono fun e w' ⟨a, b⟩ => ⟨a, b.symm⟩
theorem infoStr : (Tryd.prog.info? 9).map (fun i => (i.zero, i.size, i.bytes)) = some (some (.string ⟨#[]⟩), 1, 16) := by kernel_rfl
set_option maxRecDepth 100000 in
set_option maxHeartbeats 2000000 in
theorem lines_own (k v : List UInt8) (hk : k.length ≤ 100000) (hv : v.length ≤ 100000) (w : World) (h : checkN k v = 0) :
    Calls Tryd.prog 38 #[fieldV k v] w fun e w' => ∃ sv base, e = .returned (.tuple #[sv, .nilIface]) ∧ OwnS w' base sv ((linesL k v).map B) ∧ Below w.heap.size w w' := by
  have C := fun w => check_any k v (by omega) (by omega) w
  rw [h] at C
  clear h
  obtain ⟨p, r, hp⟩ : ∃ p r, partsL v = p :: r := ⟨_, _, partsL_cons v⟩
  have SP := fun w => split_any' v (by omega) w
  rw [hp] at SP
  obtain ⟨z1, z2, z3⟩ := piece_le hp
  have HL := Lib.hid (linesLen (k := k) hp)
  clear hp
  have F1 := fun w => first_still k p (by omega) (by omega) w
  unfold fieldV at *
  generalize hfl : firstL k p = fl at *
  have HF := Lib.hid hfl
  clear hfl
  generalize B k = s at *
  generalize B v = t at *
  obtain ⟨i0, hi, hz0, hz1, hz2⟩ := info_parts infoStr
  go_enter Tryd.func38, Tryd.ntmps38
  go_wp2_with fail
  refine (C _).mono ?_
  rintro e w1 ⟨rfl, b1⟩
  have c0 := b1.cell (p := ⟨w.heap.size, 0, none⟩) (by simp)
  have c1 := b1.cell (p := ⟨w.heap.size, 1, none⟩) (by simp)
  have hs1 := b1.size
  go_wp2_with fail
  refine (SP _).mono ?_
  rintro e w2 ⟨rfl, hw2⟩
  have q0 : w2.cell? ⟨w.heap.size, 0, none⟩ = some (.string s) := by
    rw [hw2, World.cell?_alloc_old _ _ _ (Nat.ne_of_lt (show w.heap.size < w1.heap.size by have := hs1; simp at this; omega)), c0, World.cell?_alloc_at _ _ _ _ rfl]; rfl
  have PC : ∀ (j : Nat) x, (p :: r)[j]? = some x → w2.cell? ⟨w1.heap.size, j, none⟩ = some (.string (B x)) := by
    intro j x hx
    rw [hw2, World.cell?_alloc_at _ _ _ _ rfl]
    simp only [List.map_map, List.getElem?_toArray, List.getElem?_map, hx]; rfl
  have hb12 : Below w.heap.size w w2 := by
    rw [hw2]
    exact (((Below.refl _ _).alloc (Nat.le_refl _) _).trans (b1.mono (by simp))).alloc (by simp at hs1; omega) _
  have hlt : w1.heap.size < w2.heap.size := by rw [hw2]; simp
  have e0 := PC 0 p rfl
  have hz9 : w.heap.size < w1.heap.size := by simp at hs1; omega
  have BW := Lib.hid hb12
  have PCH := Lib.hid (fun (j : Nat) x (hx : r[j]? = some x) => PC (j + 1) x (by simpa using hx))
  clear hw2 c0 c1 b1 hs1 PC hb12
  generalize w1.heap.size = b0 at *
  clear w1
  rw [List.length_cons]
  go_wp2_with fail
  refine wp_region_still_tail 6 (by kernel_rfl) (by kernel_rfl) ?_
  simp only [List.take_succ_cons, List.take_zero, List.drop_succ_cons, List.drop_zero]
  still_step
  still_step
  still_step
  still_step
  still_step
  still_call (F1 _)
  refine wpStill_nil ?_
  change wpList _ _ _ _ _ w2.drew
  replace hlt : b0 < w2.drew.heap.size := hlt
  replace BW : Hid (Below w.heap.size w w2.drew) := BW.out.drew
  replace PCH : Hid (∀ (j : Nat) x, r[j]? = some x → w2.drew.cell? ⟨b0, j + 1, none⟩ = some (.string (B x))) := PCH
  clear q0 e0 SP C F1
  generalize w2.drew = w3 at *
  have hw3 := BW.out.size
  go_wp2_with fail
  · subst h
    go_loopw [6, 27] (fun v6 i wr => i = .int .i64 0 ∧ OwnS wr w3.heap.size v6 [B fl] ∧ Below w3.heap.size w3 wr) (fun _ i _ => 0)
    case atStart => exact ⟨rfl, OwnS.one w3 _ (Nat.le_refl _) _, (Below.refl _ _).alloc (Nat.le_refl _) _⟩
    case round =>
      obtain ⟨rfl, hown, hb⟩ := hrel
      go_wp2_with fail
      go_ret2
      exact ⟨_, _, rfl, by rw [HL.out]; exact hown, BW.out.trans (hb.mono hw3)⟩
  · go_loopw [6, 27] (fun v6 i wr => ∃ (k : Nat), k ≤ r.length ∧ i = .int .i64 k ∧ OwnS wr w3.heap.size v6 ((fl :: (r.take k).map furtherL).map B) ∧ Below w3.heap.size w3 wr) (fun _ i _ => r.length - (intOf i).toNat)
    case atStart => exact ⟨0, Nat.zero_le _, rfl, OwnS.one w3 _ (Nat.le_refl _) _, (Below.refl _ _).alloc (Nat.le_refl _) _⟩
    case round =>
      obtain ⟨k, hkr, rfl, hown, hb⟩ := hrel
      by_cases hkl : k < r.length
      · obtain ⟨x, hx⟩ : ∃ x, r[k]? = some x := ⟨_, List.getElem?_eq_getElem hkl⟩
        have hcx := PCH.out k x hx
        have hcx2 := (hb.cell (p := ⟨b0, k + 1, none⟩) hlt).trans hcx
        rw [Nat.add_comm k 1] at hcx2
        have hxl := z2 x (List.mem_of_getElem? hx)
        have TK : Hid ((fl :: (r.take (k + 1)).map furtherL).map B = (fl :: (r.take k).map furtherL).map B ++ [B (furtherL x)]) := by
          show _ = _
          rw [List.take_add_one, hx]; simp
        have FT := fun w => further_any x (by omega) w
        have hll : ((fl :: (r.take k).map furtherL).map B).length = k + 1 := by simp; omega
        have HLL := Lib.hid hll
        clear hx hcx
        generalize (fl :: (r.take k).map furtherL).map B = ls at *
        go_wp2_with fail
        refine (FT _).mono ?_
        rintro e w4 ⟨rfl, b4⟩
        have hown4 : w4.ownsRow w3.heap.size 9 1 u6 ls.length (ls.map Value.string) := hown.kept b4 (Nat.le_refl _)
        have hs4 := b4.size
        have hs3 := hb.size
        have HC := Lib.hid (strCell w4 (B (furtherL x)) 9)
        have hb4 : Below w3.heap.size w3 w4 := hb.trans (b4.mono hs3)
        clear hown b4
        generalize furtherL x = y at *
        go_wp2_with (at_builtin; refine wpList_append_own _ rfl _ _ 53 rfl w3.heap.size 9 i0 _ 1 16 Tryd.underlying53 hi hz0 hz1 hz2 rfl (by decide) _ _ _ rfl (hown4.alloc _) ⟨w4.heap.size, 0, none⟩ 1 1 _ rfl rfl HC.out ?c2 ?c3 ?c4 ?c5 ?_)
        case c2 => intro u hu; simp at hu; subst hu; rfl
        case c3 => unfold maxLen; omega
        case c4 => omega
        case c5 => simp; omega
        intro v' w5 hown' hgrow _
        obtain ⟨g', cap', rfl⟩ := ownsRow_succ hown'
        have hb5 : Below w3.heap.size w3 w5 := (hb4.alloc (by omega) _).grown hgrow (by simp; omega) (fun j ej => (hown4.lt j ej).1)
        go_wp2_with fail
        go_roundw
        case rel =>
          refine ⟨k + 1, hkl, by go_num, ?_, hb5⟩
          rw [TK.out]
          unfold OwnS
          rw [List.length_append, List.map_append, HLL.out]; exact hown'
        case measure => simp [intOf]; omega
      · obtain rfl : k = r.length := by omega
        rw [List.take_length] at hown
        go_wp2_with fail
        go_ret2
        exact ⟨_, _, rfl, by rw [HL.out]; exact hown, BW.out.trans (hb.mono hw3)⟩
theorem lines_good (k v : List UInt8) (hk : k.length ≤ 100000) (hv : v.length ≤ 100000) (w : World) (h : checkN k v = 0) :
    Calls Tryd.prog 38 #[fieldV k v] w fun e w' => ∃ sv, e = .returned (.tuple #[sv, .nilIface]) ∧ Strs w' sv ((linesL k v).map B) ∧ Below w.heap.size w w' :=
  (lines_own k v hk hv w h).mono fun e w' ⟨sv, base, a, b, c⟩ => ⟨sv, a, b.strs, c⟩
end Go.Proofs.YtngngamfceoklaaDoor
