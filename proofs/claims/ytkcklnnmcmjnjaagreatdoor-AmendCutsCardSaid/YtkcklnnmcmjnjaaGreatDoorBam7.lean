/- Texts put together: FG, FH, FI, FJ, PF. -/
import Derived.Laws.ResultCell
import Derived.Laws.Rows
import Derived.Test.YtkcklnnmcmjnjaaGreatDoorBam3
import Derived.Test.YtkcklnnmcmjnjaaGreatDoorBam6
set_option linter.unusedVariables false
namespace Go.Proofs.YtkcklnnmcmjnjaaGreatDoor
open Go.RowKit Go.Shelf

attribute [local go_sem] errV_0
theorem first_still (k l : List UInt8) (hk : k.length ≤ 100000) (hl : l.length ≤ 100000) (w : World) :
    Calls Tryz.prog 142 #[.string (B k), .string (B l)] w fun e w' => e = .returned (.string (B (firstL k l))) ∧ w' = w :=
  (first_any k l hk hl w).mono fun e w' ⟨a, b⟩ => ⟨a, b.symm⟩
theorem infoStr : (Tryz.prog.info? 9).map (fun i => (i.zero, i.size, i.bytes)) = some (some (.string ⟨#[]⟩), 1, 16) := by kernel_rfl
set_option maxRecDepth 100000 in
set_option maxHeartbeats 2000000 in
theorem lines_own (k v : List UInt8) (hk : k.length ≤ 100000) (hv : v.length ≤ 100000) (w : World) (h : checkN k v = 0) :
    Calls Tryz.prog 105 #[fieldV k v] w fun e w' => ∃ sv base, e = .returned (.tuple #[sv, .nilIface]) ∧ OwnS w' base sv ((linesL k v).map B) ∧ Below w.heap.size w w' := by
  have C := fun w => check_any k v (by omega) (by omega) w
  rw [h] at C
  clear h
  obtain ⟨p, r, hp⟩ : ∃ p r, partsL v = p :: r := ⟨_, _, partsL_cons v⟩
  have SP := fun w => split_any' v (by omega) w
  rw [hp] at SP
  obtain ⟨z1, z2, z3⟩ := piece_le hp
  have HL := Lib.hid (linesLen (k := k) hp)
  clear hp
  have F1 := fun w => first_still k p (by omega) (by omega) w
  unfold fieldV at *
  generalize hfl : firstL k p = fl at *
  have HF := Lib.hid hfl
  clear hfl
  generalize B k = s at *
  generalize B v = t at *
  obtain ⟨i0, hi, hz0, hz1, hz2⟩ := info_parts infoStr
  go_enter Tryz.func105, Tryz.ntmps105
  go_wp2_with fail
  refine (C _).mono ?_
  rintro e w1 ⟨rfl, b1⟩
  have c0 := b1.cell (p := ⟨w.heap.size, 0, none⟩) (by simp)
  have c1 := b1.cell (p := ⟨w.heap.size, 1, none⟩) (by simp)
  have hs1 := b1.size
  go_wp2_with fail
  refine (SP _).mono ?_
  rintro e w2 ⟨rfl, hw2⟩
  have q0 : w2.cell? ⟨w.heap.size, 0, none⟩ = some (.string s) := by
    rw [hw2, World.cell?_alloc_old _ _ _ (Nat.ne_of_lt (show w.heap.size < w1.heap.size by have := hs1; simp at this; omega)), c0, World.cell?_alloc_at _ _ _ _ rfl]; rfl
  have PC : ∀ (j : Nat) x, (p :: r)[j]? = some x → w2.cell? ⟨w1.heap.size, j, none⟩ = some (.string (B x)) := by
    intro j x hx
    rw [hw2, World.cell?_alloc_at _ _ _ _ rfl]
    simp only [List.map_map, List.getElem?_toArray, List.getElem?_map, hx]; rfl
  have hb12 : Below w.heap.size w w2 := by
    rw [hw2]
    exact (((Below.refl _ _).alloc (Nat.le_refl _) _).trans (b1.mono (by simp))).alloc (by simp at hs1; omega) _
  have hlt : w1.heap.size < w2.heap.size := by rw [hw2]; simp
  have e0 := PC 0 p rfl
  have hz9 : w.heap.size < w1.heap.size := by simp at hs1; omega
  have BW := Lib.hid hb12
  have PCH := Lib.hid (fun (j : Nat) x (hx : r[j]? = some x) => PC (j + 1) x (by simpa using hx))
  clear hw2 c0 c1 b1 hs1 PC hb12
  generalize w1.heap.size = b0 at *
  clear w1
  rw [List.length_cons]
  go_wp2_with fail
  refine wp_region_still_tail 6 (by kernel_rfl) (by kernel_rfl) ?_
  simp only [List.take_succ_cons, List.take_zero, List.drop_succ_cons, List.drop_zero]
  still_step
  still_step
  still_step
  still_step
  still_step
  still_call (F1 _)
  refine wpStill_nil ?_
  change wpList _ _ _ _ _ w2.drew
  replace hlt : b0 < w2.drew.heap.size := hlt
  replace BW : Hid (Below w.heap.size w w2.drew) := BW.out.drew
  replace PCH : Hid (∀ (j : Nat) x, r[j]? = some x → w2.drew.cell? ⟨b0, j + 1, none⟩ = some (.string (B x))) := PCH
  clear q0 e0 SP C F1
  generalize w2.drew = w3 at *
  have hw3 := BW.out.size
  go_wp2_with fail
  · subst h
    go_loopw [6, 27] (fun v6 i wr => i = .int .i64 0 ∧ OwnS wr w3.heap.size v6 [B fl] ∧ Below w3.heap.size w3 wr) (fun _ i _ => 0)
    case atStart => exact ⟨rfl, OwnS.one w3 _ (Nat.le_refl _) _, (Below.refl _ _).alloc (Nat.le_refl _) _⟩
    case round =>
      obtain ⟨rfl, hown, hb⟩ := hrel
      go_wp2_with fail
      go_ret2
      exact ⟨_, _, rfl, by rw [HL.out]; exact hown, BW.out.trans (hb.mono hw3)⟩
  · go_loopw [6, 27] (fun v6 i wr => ∃ (k : Nat), k ≤ r.length ∧ i = .int .i64 k ∧ OwnS wr w3.heap.size v6 ((fl :: (r.take k).map furtherL).map B) ∧ Below w3.heap.size w3 wr) (fun _ i _ => r.length - (intOf i).toNat)
    case atStart => exact ⟨0, Nat.zero_le _, rfl, OwnS.one w3 _ (Nat.le_refl _) _, (Below.refl _ _).alloc (Nat.le_refl _) _⟩
    case round =>
      obtain ⟨k, hkr, rfl, hown, hb⟩ := hrel
      by_cases hkl : k < r.length
      · obtain ⟨x, hx⟩ : ∃ x, r[k]? = some x := ⟨_, List.getElem?_eq_getElem hkl⟩
        have hcx := PCH.out k x hx
        have hcx2 := (hb.cell (p := ⟨b0, k + 1, none⟩) hlt).trans hcx
        rw [Nat.add_comm k 1] at hcx2
        have hxl := z2 x (List.mem_of_getElem? hx)
        have TK : Hid ((fl :: (r.take (k + 1)).map furtherL).map B = (fl :: (r.take k).map furtherL).map B ++ [B (furtherL x)]) := by
          show _ = _
          rw [List.take_add_one, hx]; simp
        have FT := fun w => further_any x (by omega) w
        have hll : ((fl :: (r.take k).map furtherL).map B).length = k + 1 := by simp; omega
        have HLL := Lib.hid hll
        clear hx hcx
        generalize (fl :: (r.take k).map furtherL).map B = ls at *
        go_wp2_with fail
        refine (FT _).mono ?_
        rintro e w4 ⟨rfl, b4⟩
        have hown4 : w4.ownsRow w3.heap.size 9 1 u6 ls.length (ls.map Value.string) := hown.kept b4 (Nat.le_refl _)
        have hs4 := b4.size
        have hs3 := hb.size
        have HC := Lib.hid (strCell w4 (B (furtherL x)) 9)
        have hb4 : Below w3.heap.size w3 w4 := hb.trans (b4.mono hs3)
        clear hown b4
        generalize furtherL x = y at *
        go_wp2_with (at_builtin; refine wpList_append_own _ rfl _ _ 132 rfl w3.heap.size 9 i0 _ 1 16 Tryz.underlying132 hi hz0 hz1 hz2 rfl (by decide) _ _ _ rfl (hown4.alloc _) ⟨w4.heap.size, 0, none⟩ 1 1 _ rfl rfl HC.out ?c2 ?c3 ?c4 ?c5 ?_)
        case c2 => intro u hu; simp at hu; subst hu; rfl
        case c3 => unfold maxLen; omega
        case c4 => omega
        case c5 => simp; omega
        intro v' w5 hown' hgrow _
        obtain ⟨g', cap', rfl⟩ := ownsRow_succ hown'
        have hb5 : Below w3.heap.size w3 w5 := (hb4.alloc (by omega) _).grown hgrow (by simp; omega) (fun j ej => (hown4.lt j ej).1)
        go_wp2_with fail
        go_roundw
        case rel =>
          refine ⟨k + 1, hkl, by go_num, ?_, hb5⟩
          rw [TK.out]
          unfold OwnS
          rw [List.length_append, List.map_append, HLL.out]; exact hown'
        case measure => simp [intOf]; omega
      · obtain rfl : k = r.length := by omega
        rw [List.take_length] at hown
        go_wp2_with fail
        go_ret2
        exact ⟨_, _, rfl, by rw [HL.out]; exact hown, BW.out.trans (hb.mono hw3)⟩
end Go.Proofs.YtkcklnnmcmjnjaaGreatDoor

namespace Go.Proofs.YtkcklnnmcmjnjaaGreatDoor
open Go.RowKit Go.Shelf

def sayG (want : Nat) : List (List UInt8) → Bool
  | [] => true
  | a :: r => (kindL a == want) && sayG 3 r
theorem sayG_all : ∀ r : List (List UInt8), sayG 3 r = r.all (fun l => kindL l == 3)
  | [] => rfl
  | a :: r => by unfold sayG; rw [sayG_all r, List.all_cons]
theorem sayF_eq (ls : List (List UInt8)) : sayF ls = (decide (0 < ls.length) && sayG 4 ls) := by
  cases ls with
  | nil => rfl
  | cons a r => unfold sayF sayG; rw [sayG_all]; simp
theorem sayG_drop (ls : List (List UInt8)) (k want : Nat) (x : List UInt8) (h : ls[k]? = some x) : sayG want (ls.drop k) = ((kindL x == want) && sayG 3 (ls.drop (k + 1))) := by
  have hk : k < ls.length := by
    rcases Nat.lt_or_ge k ls.length with q | q
    · exact q
    · rw [List.getElem?_eq_none q] at h; cases h
  rw [List.drop_eq_getElem_cons hk]
  rw [List.getElem?_eq_getElem hk] at h
  rw [Option.some.inj h]; rfl
theorem kindL_le (l : List UInt8) : kindL l ≤ 5 := by
  unfold kindL
  split; · decide
  split; · decide
  split; · decide
  split; · decide
  split <;> decide
theorem cellB {w : World} {A : Option Addr} {ls : List (List UInt8)} (hc : ∀ (i : Nat) (s : ByteArray), (ls.map B)[i]? = some s → ∃ b off, A = some ⟨b, off, none⟩ ∧ b < w.heap.size ∧ w.cell? ⟨b, off + i, none⟩ = some (.string s)) :
    ∀ (i : Nat) (x : List UInt8), ls[i]? = some x → ∃ b off, A = some ⟨b, off, none⟩ ∧ b < w.heap.size ∧ w.cell? ⟨b, off + i, none⟩ = some (.string (B x)) :=
  fun i x hx => hc i (B x) (by rw [List.getElem?_map, hx]; rfl)

set_option maxHeartbeats 1000000 in
theorem say_any (ls : List (List UInt8)) (v : Value) (w : World) (hs : Strs w v (ls.map B)) (hl : ∀ l ∈ ls, l.length ≤ 100000) (hn : ls.length ≤ 100000) :
    Calls Tryz.prog 188 #[v] w fun e w' => e = .returned (.bool (sayF ls)) ∧ Below w.heap.size w w' := by
  obtain ⟨A, cap, rfl, hle, hc⟩ := hs
  have hcb := cellB hc
  have PC := Lib.hid hcb
  have HF := Lib.hid (sayF_eq ls)
  clear hc hcb
  rw [List.length_map]
  go_enter Tryz.func188, Tryz.ntmps188
  go_wp2_with fail
  go_loopw [3, 8] (fun v3 i wr => ∃ k want : Nat, k ≤ ls.length ∧ want ≤ 5 ∧ i = .int .i64 k ∧ v3 = .int .i64 want ∧ sayG 4 ls = sayG want (ls.drop k) ∧ Below w.heap.size w wr) (fun _ i _ => ls.length - (intOf i).toNat)
  case atStart => exact ⟨0, 4, Nat.zero_le _, by decide, rfl, rfl, rfl, Below.refl _ _⟩
  case round =>
    obtain ⟨k, want, hk, hwt, rfl, rfl, hG, hb⟩ := hrel
    by_cases hlt : k < ls.length
    · obtain ⟨x, hx⟩ : ∃ x, ls[k]? = some x := ⟨_, List.getElem?_eq_getElem hlt⟩
      obtain ⟨b, off, rfl, hbb, hcell⟩ := PC.out k x hx
      have hcx := (hb.cell (p := ⟨b, off + k, none⟩) hbb).trans hcell
      have hxl := hl x (List.mem_of_getElem? hx)
      have KX := fun w => kind_any (B x) (by rw [B_size]; unfold maxLen; omega) w
      rw [B_data] at KX
      rw [sayG_drop ls k want x hx] at hG
      have GH := Lib.hid hG
      have hk5 := kindL_le x
      clear hx hcell hG
      generalize kindL x = kx at *
      go_wp2_with fail
      refine (KX _).mono ?_
      rintro e w1 ⟨rfl, b1⟩
      by_cases hkx : kx = want
      · subst hkx
        go_wp2_with fail
        go_roundw
        case rel => exact ⟨k + 1, 3, hlt, by decide, by go_num, rfl, by rw [GH.out]; simp, hb.trans (b1.mono hb.size)⟩
        case measure => simp [intOf]; omega
      · have e1 : ((kx : Int) == (want : Int)) = false := by rw [beq_eq_false_iff_ne]; omega
        have e2 : ((kx : Int) != (want : Int)) = true := by rw [bne, e1]; rfl
        have e3 : (kx == want) = false := by rw [beq_eq_false_iff_ne]; exact hkx
        rw [e3] at GH
        clear hkx e3
        go_wp2_with fail
        go_ret
        exact ⟨by rw [HF.out, GH.out]; simp, hb.trans (b1.mono hb.size)⟩
    · obtain rfl : k = ls.length := by omega
      rw [List.drop_length] at hG
      have GH := Lib.hid hG
      clear hG
      go_wp2_with fail
      go_ret
      exact ⟨by rw [HF.out, GH.out]; simp [sayG], hb⟩
theorem trim_sp (l : List UInt8) (w : World) :
    Calls Tryz.prog 147 #[.string (B l), .string ⟨#[32]⟩] w fun e w' => e = .returned (.string (B (dropSp l))) ∧ w = w' := by
  refine (Tryz.strings_TrimPrefix (B l) ⟨#[32]⟩ _).mono ?_
  rintro e w' ⟨rfl, rfl⟩
  refine ⟨?_, rfl⟩
  rw [B_data, show (⟨#[32]⟩ : ByteArray).data.toList = [32] from rfl]
  unfold Lib.trimPrefix Lib.hasPrefix dropSp B
  cases l with
  | nil => rfl
  | cons a t =>
    by_cases h : a = 32
    · subst h; simp [List.isPrefixOf]
    · have h2 : ((32 : UInt8) == a) = false := by rw [beq_eq_false_iff_ne]; exact Ne.symm h
      simp [List.isPrefixOf, h2, h]
theorem trim_dot (l : List UInt8) (w : World) :
    Calls Tryz.prog 147 #[.string (B l), .string ⟨#[46]⟩] w fun e w' => e = .returned (.string (B (dropDot l))) ∧ w = w' := by
  refine (Tryz.strings_TrimPrefix (B l) ⟨#[46]⟩ _).mono ?_
  rintro e w' ⟨rfl, rfl⟩
  refine ⟨?_, rfl⟩
  rw [B_data, show (⟨#[46]⟩ : ByteArray).data.toList = [46] from rfl]
  unfold Lib.trimPrefix Lib.hasPrefix dropDot B
  cases l with
  | nil => rfl
  | cons a t =>
    by_cases h : a = 46
    · subst h; simp [List.isPrefixOf]
    · have h2 : ((46 : UInt8) == a) = false := by rw [beq_eq_false_iff_ne]; exact Ne.symm h
      simp [List.isPrefixOf, h2, h]
theorem joinNl_eq : ∀ ls : List (List UInt8), Lib.join ls [10] = joinNl ls
  | [] => rfl
  | [p] => by simp [Lib.join, List.intercalate, joinNl]
  | p :: q :: r => by
    have ih := joinNl_eq (q :: r)
    unfold Lib.join at ih ⊢
    show _ = p ++ 10 :: joinNl (q :: r)
    rw [← ih]
    simp [List.intercalate, List.intersperse]
theorem pre_B (a : List UInt8) : preS (B a) = B (before a) := by
  rw [← B_of (preS (B a)), preS_data, B_data]
theorem post_B (a : List UInt8) : postS (B a) = B (afterC a) := by
  rw [← B_of (postS (B a))]
  unfold postS afterC
  rw [Lib.extract_to_end, B_data]
theorem kind3 {x : List UInt8} (h : kindL x = 3) : ∃ c d t, x = c :: d :: t := by
  unfold kindL at h
  split at h; · cases h
  split at h; · cases h
  rename_i hb
  split at h; · cases h
  split at h
  · rename_i hg
    cases x with
    | nil => cases hg
    | cons c t =>
      cases t with
      | nil =>
        exfalso; apply hb
        have : blankB c = true := hg
        simp [blankAll, this]
      | cons d t => exact ⟨c, d, t, rfl⟩
  · split at h <;> cases h
theorem tail_B (c : UInt8) (t : List UInt8) : (B (c :: t)).extract 1 (B (c :: t)).size = B t := by
  rw [← B_of ((B (c :: t)).extract 1 _), Lib.extract_to_end, B_data]; rfl
end Go.Proofs.YtkcklnnmcmjnjaaGreatDoor

namespace Go.Proofs.YtkcklnnmcmjnjaaGreatDoor
open Go.RowKit Go.Shelf

theorem results_cell1 {fn : Func} {p : Tmp} {ty : TypeId} (h : fn.results = #[.cell p ty]) (tmps : Array Value) (P : Program) (w : World) :
    (results fn tmps).run P w = ((asAddr (tmps.getD p undef)).run P w).andThen fun a w₁ => (loadVar ty a).run P w₁ := by
  simp only [results, h]
  simp [Sem.run_bind, Result.andThen]
set_option maxRecDepth 100000 in
theorem ret_f1 {fn : Func} {p : Tmp} (h : fn.results = #[.cell p 35]) (tmps : Array Value) (w : World) (b : Nat) (cur : Array Value) (hp : tmps.getD p undef = .pointer (some ⟨b, 0, none⟩))
    (hc : Cells w b 35 cur) (hz : cur.size = 2) : (results fn tmps).run Tryz.prog w = .ok (.agg cur) w := by
  have L := run_loadVar_row (P := Tryz.prog) w b 35 35 cur (0, 0) _ hc Tryz.underlying35 rfl (by rw [hz]; kernel_rfl)
  rw [results_cell1 h, hp]
  show (loadVar _ _).run _ _ = _
  exact L
set_option maxRecDepth 100000 in
theorem ret_f2 {fn : Func} {p u : Tmp} (h : fn.results = #[.cell p 35, .tmp u]) (tmps : Array Value) (w : World) (b : Nat) (cur : Array Value) (hp : tmps.getD p undef = .pointer (some ⟨b, 0, none⟩))
    (hc : Cells w b 35 cur) (hz : cur.size = 2) : (results fn tmps).run Tryz.prog w = .ok (.tuple #[.agg cur, tmps.getD u undef]) w := by
  have L := run_loadVar_row (P := Tryz.prog) w b 35 35 cur (0, 0) _ hc Tryz.underlying35 rfl (by rw [hz]; kernel_rfl)
  rw [results_cell_tmp h, hp]
  show ((loadVar _ _).run _ _).andThen _ = _
  rw [L]; rfl
theorem cells_kept {w w' : World} {b N : Nat} {t : TypeId} {cur : Array Value} (h : Cells w b t cur) (hb : Below N w w') (hN : b < N) : Cells w' b t cur := (hb.block b hN).trans h
theorem set2 (c0 c1 v0 v1 : Value) : ((#[c0, c1].setIfInBounds 0 v0).setIfInBounds 1 v1) = #[v0, v1] := by
  simp [List.setIfInBounds_toArray, List.set]

set_option maxRecDepth 100000 in
set_option maxHeartbeats 2000000 in
theorem said_any (a : List UInt8) (r : List (List UInt8)) (v : Value) (w : World) (hs : Strs w v ((a :: r).map B)) (ha : a.length ≤ 100000) (hr : ∀ l ∈ r, l.length ≤ 100000 ∧ kindL l = 3) (hka : kindL a = 4) (hn : r.length ≤ 100000)
    (hj : (saidV (a :: r)).length ≤ 100000000) :
    Calls Tryz.prog 189 #[v] w fun e w' => e = .returned (fieldV (before a) (saidV (a :: r))) ∧ Below w.heap.size w w' := by
  obtain ⟨A, cap, rfl, hle, hc⟩ := hs
  have hcb := cellB hc
  obtain ⟨b, off, rfl, hbb, hca⟩ := hcb 0 a rfl
  have PC := Lib.hid (fun (j : Nat) x (hx : r[j]? = some x) => (show w.cell? ⟨b, off + (j + 1), none⟩ = some (.string (B x)) by
    obtain ⟨b', off', e, _, h⟩ := hcb (j + 1) x (by simpa using hx)
    cases e; exact h))
  clear hc hcb
  rw [List.length_map, List.length_cons] at hle ⊢
  have CP := fun w => cut_pair (B a) (by rw [B_size]; unfold maxLen; omega) (by rw [B_data]; exact hka) w
  rw [pre_B, post_B] at CP
  have TS := fun w => trim_sp (afterC a) w
  have HS : Hid (saidP (a :: r) = dropSp (afterC a) :: r.map (fun l => dropDot l.tail)) := rfl
  have HJ : Hid (Lib.join (((dropSp (afterC a) :: r.map (fun l => dropDot l.tail)).map B).map (·.data.toList)) [10] = saidV (a :: r)) := by
    show _ = _
    unfold saidV
    rw [← joinNl_eq, HS.out, List.map_map]
    congr 1
    conv => rhs; rw [← List.map_id (dropSp (afterC a) :: r.map (fun l => dropDot l.tail))]
    exact List.map_congr_left fun l _ => B_data l
  generalize dropSp (afterC a) = p0 at *
  generalize afterC a = ac at *
  obtain ⟨i0, hi, hz0, hz1, hz2⟩ := info_parts infoStr
  rw [Nat.add_zero] at hca
  go_enter Tryz.func189, Tryz.ntmps189
  go_wp2_with fail
  refine (CP _).mono ?_
  rintro e w1 ⟨rfl, b1⟩
  go_wp2_with fail
  refine (TS _).mono ?_
  rintro e w2 ⟨rfl, rfl⟩
  have RB : Cells w1 w.heap.size 35 #[.string ⟨#[]⟩, .string ⟨#[]⟩] := cells_kept (Cells.new w _ _) b1 (by simp)
  have hb1 : Below w.heap.size w w1 := ((Below.refl _ _).alloc (Nat.le_refl _) _).trans (b1.mono (by simp))
  have PC1 := Lib.hid (fun (j : Nat) x (hx : r[j]? = some x) => (hb1.cell (p := ⟨b, off + (j + 1), none⟩) hbb).trans (PC.out j x hx))
  have hs1 := b1.size
  simp only [World.size_alloc] at hs1
  have hb1lt : b < w1.heap.size := by omega
  have BW := Lib.hid hb1
  clear b1 PC hca hb1 CP TS
  have hw1 := BW.out.size
  go_wp2_with fail
  all_goals
    go_loopw [6, 23] (fun v6 i wr => ∃ (k : Nat), k ≤ r.length ∧ i = .int .i64 k ∧ OwnS wr w1.heap.size v6 ((p0 :: (r.take k).map (fun l => dropDot l.tail)).map B) ∧ Below w1.heap.size w1 wr) (fun _ i _ => r.length - (intOf i).toNat)
    case atStart => exact ⟨0, Nat.zero_le _, rfl, OwnS.one w1 _ (Nat.le_refl _) _, (Below.refl _ _).alloc (Nat.le_refl _) _⟩
    case round =>
      obtain ⟨k, hkr, rfl, hown, hb⟩ := hrel
      by_cases hkl : k < r.length
      · first
        | (exfalso; omega)
        | (obtain ⟨x, hx⟩ : ∃ x, r[k]? = some x := ⟨_, List.getElem?_eq_getElem hkl⟩
           have hcx := PC1.out k x hx
           have hcx2 := (hb.cell (p := ⟨b, off + (k + 1), none⟩) hb1lt).trans hcx
           rw [show off + (k + 1) = off + 1 + k by omega] at hcx2
           obtain ⟨hxl, hx3⟩ := hr x (List.mem_of_getElem? hx)
           obtain ⟨c, d, t, rfl⟩ := kind3 hx3
           have TK : Hid ((p0 :: (r.take (k + 1)).map (fun l => dropDot l.tail)).map B = (p0 :: (r.take k).map (fun l => dropDot l.tail)).map B ++ [B (dropDot (d :: t))]) := by
             show _ = _
             rw [List.take_add_one, hx]; simp
           have TD := fun w => trim_dot (d :: t) w
           have hll : ((p0 :: (r.take k).map (fun l => dropDot l.tail)).map B).length = k + 1 := by simp; omega
           have HLL := Lib.hid hll
           have hsz : (B (c :: d :: t)).size = t.length + 2 := by rw [B_size]; rfl
           have hex := tail_B c (d :: t)
           rw [hsz] at hex
           clear hx hcx hx3
           generalize (p0 :: (r.take k).map (fun l => dropDot l.tail)).map B = ls at *
           generalize dropDot (d :: t) = y at *
           generalize B (c :: d :: t) = X at *
           generalize B (d :: t) = Y at *
           go_wp2_with fail
           refine (TD _).mono ?_
           rintro e w4 ⟨rfl, rfl⟩
           have hs3 := hb.size
           have HC := Lib.hid (strCell wr (B y) 9)
           have hown4 : wr.ownsRow w1.heap.size 9 1 u6 ls.length (ls.map Value.string) := hown
           clear hown
           go_wp2_with (at_builtin; refine wpList_append_own _ rfl _ _ 132 rfl w1.heap.size 9 i0 _ 1 16 Tryz.underlying132 hi hz0 hz1 hz2 rfl (by decide) _ _ _ rfl (hown4.alloc _) ⟨wr.heap.size, 0, none⟩ 1 1 _ rfl rfl HC.out ?c2 ?c3 ?c4 ?c5 ?_)
           case c2 => intro u hu; simp at hu; subst hu; rfl
           case c3 => unfold maxLen; omega
           case c4 => omega
           case c5 => simp; omega
           intro v' w5 hown' hgrow _
           obtain ⟨g', cap', rfl⟩ := ownsRow_succ hown'
           have hb5 : Below w1.heap.size w1 w5 := (hb.alloc (by omega) _).grown hgrow (by simp; omega) (fun j ej => (hown4.lt j ej).1)
           go_wp2_with fail
           go_roundw
           case rel =>
             refine ⟨k + 1, hkl, by go_num, ?_, hb5⟩
             rw [TK.out]
             unfold OwnS
             rw [List.length_append, List.map_append, HLL.out]; exact hown'
           case measure => simp [intOf]; omega)
      · obtain rfl : k = r.length := by omega
        rw [List.take_length] at hown
        obtain ⟨g, cap', e⟩ := Joins.ownsRow_form hown (by simp)
        subst e
        have hst := hown.strs
        obtain ⟨A', cap2, e, hle2, hc2⟩ := hst
        cases e
        have RBr := cells_kept RB hb (by omega)
        have JN := Tryz.strings_Join g 0 cap' _ ⟨#[10]⟩ wr (fun j x hx => by obtain ⟨b', o', e, _, h⟩ := hc2 j x hx; cases e; exact h) (by obtain ⟨b', o', e, h, _⟩ := hc2 0 _ rfl; cases e; exact h) (by simp; omega) hle2 (by show (Lib.join _ [10]).length ≤ _; rw [HJ.out]; omega)
        rw [show (⟨#[10]⟩ : ByteArray).data.toList = [10] from rfl, HJ.out] at JN
        simp only [List.length_map, List.length_cons] at JN ⊢
        have hbw := hb.size
        have hbA := BW.out.trans (hb.mono hw1)
        clear hown hc2 hle2 HJ
        go_wp2_with fail
        refine JN.mono ?_
        rintro e w5 ⟨rfl, b5⟩
        have R5 := cells_kept RBr b5 (by omega)
        have c0 := R5.cell 0
        have c1 := R5.cell 1
        have f0 := R5.frozen 0
        have f1 := R5.frozen 1
        have hb5 := hbA.trans (b5.mono (by omega))
        simp only [List.getElem?_toArray, List.getElem?_cons_zero, List.getElem?_cons_succ] at c0 c1
        rw [mkB]
        have RE := (R5.set 0 (.string (B (before a)))).set 1 (.string (B (saidV (a :: r))))
        rw [set2] at RE
        go_wp2_with fail
        refine bodyPost_ret (ret_f1 rfl _ _ w.heap.size _ rfl RE rfl) rfl ?_
        exact ⟨rfl, (hb5.setCell (Nat.le_refl _) _).setCell (Nat.le_refl _) _⟩
end Go.Proofs.YtkcklnnmcmjnjaaGreatDoor

namespace Go.Proofs.YtkcklnnmcmjnjaaGreatDoor
open Go.RowKit Go.Shelf

attribute [local go_sem] errV_0 errV_2 errV_6
theorem sayF_parts {ls : List (List UInt8)} (h : sayF ls = true) : ∃ a r, ls = a :: r ∧ kindL a = 4 ∧ ∀ l ∈ r, kindL l = 3 := by
  cases ls with
  | nil => cases h
  | cons a r =>
    refine ⟨a, r, rfl, ?_⟩
    unfold sayF at h
    simp only [Bool.and_eq_true, beq_iff_eq, List.all_eq_true] at h
    exact h
theorem unfold_no {ls : List (List UInt8)} (h : sayF ls = false) : unfoldN ls = 2 ∧ unfoldK ls = [] ∧ unfoldV ls = [] := by
  have e : unfoldN ls = 2 := by unfold unfoldN; rw [h]; rfl
  exact ⟨e, by unfold unfoldK; rw [e]; rfl, by unfold unfoldV; rw [e]; rfl⟩
theorem unfold_long {ls : List (List UInt8)} (h : sayF ls = true) (hl : ¬ (saidV ls).length ≤ 1000) : unfoldN ls = 6 ∧ unfoldK ls = [] ∧ unfoldV ls = [] := by
  have e : unfoldN ls = 6 := by unfold unfoldN; rw [h, if_pos rfl, if_neg hl]
  exact ⟨e, by unfold unfoldK; rw [e]; rfl, by unfold unfoldV; rw [e]; rfl⟩
theorem unfold_yes {a : List UInt8} {r : List (List UInt8)} (h : sayF (a :: r) = true) (hl : (saidV (a :: r)).length ≤ 1000) : unfoldN (a :: r) = 0 ∧ unfoldK (a :: r) = before a ∧ unfoldV (a :: r) = saidV (a :: r) := by
  have e : unfoldN (a :: r) = 0 := by unfold unfoldN; rw [h, if_pos rfl, if_pos hl]
  exact ⟨e, by unfold unfoldK; rw [e]; rfl, by unfold unfoldV; rw [e]; rfl⟩
theorem before_len (a : List UInt8) : (before a).length ≤ a.length := (List.takeWhile_prefix _).length_le

set_option maxRecDepth 100000 in
set_option maxHeartbeats 2000000 in
theorem unfold_any (ls : List (List UInt8)) (v : Value) (w : World) (hs : Strs w v (ls.map B)) (hl : ∀ l ∈ ls, l.length ≤ 100000) (hn : ls.length ≤ 100000) (hj : (saidV ls).length ≤ 1000000) :
    Calls Tryz.prog 162 #[v] w fun e w' => e = .returned (.tuple #[fieldV (unfoldK ls) (unfoldV ls), errV (unfoldN ls)]) ∧ Below w.heap.size w w' := by
  have ST := Lib.hid (fun (o : Obj) => (hs.alloc o))
  cases hF : sayF ls with
  | false =>
    obtain ⟨e1, e2, e3⟩ := unfold_no hF
    rw [e1, e2, e3]
    unfold fieldV
    go_enter Tryz.func162, Tryz.ntmps162
    go_wp2_with fail
    refine (say_any ls v _ (ST.out _) hl hn).mono ?_
    rw [hF]
    rintro e w1 ⟨rfl, b1⟩
    have R1 := cells_kept (Cells.new w 35 #[.string ⟨#[]⟩, .string ⟨#[]⟩]) b1 (by simp)
    have c0 := R1.cell 0
    have c1 := R1.cell 1
    have f0 := R1.frozen 0
    have f1 := R1.frozen 1
    have hb1 : Below w.heap.size w w1 := ((Below.refl _ _).alloc (Nat.le_refl _) _).trans (b1.mono (by simp))
    simp only [List.getElem?_toArray, List.getElem?_cons_zero, List.getElem?_cons_succ] at c0 c1
    have RE := (R1.set 0 (.string ⟨#[]⟩)).set 1 (.string ⟨#[]⟩)
    rw [set2] at RE
    clear b1 ST
    go_wp2_with fail
    refine bodyPost_ret (ret_f2 rfl _ _ w.heap.size _ rfl RE rfl) rfl ?_
    exact ⟨rfl, (hb1.setCell (Nat.le_refl _) _).setCell (Nat.le_refl _) _⟩
  | true =>
    obtain ⟨a, r, rfl, hka, hkr⟩ := sayF_parts hF
    have hg : goodKey (before a) = true := (kind4 hka).2.2
    have hal := hl a (by simp)
    have hbl := before_len a
    have SD := fun w' (h : Strs w' v ((a :: r).map B)) => said_any a r v w' h hal (fun l hm => ⟨hl l (List.mem_cons_of_mem _ hm), hkr l hm⟩) hka (by simp at hn; omega) (by omega)
    have CK := fun w' => check_any (before a) (saidV (a :: r)) (by omega) hj w'
    have hchk : checkN (before a) (saidV (a :: r)) = if (saidV (a :: r)).length ≤ 1000 then 0 else 6 := by unfold checkN; rw [hg]; rfl
    rw [hchk] at CK
    have SAY := fun w' (h : Strs w' v ((a :: r).map B)) => say_any (a :: r) v w' h hl hn
    rw [hF] at SAY
    by_cases hlen : (saidV (a :: r)).length ≤ 1000
    · rw [if_pos hlen] at CK
      obtain ⟨e1, e2, e3⟩ := unfold_yes hF hlen
      rw [e1, e2, e3]
      unfold fieldV at *
      generalize B (before a) = K at *
      generalize B (saidV (a :: r)) = V at *
      go_enter Tryz.func162, Tryz.ntmps162
      go_wp2_with fail
      refine (SAY _ (ST.out _)).mono ?_
      rintro e w1 ⟨rfl, b1⟩
      have S1 := (ST.out (.cells #[.string ⟨#[]⟩, .string ⟨#[]⟩] 35)).below b1 (Nat.le_refl _)
      have R1 := cells_kept (Cells.new w 35 #[.string ⟨#[]⟩, .string ⟨#[]⟩]) b1 (by simp)
      have hb1 : Below w.heap.size w w1 := ((Below.refl _ _).alloc (Nat.le_refl _) _).trans (b1.mono (by simp))
      have hs1 := b1.size
      simp only [World.size_alloc] at hs1
      clear b1 ST
      go_wp2_with fail
      refine (SD _ S1).mono ?_
      rintro e w2 ⟨rfl, b2⟩
      have R2 := cells_kept R1 b2 (by omega)
      have hb2 := hb1.trans (b2.mono (by omega))
      have hs2 := b2.size
      clear b2 R1 S1 hb1
      have NB := Cells.new w2 35 #[.string K, .string V]
      have OB := R2.alloc (.cells #[.string K, .string V] 35)
      have hb3 := hb2.alloc (by omega) (.cells #[.string K, .string V] 35)
      go_wp2_with fail
      refine (CK _).mono ?_
      rintro e w4 ⟨rfl, b4⟩
      have N4 := cells_kept NB b4 (by simp)
      have O4 := cells_kept OB b4 (by simp; omega)
      have hb4 := hb3.trans (b4.mono (by simp; omega))
      have n0 := N4.cell 0
      have n1 := N4.cell 1
      have c0 := O4.cell 0
      have c1 := O4.cell 1
      have f0 := O4.frozen 0
      have f1 := O4.frozen 1
      simp only [List.getElem?_toArray, List.getElem?_cons_zero, List.getElem?_cons_succ] at c0 c1 n0 n1
      have RE := (O4.set 0 (.string K)).set 1 (.string V)
      rw [set2] at RE
      clear b4 NB OB R2 hb3 hb2
      go_wp2_with fail
      refine bodyPost_ret (ret_f2 rfl _ _ w.heap.size _ rfl RE rfl) rfl ?_
      exact ⟨rfl, (hb4.setCell (Nat.le_refl _) _).setCell (Nat.le_refl _) _⟩
    · rw [if_neg hlen] at CK
      obtain ⟨e1, e2, e3⟩ := unfold_long hF hlen
      rw [e1, e2, e3]
      unfold fieldV at *
      generalize B (before a) = K at *
      generalize B (saidV (a :: r)) = V at *
      go_enter Tryz.func162, Tryz.ntmps162
      go_wp2_with fail
      refine (SAY _ (ST.out _)).mono ?_
      rintro e w1 ⟨rfl, b1⟩
      have S1 := (ST.out (.cells #[.string ⟨#[]⟩, .string ⟨#[]⟩] 35)).below b1 (Nat.le_refl _)
      have R1 := cells_kept (Cells.new w 35 #[.string ⟨#[]⟩, .string ⟨#[]⟩]) b1 (by simp)
      have hb1 : Below w.heap.size w w1 := ((Below.refl _ _).alloc (Nat.le_refl _) _).trans (b1.mono (by simp))
      have hs1 := b1.size
      simp only [World.size_alloc] at hs1
      clear b1 ST
      go_wp2_with fail
      refine (SD _ S1).mono ?_
      rintro e w2 ⟨rfl, b2⟩
      have R2 := cells_kept R1 b2 (by omega)
      have hb2 := hb1.trans (b2.mono (by omega))
      have hs2 := b2.size
      clear b2 R1 S1 hb1
      have NB := Cells.new w2 35 #[.string K, .string V]
      have OB := R2.alloc (.cells #[.string K, .string V] 35)
      have hb3 := hb2.alloc (by omega) (.cells #[.string K, .string V] 35)
      go_wp2_with fail
      refine (CK _).mono ?_
      rintro e w4 ⟨rfl, b4⟩
      have N4 := cells_kept NB b4 (by simp)
      have O4 := cells_kept OB b4 (by simp; omega)
      have hb4 := hb3.trans (b4.mono (by simp; omega))
      have n0 := N4.cell 0
      have n1 := N4.cell 1
      have c0 := O4.cell 0
      have c1 := O4.cell 1
      have f0 := O4.frozen 0
      have f1 := O4.frozen 1
      simp only [List.getElem?_toArray, List.getElem?_cons_zero, List.getElem?_cons_succ] at c0 c1 n0 n1
      have RE := (O4.set 0 (.string ⟨#[]⟩)).set 1 (.string ⟨#[]⟩)
      rw [set2] at RE
      clear b4 NB OB R2 hb3 hb2
      go_wp2_with fail
      refine bodyPost_ret (ret_f2 rfl _ _ w.heap.size _ rfl RE rfl) rfl ?_
      exact ⟨rfl, (hb4.setCell (Nat.le_refl _) _).setCell (Nat.le_refl _) _⟩
end Go.Proofs.YtkcklnnmcmjnjaaGreatDoor

namespace Go.Proofs.YtkcklnnmcmjnjaaGreatDoor
open Go.RowKit Go.Shelf
attribute [local go_sem] errV_0

/-- An error at a place. -/
def FaultAt (lo : Nat) (w : World) (e : Value) (at_ n : Nat) : Prop := ∃ q, lo ≤ q ∧ e = .iface 86 (.pointer (some ⟨q, 0, none⟩)) ∧ Cells w q 89 #[.int .i64 at_, errV n]
theorem FaultAt.below {lo : Nat} {w w' : World} {e : Value} {a n N : Nat} (h : FaultAt lo w e a n) (hb : Below N w w') (hN : w.heap.size ≤ N) : FaultAt lo w' e a n := by
  obtain ⟨q, h0, h1, h2⟩ := h
  exact ⟨q, h0, h1, (hb.block q (Nat.lt_of_lt_of_le h2.lt hN)).trans h2⟩
theorem FaultAt.mono {lo lo' : Nat} {w : World} {e : Value} {a n : Nat} (h : FaultAt lo w e a n) (hl : lo' ≤ lo) : FaultAt lo' w e a n := by
  obtain ⟨q, h0, h1, h2⟩ := h
  exact ⟨q, Nat.le_trans hl h0, h1, h2⟩
theorem FaultAt.new (w : World) (a n lo q : Nat) (hq : w.heap.size = q) (hl : lo ≤ q) : FaultAt lo (w.alloc (.cells #[.int .i64 a, errV n] 89)) (.iface 86 (.pointer (some ⟨q, 0, none⟩))) a n := by subst hq; exact ⟨w.heap.size, hl, rfl, Cells.new _ _ _⟩
theorem ParserV.field {w w' : World} {T : Nat → Nat} {R b : Nat} {text : ByteArray} {p p' : PS} {V : PV} (h : ParserV w T R b text p V) (hR : R ≤ w.heap.size) (v6' : Value)
    (hc : Cells w' b 200 (pCells p' text (.slice none 0 0) V.v3 v6')) (hr : w'.ownsRow 0 35 2 v6' p'.fields.length (cellsF p'.fields)) (hk : sameOr w.heap.size w'.heap.size V.v6.ownBlock v6'.ownBlock)
    (ho : Only (fun r => r = b ∨ some r = V.v6.ownBlock) w w') (e1 : p'.items = p.items) (e2 : p'.said = []) :
    ∃ T', ParserV w' T' R b text p' { V with v1 := .slice none 0 0, v6 := v6' } ∧ PStep w T w' T' := by
  have hs : ∀ k, T k ≠ 0 → T k ≠ 1 → T k ≠ 4 → w'.heap[k]? = w.heap[k]? := fun k h0 h1 h2 => ho.same k (h.low k h0).2 (by
    rintro (e | e)
    · exact h1 (by rw [e]; exact h.tp)
    · exact h2 (h.t6 k e.symm))
  have s : ∀ {o : Option Nat} {t : Nat}, tagged T o t → t ≠ 0 → t ≠ 1 → t ≠ 4 → ∀ k, o = some k → w'.heap[k]? = w.heap[k]? := fun ht h0 h1 h3 k hk => hs k (by rw [ht k hk]; exact h0) (by rw [ht k hk]; exact h1) (by rw [ht k hk]; exact h3)
  have lo : ∀ {o : Option Nat} {t : Nat}, tagged T o t → t ≠ 0 → ∀ k, o = some k → k < w.heap.size := fun ht hne k hk => (h.low k (by rw [ht k hk]; exact hne)).2
  refine ⟨retag T w.heap.size v6'.ownBlock 4, ⟨hc, by rw [retag_old h.lt]; exact h.tp, ?_, (fun k hk => by cases hk), ?_, retag_other h.t3 (lo h.t3 (by decide)), hr, retag_same hk h.t6, by rw [e1]; exact h.nf, fun i it v h1 h2 => ?_, retag_both h.low ho.size hR hk h.t6 (by decide)⟩,
    ⟨ho.mono fun r hr' e => ?_, fun r hr' => by rw [retag_old hr']⟩⟩
  · rw [e2]; exact ⟨by simp [saidCells], .inl ⟨rfl, rfl⟩⟩
  · rw [e1]; exact row_same h.r3 (s h.t3 (by decide) (by decide) (by decide))
  · obtain ⟨a, c⟩ := h.rf i it v (by rw [← e1]; exact h1) h2
    exact ⟨row_same a (s c (by decide) (by decide) (by decide)), retag_other c (lo c (by decide))⟩
  · rcases e with e | e
    · rw [e, h.tp]; decide
    · rw [h.t6 r e.symm]; decide
theorem ParserV.strs {w : World} {T : Nat → Nat} {R b : Nat} {text : ByteArray} {p : PS} {V : PV} (h : ParserV w T R b text p V) : Strs w V.v1 (p.said.map B) := by
  refine OwnS.strs (base := 0) ?_
  unfold OwnS
  rw [List.length_map, List.map_map]
  exact h.r1
theorem infoFld0 : (Tryz.prog.info? 35).map (fun i => (i.zero, i.size, i.bytes)) = some (some (.agg #[.string ⟨#[]⟩, .string ⟨#[]⟩]), 2, 32) := by kernel_rfl
def EndField (w : World) (T : Nat → Nat) (R b : Nat) (text : ByteArray) (p : PS) (e : Ending) (w' : World) : Prop :=
  if endFieldN p = 0 then e = .returned .nilIface ∧ ∃ T', ParserAt w' T' R b text (endFieldP p) ∧ PStep w T w' T'
  else ∃ v, e = .returned v ∧ FaultAt w.heap.size w' v p.begin_ (endFieldN p) ∧ Below w.heap.size w w'
theorem EndField.no {w : World} {T : Nat → Nat} {R b : Nat} {text : ByteArray} {p : PS} {v : Value} {w' : World} (h : endFieldN p ≠ 0) (h1 : FaultAt w.heap.size w' v p.begin_ (endFieldN p)) (h2 : Below w.heap.size w w') : EndField w T R b text p (.returned v) w' := by
  unfold EndField; rw [if_neg h]; exact ⟨v, rfl, h1, h2⟩
theorem EndField.yes {w : World} {T T' : Nat → Nat} {R b : Nat} {text : ByteArray} {p : PS} {w' : World} (h : endFieldN p = 0) (h1 : ParserAt w' T' R b text (endFieldP p)) (h2 : PStep w T w' T') : EndField w T R b text p (.returned .nilIface) w' := by
  unfold EndField; rw [if_pos h]; exact ⟨rfl, T', h1, h2⟩

set_option maxRecDepth 100000 in
set_option maxHeartbeats 4000000 in
theorem endField_any {w : World} {T : Nat → Nat} {R b : Nat} {text : ByteArray} {p : PS} (h : ParserAt w T R b text p) (hR : R ≤ w.heap.size) (hsum : (p.said.map List.length).sum + p.said.length ≤ 90000) (hf : p.fields.length ≤ 1000000) :
    Calls Tryz.prog 120 #[.pointer (some ⟨b, 0, none⟩)] w fun e w' => EndField w T R b text p e w' := by
  obtain ⟨V, h⟩ := h
  by_cases hs : p.said = []
  · have h0 : endFieldN p = 0 := by unfold endFieldN; rw [if_pos hs]
    have hp : endFieldP p = p := by unfold endFieldP; rw [if_pos hs]
    have U := under_any h
    rw [show (!p.said.isEmpty) = false by rw [hs]; rfl] at U
    have hl := h.lt
    have FIN : EndField w T R b text p (.returned .nilIface) w := .yes h0 (by rw [hp]; exact ⟨V, h⟩) (PStep.refl _ _)
    clear h hsum
    go_enter Tryz.func120, Tryz.ntmps120
    go_wp2_with fail
    refine U.mono ?_
    rintro e w1 ⟨rfl, rfl⟩
    go_wp2
    go_ret
    exact FIN
  · have U := under_any h
    rw [show (!p.said.isEmpty) = true by cases hq : p.said with | nil => exact absurd hq hs | cons a r => rfl] at U
    have hl := h.lt
    obtain ⟨a1, c1, e1, _⟩ := own_slice h.r1
    have q1 : w.cell? ⟨b, 1, none⟩ = some (.slice a1 p.said.length c1) := by rw [← e1]; exact h.cells.cell 1
    have q0 : w.cell? ⟨b, 0, none⟩ = some (.int .i64 p.begin_) := h.cells.cell 0
    have hlen : p.said.length ≤ 100000 := by omega
    have heach : ∀ l ∈ p.said, l.length ≤ 100000 := fun l hm => by have := le_sum _ _ hm; omega
    have hsv := saidV_le p.said
    have UF := unfold_any p.said V.v1 w h.strs heach hlen (by omega)
    rw [e1] at UF
    have hn0 : endFieldN p = if unfoldN p.said ≠ 0 then unfoldN p.said else if fullP p then 11 else 0 := by unfold endFieldN; rw [if_neg hs]
    have hn1 := unfoldN_le p.said
    have H := Lib.hid h
    by_cases hu : unfoldN p.said = 0
    · rw [hu, if_neg (by simp)] at hn0
      rw [hu] at UF
      rw [errV_0] at UF
      have FU := Lib.hid (fun w' (hb : Below w.heap.size w w') => full_any (H.out.below hb))
      cases hfull : fullP p with
      | true =>
        rw [hfull, if_pos rfl] at hn0
        have FIN := Lib.hid (fun v w' h1 h2 => EndField.no (w := w) (T := T) (R := R) (b := b) (text := text) (p := p) (v := v) (w' := w') (by rw [hn0]; decide) h1 h2)
        rw [hn0] at FIN
        rw [hfull] at FU
        generalize unfoldK p.said = K at *
        generalize unfoldV p.said = Z at *
        unfold fieldV at UF
        clear h hsum heach hsv
        go_enter Tryz.func120, Tryz.ntmps120
        go_wp2_with fail
        refine U.mono ?_
        rintro e w1 ⟨rfl, rfl⟩
        go_wp2_with fail
        refine UF.mono ?_
        rintro e w1 ⟨rfl, b1⟩
        have hzb := b1.size
        go_wp2_with fail
        have hP := H.out.below b1
        have r0 : w1.cell? ⟨b, 0, none⟩ = some (.int .i64 p.begin_) := hP.cells.cell 0
        have hl1 := hP.lt
        have b2 := b1.alloc hzb (.cells #[.string (B K), .string (B Z)] 35)
        have FU2 := FU.out _ b2
        go_wp2_with fail
        refine FU2.mono ?_
        rintro e w2 ⟨rfl, rfl⟩
        have r1 : (w1.alloc (.cells #[.string (B K), .string (B Z)] 35)).cell? ⟨b, 0, none⟩ = some (.int .i64 p.begin_) := by
          rw [World.cell?_alloc_old _ _ _ (Nat.ne_of_lt hl1)]; exact r0
        go_wp2
        go_ret
        exact FIN.out _ _ (FaultAt.new _ _ 11 _ (w1.heap.size + 1) (by simp) (by omega)) (b2.alloc (by simp; omega) _)
      | false =>
        rw [hfull, if_neg (by simp)] at hn0
        have e0 : endFieldP p = { p with fields := p.fields ++ [(unfoldK p.said, unfoldV p.said)], said := [] } := by unfold endFieldP; rw [if_neg hs]
        have FIN := Lib.hid (fun T' w' h1 h2 => EndField.yes (w := w) (T := T) (T' := T') (R := R) (b := b) (text := text) (p := p) (w' := w') hn0 h1 h2)
        rw [e0] at FIN
        rw [hfull] at FU
        generalize unfoldK p.said = K at *
        generalize unfoldV p.said = Z at *
        unfold fieldV at UF
        obtain ⟨i0, hi, hz0, hz1, hz2⟩ := info_parts infoFld0
        obtain ⟨a6, c6, e6, _⟩ := own_slice h.r6
        clear h hsum heach hsv e0
        go_enter Tryz.func120, Tryz.ntmps120
        go_wp2_with fail
        refine U.mono ?_
        rintro e w1 ⟨rfl, rfl⟩
        go_wp2_with fail
        refine UF.mono ?_
        rintro e w1 ⟨rfl, b1⟩
        have hzb := b1.size
        have hP := H.out.below b1
        have hl1 := hP.lt
        have b2 := b1.alloc hzb (.cells #[.string (B K), .string (B Z)] 35)
        have FU2 := FU.out _ b2
        go_wp2_with fail
        refine FU2.mono ?_
        rintro e w2 ⟨rfl, rfl⟩
        have P2 := Lib.hid (H.out.below b2)
        have g0 : (w1.alloc (.cells #[.string (B K), .string (B Z)] 35)).cell? ⟨w1.heap.size, 0, none⟩ = some (.string (B K)) := (Cells.new _ _ _).cell 0
        have g1 : (w1.alloc (.cells #[.string (B K), .string (B Z)] 35)).cell? ⟨w1.heap.size, 1, none⟩ = some (.string (B Z)) := (Cells.new _ _ _).cell 1
        have hz2' : w1.heap.size < (w1.alloc (.cells #[.string (B K), .string (B Z)] 35)).heap.size := by simp
        have B2 := Lib.hid b2
        have hlt2 : w.heap.size ≤ (w1.alloc (.cells #[.string (B K), .string (B Z)] 35)).heap.size := b2.size
        clear FU FU2 UF U hP b1 b2
        generalize w1.alloc (.cells #[.string (B K), .string (B Z)] 35) = w2 at *
        generalize w1.heap.size = bx at *
        have hl2 := P2.out.lt
        have q6 : w2.cell? ⟨b, 6, none⟩ = some (.slice a6 p.fields.length c6) := by rw [← e6]; exact P2.out.cells.cell 6
        have HC := Lib.hid P2.out.cells
        have HO := Lib.hid P2.out.r6
        have HE := Lib.hid (rowBlock_ne (w := w2) P2.out.tp P2.out.t6 (by decide))
        rw [e6] at HO HE
        have HF := Lib.hid (fun w' v6' hc hr hk ho => ParserV.field (p' := { p with fields := p.fields ++ [(K, Z)], said := [] }) P2.out (Nat.le_trans hR hlt2) (w' := w') v6' hc hr hk ho rfl rfl)
        go_wp2
        go_cut [] (fun wx => ∃ g' cap', Cells wx b 200 (pCells p text V.v1 V.v3 (.slice (some ⟨g', 0, none⟩) (p.fields.length + 1) cap')) ∧
          wx.ownsRow 0 35 2 (.slice (some ⟨g', 0, none⟩) (p.fields.length + 1) cap') (p.fields.length + 1) (cellsF p.fields ++ [.string (B K), .string (B Z)]) ∧
          sameOr w2.heap.size wx.heap.size V.v6.ownBlock (Value.slice (some ⟨g', 0, none⟩) (p.fields.length + 1) cap').ownBlock ∧ g' ≠ b ∧ Only (fun r => r = b ∨ some r = V.v6.ownBlock) w2 wx)
        case first =>
          go_region_law ((refine step_append_own rfl (.tmp 41) (.tmp 43) 31 rfl 35 i0 _ 2 32 Tryz.underlying31 hi hz0 hz1 hz2 rfl (by decide) (.slice a6 p.fields.length c6) p.fields.length (cellsF p.fields) (by simp [Act.eval]) (by exact (HO.out.alloc _).drew) ⟨w2.heap.size, 0, none⟩ 1 1 [.string (B K), .string (B Z)] (by simp [Act.eval]) rfl (cells_new_add w2 35 [.string (B K), .string (B Z)]) (by intro u hu; simp at hu; rcases hu with rfl | rfl <;> rfl) (by unfold maxLen; omega) (by omega) ?_); intro v' w' ho hgr hbk; obtain ⟨⟨g', cap', rfl⟩, hg', hbx, hk, hon⟩ := appended HC.out HO.out HE.out (((Below.refl _ w2).alloc (Nat.le_refl _) _).drew) ho hgr hbk; have k6' : w'.cell? ⟨b, 6, none⟩ = some V.v6 := hg'.cell 6; have kf6' := hg'.frozen 6)
          all_goals
            go_wp2
            go_meet
            have hvg : g' ≠ b := by
              intro e
              rcases hk with h | ⟨k, h, h2, _⟩
              · exact HE.out (h.symm.trans (by rw [e]; rfl))
              · have hh : g' = k := Option.some.inj (show some g' = some k from h)
                omega
            rw [← e6] at hk hon
            refine ⟨g', cap', ?_, row_cell (p := ⟨b, 6, none⟩) ho (fun e => hvg (by cases e; rfl)) _, ?_, hvg, (hon.mono (fun r _ h => .inr h)).setCell (p := ⟨b, 6, none⟩) (.inl (.inl rfl)) _⟩
            · simpa [pCells] using hg'.set 6 (.slice (some ⟨g', 0, none⟩) (p.fields.length + 1) cap')
            · unfold sameOr; simpa [World.setCell] using hk
        case rest =>
          obtain ⟨g', cap', hc, hr, hk, hvg, ho⟩ := hcut
          have k1 : wc.cell? ⟨b, 1, none⟩ = some V.v1 := hc.cell 1
          have kf1 := hc.frozen 1
          rw [e1] at k1
          go_wp2
          go_ret
          refine Exists.elim (HF.out _ (.slice (some ⟨g', 0, none⟩) (p.fields.length + 1) cap') ?k1 ?k2 ?k3 ?k4) fun T' g => FIN.out T' _ ⟨_, g.1⟩ ((PStep.below B2.out).trans g.2)
          case k1 => simpa [pCells] using hc.set 1 (.slice none 0 0)
          case k2 =>
            rw [cellsF_snoc, List.length_append]
            exact row_cell (p := ⟨b, 1, none⟩) hr (fun e => hvg (by cases e; rfl)) _
          case k3 => unfold sameOr at hk ⊢; simpa [World.setCell] using hk
          case k4 => exact ho.setCell (p := ⟨b, 1, none⟩) (.inl (.inl rfl)) _
    · rw [if_pos hu] at hn0
      have hup : 0 < unfoldN p.said := Nat.pos_of_ne_zero hu
      have FIN := Lib.hid (fun v w' h1 h2 => EndField.no (w := w) (T := T) (R := R) (b := b) (text := text) (p := p) (v := v) (w' := w') (by rw [hn0]; exact hu) h1 h2)
      rw [hn0] at FIN
      have hev := errV_pos _ hup
      have HEV := Lib.hid hev
      rw [hev] at UF
      generalize unfoldN p.said = n at *
      generalize unfoldK p.said = K at *
      generalize unfoldV p.said = Z at *
      unfold fieldV at UF
      clear h hsum heach hsv hev
      go_enter Tryz.func120, Tryz.ntmps120
      go_wp2_with fail
      refine U.mono ?_
      rintro e w1 ⟨rfl, rfl⟩
      go_wp2_with fail
      refine UF.mono ?_
      rintro e w1 ⟨rfl, b1⟩
      have hzb := b1.size
      have hP := H.out.below b1
      have r0 : w1.cell? ⟨b, 0, none⟩ = some (.int .i64 p.begin_) := hP.cells.cell 0
      have hl1 := hP.lt
      have b2 := b1.alloc hzb (.cells #[.string (B K), .string (B Z)] 35)
      have r1 : (w1.alloc (.cells #[.string (B K), .string (B Z)] 35)).cell? ⟨b, 0, none⟩ = some (.int .i64 p.begin_) := by
        rw [World.cell?_alloc_old _ _ _ (Nat.ne_of_lt hl1)]; exact r0
      go_wp2
      go_ret
      rw [← HEV.out]
      exact FIN.out _ _ (FaultAt.new _ _ n _ (w1.heap.size + 1) (by simp) (by omega)) (b2.alloc (by simp; omega) _)
end Go.Proofs.YtkcklnnmcmjnjaaGreatDoor

