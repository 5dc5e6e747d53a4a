/- Texts put together: DE, CB, CC, CD, DF, WA, RF, OB, WB, WC, WD, RH. -/
import Derived.WideShapes
import Derived.Test.YtoadimagpibfoaaDoorChecked
import Derived.WalkKit
import Derived.Lib.Hide
import Derived.Deep.WholeRow
import Derived.Deep.QuietTactic
import Derived.BigQuiet
import Derived.ShutString
import Derived.BigCall
import Derived.RegionTactic
import Derived.ChangeAlike
import Derived.Outline
import Derived.IntWalk
import Derived.RangeFuncNested
import Derived.RangeFuncBound
import Derived.RangeFuncCalls
import Derived.RangeFuncLeaves
import Derived.Test.YtoadimagpibfoaaDoorProg
import Derived.Maps.Own
import Derived.Maps.OwnSet
import Derived.Maps.AppendAt
import Derived.Below
import Derived.Deep.Quiet
import Derived.Deep.RegionWith
import Derived.Deep.AppendLies
import Derived.Deep.RegionHeld3
import Derived.Deep.DeepCutAuto
import Derived.Shelf.Abstract
import Derived.Shelf.RegionOpen
import Derived.OwnWalkIn
import Derived.TacticsInMore
import Derived.LoopNIn
import Derived.LoopIn
import Derived.Test.YtoadimagpibfoaaDoorBase1
set_option linter.unusedVariables false
/- Figures and numbers: the program's, the document's (own copies, where the batches' texts are not there). -/
namespace Go.Proofs.YtoadimagpibfoaaDoor.Fr
open Go.RowKit Go.Shelf
attribute [local go_sem] Oper.semAt_some
theorem var_below {P : Program} {w w' : World} {N : Nat} {name : String} {cs : Array Value} (h : w.var? P name = some cs) (hb : Below N w w') (hN : w.heap.size ≤ N) : w'.var? P name = some cs := by
  unfold World.var? at *
  cases hg : P.globalNamed name with
  | none => simp [hg] at h
  | some g =>
    simp only [hg, Option.bind_some] at h ⊢
    have hlt : g < w.heap.size := by
      rcases Nat.lt_or_ge g w.heap.size with h' | h'
      · exact h'
      · rw [Array.getElem?_eq_none h'] at h; simp at h
    rw [hb.block g (by omega)]
    exact h
/-- What the variables hold that the library reads: the powers of ten, the two errors of strconv. -/
structure TabsN (w : World) : Prop where
  pow : Lib.TabIs Tryd.prog w "internal/strconv.uint64pow10" .u64 Lib.pow10Tab
  syn : ∃ tp p, w.var? Tryd.prog "strconv.ErrSyntax" = some #[.iface tp p]
  ran : ∃ tp p, w.var? Tryd.prog "strconv.ErrRange" = some #[.iface tp p]
theorem TabsN.below {w w' : World} {N : Nat} (h : TabsN w) (hb : Below N w w') (hN : w.heap.size ≤ N) : TabsN w' := by
  obtain ⟨a, ⟨t1, p1, c⟩, ⟨t2, p2, d⟩⟩ := h
  exact ⟨var_below a hb hN, ⟨t1, p1, var_below c hb hN⟩, ⟨t2, p2, var_below d hb hN⟩⟩
theorem freeze_below {N : Nat} {w w' : World} (h : Below N w w') {p : Addr} (hp : N ≤ p.block) (k : Nat) : Below N w (w'.freeze p k) := by
  unfold World.freeze
  by_cases hk : k = 0
  · rw [if_pos hk]; exact h
  · rw [if_neg hk]
    refine ⟨h.os, h.tape, h.output, ?_, fun j hj => ?_⟩
    · simp; exact h.size
    · simp only [Array.getElem?_modify]
      rw [if_neg (by omega)]
      exact h.block j hj
theorem bytes_below (w : World) (e : TypeId) (s : ByteArray) : Below w.heap.size w (Lib.bytesWorld w e s) := by
  unfold Lib.bytesWorld
  exact freeze_below ((Below.refl _ w).drew.alloc (Nat.le_refl _) _) (Nat.le_refl _) _
theorem atoi_any (l : List UInt8) (hl : l.length ≤ 1000000) (w : World) (ht : TabsN w) :
    Calls Tryd.prog 50 #[.string (B l)] w fun e w' => (∃ T q, e = .returned (.tuple #[.int .i64 (atoiV l), .nilIface]) ∨ e = .returned (.tuple #[.int .i64 (atoiV l), .iface T q])) ∧ Below w.heap.size w w' := by
  cases h : Lib.atoiAll l with
  | ok v =>
    refine (Tryd.strconv_Atoi_ok (B l) (by rw [B_size]; omega) v (by rw [B_data]; exact h) w).mono ?_
    rintro e w' ⟨rfl, hw⟩
    refine ⟨⟨0, undef, .inl (by unfold atoiV; rw [h])⟩, ?_⟩
    rcases hw with rfl | ⟨t, rfl⟩
    · exact Below.refl _ _
    · exact bytes_below _ _ _
  | range =>
    obtain ⟨tp, p, hv⟩ := ht.ran
    refine (Tryd.strconv_Atoi_range_var (B l) (by rw [B_size]; omega) (by rw [B_data]; exact h) tp p w hv).mono ?_
    rintro e w' ⟨N, rfl, _, _, hb⟩
    exact ⟨⟨_, _, .inr (by unfold atoiV; rw [h, B_data])⟩, hb⟩
  | _ =>
    obtain ⟨tp, p, hv⟩ := ht.syn
    refine (Tryd.strconv_Atoi_syntax_var (B l) (by rw [B_size]; omega) (by rw [B_data]; exact h) tp p w hv).mono ?_
    rintro e w' ⟨N, rfl, _, _, hb⟩
    exact ⟨⟨_, _, .inr (by unfold atoiV; rw [h])⟩, hb⟩
set_option maxRecDepth 100000 in
set_option maxHeartbeats 4000000 in
theorem unsigned_any (u : Nat) (hu : u < 18446744073709551616) (w : World) : Calls Tryd.prog 66 #[.int .u64 u] w fun e w' => e = .returned (.string (B (Lib.decDigits u))) ∧ w' = w := by
  induction u using Nat.strongRecOn generalizing w with
  | _ u ih =>
    by_cases h : u < 10
    · rw [Lib.decDigits_one h]
      clear ih hu
      obtain rfl | rfl | rfl | rfl | rfl | rfl | rfl | rfl | rfl | rfl : u = 0 ∨ u = 1 ∨ u = 2 ∨ u = 3 ∨ u = 4 ∨ u = 5 ∨ u = 6 ∨ u = 7 ∨ u = 8 ∨ u = 9 := by omega
      all_goals
        go_enter Tryd.func66, Tryd.ntmps66
        go_wp2_with fail
        go_ret
        exact ⟨by kernel_rfl, rfl⟩
    · have q : ¬ (u : Int) < 10 := by omega
      have I1 := Lib.hid (ih (u / 10) (by omega) (by omega))
      have I2 := Lib.hid (ih (u % 10) (by omega) (by omega))
      rw [Int.natCast_ediv] at I1
      rw [Int.natCast_emod] at I2
      have E : Hid (B (Lib.decDigits (u / 10)) ++ B (Lib.decDigits (u % 10)) = B (Lib.decDigits u)) := by
        show _ = _
        rw [B_append, Lib.decDigits_one (i := u % 10) (by omega)]
        congr 1
        conv => rhs; rw [Lib.decDigits, dif_neg h]
      have S1 : (B (Lib.decDigits (u / 10))).size ≤ 30 := by
        rw [B_size, Lib.decDigits_length]
        have := Lib.nDigits_le20 (u / 10) (by omega)
        omega
      have S2 : (B (Lib.decDigits (u % 10))).size ≤ 30 := by rw [B_size, Lib.decDigits_one (by omega)]; exact (by decide : 1 ≤ 30)
      clear ih
      generalize B (Lib.decDigits (u / 10)) = x at *
      generalize B (Lib.decDigits (u % 10)) = y at *
      go_enter Tryd.func66, Tryd.ntmps66
      go_wp2_with fail
      refine (I1.out _).mono ?_
      rintro e w1 ⟨rfl, rfl⟩
      go_wp2_with fail
      refine (I2.out _).mono ?_
      rintro e w1 ⟨rfl, rfl⟩
      go_wp2_with fail
      go_ret
      exact ⟨by rw [← E.out]; rfl, rfl⟩
set_option maxRecDepth 100000 in
set_option maxHeartbeats 4000000 in
theorem figures_any (n : Int) (hn : I64 n) (w : World) : Calls Tryd.prog 52 #[.int .i64 n] w fun e w' => e = .returned (.string (B (Lib.itoa n))) ∧ w' = w := by
  obtain ⟨h0, h1⟩ := hn
  by_cases h : n < 0
  · obtain ⟨u, rfl⟩ : ∃ u : Nat, n = -((u : Int) + 1) := ⟨(-n - 1).toNat, by omega⟩
    have q : -((u : Int) + 1) < 0 := by omega
    have w1 : IntKind.i64.wrap (-((u : Int) + 1) + 1) = -(u : Int) := by rw [show -((u : Int) + 1) + 1 = -(u : Int) by omega]; exact IntWalk.i64_in _ (by omega)
    have w2 : IntKind.i64.wrap (u : Int) = (u : Int) := IntWalk.i64_in _ (by omega)
    have w3 : IntKind.u64.wrap (u : Int) = (u : Int) := by rw [IntKind.wrap_u64]; omega
    have w4 : IntKind.u64.wrap ((u : Int) + 1) = (u : Int) + 1 := by rw [IntKind.wrap_u64]; omega
    have I1 := Lib.hid (unsigned_any (u + 1) (by omega) w)
    rw [Int.natCast_add, show ((1 : Nat) : Int) = 1 from rfl] at I1
    have E : Hid ((⟨#[45]⟩ : ByteArray) ++ B (Lib.decDigits (u + 1)) = B (Lib.itoa (-((u : Int) + 1)))) := by
      show _ = _
      rw [show -((u : Int) + 1) = -((u + 1 : Nat) : Int) by omega, Lib.itoa_neg _ (by omega), show (⟨#[45]⟩ : ByteArray) = B [45] from rfl, B_append]; rfl
    have S1 : (B (Lib.decDigits (u + 1))).size ≤ 30 := by
      rw [B_size, Lib.decDigits_length]
      have := Lib.nDigits_le20 (u + 1) (by omega)
      omega
    generalize B (Lib.decDigits (u + 1)) = x at *
    go_enter Tryd.func52, Tryd.ntmps52
    go_wp2_with fail
    refine I1.out.mono ?_
    rintro e w1 ⟨rfl, rfl⟩
    go_wp2_with fail
    go_ret
    exact ⟨by rw [← E.out]; rfl, rfl⟩
  · obtain ⟨u, rfl⟩ : ∃ u : Nat, n = (u : Int) := ⟨n.toNat, by omega⟩
    have w3 : IntKind.u64.wrap (u : Int) = (u : Int) := by rw [IntKind.wrap_u64]; omega
    have I1 := Lib.hid (unsigned_any u (by omega) w)
    rw [Lib.itoa_nonneg]
    generalize B (Lib.decDigits u) = x at *
    go_enter Tryd.func52, Tryd.ntmps52
    go_wp2_with fail
    refine I1.out.mono ?_
    rintro e w1 ⟨rfl, rfl⟩
    go_wp2_with fail
    go_ret
    exact ⟨rfl, rfl⟩
/-- The number that shortest figures are; none: they aren't. -/
def numL (l : List UInt8) : Option Int := if -9223372036854775808 ≤ atoiV l ∧ atoiV l ≤ 9223372036854775807 ∧ Lib.itoa (atoiV l) = l then some (atoiV l) else none
theorem numL_some {l : List UInt8} {i : Int} : numL l = some i ↔ I64 i ∧ Lib.itoa i = l := by
  unfold numL
  constructor
  · intro h
    split at h
    · rename_i q
      injection h with h
      subst h
      exact ⟨⟨q.1, q.2.1⟩, q.2.2⟩
    · cases h
  · rintro ⟨h1, rfl⟩
    rw [atoiV_itoa h1, if_pos ⟨h1.1, h1.2, rfl⟩]
theorem numL_none {l : List UInt8} (h : ∀ i, I64 i → Lib.itoa i ≠ l) : numL l = none := by
  cases e : numL l with
  | none => rfl
  | some i => exact absurd (numL_some.1 e).2 (h i (numL_some.1 e).1)
def numEnd (l : List UInt8) : Ending := .returned (.tuple #[.int .i64 ((numL l).getD 0), .bool (numL l).isSome])
theorem numEnd_no {l : List UInt8} (h : ∀ i, I64 i → Lib.itoa i ≠ l) : numEnd l = .returned (.tuple #[.int .i64 0, .bool false]) := by unfold numEnd; rw [numL_none h]; rfl
theorem numEnd_yes {l : List UInt8} {i : Int} (h : I64 i) (e : Lib.itoa i = l) : numEnd l = .returned (.tuple #[.int .i64 i, .bool true]) := by unfold numEnd; rw [numL_some.2 ⟨h, e⟩]; rfl
theorem dec_pos (u : Nat) (h : u < 18446744073709551616) : 1 ≤ (Lib.decDigits u).length ∧ (Lib.decDigits u).length ≤ 20 := by
  refine ⟨?_, by rw [Lib.decDigits_length]; exact Lib.nDigits_le20 u h⟩
  rcases Nat.eq_zero_or_pos (Lib.decDigits u).length with q | q
  · exact absurd (List.length_eq_zero_iff.1 q) (dec_ne u)
  · exact q
theorem itoa_len {i : Int} (h : I64 i) : 1 ≤ (Lib.itoa i).length ∧ (Lib.itoa i).length ≤ 20 := by
  obtain ⟨h0, h1⟩ := h
  have hnd : ∀ u : Nat, u ≤ 9223372036854775808 → (Lib.decDigits u).length ≤ 19 := fun u hu => by
    rcases Nat.lt_or_ge 19 (Lib.decDigits u).length with q | q
    · exfalso
      rw [Lib.decDigits_length] at q
      have : ∀ n u : Nat, n < Lib.nDigits u → 10 ^ n ≤ u ∨ n = 0 := by
        intro n
        induction n with
        | zero => exact fun _ _ => .inr rfl
        | succ n ih =>
          intro u hq
          rw [Lib.nDigits] at hq
          split at hq
          · omega
          · rcases ih (u / 10) (by omega) with z | z
            · left; rw [Nat.pow_succ]; omega
            · subst z; left; omega
      rcases this 19 u q with z | z
      · have : (10 : Nat) ^ 19 = 10000000000000000000 := by decide
        omega
      · omega
    · exact q
  unfold Lib.itoa
  split
  · rw [List.length_cons]
    have := hnd i.natAbs (by omega)
    omega
  · exact ⟨(dec_pos _ (by omega)).1, (dec_pos _ (by omega)).2⟩
theorem wrapI (z : Int) : I64 (wrap64 z) := by unfold I64 wrap64; omega
/-- What shortest figures are made of: a sign, digits. -/
theorem itoa_parts {i : Int} (hi : I64 i) {l : List UInt8} (h : Lib.itoa i = l) (a : Nat) (ha : a = if l.head? = some 45 then 1 else 0) :
    ∃ u : Nat, u ≤ 9223372036854775808 ∧ l.drop a = Lib.decDigits u ∧ i = (if a = 1 then -(u : Int) else u) := by
  obtain ⟨h0, h1⟩ := hi
  subst h
  by_cases hn : i < 0
  · have e : Lib.itoa i = 45 :: Lib.decDigits i.natAbs := by unfold Lib.itoa; rw [if_pos hn]
    rw [e] at ha ⊢
    rw [if_pos (by rfl)] at ha
    subst ha
    exact ⟨i.natAbs, by omega, rfl, by simp; omega⟩
  · have e : Lib.itoa i = Lib.decDigits i.toNat := by unfold Lib.itoa; rw [if_neg hn]
    have hd : (Lib.decDigits i.toNat).head? ≠ some 45 := fun q => by
      have := dec_digits i.toNat 45 (List.mem_of_mem_head? q)
      simp at this
    rw [e] at ha ⊢
    rw [if_neg hd] at ha
    subst ha
    exact ⟨i.toNat, by omega, rfl, by simp; omega⟩
/-- One digit more. -/
theorem num_step {u : Nat} (hu : u ≤ 9223372036854775808) {ds : List UInt8} (hd : ds = Lib.decDigits u) {j : Nat} {x : UInt8} (hx : ds[j]? = some x) :
    wrap64 (wrap64 (10 * numOn 0 (ds.take j)) - ((x.toNat : Int) - 48)) = numOn 0 (ds.take (j + 1)) := by
  subst hd
  have e : (Lib.decDigits u).take (j + 1) = (Lib.decDigits u).take j ++ [x] := by rw [List.take_add_one, hx]; rfl
  obtain ⟨m', e', hm'⟩ := numOn_take u (j + 1)
  obtain ⟨m, e1, hm⟩ := numOn_take u j
  have hxd := dec_digits u x (List.mem_of_getElem? hx)
  rw [e, numOn_snoc, e1] at e' ⊢
  rw [IntWalk.wrap64_in (10 * -(m : Int)) (by omega), IntWalk.wrap64_in _ (by omega)]
set_option maxRecDepth 100000 in
set_option maxHeartbeats 8000000 in
theorem number_neg (s : ByteArray) (h1 : 1 ≤ s.size) (h20 : s.size ≤ 20) (hq : ((s[0].toNat : Int) == 45) = true) (w : World) :
    Calls Tryd.prog 37 #[.string s] w fun e w' => e = numEnd s.data.toList ∧ w' = w := by
  have h2 : decide ((s.size : Int) < 1) = false := by simp; omega
  have h3 : decide (20 < (s.size : Int)) = false := by simp; omega
  have AT : ∀ (k : Nat) (h : k < s.size), s.data.toList[k]? = some s[k] := fun k h => by
    rw [List.getElem?_eq_getElem (by rw [← Lib.size_eq]; exact h)]; rfl
  have hhd : s.data.toList.head? = some s[0] := by rw [List.head?_eq_getElem?]; exact AT 0 (by omega)
  have hA : 1 = if s.data.toList.head? = some 45 then 1 else 0 := by
    rw [hhd]
    rw [if_pos (by congr 1; apply UInt8.toNat_inj.1; have e3 : (45 : UInt8).toNat = 45 := rfl; have := eq_of_beq hq; omega)]
  have PT : Hid (∀ i, I64 i → Lib.itoa i = s.data.toList → ∃ u : Nat, u ≤ 9223372036854775808 ∧ s.data.toList.drop 1 = Lib.decDigits u ∧ i = (if 1 = 1 then -(u : Int) else u)) := fun i hi e => itoa_parts hi e 1 hA
  have HAT := Lib.hid AT
  have hlen : s.data.toList.length = s.size := (Lib.size_eq s).symm
  clear AT hA hhd
  go_enter Tryd.func37, Tryd.ntmps37
  go_wp2_with fail
  go_loop [5, 6] (fun o i => ∃ (j : Nat) (z : Int), 1 ≤ j ∧ j ≤ s.size ∧ i = .int .i64 j ∧ o = .int .i64 z ∧ I64 z ∧ ((∃ i, I64 i ∧ Lib.itoa i = s.data.toList) → z = numOn 0 ((s.data.toList.drop 1).take (j - 1)))) (fun _ i => s.size - (intOf i).toNat)
  case atStart => exact ⟨1, 0, Nat.le_refl _, by omega, rfl, rfl, ⟨by decide, by decide⟩, fun _ => rfl⟩
  case round =>
    obtain ⟨j, z, hj1, hj, rfl, rfl, hz, hnum⟩ := hrel
    obtain ⟨z0, z1⟩ := _root_.id hz
    by_cases hlt : j < s.size
    · have hb := s[j].toNat_lt
      have hx := HAT.out j hlt
      by_cases hr : ¬ (48 ≤ s[j].toNat ∧ s[j].toNat ≤ 57)
      · have NO := Lib.hid (numEnd_no (l := s.data.toList) (fun i hi e => by
          obtain ⟨u, _, hd, _⟩ := PT.out i hi e
          have hm : s[j] ∈ s.data.toList.drop 1 := List.mem_of_getElem? (i := j - 1) (by rw [List.getElem?_drop, show 1 + (j - 1) = j by omega]; exact hx)
          rw [hd] at hm
          exact hr (dec_digits u _ hm)))
        clear hnum hx hz
        by_cases hc : s[j].toNat < 48
        · have q1 : decide ((s[j].toNat : Int) < 48) = true := by simp; omega
          go_wp2_with fail
          go_ret2
          exact ⟨by rw [NO.out]; rfl, rfl⟩
        · have q1 : decide ((s[j].toNat : Int) < 48) = false := by simp; omega
          have q2 : decide (57 < (s[j].toNat : Int)) = true := by simp; omega
          go_wp2_with fail
          go_ret2
          exact ⟨by rw [NO.out]; rfl, rfl⟩
      · replace hr := Classical.not_not.1 hr
        have q1 : decide ((s[j].toNat : Int) < 48) = false := by simp; omega
        have q2 : decide (57 < (s[j].toNat : Int)) = false := by simp; omega
        have ST : Hid ((∃ i, I64 i ∧ Lib.itoa i = s.data.toList) → wrap64 (wrap64 (10 * z) - ((s[j].toNat : Int) - 48)) = numOn 0 ((s.data.toList.drop 1).take (j + 1 - 1))) := fun hex => by
          obtain ⟨i, hi, e⟩ := _root_.id hex
          obtain ⟨u, hu, hd, _⟩ := PT.out i hi e
          rw [hnum hex, show j + 1 - 1 = (j - 1) + 1 by omega]
          exact num_step hu hd (by rw [List.getElem?_drop, show 1 + (j - 1) = j by omega]; exact hx)
        clear hnum hx
        go_wp2_with fail
        go_round
        case rel => exact ⟨j + 1, _, by omega, hlt, by go_num, rfl, wrapI _, ST.out⟩
        case measure => simp [intOf]; omega
    · obtain rfl : j = s.size := by omega
      obtain ⟨z2, hz2⟩ : ∃ z2, z2 = z := ⟨_, rfl⟩
      have hI : I64 z2 := by rw [hz2]; exact hz
      have UN : ∀ i, I64 i → Lib.itoa i = s.data.toList → z2 = i := fun i hi e => by
        obtain ⟨u, hu, hd, hiu⟩ := PT.out i hi e
        have hn := hnum ⟨i, hi, e⟩
        rw [List.take_of_length_le (by rw [List.length_drop, hlen]; exact Nat.le_refl _), hd, numOn_dec] at hn
        obtain ⟨i0, i1⟩ := hi
        simp at hiu
        omega
      have FG := Lib.hid (figures_any z2 hI w)
      by_cases he : Lib.itoa z2 = s.data.toList
      · have YES := Lib.hid (numEnd_yes hI he)
        have hB : B (Lib.itoa z2) = s := by rw [he]; rfl
        rw [hB] at FG
        clear hnum UN he hB
        have HZ := Lib.hid hz2
        clear hz2
        go_wp2_with fail
        rw [← HZ.out]
        refine FG.out.mono ?_
        rintro e w' ⟨rfl, rfl⟩
        go_wp2_with fail
        go_ret2
        exact ⟨by rw [YES.out]; rfl, rfl⟩
      · have NO := Lib.hid (numEnd_no (l := s.data.toList) (fun i hi e => he (by rw [UN i hi e]; exact e)))
        have hne : ¬ (B (Lib.itoa z2)).toList = s.toList := fun e => he (by rw [Lib.toList_data, Lib.toList_data, B_data] at e; exact e)
        have hnb : ((B (Lib.itoa z2)).toList == s.toList) = false := by simpa using hne
        clear hnum UN he
        have HZ := Lib.hid hz2
        clear hz2
        generalize B (Lib.itoa z2) = V at *
        go_wp2_with fail
        rw [← HZ.out]
        refine FG.out.mono ?_
        rintro e w' ⟨rfl, rfl⟩
        go_wp2_with fail
        go_ret2
        exact ⟨by rw [NO.out]; rfl, rfl⟩
set_option maxRecDepth 100000 in
set_option maxHeartbeats 8000000 in
theorem number_pos (s : ByteArray) (h1 : 1 ≤ s.size) (h20 : s.size ≤ 20) (hq : ((s[0].toNat : Int) == 45) = false) (w : World) :
    Calls Tryd.prog 37 #[.string s] w fun e w' => e = numEnd s.data.toList ∧ w' = w := by
  have h2 : decide ((s.size : Int) < 1) = false := by simp; omega
  have h3 : decide (20 < (s.size : Int)) = false := by simp; omega
  have AT : ∀ (k : Nat) (h : k < s.size), s.data.toList[k]? = some s[k] := fun k h => by
    rw [List.getElem?_eq_getElem (by rw [← Lib.size_eq]; exact h)]; rfl
  have hhd : s.data.toList.head? = some s[0] := by rw [List.head?_eq_getElem?]; exact AT 0 (by omega)
  have hA : 0 = if s.data.toList.head? = some 45 then 1 else 0 := by
    rw [hhd]
    rw [if_neg (fun e => by have e2 := congrArg UInt8.toNat (Option.some.inj e); rw [e2] at hq; simp at hq)]
  have PT : Hid (∀ i, I64 i → Lib.itoa i = s.data.toList → ∃ u : Nat, u ≤ 9223372036854775808 ∧ s.data.toList.drop 0 = Lib.decDigits u ∧ i = (if 0 = 1 then -(u : Int) else u)) := fun i hi e => itoa_parts hi e 0 hA
  have HAT := Lib.hid AT
  have hlen : s.data.toList.length = s.size := (Lib.size_eq s).symm
  clear AT hA hhd
  go_enter Tryd.func37, Tryd.ntmps37
  go_wp2_with fail
  go_loop [5, 6] (fun o i => ∃ (j : Nat) (z : Int), 0 ≤ j ∧ j ≤ s.size ∧ i = .int .i64 j ∧ o = .int .i64 z ∧ I64 z ∧ ((∃ i, I64 i ∧ Lib.itoa i = s.data.toList) → z = numOn 0 ((s.data.toList.drop 0).take (j - 0)))) (fun _ i => s.size - (intOf i).toNat)
  case atStart => exact ⟨0, 0, Nat.le_refl _, by omega, rfl, rfl, ⟨by decide, by decide⟩, fun _ => rfl⟩
  case round =>
    obtain ⟨j, z, hj1, hj, rfl, rfl, hz, hnum⟩ := hrel
    obtain ⟨z0, z1⟩ := _root_.id hz
    by_cases hlt : j < s.size
    · have hb := s[j].toNat_lt
      have hx := HAT.out j hlt
      by_cases hr : ¬ (48 ≤ s[j].toNat ∧ s[j].toNat ≤ 57)
      · have NO := Lib.hid (numEnd_no (l := s.data.toList) (fun i hi e => by
          obtain ⟨u, _, hd, _⟩ := PT.out i hi e
          have hm : s[j] ∈ s.data.toList.drop 0 := List.mem_of_getElem? (i := j - 0) (by rw [List.getElem?_drop, show 0 + (j - 0) = j by omega]; exact hx)
          rw [hd] at hm
          exact hr (dec_digits u _ hm)))
        clear hnum hx hz
        by_cases hc : s[j].toNat < 48
        · have q1 : decide ((s[j].toNat : Int) < 48) = true := by simp; omega
          go_wp2_with fail
          go_ret2
          exact ⟨by rw [NO.out]; rfl, rfl⟩
        · have q1 : decide ((s[j].toNat : Int) < 48) = false := by simp; omega
          have q2 : decide (57 < (s[j].toNat : Int)) = true := by simp; omega
          go_wp2_with fail
          go_ret2
          exact ⟨by rw [NO.out]; rfl, rfl⟩
      · replace hr := Classical.not_not.1 hr
        have q1 : decide ((s[j].toNat : Int) < 48) = false := by simp; omega
        have q2 : decide (57 < (s[j].toNat : Int)) = false := by simp; omega
        have ST : Hid ((∃ i, I64 i ∧ Lib.itoa i = s.data.toList) → wrap64 (wrap64 (10 * z) - ((s[j].toNat : Int) - 48)) = numOn 0 ((s.data.toList.drop 0).take (j + 1 - 0))) := fun hex => by
          obtain ⟨i, hi, e⟩ := _root_.id hex
          obtain ⟨u, hu, hd, _⟩ := PT.out i hi e
          rw [hnum hex, show j + 1 - 0 = (j - 0) + 1 by omega]
          exact num_step hu hd (by rw [List.getElem?_drop, show 0 + (j - 0) = j by omega]; exact hx)
        clear hnum hx
        go_wp2_with fail
        go_round
        case rel => exact ⟨j + 1, _, by omega, hlt, by go_num, rfl, wrapI _, ST.out⟩
        case measure => simp [intOf]; omega
    · obtain rfl : j = s.size := by omega
      obtain ⟨z2, hz2⟩ : ∃ z2, z2 = wrap64 (-z) := ⟨_, rfl⟩
      have hI : I64 z2 := by rw [hz2]; exact wrapI _
      have UN : ∀ i, I64 i → Lib.itoa i = s.data.toList → z2 = i := fun i hi e => by
        obtain ⟨u, hu, hd, hiu⟩ := PT.out i hi e
        have hn := hnum ⟨i, hi, e⟩
        rw [List.take_of_length_le (by rw [List.length_drop, hlen]; exact Nat.le_refl _), hd, numOn_dec] at hn
        obtain ⟨i0, i1⟩ := hi
        simp at hiu
        rw [hz2, IntWalk.wrap64_in _ (by omega)]; omega
      have FG := Lib.hid (figures_any z2 hI w)
      by_cases he : Lib.itoa z2 = s.data.toList
      · have YES := Lib.hid (numEnd_yes hI he)
        have hB : B (Lib.itoa z2) = s := by rw [he]; rfl
        rw [hB] at FG
        clear hnum UN he hB
        have HZ := Lib.hid hz2
        clear hz2
        go_wp2_with fail
        rw [← HZ.out]
        refine FG.out.mono ?_
        rintro e w' ⟨rfl, rfl⟩
        go_wp2_with fail
        go_ret2
        exact ⟨by rw [YES.out]; rfl, rfl⟩
      · have NO := Lib.hid (numEnd_no (l := s.data.toList) (fun i hi e => he (by rw [UN i hi e]; exact e)))
        have hne : ¬ (B (Lib.itoa z2)).toList = s.toList := fun e => he (by rw [Lib.toList_data, Lib.toList_data, B_data] at e; exact e)
        have hnb : ((B (Lib.itoa z2)).toList == s.toList) = false := by simpa using hne
        clear hnum UN he
        have HZ := Lib.hid hz2
        clear hz2
        generalize B (Lib.itoa z2) = V at *
        go_wp2_with fail
        rw [← HZ.out]
        refine FG.out.mono ?_
        rintro e w' ⟨rfl, rfl⟩
        go_wp2_with fail
        go_ret2
        exact ⟨by rw [NO.out]; rfl, rfl⟩
theorem number_any (l : List UInt8) (hl : l.length ≤ 1000000) (w : World) :
    Calls Tryd.prog 37 #[.string (B l)] w fun e w' => e = numEnd l ∧ w' = w := by
  have bs := B_size l
  by_cases h1 : 1 ≤ (B l).size ∧ (B l).size ≤ 20
  · cases hq : (((B l)[0]'(by omega)).toNat : Int) == 45 with
    | true => exact number_neg (B l) h1.1 h1.2 hq w
    | false => exact number_pos (B l) h1.1 h1.2 hq w
  · have NO := Lib.hid (numEnd_no (l := l) (fun i hi e => by
      apply h1
      rw [bs, ← e]
      exact itoa_len hi))
    generalize B l = s at *
    by_cases h0 : s.size < 1
    · have q1 : decide ((s.size : Int) < 1) = true := by simp; omega
      go_enter Tryd.func37, Tryd.ntmps37
      go_wp2_with fail
      go_ret2
      exact ⟨by rw [NO.out]; rfl, rfl⟩
    · have q1 : decide ((s.size : Int) < 1) = false := by simp; omega
      have q2 : decide (20 < (s.size : Int)) = true := by simp; omega
      go_enter Tryd.func37, Tryd.ntmps37
      go_wp2_with fail
      go_ret2
      exact ⟨by rw [NO.out]; rfl, rfl⟩
end Go.Proofs.YtoadimagpibfoaaDoor.Fr
/- The check sum in memory: the table, the feeding, Sum of parts. -/
namespace Go.Proofs.YtoadimagpibfoaaDoor.Sm
open Go.RowKit
theorem take_snoc (s : ByteArray) (k : Nat) (h : k < s.size) : s.data.toList.take (k + 1) = s.data.toList.take k ++ [s[k]] := by
  rw [List.take_succ_eq_append_getElem (by simpa using h)]; rfl
theorem xorb (x c : Nat) (hx : x < 4294967296) (hc : c < 256) : bits .xor .u32 (x : Int) ((c : Int) * 16777216) = ((x ^^^ c * 16777216 : Nat) : Int) := by
  have h := M.m24 c hc
  have e : ((c : Int) * 16777216) = ((c * 16777216 : Nat) : Int) := by omega
  rw [e]
  exact u32_xor_nat _ _ hx h
theorem ret_int {k : IntKind} {a b : Int} (h : a = b) : Ending.returned (.int k a) = .returned (.int k b) := by rw [h]
theorem st_yes (z : Nat) (hz : z < 4294967296) (h : ((z : Int) / 2147483648 == 1) = true) : bits .xor .u32 ((z : Int) * 2 % 4294967296) 79764919 = ((M.st z : Nat) : Int) := by
  have h1 : (z : Int) / 2147483648 = 1 := by simpa using h
  have h2 : z / 2147483648 = 1 := by omega
  unfold M.st
  rw [if_pos h2]
  have e : ((z : Int) * 2 % 4294967296) = ((z * 2 % 4294967296 : Nat) : Int) := by omega
  rw [e]
  exact u32_xor_nat _ 79764919 (Nat.mod_lt _ (by decide)) (by decide)
theorem st_no (z : Nat) (h : ((z : Int) / 2147483648 == 1) = false) : ((z : Int) * 2 % 4294967296) = ((M.st z : Nat) : Int) := by
  have h1 : ¬ (z : Int) / 2147483648 = 1 := by simpa using h
  have h2 : ¬ z / 2147483648 = 1 := by omega
  unfold M.st
  rw [if_neg h2]
  omega
set_option maxHeartbeats 400000 in
theorem refAdd_any (a : Nat) (ha : a < 4294967296) (s : ByteArray) (w : World) (hs : s.size ≤ maxLen) :
    Calls Tryd.prog 40 #[.int .u32 a, .string s] w fun e w' => e = .returned (.int .u32 ((4294967295 - M.feed (4294967295 - a) s.data.toList : Nat) : Int)) ∧ w = w' := by
  unfold maxLen at hs
  go_enter Tryd.func40, Tryd.ntmps40
  go_wp2
  go_loop [5, 6] (fun x i => ∃ k : Nat, k ≤ s.size ∧ i = .int .i64 k ∧ x = .int .u32 (M.feed (4294967295 - a) (s.data.toList.take k) : Nat)) (fun _ i => s.size - (intOf i).toNat)
  case atStart => exact ⟨0, Nat.zero_le _, rfl, by simp [M.feed]; omega⟩
  case round =>
    obtain ⟨k, hk, rfl, rfl⟩ := hrel
    by_cases hlt : k < s.size
    · have hx := M.feed_lt (s.data.toList.take k) (4294967295 - a) (by omega)
      have hc := s[k].toNat_lt
      have HS : Hid (M.feed (4294967295 - a) (s.data.toList.take (k + 1)) = M.stn 8 (M.feed (4294967295 - a) (s.data.toList.take k) ^^^ s[k].toNat * 16777216)) := by
        rw [take_snoc s k hlt, M.feed_snoc]; rfl
      have hy : M.feed (4294967295 - a) (s.data.toList.take k) ^^^ s[k].toNat * 16777216 < 4294967296 := Nat.xor_lt_two_pow (n := 32) hx (M.m24 _ hc)
      have X := xorb _ _ hx hc
      go_wp2
      clear X
      generalize M.feed (4294967295 - a) (s.data.toList.take k) = x0 at *
      generalize hyy : x0 ^^^ s[k].toNat * 16777216 = y at *
      clear hyy
      go_loop [5, 7] (fun x i => ∃ j : Nat, j ≤ 8 ∧ i = .int .i64 j ∧ x = .int .u32 (M.stn j y : Nat)) (fun _ i => 8 - (intOf i).toNat)
      case atStart => exact ⟨0, by omega, rfl, rfl⟩
      case round =>
        obtain ⟨j, hj, rfl, rfl⟩ := hrel
        have hz := M.stn_lt j y hy
        have hst := M.stn_succ j y
        generalize hzz : M.stn j y = z at *
        have HZ := Lib.hid hzz
        clear hzz
        have HQ := Lib.hid hst
        clear hst
        go_wp2
        · have ht : ((z : Int) / 2147483648 == 1) = true := by assumption
          go_round
          case rel => exact ⟨j + 1, by omega, by go_num, by rw [HQ.out, st_yes z hz ht]⟩
          case measure => simp [intOf]; omega
        · have ht : ((z : Int) / 2147483648 == 1) = false := by assumption
          go_round
          case rel => exact ⟨j + 1, by omega, by go_num, by rw [HQ.out, st_no z ht]⟩
          case measure => simp [intOf]; omega
        · have : j = 8 := by omega
          go_round
          case rel => exact ⟨k + 1, by omega, by go_num, by rw [HS.out, ← HZ.out, this]⟩
          case measure => simp [intOf]; omega
    · go_wp2
      have : k = s.size := by omega
      subst this
      go_ret
      have hfl := M.feed_lt s.data.toList (4294967295 - a) (by omega)
      exact ⟨by rw [List.take_of_length_le (by simp)]; exact ret_int (by omega), rfl⟩
/-- the table's entries as far as they are made -/
def T (k j : Nat) : Nat := if j < k then M.stn 4 (j * 268435456) else 0
def tab (k : Nat) : Array Value := #[.int .u32 (T k 0 : Nat), .int .u32 (T k 1 : Nat), .int .u32 (T k 2 : Nat), .int .u32 (T k 3 : Nat), .int .u32 (T k 4 : Nat), .int .u32 (T k 5 : Nat), .int .u32 (T k 6 : Nat), .int .u32 (T k 7 : Nat), .int .u32 (T k 8 : Nat), .int .u32 (T k 9 : Nat), .int .u32 (T k 10 : Nat), .int .u32 (T k 11 : Nat), .int .u32 (T k 12 : Nat), .int .u32 (T k 13 : Nat), .int .u32 (T k 14 : Nat), .int .u32 (T k 15 : Nat)]
theorem tab_size (k : Nat) : (tab k).size = 16 := rfl
theorem tab_get (k j : Nat) (h : j < 16) : (tab k)[j]? = some (.int .u32 (T k j : Nat)) := by
  match j, h with
  | 0, _ | 1, _ | 2, _ | 3, _ | 4, _ | 5, _ | 6, _ | 7, _ | 8, _ | 9, _ | 10, _ | 11, _ | 12, _ | 13, _ | 14, _ | 15, _ => rfl
  | n + 16, h => omega
theorem tab_set (k : Nat) (h : k < 16) : (tab k).setIfInBounds k (.int .u32 (M.stn 4 (k * 268435456) : Nat)) = tab (k + 1) := by
  apply Array.ext_getElem?
  intro j
  rw [Array.getElem?_setIfInBounds]
  by_cases hj : j < 16
  · rw [tab_get _ _ hj, tab_get _ _ hj, tab_size]
    by_cases e : k = j
    · subst e; simp [h, T]
    · have : T (k + 1) j = T k j := by unfold T; by_cases a : j < k <;> simp [a] <;> omega
      rw [if_neg e, this]
  · have : k ≠ j := by omega
    rw [if_neg this, Array.getElem?_eq_none (by rw [tab_size]; omega), Array.getElem?_eq_none (by rw [tab_size]; omega)]
set_option maxHeartbeats 400000 in
theorem halves_any (w : World) :
    Calls Tryd.prog 42 #[] w fun e w' => e = .returned (.agg (tab 16)) ∧ Below w.heap.size w w' := by
  go_enter Tryd.func42, Tryd.ntmps42
  go_wp2
  go_loopw [3, 5] (fun r i wr => ∃ k : Nat, k ≤ 16 ∧ i = .int .i64 k ∧ wr = (w.alloc (.cells #[Value.int IntKind.u32 0, Value.int IntKind.u32 0, Value.int IntKind.u32 0, Value.int IntKind.u32 0, Value.int IntKind.u32 0, Value.int IntKind.u32 0, Value.int IntKind.u32 0, Value.int IntKind.u32 0, Value.int IntKind.u32 0, Value.int IntKind.u32 0, Value.int IntKind.u32 0, Value.int IntKind.u32 0, Value.int IntKind.u32 0, Value.int IntKind.u32 0, Value.int IntKind.u32 0, Value.int IntKind.u32 0] 64)).alloc (.cells (tab k) 64)) (fun _ i _ => 16 - (intOf i).toNat)
  case atStart => exact ⟨0, by omega, rfl, rfl⟩
  case round =>
    obtain ⟨k, hk, rfl, rfl⟩ := hrel
    by_cases hlt : k < 16
    · have hx : k * 268435456 < 4294967296 := by omega
      go_wp2
      go_loop [3, 11] (fun x i => ∃ j : Nat, j ≤ 4 ∧ i = .int .i64 j ∧ x = .int .u32 (M.stn j (k * 268435456) : Nat)) (fun _ i => 4 - (intOf i).toNat)
      case atStart => exact ⟨0, by omega, rfl, by simp [M.stn]⟩
      case round =>
        obtain ⟨j, hj, rfl, rfl⟩ := hrel
        have hz := M.stn_lt j _ hx
        have hst := M.stn_succ j (k * 268435456)
        have ht := tab_get k k hlt
        have hset := tab_set k hlt
        generalize hzz : M.stn j (k * 268435456) = z at *
        have HZ := Lib.hid hzz
        have HQ := Lib.hid hst
        have HS := Lib.hid hset
        clear hzz hst hset
        go_wp2
        · have ht : ((z : Int) / 2147483648 == 1) = true := by assumption
          go_round
          case rel => exact ⟨j + 1, by omega, by go_num, by rw [HQ.out, st_yes z hz ht]⟩
          case measure => simp [intOf]; omega
        · have ht : ((z : Int) / 2147483648 == 1) = false := by assumption
          go_round
          case rel => exact ⟨j + 1, by omega, by go_num, by rw [HQ.out, st_no z ht]⟩
          case measure => simp [intOf]; omega
        · have : j = 4 := by omega
          go_roundw
          case rel => exact ⟨k + 1, by omega, by go_num, by rw [← HS.out, ← HZ.out, this]⟩
          case measure => simp [intOf]; omega
    · have : k = 16 := by omega
      subst this
      simp only [tab]
      go_wp2
      exact bodyPost_ret (v := .agg (tab 16)) (by simp [results, Tryd.results42, go_sem, tab]) rfl ⟨rfl, by repeat (first | exact Below.refl _ _ | (refine Below.alloc ?_ (by simp) _) | (refine Below.setCell ?_ (by simp) _))⟩
theorem entry (y : Nat) (hy : y < 4294967296) : (tab 16)[y / 268435456]? = some (.int .u32 (M.stn 4 (y / 268435456 * 268435456) : Nat)) := by
  have h : y / 268435456 < 16 := by omega
  rw [tab_get 16 _ h]
  unfold T
  rw [if_pos h]
theorem half (y : Nat) (hy : y < 4294967296) : bits .xor .u32 ((y : Int) * 16 % 4294967296) (M.stn 4 (y / 268435456 * 268435456) : Nat) = ((M.stn 4 y : Nat) : Int) := by
  have h1 : y / 268435456 * 268435456 < 4294967296 := by omega
  have h2 := M.stn_lt 4 _ h1
  rw [M.four y hy]
  have e : ((y : Int) * 16 % 4294967296) = ((y * 16 % 4294967296 : Nat) : Int) := by omega
  rw [e]
  exact u32_xor_nat _ _ (Nat.mod_lt _ (by decide)) h2
set_option maxHeartbeats 400000 in
theorem feed_any (x : Nat) (hx : x < 4294967296) (s : ByteArray) (w : World) (hs : s.size ≤ maxLen) :
    Calls Tryd.prog 43 #[.int .u32 x, .agg (tab 16), .string s] w fun e w' => e = .returned (.int .u32 (M.feed x s.data.toList : Nat)) ∧ Below w.heap.size w w' := by
  unfold maxLen at hs
  go_enter Tryd.func43, Tryd.ntmps43
  go_wp2
  go_loop [0, 10] (fun r i => ∃ k : Nat, k ≤ s.size ∧ i = .int .i64 k ∧ r = .int .u32 (M.feed x (s.data.toList.take k) : Nat)) (fun _ i => s.size - (intOf i).toNat)
  case atStart => exact ⟨0, by omega, rfl, rfl⟩
  case round =>
    obtain ⟨k, hk, rfl, rfl⟩ := hrel
    by_cases hlt : k < s.size
    · have hx0 := M.feed_lt (s.data.toList.take k) x hx
      have hc := s[k].toNat_lt
      have HS : Hid (M.feed x (s.data.toList.take (k + 1)) = M.stn 4 (M.stn 4 (M.feed x (s.data.toList.take k) ^^^ s[k].toNat * 16777216))) := by
        rw [take_snoc s k hlt, M.feed_snoc]; rfl
      generalize M.feed x (s.data.toList.take k) = x0 at *
      have X := xorb _ _ hx0 hc
      have hy : x0 ^^^ s[k].toNat * 16777216 < 4294967296 := Nat.xor_lt_two_pow (n := 32) hx0 (M.m24 _ hc)
      generalize x0 ^^^ s[k].toNat * 16777216 = y at *
      have hz := M.stn_lt 4 y hy
      have c1 := entry y hy
      have x1 := half y hy
      generalize M.stn 4 y = z at *
      have c2 := entry z hz
      have x2 := half z hz
      go_wp2
      go_round
      case rel => exact ⟨k + 1, by omega, by go_num, by rw [HS.out]⟩
      case measure => simp [intOf]; omega
    · go_wp2
      have : k = s.size := by omega
      subst this
      go_ret
      exact ⟨by rw [List.take_of_length_le (by simp)]; rfl, (Below.refl _ _).alloc (Nat.le_refl _) _⟩
/-- a slice value that reads as these strings -/
def Strs (w : World) (v : Value) (ss : List ByteArray) : Prop :=
  ∃ A cap, v = .slice A ss.length cap ∧ (∀ i s, ss[i]? = some s → ∃ b off, A = some ⟨b, off, none⟩ ∧ b < w.heap.size ∧ w.cell? ⟨b, off + i, none⟩ = some (.string s))
theorem tab_info : (Tryd.prog.info? 64).map (·.size) = some (tab 16).size := by kernel_rfl
theorem tab_one : (tab 16).all (·.oneCell') = true := by kernel_rfl
theorem compl (x : Nat) (h : x < 4294967296) : bits .xor .u32 IntKind.u32.max (x : Int) = ((4294967295 - x : Nat) : Int) := by
  have e : IntKind.u32.max = ((4294967295 : Nat) : Int) := by decide
  rw [e, u32_xor_nat _ _ (by decide) h]
  congr 1
  apply Nat.eq_of_testBit_eq
  intro i
  have h1 : (4294967295 - x) = 2 ^ 32 - (x + 1) := by omega
  have h2 : (4294967295 : Nat) = 2 ^ 32 - 1 := by decide
  rw [h1, Nat.testBit_xor, Nat.testBit_two_pow_sub_succ h, h2, Nat.testBit_two_pow_sub_one]
  by_cases hi : i < 32
  · simp [hi]
  · have h3 : 2 ^ 32 ≤ 2 ^ i := Nat.pow_le_pow_right (by decide) (by omega)
    have : x.testBit i = false := Nat.testBit_lt_two_pow (Nat.lt_of_lt_of_le h h3)
    simp [hi, this]
def Row39 (w : World) (B : Nat) : Prop := w.heap[B]? = some (.cells (tab 16) 64 (0, 0))
set_option maxHeartbeats 400000 in
theorem sum_any (v : Value) (ss : List ByteArray) (w : World) (hv : Strs w v ss) (hl : ss.length ≤ maxLen) (hs : ∀ (i : Nat) (s : ByteArray), ss[i]? = some s → s.size ≤ maxLen) :
    Calls Tryd.prog 20 #[v] w fun e w' => e = .returned (.int .u32 (4294967295 - M.feed 4294967295 (cat ss) : Nat)) ∧ Below w.heap.size w w' := by
  obtain ⟨A, cap, rfl, hc⟩ := hv
  unfold maxLen at hl
  go_enter Tryd.func20, Tryd.ntmps20
  go_wp2_with (go_at_call 42; refine (halves_any _).mono ?_; rintro e w1 ⟨rfl, hb1⟩; have hst := run_storeCells_new (P := Tryd.prog) w1 64 #[Value.int IntKind.u32 0, Value.int IntKind.u32 0, Value.int IntKind.u32 0, Value.int IntKind.u32 0, Value.int IntKind.u32 0, Value.int IntKind.u32 0, Value.int IntKind.u32 0, Value.int IntKind.u32 0, Value.int IntKind.u32 0, Value.int IntKind.u32 0, Value.int IntKind.u32 0, Value.int IntKind.u32 0, Value.int IntKind.u32 0, Value.int IntKind.u32 0, Value.int IntKind.u32 0, Value.int IntKind.u32 0] (tab 16) tab_info (by rfl) tab_one; have hsz := tab_size 16)
  clear hst hsz
  have hrow : Row39 (w1.alloc (.cells (tab 16) 64)) w1.heap.size := heap_alloc_last _ _
  have hbw : Below w.heap.size w (w1.alloc (.cells (tab 16) 64)) := hb1.alloc hb1.size _
  have hlt : w.heap.size ≤ w1.heap.size := hb1.size
  have hlt' : w1.heap.size < (w1.alloc (.cells (tab 16) 64)).heap.size := by simp
  generalize (w1.alloc (.cells (tab 16) 64)) = w2 at *
  generalize w1.heap.size = L at *
  clear hb1
  go_loopw [4, 10] (fun r i wr => ∃ k : Nat, k ≤ ss.length ∧ i = .int .i64 k ∧ r = .int .u32 (M.feed 4294967295 (cat (ss.take k)) : Nat) ∧ Below w.heap.size w wr ∧ Row39 wr L ∧ L < wr.heap.size) (fun _ i _ => ss.length - (intOf i).toNat)
  case atStart => exact ⟨0, by omega, rfl, rfl, hbw, hrow, hlt'⟩
  case round =>
    obtain ⟨k, hk, rfl, rfl, hb, hr, hL⟩ := hrel
    by_cases hlt : k < ss.length
    · obtain ⟨s, hsk⟩ : ∃ s, ss[k]? = some s := ⟨_, List.getElem?_eq_getElem hlt⟩
      obtain ⟨b, off, rfl, hbb, hcell⟩ := hc k s hsk
      have hcw : wr.cell? ⟨b, off + k, none⟩ = some (.string s) := (hb.cell (p := ⟨b, off + k, none⟩) hbb).trans hcell
      have hx := M.feed_lt (cat (ss.take k)) 4294967295 (by decide)
      have HS : Hid (M.feed 4294967295 (cat (ss.take (k + 1))) = M.feed (M.feed 4294967295 (cat (ss.take k))) s.data.toList) := by
        rw [cat_snoc ss k s hsk, M.feed_append]; rfl
      have hsz := hs k s hsk
      generalize M.feed 4294967295 (cat (ss.take k)) = x0 at *
      clear hc hcell hbw hrow hlt' hs hsk
      go_wp2_with (first | (refine wpList_load_row rfl 64 _ rfl L rfl 64 (tab 16) (0, 0) _ hr Tryd.underlying64 rfl tab_info ?_) | (go_at_call 43; refine (feed_any _ hx _ _ hsz).mono ?_; rintro e w3 ⟨rfl, hb3⟩))
      go_roundw
      case rel => exact ⟨k + 1, by omega, by go_num, by rw [HS.out], hb.trans (hb3.mono hb.size), (hb3.block _ hL).trans hr, Nat.lt_of_lt_of_le hL hb3.size⟩
      case measure => simp [intOf]; omega
    · have : k = ss.length := by omega
      subst this
      have hfl := M.feed_lt (cat ss) 4294967295 (by decide)
      rw [List.take_length]
      go_wp2
      go_ret
      exact ⟨ret_int (compl _ hfl), hb⟩
end Go.Proofs.YtoadimagpibfoaaDoor.Sm
/- A sum's figures, and the document's. -/
namespace Go.Proofs.YtoadimagpibfoaaDoor.Sm
open Go.RowKit
theorem refSum_any (s : ByteArray) (w : World) (hs : s.size ≤ maxLen) :
    Calls Tryd.prog 17 #[.string s] w fun e w' => e = .returned (.int .u32 (M.crc s.data.toList : Nat)) ∧ w = w' := by
  go_enter Tryd.func17, Tryd.ntmps17
  go_wp2_with (go_at_call 40; refine (refAdd_any 0 (by omega) _ _ hs).mono ?_; rintro e w1 ⟨rfl, rfl⟩)
  go_ret
  exact ⟨rfl, rfl⟩
def F (x k j : Nat) : Nat := if j < k then (dg (x / 16 ^ (7 - j) % 16)).toNat else 0
def ftab (x k : Nat) : Array Value := #[.int .u8 (F x k 0 : Nat), .int .u8 (F x k 1 : Nat), .int .u8 (F x k 2 : Nat), .int .u8 (F x k 3 : Nat), .int .u8 (F x k 4 : Nat), .int .u8 (F x k 5 : Nat), .int .u8 (F x k 6 : Nat), .int .u8 (F x k 7 : Nat)]
theorem ftab_get (x k j : Nat) (h : j < 8) : (ftab x k)[j]? = some (.int .u8 (F x k j : Nat)) := by
  match j, h with
  | 0, _ | 1, _ | 2, _ | 3, _ | 4, _ | 5, _ | 6, _ | 7, _ => rfl
  | n + 8, h => omega
theorem ftab_size (x k : Nat) : (ftab x k).size = 8 := rfl
theorem ftab_set (x k : Nat) (h : k < 8) : (ftab x k).setIfInBounds k (.int .u8 ((dg (x / 16 ^ (7 - k) % 16)).toNat : Nat)) = ftab x (k + 1) := by
  apply Array.ext_getElem?
  intro j
  rw [Array.getElem?_setIfInBounds]
  by_cases hj : j < 8
  · rw [ftab_get _ _ _ hj, ftab_get _ _ _ hj, ftab_size]
    by_cases e : k = j
    · subst e; simp [h, F]
    · have : F x (k + 1) j = F x k j := by unfold F; by_cases a : j < k <;> simp [a] <;> omega
      rw [if_neg e, this]
  · have : k ≠ j := by omega
    rw [if_neg this, Array.getElem?_eq_none (by rw [ftab_size]; omega), Array.getElem?_eq_none (by rw [ftab_size]; omega)]
theorem digit_get (d : Nat) (h : d < 16) (h' : d < (⟨#[48, 49, 50, 51, 52, 53, 54, 55, 56, 57, 97, 98, 99, 100, 101, 102]⟩ : ByteArray).size) :
    (⟨#[48, 49, 50, 51, 52, 53, 54, 55, 56, 57, 97, 98, 99, 100, 101, 102]⟩ : ByteArray)[d] = dg d := by
  match d, h with
  | 0, _ | 1, _ | 2, _ | 3, _ | 4, _ | 5, _ | 6, _ | 7, _ | 8, _ | 9, _ | 10, _ | 11, _ | 12, _ | 13, _ | 14, _ | 15, _ => rfl
  | n + 16, h => omega
theorem nib (x k : Nat) (hx : x < 4294967296) (h : k < 8) : x * 16 ^ k % 4294967296 / 268435456 = x / 16 ^ (7 - k) % 16 := by
  match k, h with
  | 0, _ | 1, _ | 2, _ | 3, _ | 4, _ | 5, _ | 6, _ | 7, _ => simp only [Nat.reduceSub, Nat.reducePow]; omega
  | n + 8, h => omega
theorem shl4 (x k : Nat) : ((x * 16 ^ k % 4294967296 : Nat) : Int) * 16 % 4294967296 = ((x * 16 ^ (k + 1) % 4294967296 : Nat) : Int) := by
  rw [Nat.pow_succ, ← Nat.mul_assoc]
  omega
def fnums (x : Nat) : List Int := [(F x 8 0 : Nat), (F x 8 1 : Nat), (F x 8 2 : Nat), (F x 8 3 : Nat), (F x 8 4 : Nat), (F x 8 5 : Nat), (F x 8 6 : Nat), (F x 8 7 : Nat)]
theorem fnums_get (x i : Nat) (h : i < 8) : (fnums x).getD i 0 = (F x 8 i : Nat) := by
  match i, h with
  | 0, _ | 1, _ | 2, _ | 3, _ | 4, _ | 5, _ | 6, _ | 7, _ => rfl
  | n + 8, h => omega
theorem fnums_str (x : Nat) : strOfNums (fnums x) = figs x := by
  simp [strOfNums, fnums, figs, F]
set_option maxRecDepth 100000 in
set_option maxHeartbeats 1000000 in
theorem figures_any (x : Nat) (hx : x < 4294967296) (w : World) :
    Calls Tryd.prog 19 #[.int .u32 x] w fun e w' => e = .returned (.string (figs x)) ∧ Below w.heap.size w w' := by
  go_enter Tryd.func19, Tryd.ntmps19
  go_wp2
  go_loopw [0, 5] (fun r i wr => ∃ k : Nat, k ≤ 8 ∧ i = .int .i64 k ∧ r = .int .u32 (x * 16 ^ k % 4294967296 : Nat) ∧ wr = w.alloc (.cells (ftab x k) 62)) (fun _ i _ => 8 - (intOf i).toNat)
  case atStart => exact ⟨0, by omega, rfl, by simp; omega, rfl⟩
  case round =>
    obtain ⟨k, hk, rfl, rfl, rfl⟩ := hrel
    by_cases hlt : k < 8
    · have hy : x * 16 ^ k % 4294967296 < 4294967296 := Nat.mod_lt _ (by decide)
      have hn := nib x k hx hlt
      have hs := shl4 x k
      generalize x * 16 ^ k % 4294967296 = y at *
      have HN := Lib.hid hn
      have HS := Lib.hid hs
      clear hn hs
      have ht : (ftab x k)[k]? = some (.int .u8 (F x k k : Nat)) := ftab_get x k k hlt
      go_wp2
      go_round
      case rel =>
        refine ⟨k + 1, by omega, by go_num, by rw [HS.out], ?_⟩
        rw [digit_get _ (by omega), HN.out, ftab_set x k hlt]
      case measure => simp [intOf]; omega
    · have : k = 8 := by omega
      subst this
      have hcv := run_convert_bytes_arg (P := Tryd.prog) (w.alloc (.cells (ftab x 8) 62)) 37 5 Tryd.underlying37 Tryd.underlying5 w.heap.size 0 8 8 (fnums x) rfl (fun i hi => by
        rw [World.cell?_alloc_at _ _ _ _ rfl, Nat.zero_add, ftab_get x 8 i hi, fnums_get x i hi]) 9 Tryd.underlying9
      rw [fnums_str] at hcv
      go_wp2
      go_ret
      exact ⟨rfl, (Below.refl _ _).alloc (Nat.le_refl _) _⟩

theorem run_dig (y : Nat) (w : World) : (Instr.slice 9 (.string ⟨#[48, 49, 50, 51, 52, 53, 54, 55, 56, 57, 97, 98, 99, 100, 101, 102]⟩) (some (.int .u32 ((y : Int) % 16))) (some (.int .u32 ((y : Int) % 16 + 1))) none).run Tryd.prog w = .ok (.string ⟨#[dg (y % 16)]⟩) w := by
  have hd : y % 16 < 16 := Nat.mod_lt _ (by decide)
  have e : (y : Int) % 16 = ((y % 16 : Nat) : Int) := by omega
  rw [e]
  generalize y % 16 = d at *
  rw [run_slice_string _ _ _ _ _ _ _ Tryd.underlying9 (by omega) (by omega) (by show (d : Int) + 1 ≤ (16 : Nat); omega)]
  match d, hd with
  | 0, _ | 1, _ | 2, _ | 3, _ | 4, _ | 5, _ | 6, _ | 7, _ | 8, _ | 9, _ | 10, _ | 11, _ | 12, _ | 13, _ | 14, _ | 15, _ => rfl
  | n + 16, h => omega
theorem joined (c : UInt8) (l : List UInt8) : (⟨#[c]⟩ ++ ⟨l.toArray⟩ : ByteArray) = ⟨(c :: l).toArray⟩ := by
  apply ByteArray.ext
  simp
theorem div16 (x k : Nat) : ((x / 16 ^ k : Nat) : Int) / 16 = ((x / 16 ^ (k + 1) : Nat) : Int) := by
  rw [Nat.pow_succ, ← Nat.div_div_eq_div_mul]
  omega
set_option maxRecDepth 100000 in
set_option maxHeartbeats 1000000 in
theorem refFigures_any (x : Nat) (hx : x < 4294967296) (w : World) :
    Calls Tryd.prog 16 #[.int .u32 x] w fun e w' => e = .returned (.string (figs x)) ∧ w = w' := by
  go_enter Tryd.func16, Tryd.ntmps16
  go_wp2
  go_loop [0, 3, 4] (fun r s i => ∃ k : Nat, k ≤ 8 ∧ i = .int .i64 k ∧ r = .int .u32 (x / 16 ^ k : Nat) ∧ s = .string ⟨((figs x).data.toList.drop (8 - k)).toArray⟩) (fun _ _ i => 8 - (intOf i).toNat)
  case atStart => exact ⟨0, by omega, rfl, by simp, rfl⟩
  case round =>
    obtain ⟨k, hk, rfl, rfl, rfl⟩ := hrel
    by_cases hlt : k < 8
    · have hy : x / 16 ^ k < 4294967296 := Nat.lt_of_le_of_lt (Nat.div_le_self _ _) hx
      have HS := Lib.hid (figs_step x k hlt)
      have HD := Lib.hid (div16 x k)
      generalize x / 16 ^ k = y at *
      have hsl := run_dig y w
      have hfs : (figs x).size ≤ 8 := Nat.le_refl 8
      go_wp2
      go_round
      case rel => exact ⟨k + 1, by omega, by go_num, by rw [HD.out], by rw [HS.out, joined]⟩
      case measure => simp [intOf]; omega
    · have : k = 8 := by omega
      subst this
      go_wp2
      go_ret
      exact ⟨rfl, rfl⟩
end Go.Proofs.YtoadimagpibfoaaDoor.Sm
/- Take: the sum of figures. -/
namespace Go.Proofs.YtoadimagpibfoaaDoor.Sm
open Go.RowKit
theorem idx_fin : ∀ c : Fin 256, Lib.indexByte DIG (UInt8.ofNat c.val) = ix c.val := by decide +kernel
theorem idx (c : UInt8) : Lib.indexByte DIG c = ix c.toNat := by
  have := idx_fin ⟨c.toNat, c.toNat_lt⟩
  simpa using this
def takeV (l : List UInt8) : Value := match takes l with
  | some n => .tuple #[.int .u32 (n : Nat), .bool true]
  | none => .tuple #[.int .u32 0, .bool false]
theorem takeV_len {l : List UInt8} (h : l.length ≠ 8) : takeV l = .tuple #[.int .u32 0, .bool false] := by
  unfold takeV takes; rw [if_neg h]
theorem takeV_some {l : List UInt8} {n : Nat} (hl : l.length = 8) (h : tk 0 l = some n) : takeV l = .tuple #[.int .u32 (n : Nat), .bool true] := by
  unfold takeV takes; rw [if_pos hl, h]
theorem takeV_none {l : List UInt8} (hl : l.length = 8) (h : tk 0 l = none) : takeV l = .tuple #[.int .u32 0, .bool false] := by
  unfold takeV takes; rw [if_pos hl, h]
theorem or4 (x d : Nat) (hx : x < 4294967296) (hd : d < 16) : bits .or .u32 ((x : Int) * 16 % 4294967296) (d : Int) = ((x * 16 % 4294967296 + d : Nat) : Int) := by
  have e : ((x : Int) * 16 % 4294967296) = ((x * 16 % 4294967296 : Nat) : Int) := by omega
  rw [e, u32_or_nat _ _ (Nat.mod_lt _ (by decide)) (by omega), nat_join 4 _ _ (by omega) (by omega)]
theorem index_any (c : UInt8) (w : World) :
    Calls Tryd.prog 58 #[.string ⟨#[48, 49, 50, 51, 52, 53, 54, 55, 56, 57, 97, 98, 99, 100, 101, 102]⟩, .int .u8 (c.toNat : Int)] w fun e w' => e = .returned (.int .i64 (ix c.toNat)) ∧ w = w' :=
  (Tryd.strings_IndexByte _ _ w).mono fun _ _ ⟨he, hw⟩ => ⟨by rw [he]; exact ret_int (by rw [← idx c]; simp [DIG]), hw.symm⟩
theorem index_none (c : UInt8) (h : val c.toNat = none) (w : World) :
    Calls Tryd.prog 58 #[.string ⟨#[48, 49, 50, 51, 52, 53, 54, 55, 56, 57, 97, 98, 99, 100, 101, 102]⟩, .int .u8 (c.toNat : Int)] w fun e w' => e = .returned (.int .i64 (-1)) ∧ w = w' :=
  (index_any c w).mono fun _ _ ⟨he, hw⟩ => ⟨by rw [he, ix, h], hw⟩
theorem index_some (c : UInt8) (d : Nat) (h : val c.toNat = some d) (w : World) :
    Calls Tryd.prog 58 #[.string ⟨#[48, 49, 50, 51, 52, 53, 54, 55, 56, 57, 97, 98, 99, 100, 101, 102]⟩, .int .u8 (c.toNat : Int)] w fun e w' => e = .returned (.int .i64 (d : Int)) ∧ w = w' :=
  (index_any c w).mono fun _ _ ⟨he, hw⟩ => ⟨by rw [he, ix, h], hw⟩
set_option maxRecDepth 100000 in
set_option maxHeartbeats 1000000 in
theorem take_any (s : ByteArray) (w : World) (hs : s.size ≤ maxLen) :
    Calls Tryd.prog 49 #[.string s] w fun e w' => e = .returned (takeV s.data.toList) ∧ w = w' := by
  unfold maxLen at hs
  by_cases h8 : s.size = 8
  · have hb : (!((s.size : Int) == 8)) = false := by simp [h8]
    have hb2 : ((s.size : Int) != 8) = false := by simp [h8]
    have H8 := Lib.hid h8
    have hle : s.size ≤ 8 := by omega
    clear h8
    go_enter Tryd.func49, Tryd.ntmps49
    go_wp2_with fail
    go_loop [4, 12] (fun r i => ∃ k x : Nat, k ≤ s.size ∧ x < 4294967296 ∧ i = .int .i64 k ∧ r = .int .u32 (x : Nat) ∧ tk 0 s.data.toList = tk x (s.data.toList.drop k)) (fun _ i => s.size - (intOf i).toNat)
    case atStart => exact ⟨0, 0, by omega, by omega, rfl, rfl, rfl⟩
    case round =>
      obtain ⟨k, x, hk, hx, rfl, rfl, htk⟩ := hrel
      have HT := Lib.hid htk
      clear htk
      by_cases hlt : k < s.size
      · have hsplit : s.data.toList.drop k = s[k] :: s.data.toList.drop (k + 1) := by
          rw [List.drop_eq_getElem_cons (by simpa using hlt)]; rfl
        cases hv : val s[k].toNat with
        | none =>
          have HN : Hid (tk 0 s.data.toList = none) := by
            show _ = _
            rw [HT.out, hsplit, tk, hv]
          clear hsplit
          go_wp2_with fail
          refine (index_none _ hv _).mono ?_
          clear hv
          rintro e w1 ⟨rfl, rfl⟩
          go_wp2_with fail
          go_ret2
          exact ⟨by rw [takeV_none (by simpa using H8.out) HN.out]; rfl, rfl⟩
        | some d =>
          have hd := val_lt hv
          have HN : Hid (tk 0 s.data.toList = tk (x * 16 % 4294967296 + d) (s.data.toList.drop (k + 1))) := by
            show _ = _
            rw [HT.out, hsplit, tk, hv]
          clear hsplit
          have ho := or4 x d hx hd
          go_wp2_with fail
          refine (index_some _ _ hv _).mono ?_
          clear hv
          rintro e w1 ⟨rfl, rfl⟩
          go_wp2_with fail
          go_round
          case rel => exact ⟨k + 1, x * 16 % 4294967296 + d, by omega, by omega, by go_num, rfl, HN.out⟩
          case measure => simp [intOf]; omega
      · have HN : Hid (tk 0 s.data.toList = some x) := by
          show _ = _
          rw [HT.out, List.drop_of_length_le (by simp; omega)]; rfl
        go_wp2
        go_ret2
        exact ⟨by rw [takeV_some (by simpa using H8.out) HN.out]; rfl, rfl⟩
  · have hb : (!((s.size : Int) == 8)) = true := by simp; omega
    have hb2 : ((s.size : Int) != 8) = true := by simp; omega
    go_enter Tryd.func49, Tryd.ntmps49
    go_wp2_with fail
    go_ret2
    exact ⟨by rw [takeV_len (by simpa using h8)]; rfl, rfl⟩

theorem takeV_of {l : List UInt8} {n : Nat} (h : takes l = some n) : takeV l = .tuple #[.int .u32 (n : Nat), .bool true] := by unfold takeV; rw [h]
theorem takeV_not {l : List UInt8} (h : takes l = none) : takeV l = .tuple #[.int .u32 0, .bool false] := by unfold takeV; rw [h]
theorem take_yes (s : ByteArray) (n : Nat) (h : takes s.data.toList = some n) (w : World) (hs : s.size ≤ maxLen) :
    Calls Tryd.prog 49 #[.string s] w fun e w' => e = .returned (.tuple #[.int .u32 (n : Nat), .bool true]) ∧ w = w' :=
  (take_any s w hs).mono fun _ _ ⟨he, hw⟩ => ⟨by rw [he, takeV_of h], hw⟩
theorem take_no (s : ByteArray) (h : takes s.data.toList = none) (w : World) (hs : s.size ≤ maxLen) :
    Calls Tryd.prog 49 #[.string s] w fun e w' => e = .returned (.tuple #[.int .u32 0, .bool false]) ∧ w = w' :=
  (take_any s w hs).mono fun _ _ ⟨he, hw⟩ => ⟨by rw [he, takeV_not h], hw⟩
end Go.Proofs.YtoadimagpibfoaaDoor.Sm
/- The program's fits, head, foot, partIf. -/
namespace Go.Proofs.YtoadimagpibfoaaDoor.Fr
open Go.RowKit Go.Shelf
attribute [local go_sem] Oper.semAt_some

theorem mkB (l : List UInt8) : (⟨l.toArray⟩ : ByteArray) = B l := rfl
set_option maxRecDepth 100000 in
theorem fits_any (n : Int) (w : World) : Calls Tryd.prog 23 #[.int .i64 n] w fun e w' => e = .returned (.bool (decide (2 ≤ n ∧ n ≤ 50000))) ∧ w' = w := by
  by_cases h1 : 2 ≤ n
  · by_cases h2 : n ≤ 50000
    · have e : decide (2 ≤ n ∧ n ≤ 50000) = true := by simp [h1, h2]
      rw [e]
      go_enter Tryd.func23, Tryd.ntmps23
      go_wp2_with fail
      go_ret
      exact ⟨rfl, rfl⟩
    · have e : decide (2 ≤ n ∧ n ≤ 50000) = false := by simp [h2]
      rw [e]
      go_enter Tryd.func23, Tryd.ntmps23
      go_wp2_with fail
      go_ret
      exact ⟨rfl, rfl⟩
  · have e : decide (2 ≤ n ∧ n ≤ 50000) = false := by simp [h1]
    rw [e]
    go_enter Tryd.func23, Tryd.ntmps23
    go_wp2_with fail
    go_ret
    exact ⟨rfl, rfl⟩
theorem partIf_yes (w : World) : Calls Tryd.prog 28 #[.bool true] w fun e w' => e = .returned (.tuple #[.int .i64 2, .string (B []), .int .i64 0]) ∧ w' = w := by
  go_enter Tryd.func28, Tryd.ntmps28
  go_wp2_with fail
  go_ret3
  exact ⟨rfl, rfl⟩
theorem partIf_no (w : World) : Calls Tryd.prog 28 #[.bool false] w fun e w' => e = .returned (.tuple #[.int .i64 3, .string (B []), .int .i64 0]) ∧ w' = w := by
  go_enter Tryd.func28, Tryd.ntmps28
  go_wp2_with fail
  go_ret3
  exact ⟨rfl, rfl⟩
theorem grow_below {w : World} (n : Nat) (os : Array Obj) : Below w.heap.size w (Go.Sort.grow (w.drewN n) os) :=
  ⟨rfl, rfl, rfl, by rw [Go.Sort.size_grow]; exact Nat.le_add_right _ _, fun k hk => Go.Sort.heap_grow_old _ _ hk⟩
theorem itoa_any (n : Nat) (hn : n ≤ 9223372036854775807) (w : World) (ht : TabsN w) : Calls Tryd.prog 41 #[.int .i64 (n : Int)] w fun e w' => e = .returned (.string (B (Lib.decDigits n))) ∧ Below w.heap.size w w' :=
  (Tryd.strconv_Itoa n (by omega) (by omega) w ht.pow).mono fun e w' ⟨he, k, os, hw⟩ => ⟨by rw [he, Lib.itoa_nonneg]; rfl, by rw [hw]; exact grow_below k os⟩
theorem dec_size (n : Nat) (hn : n ≤ 9223372036854775807) : (B (Lib.decDigits n)).size ≤ 20 := by
  rw [B_size, Lib.decDigits_length]
  exact Lib.nDigits_le20 n (by omega)
set_option maxRecDepth 100000 in
theorem head_any (n : Nat) (hn : n ≤ 9223372036854775807) (f : List UInt8) (hf : f.length ≤ 1000000) (w : World) (ht : TabsN w) :
    Calls Tryd.prog 18 #[.int .i64 (n : Int), .string (B f)] w fun e w' => e = .returned (.string (B (headR n f))) ∧ Below w.heap.size w w' := by
  have IT := Lib.hid (itoa_any n hn w ht)
  have E : Hid ((⟨#[37, 97, 109, 101, 110, 100, 32]⟩ : ByteArray) ++ B (Lib.decDigits n) ++ ⟨#[32]⟩ ++ B f = B (headR n f)) := by
    show _ = _
    rw [show (⟨#[37, 97, 109, 101, 110, 100, 32]⟩ : ByteArray) = B AMD from rfl, show (⟨#[32]⟩ : ByteArray) = B [32] from rfl, B_append, B_append, B_append]
    unfold headR; simp
  have hs := dec_size n hn
  have hfs : (B f).size ≤ 1000000 := by rw [B_size]; exact hf
  generalize B (Lib.decDigits n) = d at *
  generalize B f = g at *
  have s1 : ((⟨#[37, 97, 109, 101, 110, 100, 32]⟩ : ByteArray) ++ d).size ≤ 27 := by rw [ByteArray.size_append]; show 7 + _ ≤ _; omega
  have s2 : ((⟨#[37, 97, 109, 101, 110, 100, 32]⟩ : ByteArray) ++ d ++ ⟨#[32]⟩).size ≤ 28 := by rw [ByteArray.size_append]; show _ + 1 ≤ _; omega
  clear ht
  go_enter Tryd.func18, Tryd.ntmps18
  go_wp2_with fail
  refine IT.out.mono ?_
  rintro e w1 ⟨rfl, hb⟩
  go_wp2_with fail
  go_ret
  exact ⟨by rw [← E.out]; rfl, hb⟩
set_option maxRecDepth 100000 in
theorem foot_any (n : Nat) (hn : n ≤ 9223372036854775807) (w : World) (ht : TabsN w) :
    Calls Tryd.prog 21 #[.int .i64 (n : Int)] w fun e w' => e = .returned (.string (B (footR n))) ∧ Below w.heap.size w w' := by
  have IT := Lib.hid (itoa_any n hn w ht)
  have E : Hid ((⟨#[37, 101, 110, 100, 32]⟩ : ByteArray) ++ B (Lib.decDigits n) ++ ⟨#[10]⟩ = B (footR n)) := by
    show _ = _
    rw [show (⟨#[37, 101, 110, 100, 32]⟩ : ByteArray) = B END from rfl, show (⟨#[10]⟩ : ByteArray) = B [10] from rfl, B_append, B_append]
    unfold footR; simp
  have hs := dec_size n hn
  generalize B (Lib.decDigits n) = d at *
  have s1 : ((⟨#[37, 101, 110, 100, 32]⟩ : ByteArray) ++ d).size ≤ 25 := by rw [ByteArray.size_append]; show 5 + _ ≤ _; omega
  clear ht
  go_enter Tryd.func21, Tryd.ntmps21
  go_wp2_with fail
  refine IT.out.mono ?_
  rintro e w1 ⟨rfl, hb⟩
  go_wp2_with fail
  go_ret
  exact ⟨by rw [← E.out]; rfl, hb⟩
end Go.Proofs.YtoadimagpibfoaaDoor.Fr
/- strings.Cut at one byte; end; beginsBlank. -/
namespace Go.Proofs.YtoadimagpibfoaaDoor
open Go.RowKit

theorem indexByte_cases (l : List UInt8) (c : UInt8) : (Lib.indexByte l c = -1 ∧ c ∉ l) ∨ (Lib.indexByte l c = ((l.takeWhile (· != c)).length : Int) ∧ c ∈ l) := by
  induction l with
  | nil => left; exact ⟨rfl, by simp⟩
  | cons a t ih =>
    unfold Lib.indexByte
    by_cases h : a = c
    · subst h; right; simp
    · have hb : (a == c) = false := by simp [h]
      rcases ih with ⟨h1, h2⟩ | ⟨h1, h2⟩
      · left; rw [h1]; simp [h, h2, Ne.symm h]
      · right; rw [h1]; simp [h, h2]

set_option maxHeartbeats 400000 in
/-- internal/stringslite.Cut at one byte. -/
theorem cut0_no (s : ByteArray) (c : UInt8) (w : World) (h : c ∉ s.data.toList) :
    Calls Tryd.prog 47 #[.string s, .string ⟨#[c]⟩] w fun e w' => e = .returned (.tuple #[.string s, .string ⟨#[]⟩, .bool false]) ∧ ∃ n, w' = w.drewN n := by
  have e0 : Lib.indexByte s.data.toList c = -1 := by
    rcases indexByte_cases s.data.toList c with ⟨a, _⟩ | ⟨_, a⟩
    · exact a
    · exact absurd a h
  go_enter Tryd.func47, Tryd.ntmps47
  go_wp2_with (go_at_call 56; refine (Tryd.stringslite_Index_one s c _).mono ?_; rw [e0]; rintro e w' ⟨rfl, rfl⟩)
  go_ret3
  exact ⟨rfl, 0, rfl⟩
set_option maxHeartbeats 400000 in
theorem cut0_yes (s : ByteArray) (c : UInt8) (w : World) (hs : s.size ≤ maxLen) (h : c ∈ s.data.toList) :
    Calls Tryd.prog 47 #[.string s, .string ⟨#[c]⟩] w fun e w' => e = .returned (.tuple #[.string (s.extract 0 (s.data.toList.takeWhile (· != c)).length), .string (s.extract ((s.data.toList.takeWhile (· != c)).length + 1) s.size), .bool true]) ∧ ∃ n, w' = w.drewN n := by
  have e0 : Lib.indexByte s.data.toList c = ((s.data.toList.takeWhile (· != c)).length : Int) := by
    rcases indexByte_cases s.data.toList c with ⟨_, a⟩ | ⟨a, _⟩
    · exact absurd h a
    · exact a
  have hlt : (s.data.toList.takeWhile (· != c)).length < s.size := by
    rw [Lib.size_eq]
    rcases Nat.lt_or_ge (s.data.toList.takeWhile (· != c)).length s.data.toList.length with h1 | h1
    · exact h1
    · exfalso
      have h2 : s.data.toList.takeWhile (· != c) = s.data.toList := List.IsPrefix.eq_of_length_le (List.takeWhile_prefix _) h1
      have h3 := List.all_eq_true.1 (List.all_takeWhile (p := fun (x : UInt8) => x != c) (l := s.data.toList)) c (by rw [h2]; exact h)
      simp at h3
  unfold maxLen at hs
  generalize (s.data.toList.takeWhile (· != c)).length = i at *
  have h1 : IntKind.i64.wrap ((i : Int) + 1) = (i : Int) + 1 := IntWalk.i64_in _ (by omega)
  go_enter Tryd.func47, Tryd.ntmps47
  go_wp2_with (go_at_call 56; refine (Tryd.stringslite_Index_one s c _).mono ?_; rw [e0]; rintro e w' ⟨rfl, rfl⟩)
  go_quiet (fail)
  go_wp2
  go_ret3
  exact ⟨rfl, _, rfl⟩
set_option maxHeartbeats 400000 in
/-- strings.Cut at one byte: there is none. -/
theorem cut_no (s : ByteArray) (c : UInt8) (w : World) (h : c ∉ s.data.toList) :
    Calls Tryd.prog 27 #[.string s, .string ⟨#[c]⟩] w fun e w' => e = .returned (.tuple #[.string s, .string ⟨#[]⟩, .bool false]) ∧ ∃ n, w' = w.drewN n := by
  go_enter Tryd.func27, Tryd.ntmps27
  go_wp2_with (go_at_call 47; refine (cut0_no s c _ h).mono ?_; rintro e w' ⟨rfl, n, rfl⟩)
  go_ret3
  exact ⟨rfl, _, rfl⟩
set_option maxHeartbeats 400000 in
/-- .. there is one. -/
theorem cut_yes (s : ByteArray) (c : UInt8) (w : World) (hs : s.size ≤ maxLen) (h : c ∈ s.data.toList) :
    Calls Tryd.prog 27 #[.string s, .string ⟨#[c]⟩] w fun e w' => e = .returned (.tuple #[.string (s.extract 0 (s.data.toList.takeWhile (· != c)).length), .string (s.extract ((s.data.toList.takeWhile (· != c)).length + 1) s.size), .bool true]) ∧ ∃ n, w' = w.drewN n := by
  go_enter Tryd.func27, Tryd.ntmps27
  go_wp2_with (go_at_call 47; refine (cut0_yes s c _ hs h).mono ?_; rintro e w' ⟨rfl, n, rfl⟩)
  go_ret3
  exact ⟨rfl, _, rfl⟩
/-- A line as a value. -/
def lineV (x : Ln) : Array Value := #[.int .i64 x.no, .int .i64 x.at_, .string ⟨x.text.toArray⟩, .bool x.ended]
def endS (b : Bool) : ByteArray := if b then ⟨#[10]⟩ else ⟨#[]⟩
set_option maxHeartbeats 400000 in
theorem end_any (a b : Int) (t : ByteArray) (x : Bool) (w : World) :
    Calls Tryd.prog 55 #[.agg #[.int .i64 a, .int .i64 b, .string t, .bool x]] w fun e w' => e = .returned (.string (endS x)) ∧ w' = w.alloc (.cells #[.int .i64 a, .int .i64 b, .string t, .bool x] 50) := by
  cases x
  all_goals
    go_enter Tryd.func55, Tryd.ntmps55
    go_wp2
    go_ret
    exact ⟨rfl, rfl⟩

end Go.Proofs.YtoadimagpibfoaaDoor
/- A range over an iterator that keeps state in boxes of its own: the iterator's contract and the law of the statement. The iterator's k boxes lie at the heap's end where its call begins; a round keeps them, the caller's invariant abides their turns. -/
namespace Go.Proofs.YtoadimagpibfoaaDoor
open Go.RowKit

/-- The blocks from B on, k of them, lie as they lay. -/
structure Stay (B k : Nat) (W W' : World) : Prop where
  size : W.heap.size ≤ W'.heap.size
  same : ∀ r, B ≤ r → r < B + k → W'.heap[r]? = W.heap[r]?

theorem Stay.refl (B k : Nat) (W : World) : Stay B k W W := ⟨Nat.le_refl _, fun _ _ _ => rfl⟩
theorem Stay.trans {B k : Nat} {X Y Z : World} (h : Stay B k X Y) (g : Stay B k Y Z) : Stay B k X Z :=
  ⟨Nat.le_trans h.size g.size, fun r a b => (g.same r a b).trans (h.same r a b)⟩
theorem Stay.alloc {B k : Nat} {X Y : World} (h : Stay B k X Y) (hs : B + k ≤ Y.heap.size) (o : Obj) : Stay B k X (Y.alloc o) :=
  h.trans ⟨by simp, fun r _ b => Below.heap_alloc _ _ _ (by omega)⟩
theorem Stay.setCell {B k : Nat} {X Y : World} (h : Stay B k X Y) {p : Addr} (hp : p.block < B ∨ B + k ≤ p.block) (u : Value) : Stay B k X (Y.setCell p u) :=
  h.trans ⟨by simp [World.setCell], fun r a b => Below.heap_setCell _ _ _ _ (by omega)⟩
theorem Stay.drew {B k : Nat} {X Y : World} (h : Stay B k X Y) : Stay B k X Y.drew := ⟨h.size, h.same⟩
theorem Stay.sub {B k B' k' : Nat} {X Y : World} (h : Stay B k X Y) (a : B ≤ B') (b : B' + k' ≤ B + k) : Stay B' k' X Y :=
  ⟨h.size, fun r c d => h.same r (by omega) (by omega)⟩
theorem Stay.grown {B k : Nat} {X Y Z : World} (h : Stay B k X Y) {row : Option Nat} (hg : Y.grownBy Z row) (hs : B + k ≤ Y.heap.size) (hr : ∀ r, row = some r → r < B ∨ B + k ≤ r) : Stay B k X Z :=
  h.trans ⟨hg.size, fun r a b => hg.block r (by omega) (fun e => by have := hr r e.symm; omega)⟩
theorem Stay.below {B k n : Nat} {X Y Z : World} (h : Stay B k X Y) (hb : Below n Y Z) (hn : B + k ≤ n) : Stay B k X Z :=
  h.trans ⟨hb.size, fun r _ b => hb.block r (by omega)⟩

/-- Whatever lay lies as it lay, but for the blocks from B on, k of them. -/
structure Turned (B k : Nat) (W W' : World) : Prop where
  os : W'.os = W.os
  tape : W'.tape = W.tape
  output : W'.output = W.output
  size : W.heap.size ≤ W'.heap.size
  same : ∀ r, r < W.heap.size → r < B ∨ B + k ≤ r → W'.heap[r]? = W.heap[r]?

theorem Turned.refl (B k : Nat) (W : World) : Turned B k W W := ⟨rfl, rfl, rfl, Nat.le_refl _, fun _ _ _ => rfl⟩
theorem Turned.trans {B k : Nat} {X Y Z : World} (h : Turned B k X Y) (g : Turned B k Y Z) : Turned B k X Z :=
  ⟨g.os.trans h.os, g.tape.trans h.tape, g.output.trans h.output, Nat.le_trans h.size g.size, fun r a b => (g.same r (Nat.lt_of_lt_of_le a h.size) b).trans (h.same r a b)⟩
theorem Turned.grown {B k : Nat} {X Y Z : World} (h : Turned B k X Y) {row : Option Nat} (hg : Y.grownBy Z row) (hr : ∀ r, row = some r → B ≤ r ∧ r < B + k) : Turned B k X Z :=
  h.trans ⟨hg.os, hg.tape, hg.output, hg.size, fun r a b => hg.block r a (fun e => by have := hr r e.symm; omega)⟩
theorem Turned.alloc {B k : Nat} {X Y : World} (h : Turned B k X Y) (o : Obj) : Turned B k X (Y.alloc o) :=
  h.grown (World.grownBy_alloc Y o none) (fun r e => by cases e)
theorem Turned.putObj {B k : Nat} {X Y : World} (h : Turned B k X Y) {l : Nat} (o : Obj) (a : B ≤ l) (b : l < B + k) : Turned B k X (Y.putObj l o) :=
  h.grown (grownBy_putObj' Y l o) (fun r e => by cases e; exact ⟨a, b⟩)
theorem Turned.setCell {B k : Nat} {X Y : World} (h : Turned B k X Y) {p : Addr} (a : B ≤ p.block) (b : p.block < B + k) (u : Value) : Turned B k X (Y.setCell p u) :=
  h.trans ⟨rfl, rfl, rfl, by simp [World.setCell], fun r _ c => Below.heap_setCell _ _ _ _ (by omega)⟩
theorem Turned.drew {B k : Nat} {X Y : World} (h : Turned B k X Y) : Turned B k X Y.drew := ⟨h.os, h.tape, h.output, h.size, h.same⟩
theorem Turned.sub {B k B' k' : Nat} {X Y : World} (h : Turned B' k' X Y) (a : B ≤ B') (b : B' + k' ≤ B + k) : Turned B k X Y :=
  ⟨h.os, h.tape, h.output, h.size, fun r c d => h.same r c (by omega)⟩
theorem Turned.of_below {B k n : Nat} {X Y : World} (h : Below n X Y) (hn : X.heap.size ≤ n) : Turned B k X Y :=
  ⟨h.os, h.tape, h.output, h.size, fun r a _ => h.block r (by omega)⟩
theorem Turned.below {B k n : Nat} {X Y : World} (h : Turned B k X Y) (hn : n ≤ B) (hs : n ≤ X.heap.size) : Below n X Y :=
  ⟨h.os, h.tape, h.output, h.size, fun r a => h.same r (by omega) (by omega)⟩
theorem Turned.box {B k b : Nat} {X Y : World} {t : TypeId} {v : Value} (h : Turned B k X Y) (hv : Boxed X b t v) (hb : b < B ∨ B + k ≤ b) : Boxed Y b t v :=
  (h.same b (Array.getElem?_eq_some_iff.1 (show X.heap[b]? = _ from hv)).1 hb).trans hv
theorem Turned.row {B k : Nat} {X Y : World} {base : Nat} {e : TypeId} {size : Nat} {v : Value} {n : Nat} {xs : List Value} (h : Turned B k X Y) (hr : X.ownsRow base e size v n xs)
    (hb : ∀ b, v.ownBlock = some b → b < B ∨ B + k ≤ b) : Y.ownsRow base e size v n xs := by
  refine ⟨hr.1, ?_⟩
  rcases hr.2 with hn | ⟨g, cap, cur, rfl, hbase, hg, rest⟩
  · exact .inl hn
  · exact .inr ⟨g, cap, cur, rfl, hbase, (h.same g (Array.getElem?_eq_some_iff.1 hg).1 (hb g rfl)).trans hg, rest⟩

/-- What abides the turns of the blocks from B on, k of them, and whatever is laid. -/
def Abide {β : Type} (B k : Nat) (J : β → World → Prop) : Prop := ∀ s W W', J s W → Turned B k W W' → J s W'

theorem Abide.sub {β : Type} {B k B' k' : Nat} {J : β → World → Prop} (h : Abide B k J) (a : B ≤ B') (b : B' + k' ≤ B + k) : Abide B' k' J :=
  fun s W W' hs ht => h s W W' hs (ht.sub a b)
theorem Abide.alloc {β : Type} {B k : Nat} {J : β → World → Prop} (h : Abide B k J) {s : β} {W : World} (o : Obj) (hs : J s W) : J s (W.alloc o) :=
  h s W _ hs ((Turned.refl _ _ _).alloc o)
theorem Abide.putObj {β : Type} {B k : Nat} {J : β → World → Prop} (h : Abide B k J) {s : β} {W : World} {l : Nat} (o : Obj) (hs : J s W) (a : B ≤ l) (b : l < B + k) : J s (W.putObj l o) :=
  h s W _ hs ((Turned.refl _ _ _).putObj o a b)
theorem Abide.and {β : Type} {B k : Nat} {I J : β → World → Prop} (h : Abide B k I) (g : Abide B k J) : Abide B k (fun s W => I s W ∧ J s W) :=
  fun s W W' hs ht => ⟨h s W W' hs.1 ht, g s W W' hs.2 ht⟩
theorem Abide.pure {β : Type} (B k : Nat) (p : β → Prop) : Abide B k (fun s (_ : World) => p s) := fun _ _ _ hs _ => hs
theorem Abide.below {β : Type} {B k n : Nat} {w : World} (hn : n ≤ w.heap.size) (hB : n ≤ B) : Abide B k (fun (_ : β) W => Below n w W) :=
  fun _ _ _ hs ht => hs.trans (ht.below hB (Nat.le_trans hn hs.size))
/-- A box outside. -/
theorem Abide.box {β : Type} {B k b : Nat} {t : TypeId} (hb : b < B ∨ B + k ≤ b) (f : β → Value) : Abide B k (fun s W => Boxed W b t (f s)) :=
  fun _ _ _ hs ht => ht.box hs hb

/-- THE ITERATOR's CONTRACT: the function g, with what it has captured, hands the xs over, one by one; k boxes of its own. -/
def Hands {α : Type} (P : Program) (g : Nat) (lb : Array Value) (encs : α → Array Value) (k : Nat) (xs : List α) (w : World) : Prop :=
  ∀ (l : Nat) (J Jx : List α → World → Prop) (W : World), Below w.heap.size w W → Abide W.heap.size k J →
    (∀ pre x post W1, xs = pre ++ x :: post → W.heap.size + k ≤ W1.heap.size → J pre W1 → YieldAt Fence.wide 7 P l (encs x) W1 fun e W' =>
      (e = .returned (.bool true) ∧ J (pre ++ [x]) W' ∧ Stay W.heap.size k W1 W') ∨ (e = .returned (.bool false) ∧ Jx (pre ++ [x]) W')) →
    J [] W →
    CallsIn Fence.wide 8 P g (#[.func (.yield l) #[] #[]] ++ lb) W fun e W' => (∃ v, e = .returned v) ∧ (J xs W' ∨ ∃ pre, pre <+: xs ∧ Jx pre W')

/-- How the body of a round may be left. -/
def left {α : Type} (B k : Nat) (I : List α → World → Prop) (Ix : Code → List α → World → Prop) (xs : List α) (W : World) : Exit → Act → World → Prop
  | .normal, _, W' => Stay B k W W' ∧ I xs W'
  | .ret, _, W' => Stay B k W W' ∧ Ix .ret xs W'
  | .exit id, _, W' => Stay B k W W' ∧ Ix (.exit id) xs W'
  | .goto t, _, W' => Stay B k W W' ∧ Ix (.goto t) xs W'
  | .panic _, _, _ => False
  | .outgrown, _, _ => False

/-- What is to be shown behind the assignment to the loop's left sides. -/
def assigned (B k : Nat) (M : Act → World → Prop) (W : World) : Exit → Act → World → Prop :=
  Exit.then (fun a' W' => Stay B k W W' ∧ M a' W') (fun _ _ _ => False)

variable {P : Program}

theorem wp_ranged {α : Type} {g : Operand} {ps : Array Tmp} {assign body : Code} {Q : Exit → Act → World → Prop} {a : Act} {w : World}
    {gf : Nat} {lb : Array Value} (hg : a.eval g = .func (.func gf) #[] lb) (eg : ∀ args w, (callFunc gf args).run P w = .ok (.enter gf args) w)
    {encs : α → Array Value} {k : Nat} {xs : List α} (hseq : Hands P gf lb encs k xs w) (hps : ∀ x, (encs x).size = ps.size)
    (I : List α → World → Prop) (Ix : Code → List α → World → Prop) (hI : Abide w.heap.size (k + 2) I) (hIx : ∀ c, Abide w.heap.size 2 (Ix c)) (h0 : I [] w)
    (M : List α → α → Act → World → Prop) (hM : ∀ pre x a', Abide w.heap.size 2 (fun (_ : Unit) W => M pre x a' W))
    (hassign : ∀ (l : Nat) (pre : List α) (x : α) (post : List α) (W : World), xs = pre ++ x :: post → w.heap.size + (k + 2) ≤ W.heap.size → I pre W →
      assign.wpIn (Fence.wide.inRound l) 7 P (assigned w.heap.size (k + 2) (M pre x) W) { tmps := (ps.zip (encs x)).foldl (fun t (p, v) => t.setIfInBounds p v) a.tmps, defers := [] } W)
    (hbody : ∀ (l : Nat) (pre : List α) (x : α) (post : List α) (a' : Act) (W : World), xs = pre ++ x :: post → w.heap.size + (k + 2) ≤ W.heap.size → M pre x a' W →
      body.wpIn (Fence.wide.inRound l) 7 P (left w.heap.size (k + 2) I Ix (pre ++ [x]) W) a' W)
    (hdone : ∀ (W : World), I xs W → W.heap[w.heap.size]? = some (.deferred (some [])) → Q .normal { a with defers := { target := .collected w.heap.size, args := #[] } :: a.defers } W)
    (hstop : ∀ (c : Code) (pre : List α) (W : World), pre <+: xs → Ix c pre W → W.heap[w.heap.size]? = some (.deferred (some [])) → c.wpIn Fence.wide 9 P Q { a with defers := { target := .collected w.heap.size, args := #[] } :: a.defers } W) :
    (Code.rangeFunc g ps assign body).wpIn Fence.wide 9 P Q a w := by
  refine wpIn_rangeFunc fun fn _ => ?_
  show ∃ l mark w₁ d w₁' f args w₂, (Instr.enterLoop fn a.tmps ps assign body none).run P w = .ok (l, mark) w₁ ∧ _
  obtain ⟨rec, hrec⟩ : ∃ rec : LoopState → Option Code → Loop, rec = fun st pe => { state := st, pending := pe, fn, tmps := a.tmps, params := ps, assign, body, defers := w.heap.size } := ⟨_, rfl⟩
  obtain ⟨W1, hW1⟩ : ∃ W1, (w.alloc (.deferred (some []))).alloc (.loop (rec .ready none)) = W1 := ⟨_, rfl⟩
  have hz1 : W1.heap.size = w.heap.size + 2 := by rw [← hW1]; simp
  have hL1 : W1.heap[w.heap.size + 1]? = some (.loop (rec .ready none)) := by
    rw [← hW1]; have := World.alloc_heap_new (w.alloc (.deferred (some []))) (.loop (rec .ready none)); rwa [World.size_alloc] at this
  have hK1 : W1.heap[w.heap.size]? = some (.deferred (some [])) := by
    rw [← hW1]; exact (Below.heap_alloc _ _ _ (by simp)).trans (World.alloc_heap_new w _)
  have hI1 : I [] W1 := by rw [← hW1]; exact hI.alloc _ (hI.alloc _ h0)
  have hb1 : Below w.heap.size w W1 := by rw [← hW1]; exact ((Below.refl _ w).alloc (Nat.le_refl _) _).alloc (by simp) _
  -- a turn of one of the iterator's own boxes leaves the two blocks of the statement as they were
  have two : ∀ {A B : World}, Turned W1.heap.size k A B → ∀ q o, q < w.heap.size + 2 → A.heap[q]? = some o → B.heap[q]? = some o :=
    fun ht q o hq ho => (ht.same q (Array.getElem?_eq_some_iff.1 ho).1 (by omega)).trans ho
  refine ⟨w.heap.size + 1, [{ target := .collected w.heap.size, args := #[] }], W1, { target := .fn (.func gf) lb, args := #[.func (.yield (w.heap.size + 1)) #[] #[]] }, W1, gf,
    #[.func (.yield (w.heap.size + 1)) #[] #[]] ++ lb, W1, ?_, ?_, fun _ _ => trivial, ?_, (fun h => by cases h), ?_⟩
  · rw [← hW1, hrec]; exact run_enterLoop_outer _ _ _ _ _
  · simp only [resolve, hg]
    simp [go_sem]
  · simp [invoke, go_sem, eg]
  refine (hseq (w.heap.size + 1)
    (fun pre W => I pre W ∧ W.heap[w.heap.size + 1]? = some (.loop (rec .ready none)) ∧ W.heap[w.heap.size]? = some (.deferred (some [])))
    (fun pre W => ∃ c, Ix c pre W ∧ W.heap[w.heap.size + 1]? = some (.loop (rec .done (some c))) ∧ W.heap[w.heap.size]? = some (.deferred (some [])))
    W1 hb1
    (fun s A B hs ht => ⟨hI s A B hs.1 (ht.sub (by omega) (by omega)), two ht _ _ (by omega) hs.2.1, two ht _ _ (by omega) hs.2.2⟩)
    ?_ ⟨hI1, hL1, hK1⟩).mono ?_
  · -- one round
    rintro pre x post W hx hsz ⟨hi, hl, hk⟩
    rw [hz1] at hsz
    have hy := run_yield (P := P) (args := encs x) hl (by rw [hrec]; exact hps x)
    rw [hrec] at hy
    refine ⟨fn, _, assign, body, hy, roundIn_of_wpIn trivial (wpIn_mono (hassign _ pre x post W hx (by omega) hi) ?_)⟩
    intro e a' Wa hp
    cases e with
    | normal =>
      obtain ⟨hs1, hm⟩ := hp
      have hla := (hs1.same (w.heap.size + 1) (by omega) (by omega)).trans hl
      have hka := (hs1.same w.heap.size (by omega) (by omega)).trans hk
      have hlt := (Array.getElem?_eq_some_iff.1 hla).1
      refine ⟨_, run_beginRound hla (by rw [hrec]), ?_⟩
      have hl2 : (Wa.putObj (w.heap.size + 1) (.loop { rec .ready none with state := .busy })).heap[w.heap.size + 1]? = some (.loop { rec .ready none with state := .busy }) := World.putObj_heap_same hlt
      have hk2 : (Wa.putObj (w.heap.size + 1) (.loop { rec .ready none with state := .busy })).heap[w.heap.size]? = some (.deferred (some [])) := (World.putObj_heap_other (by omega)).trans hka
      have hn2 : ∀ r, w.heap.size + 2 ≤ r → (Wa.putObj (w.heap.size + 1) (.loop { rec .ready none with state := .busy })).heap[r]? = Wa.heap[r]? := fun r hr => World.putObj_heap_other (by omega)
      have hz2 : ∀ o, (Wa.putObj (w.heap.size + 1) o).heap.size = Wa.heap.size := fun o => by simp
      have hm2 := (hM pre x a').putObj (s := ()) (.loop { rec .ready none with state := .busy }) hm (l := w.heap.size + 1) (by omega) (by omega)
      have hsa := hs1.size
      refine wpIn_mono (hbody _ pre x post a' _ hx (by rw [hz2]; omega) hm2) ?_
      have fin : ∀ (jump : Option Code) (W3 : World), Stay w.heap.size (k + 2) (Wa.putObj (w.heap.size + 1) (.loop { rec .ready none with state := .busy })) W3 →
          (Instr.endRound (w.heap.size + 1) jump).run P W3 = .ok (.bool jump.isNone) (W3.putObj (w.heap.size + 1) (.loop (rec (if jump.isNone then .ready else .done) jump))) ∧
          (W3.putObj (w.heap.size + 1) (.loop (rec (if jump.isNone then .ready else .done) jump))).heap[w.heap.size + 1]? = some (.loop (rec (if jump.isNone then .ready else .done) jump)) ∧
          (W3.putObj (w.heap.size + 1) (.loop (rec (if jump.isNone then .ready else .done) jump))).heap[w.heap.size]? = some (.deferred (some [])) := fun jump W3 hs3 => by
        have hl3 := (hs3.same (w.heap.size + 1) (by omega) (by omega)).trans hl2
        have hk3 := (hs3.same w.heap.size (by omega) (by omega)).trans hk2
        have := run_endRound (P := P) jump hl3
        rw [hrec] at this ⊢
        exact ⟨this, World.putObj_heap_same (Array.getElem?_eq_some_iff.1 hl3).1, (World.putObj_heap_other (by omega)).trans hk3⟩
      intro e a3 W3 hp
      cases e with
      | normal =>
        obtain ⟨hs3, hi3⟩ := hp
        obtain ⟨hr, hl4, hk4⟩ := fin none W3 hs3
        refine ⟨_, _, hr, .inl ⟨rfl, ⟨hI.putObj _ hi3 (by omega) (by omega), hl4, hk4⟩, ?_⟩⟩
        have hsz3 := hs3.size
        refine ⟨by simp only [World.putObj, Array.size_setIfInBounds] at hsz3 ⊢; omega, fun r a b => ?_⟩
        rw [hz1] at a b
        rw [World.putObj_heap_other (by omega), hs3.same r (by omega) (by omega), hn2 r a, hs1.same r (by omega) (by omega)]
      | ret =>
        obtain ⟨hs3, hi3⟩ := hp
        obtain ⟨hr, hl4, hk4⟩ := fin (some .ret) W3 hs3
        exact ⟨_, _, hr, .inr ⟨rfl, .ret, (hIx _).putObj _ hi3 (by omega) (by omega), hl4, hk4⟩⟩
      | exit id =>
        obtain ⟨hs3, hi3⟩ := hp
        obtain ⟨hr, hl4, hk4⟩ := fin (some (.exit id)) W3 hs3
        exact ⟨_, _, hr, .inr ⟨rfl, .exit id, (hIx _).putObj _ hi3 (by omega) (by omega), hl4, hk4⟩⟩
      | goto t =>
        obtain ⟨hs3, hi3⟩ := hp
        obtain ⟨hr, hl4, hk4⟩ := fin (some (.goto t)) W3 hs3
        exact ⟨_, _, hr, .inr ⟨rfl, .goto t, (hIx _).putObj _ hi3 (by omega) (by omega), hl4, hk4⟩⟩
      | panic ch => exact hp.elim
      | outgrown => exact hp.elim
    | ret => exact hp.elim
    | exit id => exact hp.elim
    | goto t => exact hp.elim
    | panic ch => exact hp.elim
    | outgrown => exact hp.elim
  · -- behind the iterator
    rintro e W2 ⟨⟨v, rfl⟩, (⟨hi, hl, hk⟩ | ⟨pre, hpre, c, hi, hl, hk⟩)⟩
    · exact ⟨none, _, by have := run_endLoop (P := P) hl (by rw [hrec]; simp); rw [hrec] at this; exact this, hdone _ (hI.putObj _ hi (by omega) (by omega)) ((World.putObj_heap_other (by omega)).trans hk)⟩
    · exact ⟨some c, _, by have := run_endLoop (P := P) hl (by rw [hrec]; simp); rw [hrec] at this; exact this, hstop c pre _ hpre ((hIx c).putObj _ hi (by omega) (by omega)) ((World.putObj_heap_other (by omega)).trans hk)⟩
end Go.Proofs.YtoadimagpibfoaaDoor
/- Heap objects that belong to one owner: cells known whole, rows, what else lies as it lay; tags of blocks. -/
namespace Go.RowKit
theorem Below.drewNN {B : Nat} {a w : World} (h : Below B a w) (n : Nat) : Below B a (w.drewN n) := ⟨h.os, h.tape, h.output, h.size, h.block⟩
end Go.RowKit
namespace Go.Proofs.YtoadimagpibfoaaDoor
open Go.RowKit

/-- Whatever lay lies as it lay, but for the blocks of S. -/
structure Only (S : Nat → Prop) (W W' : World) : Prop where
  os : W'.os = W.os
  tape : W'.tape = W.tape
  output : W'.output = W.output
  size : W.heap.size ≤ W'.heap.size
  same : ∀ r, r < W.heap.size → ¬ S r → W'.heap[r]? = W.heap[r]?
section
variable {S : Nat → Prop} {X Y Z : World}
theorem Only.refl (S : Nat → Prop) (W : World) : Only S W W := ⟨rfl, rfl, rfl, Nat.le_refl _, fun _ _ _ => rfl⟩
theorem Only.trans {S' : Nat → Prop} (h : Only S X Y) (g : Only S' Y Z) (hs : ∀ r, r < X.heap.size → S' r → S r) : Only S X Z :=
  ⟨g.os.trans h.os, g.tape.trans h.tape, g.output.trans h.output, Nat.le_trans h.size g.size, fun r a b => (g.same r (Nat.lt_of_lt_of_le a h.size) (fun c => b (hs r a c))).trans (h.same r a b)⟩
theorem Only.alloc (h : Only S X Y) (o : Obj) : Only S X (Y.alloc o) :=
  ⟨h.os, h.tape, h.output, by simp; have := h.size; omega, fun r a b => (Below.heap_alloc _ _ _ (Nat.lt_of_lt_of_le a h.size)).trans (h.same r a b)⟩
theorem Only.setCell (h : Only S X Y) {p : Addr} (hp : S p.block ∨ X.heap.size ≤ p.block) (u : Value) : Only S X (Y.setCell p u) :=
  ⟨h.os, h.tape, h.output, by simp only [World.setCell, Array.size_modify]; exact h.size, fun r a b => (Below.heap_setCell _ _ _ _ (by rintro rfl; rcases hp with hp | hp; exact b hp; omega)).trans (h.same r a b)⟩
theorem Only.cellS {p : Nat} (h : Only (· = p) X Y) (o : Nat) (u : Value) : Only (· = p) X (Y.setCell ⟨p, o, none⟩ u) := h.setCell (p := ⟨p, o, none⟩) (.inl rfl) u
theorem Only.drew (h : Only S X Y) : Only S X Y.drew := ⟨h.os, h.tape, h.output, h.size, h.same⟩
theorem Only.drewN (h : Only S X Y) (n : Nat) : Only S X (Y.drewN n) := ⟨h.os, h.tape, h.output, h.size, h.same⟩
theorem Only.grown (h : Only S X Y) {row : Option Nat} (g : Y.grownBy Z row) (hr : ∀ k, row = some k → S k ∨ X.heap.size ≤ k) : Only S X Z :=
  ⟨g.os.trans h.os, g.tape.trans h.tape, g.output.trans h.output, Nat.le_trans h.size g.size, fun r a b => (g.block r (Nat.lt_of_lt_of_le a h.size) (fun e => by rcases hr r e.symm with c | c; exact b c; omega)).trans (h.same r a b)⟩
theorem Only.below (h : Only S X Y) {B : Nat} (g : Below B Y Z) (hB : X.heap.size ≤ B) : Only S X Z :=
  ⟨g.os.trans h.os, g.tape.trans h.tape, g.output.trans h.output, Nat.le_trans h.size g.size, fun r a b => (g.block r (by omega)).trans (h.same r a b)⟩
theorem Only.to_below (h : Only S X Y) {B : Nat} (hB : B ≤ X.heap.size) (hs : ∀ r, r < B → ¬ S r) : Below B X Y :=
  ⟨h.os, h.tape, h.output, h.size, fun r a => h.same r (by omega) (hs r a)⟩
theorem Only.of_below {B : Nat} (g : Below B X Y) (hB : X.heap.size ≤ B) : Only S X Y := (Only.refl S X).below g hB
theorem Only.mono {S' : Nat → Prop} (h : Only S X Y) (hs : ∀ r, r < X.heap.size → S r → S' r) : Only S' X Y := ⟨h.os, h.tape, h.output, h.size, fun r a b => h.same r a (fun c => b (hs r a c))⟩
end

theorem row_same {W W' : World} {base : Nat} {e : TypeId} {size : Nat} {v : Value} {n : Nat} {xs : List Value} (h : W.ownsRow base e size v n xs) (hs : ∀ b, v.ownBlock = some b → W'.heap[b]? = W.heap[b]?) : W'.ownsRow base e size v n xs := by
  refine ⟨h.1, ?_⟩
  rcases h.2 with hn | ⟨g, cap, cur, rfl, hbase, hg, rest⟩
  · exact .inl hn
  · exact .inr ⟨g, cap, cur, rfl, hbase, (hs g rfl).trans hg, rest⟩
theorem row_only {W W' : World} {S : Nat → Prop} {base : Nat} {e : TypeId} {size : Nat} {v : Value} {n : Nat} {xs : List Value} (h : W.ownsRow base e size v n xs) (g : Only S W W') (hs : ∀ b, v.ownBlock = some b → ¬ S b) : W'.ownsRow base e size v n xs :=
  row_same h fun b hb => g.same b (h.lt b hb).2 (hs b hb)
theorem row_below {W W' : World} {B : Nat} {base : Nat} {e : TypeId} {size : Nat} {v : Value} {n : Nat} {xs : List Value} (h : W.ownsRow base e size v n xs) (g : Below B W W') (hB : W.heap.size ≤ B) : W'.ownsRow base e size v n xs :=
  row_same h fun b hb => g.block b (Nat.lt_of_lt_of_le (h.lt b hb).2 hB)
theorem row_cell {W : World} {base : Nat} {e : TypeId} {size : Nat} {v : Value} {n : Nat} {xs : List Value} (h : W.ownsRow base e size v n xs) {p : Addr} (hp : v.ownBlock ≠ some p.block) (u : Value) : (W.setCell p u).ownsRow base e size v n xs :=
  row_same h fun b hb => Below.heap_setCell _ _ _ _ (fun e => hp (by rw [hb, e]))
/-- A block of cells known whole. -/
def Cells (W : World) (b : Nat) (t : TypeId) (cur : Array Value) : Prop := W.heap[b]? = some (.cells cur t (0, 0))
section
variable {W W' : World} {b : Nat} {t : TypeId} {cur : Array Value}
theorem Cells.lt (h : Cells W b t cur) : b < W.heap.size := (Array.getElem?_eq_some_iff.1 (show W.heap[b]? = _ from h)).1
theorem Cells.new (W : World) (t : TypeId) (cur : Array Value) : Cells (W.alloc (.cells cur t)) W.heap.size t cur := heap_alloc_new W _
theorem Cells.alloc (h : Cells W b t cur) (o : Obj) : Cells (W.alloc o) b t cur := (Below.heap_alloc _ _ _ h.lt).trans h
theorem Cells.drewN (h : Cells W b t cur) (n : Nat) : Cells (W.drewN n) b t cur := h
theorem Cells.drew (h : Cells W b t cur) : Cells W.drew b t cur := h
theorem Cells.other (h : Cells W b t cur) {p : Addr} (hp : b ≠ p.block) (u : Value) : Cells (W.setCell p u) b t cur := (Below.heap_setCell _ _ _ _ hp).trans h
theorem Cells.set (h : Cells W b t cur) (i : Nat) (u : Value) : Cells (W.setCell ⟨b, i, none⟩ u) b t (cur.setIfInBounds i u) := by
  obtain ⟨hlt, hk⟩ := Array.getElem?_eq_some_iff.1 (show W.heap[b]? = _ from h)
  show (W.heap.modify b _)[b]? = _
  rw [Array.getElem?_eq_getElem (by rw [Array.size_modify]; exact hlt), Array.getElem_modify_self, hk]
  rfl
theorem Cells.cell (h : Cells W b t cur) (i : Nat) : W.cell? ⟨b, i, none⟩ = cur[i]? := by
  simp [World.cell?, show W.heap[b]? = _ from h]
theorem Cells.frozen (h : Cells W b t cur) (i : Nat) : W.frozen? ⟨b, i, none⟩ = false := by
  simp [World.frozen?, show W.heap[b]? = _ from h]
theorem Cells.only {S : Nat → Prop} (h : Cells W b t cur) (g : Only S W W') (hb : ¬ S b) : Cells W' b t cur := (g.same b h.lt hb).trans h
theorem Cells.below {B : Nat} (h : Cells W b t cur) (g : Below B W W') (hb : b < B) : Cells W' b t cur := (g.block b hb).trans h
theorem Cells.grown {row : Option Nat} (h : Cells W b t cur) (g : W.grownBy W' row) (hb : some b ≠ row) : Cells W' b t cur := (g.block b h.lt hb).trans h
end
end Go.Proofs.YtoadimagpibfoaaDoor
/- The closure that answers a text's lines one by one. -/
namespace Go.Proofs.YtoadimagpibfoaaDoor
open Go.RowKit

def restS (s : ByteArray) : ByteArray := if nl s.data.toList then s.extract ((head s.data.toList).length + 1) s.size else ⟨#[]⟩
theorem takeWhile_all {p : UInt8 → Bool} : ∀ {l : List UInt8}, (∀ x ∈ l, p x = true) → l.takeWhile p = l
  | [], _ => rfl
  | a :: l, h => by rw [List.takeWhile_cons, h a (by simp), if_pos rfl, takeWhile_all fun x hx => h x (by simp [hx])]
theorem cut_line (s : ByteArray) (w : World) (hs : s.size ≤ maxLen) :
    Calls Tryd.prog 27 #[.string s, .string ⟨#[10]⟩] w fun e w' => e = .returned (.tuple #[.string ⟨(head s.data.toList).toArray⟩, .string (restS s), .bool (nl s.data.toList)]) ∧ ∃ n, w' = w.drewN n := by
  by_cases h : (10 : UInt8) ∈ s.data.toList
  · have e1 : nl s.data.toList = true := by unfold nl; simpa using h
    have e2 : s.extract 0 (s.data.toList.takeWhile (· != 10)).length = ⟨(head s.data.toList).toArray⟩ := by
      have h0 := Lib.extract_data s 0 (s.data.toList.takeWhile (· != 10)).length
      rw [← Lib.mk_data (s.extract 0 _), h0]
      have : List.take ((s.data.toList.takeWhile (· != 10)).length - 0) (List.drop 0 s.data.toList) = head s.data.toList := by
        rw [List.drop_zero, Nat.sub_zero]
        exact (List.prefix_iff_eq_take.1 (List.takeWhile_prefix _)).symm
      rw [this]
    refine (cut_yes s 10 w hs h).mono ?_
    rintro e w' ⟨rfl, n, rfl⟩
    refine ⟨?_, n, rfl⟩
    rw [e1, e2]; unfold restS; rw [if_pos e1]; rfl
  · have e1 : nl s.data.toList = false := by unfold nl; simpa using h
    have e2 : head s.data.toList = s.data.toList := by
      exact takeWhile_all fun x hx => by simp; rintro rfl; exact h hx
    refine (cut_no s 10 w h).mono ?_
    rintro e w' ⟨rfl, n, rfl⟩
    refine ⟨?_, n, rfl⟩
    rw [e1, e2, Lib.mk_data]; unfold restS; rw [e1]; rfl

/-- Whatever lay lies as it lay, but for two blocks. -/
structure Two (b c : Nat) (W W' : World) : Prop where
  os : W'.os = W.os
  tape : W'.tape = W.tape
  output : W'.output = W.output
  size : W.heap.size ≤ W'.heap.size
  same : ∀ r, r < W.heap.size → r ≠ b → r ≠ c → W'.heap[r]? = W.heap[r]?
theorem Two.refl (b c : Nat) (W : World) : Two b c W W := ⟨rfl, rfl, rfl, Nat.le_refl _, fun _ _ _ _ => rfl⟩
theorem Two.alloc {b c : Nat} {X Y : World} (h : Two b c X Y) (o : Obj) : Two b c X (Y.alloc o) :=
  ⟨h.os, h.tape, h.output, by simp; have := h.size; omega, fun r a x y => (Below.heap_alloc _ _ _ (Nat.lt_of_lt_of_le a h.size)).trans (h.same r a x y)⟩
theorem Two.setCell {b c : Nat} {X Y : World} (h : Two b c X Y) {p : Addr} (hp : p.block = b ∨ p.block = c ∨ X.heap.size ≤ p.block) (u : Value) : Two b c X (Y.setCell p u) :=
  ⟨h.os, h.tape, h.output, by simp only [World.setCell, Array.size_modify]; exact h.size, fun r a x y => (Below.heap_setCell _ _ _ _ (by omega)).trans (h.same r a x y)⟩
theorem Two.drew {b c : Nat} {X Y : World} (h : Two b c X Y) : Two b c X Y.drew := ⟨h.os, h.tape, h.output, h.size, h.same⟩
theorem Two.drewN {b c : Nat} {X Y : World} (h : Two b c X Y) (n : Nat) : Two b c X (Y.drewN n) := ⟨h.os, h.tape, h.output, h.size, h.same⟩
theorem Two.box {b c d : Nat} {X Y : World} {t : TypeId} {v : Value} (h : Two b c X Y) (hv : Boxed X d t v) (x : d ≠ b) (y : d ≠ c) : Boxed Y d t v :=
  (h.same d hv.lt x y).trans hv
theorem Two.turned {b c B k : Nat} {X Y : World} (h : Two b c X Y) (hb : B ≤ b ∧ b < B + k) (hc : B ≤ c ∧ c < B + k) : Turned B k X Y :=
  ⟨h.os, h.tape, h.output, h.size, fun r a x => h.same r a (by omega) (by omega)⟩

set_option maxHeartbeats 400000 in
theorem next_no (s : ByteArray) (at_ : Nat) (Bat Btx Bno : Nat) (w : World) (hat : Boxed w Bat 3 (.int .i64 at_)) (htx : Boxed w Btx 9 (.string s)) (he : at_ = s.size) :
    Calls Tryd.prog 54 #[.pointer (some ⟨Bat, 0, none⟩), .pointer (some ⟨Btx, 0, none⟩), .pointer (some ⟨Bno, 0, none⟩)] w fun e w' =>
      e = .returned (.tuple #[.agg #[.int .i64 0, .int .i64 0, .string ⟨#[]⟩, .bool false], .bool false]) ∧ Two Bno Bat w w' := by
  have c1 := hat.cell
  have c2 := htx.cell
  have z1 := hat.lt
  have z2 := htx.lt
  have e1 : ((at_ : Int) == (s.size : Int)) = true := by rw [he]; simp
  go_enter Tryd.func54, Tryd.ntmps54
  go_wp2
  refine bodyPost_ret (v := .tuple #[.agg #[.int .i64 0, .int .i64 0, .string ⟨#[]⟩, .bool false], .bool false]) (by simp [results, Tryd.results54, go_sem]) rfl ⟨rfl, ?_⟩
  exact (Two.refl _ _ _).alloc _

set_option maxHeartbeats 8000000 in
theorem next_yes (s : ByteArray) (at_ no : Nat) (Bat Btx Bno : Nat) (w : World) (hat : Boxed w Bat 3 (.int .i64 at_)) (htx : Boxed w Btx 9 (.string s)) (hno : Boxed w Bno 3 (.int .i64 no))
    (h1 : at_ < s.size) (h2 : no < s.size) (hs : s.size ≤ 4294967295) (d1 : Bat ≠ Btx) (d2 : Bat ≠ Bno) (d3 : Btx ≠ Bno) :
    Calls Tryd.prog 54 #[.pointer (some ⟨Bat, 0, none⟩), .pointer (some ⟨Btx, 0, none⟩), .pointer (some ⟨Bno, 0, none⟩)] w fun e w' =>
      e = .returned (.tuple #[.agg (lineV ⟨no, at_, head (s.data.toList.drop at_), nl (s.data.toList.drop at_)⟩), .bool true]) ∧ Two Bno Bat w w' ∧ Boxed w' Bno 3 (.int .i64 (no + 1 : Nat)) ∧ Boxed w' Bat 3 (.int .i64 (at_ + used (s.data.toList.drop at_) : Nat)) := by
  have c1 := hat.cell
  have c2 := htx.cell
  have c3 := hno.cell
  have f1 := hat.frozen
  have f3 := hno.frozen
  have z1 := hat.lt
  have z2 := htx.lt
  have z3 := hno.lt
  have e1 : ((at_ : Int) == (s.size : Int)) = false := by rw [beq_eq_false_iff_ne]; omega
  go_enter Tryd.func54, Tryd.ntmps54
  go_wp2_with fail
  have hx : (s.extract at_ s.size).data.toList = s.data.toList.drop at_ := Lib.extract_to_end s at_
  have hz : (s.extract at_ s.size).size ≤ maxLen := by rw [Lib.size_eq, hx]; unfold maxLen; simp only [List.length_drop, ← Lib.size_eq]; omega
  refine (cut_line (s.extract at_ s.size) _ hz).mono ?_
  rw [hx]
  rintro e w1 ⟨rfl, n1, rfl⟩
  have hu : (head (s.data.toList.drop at_)).length + (endS (nl (s.data.toList.drop at_))).size = used (s.data.toList.drop at_) := by
    unfold used endS; cases nl (s.data.toList.drop at_) <;> rfl
  have hul := used_le (s.data.toList.drop at_)
  rw [List.length_drop, ← Lib.size_eq] at hul
  have hu' : (⟨(head (s.data.toList.drop at_)).toArray⟩ : ByteArray).size = (head (s.data.toList.drop at_)).length := by simp [Lib.size_eq]
  generalize hhd : head (s.data.toList.drop at_) = hd at *
  generalize hen : nl (s.data.toList.drop at_) = en at *
  generalize hus : used (s.data.toList.drop at_) = us at *
  have H1 := Lib.hid hhd
  have H2 := Lib.hid hen
  have H3 := Lib.hid hus
  clear hhd hen hus
  generalize restS (s.extract at_ s.size) = rs at *
  have HU := Lib.hid hu
  have HU' := Lib.hid hu'
  clear hu hu' hx hz
  have hat2 : Boxed (w.alloc (.cells #[.int .i64 0, .int .i64 0, .string ⟨#[]⟩, .bool false] 50)) Bat 3 (.int .i64 at_) := hat.alloc _
  go_upto_region 5 with fail
  go_cut [] (fun wx => Two Bno Bat w wx ∧ wx.heap.size = w.heap.size + 1 + 1 ∧ Boxed wx Bno 3 (.int .i64 (no + 1 : Nat)) ∧ Boxed wx Bat 3 (.int .i64 at_) ∧
    Cells wx w.heap.size 50 #[.int .i64 0, .int .i64 0, .string ⟨#[]⟩, .bool false] ∧ Cells wx (w.heap.size + 1) 50 #[.int .i64 no, .int .i64 at_, .string ⟨hd.toArray⟩, .bool en])
  case first =>
    go_wp2_with fail
    go_meet
    refine ⟨?_, ?_, ?_, ?_, ?_, ?_⟩
    · exact (((((((Two.refl Bno Bat w).alloc _).alloc _).drewN n1).setCell (.inr (.inr (by simp))) _).setCell (.inr (.inr (by simp))) _).setCell (.inl rfl) _)
    · simp [World.setCell]
    · exact Boxed.set _ (Cells.other (Cells.other (((Cells.alloc (Cells.alloc hno _) _).drewN n1)) (by simp; omega) _) (by simp; omega) _)
    · exact Cells.other (Cells.other (Cells.other (((Cells.alloc (Cells.alloc hat _) _).drewN n1)) (by simp; omega) _) (by simp; omega) _) d2 _
    · exact Cells.other (Cells.other (Cells.other (((Cells.alloc (Cells.new w _ _) _).drewN n1)) (by simp) _) (by simp) _) (by simp; omega) _
    · have h0 := Cells.new (w.alloc (.cells #[.int .i64 0, .int .i64 0, .string ⟨#[]⟩, .bool false] 50)) 50 #[.int .i64 no, .int .i64 at_, .string ⟨#[]⟩, .bool false]
      rw [World.size_alloc] at h0
      exact Cells.other (((h0.drewN n1).set 2 (.string ⟨hd.toArray⟩)).set 3 (.bool en)) (by simp; omega) _
  case rest =>
    obtain ⟨t1, t2, t3, t4, t5, t6⟩ := hcut
    have t3' := Lib.hid t3
    have q0 := t4.cell
    have q1 := t4.frozen
    have q2 : wc.cell? ⟨w.heap.size + 1, 2, none⟩ = some (.string ⟨hd.toArray⟩) := t6.cell 2
    have q3 : wc.cell? ⟨w.heap.size + 1, 0, none⟩ = some (.int .i64 no) := t6.cell 0
    have q4 : wc.cell? ⟨w.heap.size + 1, 1, none⟩ = some (.int .i64 at_) := t6.cell 1
    have g1 : (wc.alloc (.cells #[.int .i64 no, .int .i64 at_, .string ⟨hd.toArray⟩, .bool en] 50)).cell? ⟨Bat, 0, none⟩ = some (.int .i64 at_) := (Boxed.alloc t4 _).cell
    have g2 : (wc.alloc (.cells #[.int .i64 no, .int .i64 at_, .string ⟨hd.toArray⟩, .bool en] 50)).frozen? ⟨Bat, 0, none⟩ = false := (Boxed.alloc t4 _).frozen
    have keepA : ∀ o, ((wc.alloc o).cell? ⟨w.heap.size + 1, 0, none⟩ = some (.int .i64 no) ∧ (wc.alloc o).cell? ⟨w.heap.size + 1, 1, none⟩ = some (.int .i64 at_) ∧ (wc.alloc o).cell? ⟨w.heap.size + 1, 2, none⟩ = some (.string ⟨hd.toArray⟩) ∧ (wc.alloc o).cell? ⟨w.heap.size + 1, 3, none⟩ = some (.bool en)) :=
      fun o => ⟨(Cells.alloc t6 o).cell 0, (Cells.alloc t6 o).cell 1, (Cells.alloc t6 o).cell 2, (Cells.alloc t6 o).cell 3⟩
    have keepB : ∀ o v, (((wc.alloc o).setCell ⟨Bat, 0, none⟩ v).cell? ⟨w.heap.size + 1, 0, none⟩ = some (.int .i64 no) ∧ ((wc.alloc o).setCell ⟨Bat, 0, none⟩ v).cell? ⟨w.heap.size + 1, 1, none⟩ = some (.int .i64 at_) ∧ ((wc.alloc o).setCell ⟨Bat, 0, none⟩ v).cell? ⟨w.heap.size + 1, 2, none⟩ = some (.string ⟨hd.toArray⟩) ∧ ((wc.alloc o).setCell ⟨Bat, 0, none⟩ v).cell? ⟨w.heap.size + 1, 3, none⟩ = some (.bool en)) :=
      fun o v => by
        have hne : w.heap.size + 1 ≠ Bat := by omega
        exact ⟨((Cells.alloc t6 o).other hne v).cell 0, ((Cells.alloc t6 o).other hne v).cell 1, ((Cells.alloc t6 o).other hne v).cell 2, ((Cells.alloc t6 o).other hne v).cell 3⟩
    have g3 : (wc.alloc (.cells #[.int .i64 no, .int .i64 at_, .string ⟨hd.toArray⟩, .bool en] 50)).cell? ⟨w.heap.size + 1, 2, none⟩ = some (.string ⟨hd.toArray⟩) := (Cells.alloc t6 _).cell 2
    clear keepA keepB
    have n0 : (endS en).size ≤ 1 := by unfold endS; cases en <;> decide
    have n1 : hd.length ≤ 4294967295 := by have := HU.out; omega
    have n2 : hd.length + (endS en).size ≤ s.size - at_ := by have := HU.out; omega
    have n3 : IntKind.i64.wrap ((hd.length : Int) + ((endS en).size : Int)) = (hd.length : Int) + ((endS en).size : Int) := IntWalk.i64_in _ (by omega)
    have n4 : IntKind.i64.wrap ((at_ : Int) + ((hd.length : Int) + ((endS en).size : Int))) = (at_ : Int) + ((hd.length : Int) + ((endS en).size : Int)) := IntWalk.i64_in _ (by omega)
    have q5 : wc.cell? ⟨w.heap.size + 1, 3, none⟩ = some (.bool en) := t6.cell 3
    go_upto_region 6 with fail
    go_cut [] (fun wx => Two Bno Bat w wx ∧ Boxed wx Bno 3 (.int .i64 (no + 1 : Nat)) ∧ Boxed wx Bat 3 (.int .i64 (at_ + us : Nat)) ∧
      Cells wx w.heap.size 50 #[.int .i64 0, .int .i64 0, .string ⟨#[]⟩, .bool false] ∧ Cells wx (w.heap.size + 1) 50 #[.int .i64 no, .int .i64 at_, .string ⟨hd.toArray⟩, .bool en])
    case first =>
      go_region_with (go_at_call 55; refine (end_any _ _ _ _ _).mono ?_; rintro e w1 ⟨rfl, rfl⟩)
      all_goals
        go_wp2_with fail
        go_meet
        have e9 : Value.int .i64 ((at_ : Int) + ((hd.length : Int) + ((endS en).size : Int))) = Value.int .i64 ((at_ + us : Nat) : Int) := by have := HU.out; congr 1; omega
        rw [e9]
        exact ⟨((t1.alloc _).setCell (.inr (.inl rfl)) _).drew, Cells.other (Cells.alloc t3 _) (fun e => d2 e.symm) _, Boxed.set _ (Boxed.alloc t4 _), Cells.other (Cells.alloc t5 _) (by simp; omega) _, Cells.other (Cells.alloc t6 _) (by simp; omega) _⟩
    case rest =>
      obtain ⟨r1, r2, r3, r4, r5⟩ := hcut
      have s0 : wc.cell? ⟨w.heap.size + 1, 0, none⟩ = some (.int .i64 no) := r5.cell 0
      have s1 : wc.cell? ⟨w.heap.size + 1, 1, none⟩ = some (.int .i64 at_) := r5.cell 1
      have s2 : wc.cell? ⟨w.heap.size + 1, 2, none⟩ = some (.string ⟨hd.toArray⟩) := r5.cell 2
      have s3 : wc.cell? ⟨w.heap.size + 1, 3, none⟩ = some (.bool en) := r5.cell 3
      have s4 : wc.cell? ⟨w.heap.size, 0, none⟩ = some (.int .i64 0) := r4.cell 0
      have s5 : wc.cell? ⟨w.heap.size, 1, none⟩ = some (.int .i64 0) := r4.cell 1
      have s6 : wc.cell? ⟨w.heap.size, 2, none⟩ = some (.string ⟨#[]⟩) := r4.cell 2
      have s7 : wc.cell? ⟨w.heap.size, 3, none⟩ = some (.bool false) := r4.cell 3
      have y0 := r4.frozen 0
      have y1 := r4.frozen 1
      have y2 := r4.frozen 2
      have y3 := r4.frozen 3
      go_wp2_with fail
      have k4 := (((r4.set 0 (.int .i64 no)).set 1 (.int .i64 at_)).set 2 (.string ⟨hd.toArray⟩)).set 3 (.bool en)
      have w0 := k4.cell 0
      have w1 := k4.cell 1
      have w2 := k4.cell 2
      have w3 := k4.cell 3
      simp at w0 w1 w2 w3
      refine bodyPost_ret (v := .tuple #[.agg #[.int .i64 no, .int .i64 at_, .string ⟨hd.toArray⟩, .bool en], .bool true]) (by simp [results, Tryd.results54, go_sem, w0, w1, w2, w3]) rfl ?_
      have z5 : Bat ≠ w.heap.size := by omega
      have z6 : Bno ≠ w.heap.size := by omega
      refine ⟨by rw [H1.out, H2.out]; rfl, ?_, ?_, ?_⟩
      · exact (((r1.setCell (.inr (.inr (Nat.le_refl _))) _).setCell (.inr (.inr (Nat.le_refl _))) _).setCell (.inr (.inr (Nat.le_refl _))) _).setCell (.inr (.inr (Nat.le_refl _))) _
      · exact Cells.other (Cells.other (Cells.other (Cells.other r2 z6 _) z6 _) z6 _) z6 _
      · rw [H3.out]; exact Cells.other (Cells.other (Cells.other (Cells.other r3 z5 _) z5 _) z5 _) z5 _
end Go.Proofs.YtoadimagpibfoaaDoor
/- The iterator over a text's lines: its contract. -/
namespace Go.Proofs.YtoadimagpibfoaaDoor
open Go.RowKit Go.Shelf
attribute [local go_sem] Oper.semAt_some

theorem from_any (s : ByteArray) (w : World) :
    Calls Tryd.prog 45 #[.string s] w fun e w' => e = .returned (.func (.func 54) #[] #[.pointer (some ⟨w.heap.size + 1 + 1, 0, none⟩), .pointer (some ⟨w.heap.size, 0, none⟩), .pointer (some ⟨w.heap.size + 1, 0, none⟩)]) ∧
      w' = ((w.alloc (.cells #[.string s] 9)).alloc (.cells #[.int .i64 0] 3)).alloc (.cells #[.int .i64 0] 3) := by
  go_enter Tryd.func45, Tryd.ntmps45
  go_wp2
  go_ret
  exact ⟨rfl, rfl⟩

theorem next_yes2 (s : ByteArray) (at_ no : Nat) (Bat Btx Bno : Nat) (w : World) (hat : Boxed w Bat 3 (.int .i64 at_)) (htx : Boxed w Btx 9 (.string s)) (hno : Boxed w Bno 3 (.int .i64 no))
    (h1 : at_ < s.size) (h2 : no < s.size) (hs : s.size ≤ 4294967295) (d1 : Bat ≠ Btx) (d2 : Bat ≠ Bno) (d3 : Btx ≠ Bno) (hd : List UInt8) (en : Bool) (us : Nat)
    (H1 : head (s.data.toList.drop at_) = hd) (H2 : nl (s.data.toList.drop at_) = en) (H3 : used (s.data.toList.drop at_) = us) :
    Calls Tryd.prog 54 #[.pointer (some ⟨Bat, 0, none⟩), .pointer (some ⟨Btx, 0, none⟩), .pointer (some ⟨Bno, 0, none⟩)] w fun e w' =>
      e = .returned (.tuple #[.agg #[.int .i64 no, .int .i64 at_, .string ⟨hd.toArray⟩, .bool en], .bool true]) ∧ Two Bno Bat w w' ∧ Boxed w' Bno 3 (.int .i64 (no + 1 : Nat)) ∧ Boxed w' Bat 3 (.int .i64 (at_ + us : Nat)) := by
  subst H1 H2 H3
  exact next_yes s at_ no Bat Btx Bno w hat htx hno h1 h2 hs d1 d2 d3

def atOf (B : Nat) (w : World) : Nat := match w.cell? ⟨B, 0, none⟩ with | some (.int _ n) => n.toNat | _ => 0
theorem atOf_eq {B : Nat} {w : World} {t : TypeId} {n : Nat} (h : Boxed w B t (.int .i64 n)) : atOf B w = n := by unfold atOf; rw [h.cell]; simp

set_option maxRecDepth 100000 in
set_option maxHeartbeats 2000000 in
theorem split_hands (s : ByteArray) (Bs : Nat) (w : World) (hbox : Boxed w Bs 9 (.string s)) (hs : s.size ≤ 4294967295) :
    Hands Tryd.prog 44 #[.pointer (some ⟨Bs, 0, none⟩)] (fun x => #[.agg (lineV x)]) 3 (linesOf s.data.toList) w := by
  intro l J Jx W hW hJ hY h0
  have hb : Boxed W Bs 9 (.string s) := (hW.block Bs hbox.lt).trans hbox
  have c0 := hb.cell
  refine callsIn_of_wp Tryd.func44 rfl trivial ?_ rfl
  simp only [Tryd.ntmps44, List.size_toArray, List.length_cons, List.length_nil, Nat.reduceAdd, Nat.reduceSub, Array.replicate_succ, Array.replicate_zero, List.push_toArray, List.append_toArray, List.nil_append, List.cons_append]
  gi_wp2_with (refine ⟨trivial, ?_⟩; gi_at_call 45; refine (callsIn_wide.2 (from_any s _)).mono ?_; rintro e w' ⟨rfl, rfl⟩)
  gi_loopw [4] (fun _ wr => ∃ pre at_, linesOf s.data.toList = pre ++ linesOn pre.length at_ (s.data.toList.drop at_) ∧ at_ ≤ s.size ∧ pre.length ≤ at_ ∧ Boxed wr W.heap.size 9 (.string s) ∧
      Boxed wr (W.heap.size + 1) 3 (.int .i64 (pre.length : Nat)) ∧ Boxed wr (W.heap.size + 1 + 1) 3 (.int .i64 at_) ∧ J pre wr)
    (fun _ wr => s.size - atOf (W.heap.size + 1 + 1) wr)
  case atStart =>
    refine ⟨[], 0, rfl, Nat.zero_le _, Nat.le_refl _, ?_, ?_, ?_, hJ.alloc _ (hJ.alloc _ (hJ.alloc _ h0))⟩
    · exact ((Boxed.new W _ _).alloc _).alloc _
    · have := (Boxed.new (W.alloc (.cells #[.string s] 9)) 3 (.int .i64 0)).alloc (.cells #[.int .i64 0] 3)
      rw [World.size_alloc] at this; exact this
    · have := Boxed.new ((W.alloc (.cells #[.string s] 9)).alloc (.cells #[.int .i64 0] 3)) 3 (.int .i64 0)
      rw [World.size_alloc, World.size_alloc] at this; exact this
  case round =>
    obtain ⟨pre, at_, hx, ha, hn, b1, b2, b3, hj⟩ := hrel
    by_cases he : at_ = s.size
    · gi_wp2_with (refine ⟨trivial, ?_⟩; gi_at_call 54; refine (callsIn_wide.2 (next_no s at_ _ _ _ _ b3 b1 he)).mono ?_; rintro e w' ⟨rfl, h2⟩)
      refine ⟨fun _ h => (by cases h), ?_⟩
      gi_wp2
      refine bodyPost_ret (results_none rfl _ _ _) rfl ⟨⟨_, rfl⟩, .inl ?_⟩
      rw [he, List.drop_of_length_le (by rw [← Lib.size_eq]; exact Nat.le_refl _), linesOn_nil, List.append_nil] at hx
      rw [hx]
      exact hJ.alloc _ (hJ _ _ _ hj (h2.turned (by omega) (by omega)))
    · have hlt : at_ < s.size := by omega
      have hne : s.data.toList.drop at_ ≠ [] := by
        intro e; have := congrArg List.length e; rw [List.length_drop, ← Lib.size_eq] at this; simp at this; omega
      rw [linesOn_cons _ _ _ hne, List.drop_drop] at hx
      have hu := used_pos _ hne
      have hul := used_le (s.data.toList.drop at_)
      rw [List.length_drop, ← Lib.size_eq] at hul
      generalize hhd : head (s.data.toList.drop at_) = hd at *
      generalize hen : nl (s.data.toList.drop at_) = en at *
      generalize hus : used (s.data.toList.drop at_) = us at *
      have N := callsIn_wide (n := 7).2 (next_yes2 s at_ pre.length _ _ _ _ b3 b1 b2 hlt (by omega) hs (by omega) (by omega) (by omega) hd en us hhd hen hus)
      have HX := Lib.hid hx
      clear hhd hen hus hx hne he
      gi_wp2_with (refine ⟨trivial, ?_⟩; gi_at_call 54; refine N.mono ?_; clear N; rintro e w' ⟨rfl, h2, h3, h4⟩)
      have hz := h2.size
      have hz3 := b3.lt
      have jw : J pre w' := hJ _ _ _ hj (h2.turned (by omega) (by omega))
      obtain ⟨fn, tmps, assign, body, hy, hR⟩ := hY pre ⟨pre.length, at_, hd, en⟩ _ (w'.alloc (.cells #[.int .i64 pre.length, .int .i64 at_, .string ⟨hd.toArray⟩, .bool en] 50)) HX.out (by simp; omega) (hJ.alloc _ jw)
      dsimp only [lineV] at hy
      rw [hy, Oper.uponIn_round]
      refine ⟨fun h => (by cases h), hR.mono ?_⟩
      clear hR hy
      rintro e W3 (⟨rfl, hJ3, hk3⟩ | ⟨rfl, hJx3⟩)
      · gi_wp2
        go_roundw
        case rel =>
          refine ⟨pre ++ [⟨pre.length, at_, hd, en⟩], at_ + us, ?_, by omega, by simp; omega, ?_, ?_, ?_, hJ3⟩
          · rw [List.append_assoc, List.singleton_append, List.length_append]; exact HX.out
          · exact (hk3.same _ (by omega) (by omega)).trans ((h2.box b1 (by omega) (by omega)).alloc _)
          · rw [List.length_append]; exact (hk3.same _ (by omega) (by omega)).trans (Boxed.alloc h3 _)
          · exact (hk3.same _ (by omega) (by omega)).trans (Boxed.alloc h4 _)
        case measure =>
          rw [atOf_eq b3, atOf_eq (B := W.heap.size + 1 + 1) (w := W3) (n := at_ + us) ((hk3.same _ (by omega) (by omega)).trans (Boxed.alloc h4 _))]
          omega
      · gi_wp2
        refine bodyPost_ret (results_none rfl _ _ _) rfl ⟨⟨_, rfl⟩, .inr ⟨_, ⟨linesOn (pre.length + 1) (at_ + us) (List.drop (at_ + us) s.data.toList), ?_⟩, hJx3⟩⟩
        rw [HX.out, List.append_assoc, List.singleton_append]
end Go.Proofs.YtoadimagpibfoaaDoor
/- Split, Count, and the law's fixed fact. -/
namespace Go.Proofs.YtoadimagpibfoaaDoor
open Go.RowKit Go.Shelf
attribute [local go_sem] Oper.semAt_some

theorem split_any (s : ByteArray) (w : World) :
    Calls Tryd.prog 24 #[.string s] w fun e w' => e = .returned (.func (.func 44) #[] #[.pointer (some ⟨w.heap.size, 0, none⟩)]) ∧ w' = w.alloc (.cells #[.string s] 9) := by
  go_enter Tryd.func24, Tryd.ntmps24
  go_wp2
  go_ret
  exact ⟨rfl, rfl⟩

theorem boxNew2 (w : World) (o : Obj) (t : TypeId) (v : Value) : Boxed ((w.alloc o).alloc (.cells #[v] t)) (w.heap.size + 1) t v := by
  have := Boxed.new (w.alloc o) t v
  rwa [World.size_alloc] at this

end Go.Proofs.YtoadimagpibfoaaDoor
/- What a range over the lines wants: boxes, rows, the rule of the statement with the act as it stands. -/
namespace Go.Proofs.YtoadimagpibfoaaDoor
open Go.RowKit Go.Shelf
attribute [local go_sem] Oper.semAt_some

theorem under {W W' : World} {b n : Nat} {t : TypeId} {v : Value} (h : Boxed W b t v) (hb : Below n W W') (hn : b < n) : Boxed W' b t v := (hb.block b hn).trans h
theorem rowBase {W : World} {base base' : Nat} {e : TypeId} {size : Nat} {v : Value} {n : Nat} {xs : List Value} (h : W.ownsRow base e size v n xs) (hb : base' ≤ base) : W.ownsRow base' e size v n xs := by
  refine ⟨h.1, ?_⟩
  rcases h.2 with hn | ⟨g, cap, cur, hv, hg, rest⟩
  · exact .inl hn
  · exact .inr ⟨g, cap, cur, hv, Nat.le_trans hb hg, rest⟩
theorem rowForm {W : World} {base : Nat} {e : TypeId} {size : Nat} {v : Value} {n : Nat} {xs : List Value} (h : W.ownsRow base e size v n xs) : ∃ ao cap, v = .slice ao n cap := by
  rcases h.2 with ⟨rfl, rfl⟩ | ⟨g, cap, cur, rfl, _⟩
  · exact ⟨none, 0, rfl⟩
  · exact ⟨_, cap, rfl⟩
theorem boxNew3 (w : World) (o1 o2 : Obj) (t : TypeId) (v : Value) : Boxed (((w.alloc o1).alloc o2).alloc (.cells #[v] t)) (w.heap.size + 2) t v := by
  have := boxNew2 (w.alloc o1) o2 t v
  rwa [World.size_alloc] at this
theorem boxNew4 (w : World) (o1 o2 o3 : Obj) (t : TypeId) (v : Value) : Boxed ((((w.alloc o1).alloc o2).alloc o3).alloc (.cells #[v] t)) (w.heap.size + 3) t v := by
  have := boxNew3 (w.alloc o1) o2 o3 t v
  rwa [World.size_alloc] at this
theorem wp_rangedA {P : Program} {α : Type} {g : Operand} {ps : Array Tmp} {assign body : Code} {Q : Exit → Act → World → Prop} {a : Act} {w : World}
    {gf : Nat} {lb : Array Value} (hg : a.eval g = .func (.func gf) #[] lb) (eg : ∀ args w, (callFunc gf args).run P w = .ok (.enter gf args) w)
    {encs : α → Array Value} {k : Nat} {xs : List α} (hseq : Hands P gf lb encs k xs w) (hps : ∀ x, (encs x).size = ps.size)
    (I : List α → World → Prop) (Ix : Code → List α → World → Prop) (hI : Abide w.heap.size (k + 2) I) (hIx : ∀ c, Abide w.heap.size 2 (Ix c)) (h0 : I [] w)
    (M : Act → List α → α → Act → World → Prop) (hM : ∀ a pre x a', Abide w.heap.size 2 (fun (_ : Unit) W => M a pre x a' W))
    (hassign : ∀ (l : Nat) (pre : List α) (x : α) (post : List α) (W : World), xs = pre ++ x :: post → w.heap.size + (k + 2) ≤ W.heap.size → I pre W →
      assign.wpIn (Fence.wide.inRound l) 7 P (assigned w.heap.size (k + 2) (M a pre x) W) { tmps := (ps.zip (encs x)).foldl (fun t (p, v) => t.setIfInBounds p v) a.tmps, defers := [] } W)
    (hbody : ∀ (l : Nat) (pre : List α) (x : α) (post : List α) (a' : Act) (W : World), xs = pre ++ x :: post → w.heap.size + (k + 2) ≤ W.heap.size → M a pre x a' W →
      body.wpIn (Fence.wide.inRound l) 7 P (left w.heap.size (k + 2) I Ix (pre ++ [x]) W) a' W)
    (hdone : ∀ (W : World), I xs W → W.heap[w.heap.size]? = some (.deferred (some [])) → Q .normal { a with defers := { target := .collected w.heap.size, args := #[] } :: a.defers } W)
    (hstop : ∀ (c : Code) (pre : List α) (W : World), pre <+: xs → Ix c pre W → W.heap[w.heap.size]? = some (.deferred (some [])) → c.wpIn Fence.wide 9 P Q { a with defers := { target := .collected w.heap.size, args := #[] } :: a.defers } W) :
    (Code.rangeFunc g ps assign body).wpIn Fence.wide 9 P Q a w :=
  wp_ranged hg eg hseq hps I Ix hI hIx h0 (M a) (hM a) hassign hbody hdone hstop
theorem mkAppend (a b : List UInt8) : (⟨a.toArray⟩ : ByteArray) ++ ⟨b.toArray⟩ = ⟨(a ++ b).toArray⟩ := by
  rw [← Lib.mk_data ((⟨a.toArray⟩ : ByteArray) ++ ⟨b.toArray⟩), ByteArray.data_append, Array.toList_append]
theorem setOther {W : World} {b c : Nat} {t : TypeId} {v : Value} (h : Boxed W b t v) (hne : b ≠ c) (u : Value) : Boxed (W.setCell ⟨c, 0, none⟩ u) b t v := h.other hne u
theorem foldOne (p : Tmp) (v : Value) (t : Array Value) : ((#[p] : Array Tmp).zip #[v]).foldl (fun t (x : Tmp × Value) => t.setIfInBounds x.1 x.2) t = t.setIfInBounds p v := by simp
theorem boxStored {W : World} {b : Nat} {t : TypeId} {u v : Value} (h : Boxed (W.setCell ⟨b, 0, none⟩ v) b t u) : Boxed (W.setCell ⟨b, 0, none⟩ v) b t v := by
  unfold Boxed World.setCell at h ⊢
  simp only [Array.getElem?_modify, if_pos] at h ⊢
  cases ho : W.heap[b]? with
  | none => rw [ho] at h; cases h
  | some o =>
    rw [ho] at h
    cases o with
    | cells c e fr =>
      simp only [Option.map_some, Option.some.injEq, Obj.cells.injEq, Option.isSome_none, Bool.false_eq_true, if_false] at h ⊢
      obtain ⟨h1, h2, h3⟩ := h
      refine ⟨?_, h2, h3⟩
      have hs := congrArg Array.size h1
      simp at hs
      apply Array.ext
      · simp [hs]
      · intro i hi1 hi2
        have : i = 0 := by simp at hi2; omega
        subst this
        simp
    | _ => simp at h
end Go.Proofs.YtoadimagpibfoaaDoor
