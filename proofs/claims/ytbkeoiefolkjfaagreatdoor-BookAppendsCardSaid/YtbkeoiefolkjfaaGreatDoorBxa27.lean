/- Texts put together: AM, BD, BE, BF, WQ, BI. -/
import Derived.WideShapes
import Derived.Test.YtbkeoiefolkjfaaGreatDoorBxa10
import Derived.Test.YtbkeoiefolkjfaaGreatDoorBxa13
import Derived.Test.YtbkeoiefolkjfaaGreatDoorBxa16
import Derived.Test.YtbkeoiefolkjfaaGreatDoorBxa17
import Derived.Test.YtbkeoiefolkjfaaGreatDoorBxa19
set_option linter.unusedVariables false
set_option maxRecDepth 100000
set_option maxHeartbeats 16000000
namespace Go.Proofs.YtbkeoiefolkjfaaGreatDoor
open Go.RowKit Go.Shelf
attribute [local go_sem] Oper.semAt_some
theorem unsigned_any (u : Nat) (hu : u < 18446744073709551616) (w : World) : Calls Tryz.prog 118 #[.int .u64 u] w fun e w' => e = .returned (.string (B (Lib.decDigits u))) /\ w' = w := by
 induction u using Nat.strongRecOn generalizing w with
 | _ u ih =>
 by_cases h : u < 10
 ·rw [Lib.decDigits_one h]
  clear ih hu
  obtain rfl | rfl | rfl | rfl | rfl | rfl | rfl | rfl | rfl | rfl : u = 0 \/ u = 1 \/ u = 2 \/ u = 3 \/ u = 4 \/ u = 5 \/ u = 6 \/ u = 7 \/ u = 8 \/ u = 9 := by omega
  all_goals
   go_enter Tryz.func118, Tryz.ntmps118
   go_wp2_with fail
   go_ret
   exact ⟨by kernel_rfl, rfl⟩
 have q : ¬ (u : Int) < 10 := by omega
 have I1 := Lib.hid (ih (u / 10) (by omega) (by omega))
 have I2 := Lib.hid (ih (u % 10) (by omega) (by omega))
 rw [Int.natCast_ediv] at I1
 rw [Int.natCast_emod] at I2
 have E : Hid (B (Lib.decDigits (u / 10)) ++ B (Lib.decDigits (u % 10)) = B (Lib.decDigits u)) := by
  show _ = _
  rw [B_append, Lib.decDigits_one (i := u % 10) (by omega)]
  congr 1
  conv => rhs; rw [Lib.decDigits, dif_neg h]
 have S1 : (B (Lib.decDigits (u / 10))).size <= 30 := by
  rw [B_size, Lib.decDigits_length]
  have := Lib.nDigits_le20 (u / 10) (by omega)
  omega
 have S2 : (B (Lib.decDigits (u % 10))).size <= 30 := by rw [B_size, Lib.decDigits_one (by omega)]; exact (by decide : 1 <= 30)
 clear ih
 generalize B (Lib.decDigits (u / 10)) = x at *
 generalize B (Lib.decDigits (u % 10)) = y at *
 go_enter Tryz.func118, Tryz.ntmps118
 go_wp2_with fail
 refine (I1.out _).mono ?_
 rintro e w1 ⟨rfl, rfl⟩
 go_wp2_with fail
 refine (I2.out _).mono ?_
 rintro e w1 ⟨rfl, rfl⟩
 go_wp2_with fail
 go_ret
 exact ⟨by rw [<- E.out]; rfl, rfl⟩
theorem figures_any (n : Int) (hn : I64 n) (w : World) : Calls Tryz.prog 82 #[.int .i64 n] w fun e w' => e = .returned (.string (B (Lib.itoa n))) /\ w' = w := by
 obtain ⟨h0, h1⟩ := hn
 by_cases h : n < 0
 ·obtain ⟨u, rfl⟩ : ∃ u : Nat, n = -((u : Int) + 1) := ⟨(-n - 1).toNat, by omega⟩
  have q : -((u : Int) + 1) < 0 := by omega
  have w1 : IntKind.i64.wrap (-((u : Int) + 1) + 1) = -(u : Int) := by rw [show -((u : Int) + 1) + 1 = -(u : Int) by omega]; exact IntWalk.i64_in _ (by omega)
  have w2 : IntKind.i64.wrap (u : Int) = (u : Int) := IntWalk.i64_in _ (by omega)
  have w3 : IntKind.u64.wrap (u : Int) = (u : Int) := by rw [IntKind.wrap_u64]; omega
  have w4 : IntKind.u64.wrap ((u : Int) + 1) = (u : Int) + 1 := by rw [IntKind.wrap_u64]; omega
  have I1 := Lib.hid (unsigned_any (u + 1) (by omega) w)
  rw [Int.natCast_add, show ((1 : Nat) : Int) = 1 from rfl] at I1
  have E : Hid ((⟨#[45]⟩ : ByteArray) ++ B (Lib.decDigits (u + 1)) = B (Lib.itoa (-((u : Int) + 1)))) := by
   show _ = _
   rw [show -((u : Int) + 1) = -((u + 1 : Nat) : Int) by omega, Lib.itoa_neg _ (by omega), show (⟨#[45]⟩ : ByteArray) = B [45] from rfl, B_append]; rfl
  have S1 : (B (Lib.decDigits (u + 1))).size <= 30 := by
   rw [B_size, Lib.decDigits_length]
   have := Lib.nDigits_le20 (u + 1) (by omega)
   omega
  generalize B (Lib.decDigits (u + 1)) = x at *
  go_enter Tryz.func82, Tryz.ntmps82
  go_wp2_with fail
  refine I1.out.mono ?_
  rintro e w1 ⟨rfl, rfl⟩
  go_wp2_with fail
  go_ret
  exact ⟨by rw [<- E.out]; rfl, rfl⟩
 obtain ⟨u, rfl⟩ : ∃ u : Nat, n = (u : Int) := ⟨n.toNat, by omega⟩
 have w3 : IntKind.u64.wrap (u : Int) = (u : Int) := by rw [IntKind.wrap_u64]; omega
 have I1 := Lib.hid (unsigned_any u (by omega) w)
 rw [Lib.itoa_nonneg]
 generalize B (Lib.decDigits u) = x at *
 go_enter Tryz.func82, Tryz.ntmps82
 go_wp2_with fail
 refine I1.out.mono ?_
 rintro e w1 ⟨rfl, rfl⟩
 go_wp2_with fail
 go_ret
 exact ⟨rfl, rfl⟩
theorem refLineA_any (k i : Int) (fv : Value) (hi : I64 i) (w : World) :
  Calls Tryz.prog 80 #[.agg #[.int .i64 k, .int .i64 i, fv]] w fun e w' => e = .returned (.string (B (lineA k i))) /\ Below w.heap.size w w' := by
 have HB := Lib.hid (show Below w.heap.size w (w.alloc (.cells #[.int .i64 k, .int .i64 i, fv] 40)) from (Below.refl _ w).alloc (Nat.le_refl _) _)
 have FG := Lib.hid (fun W => figures_any i hi W)
 have hil := Lib.itoa_length_le i hi.1 hi.2
 have S1 : (B (Lib.itoa i)).size <= 21 := by rw [B_size]; exact hil
 have E : Hid (∀ kk : Int, (kk = 1 \/ kk = 2 \/ kk = 3) -> B (32 :: (wordL kk ++ [32])) ++ B (Lib.itoa i) = B (lineA kk i)) := by
  intro kk hk
  rw [B_append]; unfold lineA; rw [if_pos hk]; congr 1; simp
 generalize B (Lib.itoa i) = x at *
 by_cases h1 : k = 1
 ·subst h1
  have E1 := Lib.hid (E.out 1 (.inl rfl))
  clear E
  go_enter Tryz.func80, Tryz.ntmps80
  go_wp2_with fail
  refine (FG.out _).mono ?_
  rintro e w1 ⟨rfl, rfl⟩
  go_wp2_with fail
  go_ret
  exact ⟨by rw [<- E1.out]; rfl, HB.out⟩
 have q1 : (k == 1) = false := by simpa using h1
 by_cases h2 : k = 2
 ·subst h2
  have E1 := Lib.hid (E.out 2 (.inr (.inl rfl)))
  clear E
  go_enter Tryz.func80, Tryz.ntmps80
  go_wp2_with fail
  refine (FG.out _).mono ?_
  rintro e w1 ⟨rfl, rfl⟩
  go_wp2_with fail
  go_ret
  exact ⟨by rw [<- E1.out]; rfl, HB.out⟩
 have q2 : (k == 2) = false := by simpa using h2
 by_cases h3 : k = 3
 ·subst h3
  have E1 := Lib.hid (E.out 3 (.inr (.inr rfl)))
  clear E
  go_enter Tryz.func80, Tryz.ntmps80
  go_wp2_with fail
  refine (FG.out _).mono ?_
  rintro e w1 ⟨rfl, rfl⟩
  go_wp2_with fail
  go_ret
  exact ⟨by rw [<- E1.out]; rfl, HB.out⟩
 have q3 : (k == 3) = false := by simpa using h3
 have E1 : lineA k i = [] := by unfold lineA; rw [if_neg (by omega)]
 rw [E1]
 clear E E1
 go_enter Tryz.func80, Tryz.ntmps80
 go_wp2_with fail
 go_ret
 exact ⟨rfl, HB.out⟩
end Go.Proofs.YtbkeoiefolkjfaaGreatDoor
namespace Go.Proofs.YtbkeoiefolkjfaaGreatDoor
open Go.RowKit Go.Shelf
attribute [local go_sem] Oper.semAt_some
def numL (l : List UInt8) : Option Int := if -9223372036854775808 <= atoiV l /\ atoiV l <= 9223372036854775807 /\ Lib.itoa (atoiV l) = l then some (atoiV l) else none
theorem numL_some {l : List UInt8} {i : Int} : numL l = some i ↔ I64 i /\ Lib.itoa i = l := by
 unfold numL
 constructor
 ·intro h
  split at h
  ·rename_i q
   injection h with h
   subst h
   exact ⟨⟨q.1, q.2.1⟩, q.2.2⟩
  cases h
 rintro ⟨h1, rfl⟩
 rw [atoiV_itoa h1, if_pos ⟨h1.1, h1.2, rfl⟩]
theorem numL_none {l : List UInt8} (h : ∀ i, I64 i -> Lib.itoa i ≠ l) : numL l = none := by
 cases e : numL l with
 | none => rfl
 | some i => exact absurd (numL_some.1 e).2 (h i (numL_some.1 e).1)
def numEnd (l : List UInt8) : Ending := .returned (.tuple #[.int .i64 ((numL l).getD 0), .bool (numL l).isSome])
theorem numEnd_no {l : List UInt8} (h : ∀ i, I64 i -> Lib.itoa i ≠ l) : numEnd l = .returned (.tuple #[.int .i64 0, .bool false]) := by unfold numEnd; rw [numL_none h]; rfl
theorem numEnd_yes {l : List UInt8} {i : Int} (h : I64 i) (e : Lib.itoa i = l) : numEnd l = .returned (.tuple #[.int .i64 i, .bool true]) := by unfold numEnd; rw [numL_some.2 ⟨h, e⟩]; rfl
theorem dec_pos (u : Nat) (h : u < 18446744073709551616) : 1 <= (Lib.decDigits u).length /\ (Lib.decDigits u).length <= 20 := by
 refine ⟨?_, by rw [Lib.decDigits_length]; exact Lib.nDigits_le20 u h⟩
 rcases Nat.eq_zero_or_pos (Lib.decDigits u).length with q | q
 ·exact absurd (List.length_eq_zero_iff.1 q) (dec_ne u)
 exact q
theorem itoa_len {i : Int} (h : I64 i) : 1 <= (Lib.itoa i).length /\ (Lib.itoa i).length <= 20 := by
 obtain ⟨h0, h1⟩ := h
 have hnd : ∀ u : Nat, u <= 9223372036854775808 -> (Lib.decDigits u).length <= 19 := fun u hu => by
  rcases Nat.lt_or_ge 19 (Lib.decDigits u).length with q | q
  ·exfalso
   rw [Lib.decDigits_length] at q
   have : ∀ n u : Nat, n < Lib.nDigits u -> 10 ^ n <= u \/ n = 0 := by
    intro n
    induction n with
    | zero => exact fun _ _ => .inr rfl
    | succ n ih =>
    intro u hq
    rw [Lib.nDigits] at hq
    split at hq
    ·omega
    rcases ih (u / 10) (by omega) with z | z
    ·left; rw [Nat.pow_succ]; omega
    subst z; left; omega
   rcases this 19 u q with z | z
   ·have : (10 : Nat) ^ 19 = 10000000000000000000 := by decide
    omega
   omega
  exact q
 unfold Lib.itoa
 split
 ·rw [List.length_cons]
  have := hnd i.natAbs (by omega)
  omega
 exact ⟨(dec_pos _ (by omega)).1, (dec_pos _ (by omega)).2⟩
theorem wrapI (z : Int) : I64 (wrap64 z) := by unfold I64 wrap64; omega
theorem itoa_parts {i : Int} (hi : I64 i) {l : List UInt8} (h : Lib.itoa i = l) (a : Nat) (ha : a = if l.head? = some 45 then 1 else 0) :
  ∃ u : Nat, u <= 9223372036854775808 /\ l.drop a = Lib.decDigits u /\ i = (if a = 1 then -(u : Int) else u) := by
 obtain ⟨h0, h1⟩ := hi
 subst h
 by_cases hn : i < 0
 ·have e : Lib.itoa i = 45 :: Lib.decDigits i.natAbs := by unfold Lib.itoa; rw [if_pos hn]
  rw [e] at ha ⊢
  rw [if_pos (by rfl)] at ha
  subst ha
  exact ⟨i.natAbs, by omega, rfl, by simp; omega⟩
 have e : Lib.itoa i = Lib.decDigits i.toNat := by unfold Lib.itoa; rw [if_neg hn]
 have hd : (Lib.decDigits i.toNat).head? ≠ some 45 := fun q => by
  have := dec_digits i.toNat 45 (List.mem_of_mem_head? q)
  simp at this
 rw [e] at ha ⊢
 rw [if_neg hd] at ha
 subst ha
 exact ⟨i.toNat, by omega, rfl, by simp; omega⟩
theorem num_step {u : Nat} (hu : u <= 9223372036854775808) {ds : List UInt8} (hd : ds = Lib.decDigits u) {j : Nat} {x : UInt8} (hx : ds[j]? = some x) :
  wrap64 (wrap64 (10 * numOn 0 (ds.take j)) - ((x.toNat : Int) - 48)) = numOn 0 (ds.take (j + 1)) := by
 subst hd
 have e : (Lib.decDigits u).take (j + 1) = (Lib.decDigits u).take j ++ [x] := by rw [List.take_add_one, hx]; rfl
 obtain ⟨m', e', hm'⟩ := numOn_take u (j + 1)
 obtain ⟨m, e1, hm⟩ := numOn_take u j
 have hxd := dec_digits u x (List.mem_of_getElem? hx)
 rw [e, numOn_snoc, e1] at e' ⊢
 rw [IntWalk.wrap64_in (10 * -(m : Int)) (by omega), IntWalk.wrap64_in _ (by omega)]
theorem number_neg (s : ByteArray) (h1 : 1 <= s.size) (h20 : s.size <= 20) (hq : ((s[0].toNat : Int) == 45) = true) (w : World) :
  Calls Tryz.prog 65 #[.string s] w fun e w' => e = numEnd s.data.toList /\ w' = w := by
 have h2 : decide ((s.size : Int) < 1) = false := by simp; omega
 have h3 : decide (20 < (s.size : Int)) = false := by simp; omega
 have AT : ∀ (k : Nat) (h : k < s.size), s.data.toList[k]? = some s[k] := fun k h => by
  rw [List.getElem?_eq_getElem (by rw [<- Lib.size_eq]; exact h)]; rfl
 have hhd : s.data.toList.head? = some s[0] := by rw [List.head?_eq_getElem?]; exact AT 0 (by omega)
 have hA : 1 = if s.data.toList.head? = some 45 then 1 else 0 := by
  rw [hhd]
  rw [if_pos (by congr 1; apply UInt8.toNat_inj.1; have e3 : (45 : UInt8).toNat = 45 := rfl; have := eq_of_beq hq; omega)]
 have PT : Hid (∀ i, I64 i -> Lib.itoa i = s.data.toList -> ∃ u : Nat, u <= 9223372036854775808 /\ s.data.toList.drop 1 = Lib.decDigits u /\ i = (if 1 = 1 then -(u : Int) else u)) := fun i hi e => itoa_parts hi e 1 hA
 have HAT := Lib.hid AT
 have hlen : s.data.toList.length = s.size := (Lib.size_eq s).symm
 clear AT hA hhd
 go_enter Tryz.func65, Tryz.ntmps65
 go_wp2_with fail
 go_loop [5, 6] (fun o i => ∃ (j : Nat) (z : Int), 1 <= j /\ j <= s.size /\ i = .int .i64 j /\ o = .int .i64 z /\ I64 z /\ ((∃ i, I64 i /\ Lib.itoa i = s.data.toList) -> z = numOn 0 ((s.data.toList.drop 1).take (j - 1)))) (fun _ i => s.size - (intOf i).toNat)
 case atStart => exact ⟨1, 0, Nat.le_refl _, by omega, rfl, rfl, ⟨by decide, by decide⟩, fun _ => rfl⟩
 case round =>
 obtain ⟨j, z, hj1, hj, rfl, rfl, hz, hnum⟩ := hrel
 obtain ⟨z0, z1⟩ := _root_.id hz
 by_cases hlt : j < s.size
 ·have hb := s[j].toNat_lt
  have hx := HAT.out j hlt
  by_cases hr : ¬ (48 <= s[j].toNat /\ s[j].toNat <= 57)
  ·have NO := Lib.hid (numEnd_no (l := s.data.toList) (fun i hi e => by
    obtain ⟨u, _, hd, _⟩ := PT.out i hi e
    have hm : s[j] ∈ s.data.toList.drop 1 := List.mem_of_getElem? (i := j - 1) (by rw [List.getElem?_drop, show 1 + (j - 1) = j by omega]; exact hx)
    rw [hd] at hm
    exact hr (dec_digits u _ hm)))
   clear hnum hx hz
   by_cases hc : s[j].toNat < 48
   ·have q1 : decide ((s[j].toNat : Int) < 48) = true := by simp; omega
    go_wp2_with fail
    go_ret2
    exact ⟨by rw [NO.out]; rfl, rfl⟩
   have q1 : decide ((s[j].toNat : Int) < 48) = false := by simp; omega
   have q2 : decide (57 < (s[j].toNat : Int)) = true := by simp; omega
   go_wp2_with fail
   go_ret2
   exact ⟨by rw [NO.out]; rfl, rfl⟩
  replace hr := Classical.not_not.1 hr
  have q1 : decide ((s[j].toNat : Int) < 48) = false := by simp; omega
  have q2 : decide (57 < (s[j].toNat : Int)) = false := by simp; omega
  have ST : Hid ((∃ i, I64 i /\ Lib.itoa i = s.data.toList) -> wrap64 (wrap64 (10 * z) - ((s[j].toNat : Int) - 48)) = numOn 0 ((s.data.toList.drop 1).take (j + 1 - 1))) := fun hex => by
   obtain ⟨i, hi, e⟩ := _root_.id hex
   obtain ⟨u, hu, hd, _⟩ := PT.out i hi e
   rw [hnum hex, show j + 1 - 1 = (j - 1) + 1 by omega]
   exact num_step hu hd (by rw [List.getElem?_drop, show 1 + (j - 1) = j by omega]; exact hx)
  clear hnum hx
  go_wp2_with fail
  go_round
  case rel => exact ⟨j + 1, _, by omega, hlt, by go_num, rfl, wrapI _, ST.out⟩
  case measure => simp [intOf]; omega
 obtain rfl : j = s.size := by omega
 obtain ⟨z2, hz2⟩ : ∃ z2, z2 = z := ⟨_, rfl⟩
 have hI : I64 z2 := by rw [hz2]; exact hz
 have UN : ∀ i, I64 i -> Lib.itoa i = s.data.toList -> z2 = i := fun i hi e => by
  obtain ⟨u, hu, hd, hiu⟩ := PT.out i hi e
  have hn := hnum ⟨i, hi, e⟩
  rw [List.take_of_length_le (by rw [List.length_drop, hlen]; exact Nat.le_refl _), hd, numOn_dec] at hn
  obtain ⟨i0, i1⟩ := hi
  simp at hiu
  omega
 have FG := Lib.hid (figures_any z2 hI w)
 by_cases he : Lib.itoa z2 = s.data.toList
 ·have YES := Lib.hid (numEnd_yes hI he)
  have hB : B (Lib.itoa z2) = s := by rw [he]; rfl
  rw [hB] at FG
  clear hnum UN he hB
  have HZ := Lib.hid hz2
  clear hz2
  go_wp2_with fail
  rw [<- HZ.out]
  refine FG.out.mono ?_
  rintro e w' ⟨rfl, rfl⟩
  go_wp2_with fail
  go_ret2
  exact ⟨by rw [YES.out]; rfl, rfl⟩
 have NO := Lib.hid (numEnd_no (l := s.data.toList) (fun i hi e => he (by rw [UN i hi e]; exact e)))
 have hne : ¬ (B (Lib.itoa z2)).toList = s.toList := fun e => he (by rw [Lib.toList_data, Lib.toList_data, B_data] at e; exact e)
 have hnb : ((B (Lib.itoa z2)).toList == s.toList) = false := by simpa using hne
 clear hnum UN he
 have HZ := Lib.hid hz2
 clear hz2
 generalize B (Lib.itoa z2) = V at *
 go_wp2_with fail
 rw [<- HZ.out]
 refine FG.out.mono ?_
 rintro e w' ⟨rfl, rfl⟩
 go_wp2_with fail
 go_ret2
 exact ⟨by rw [NO.out]; rfl, rfl⟩
theorem number_pos (s : ByteArray) (h1 : 1 <= s.size) (h20 : s.size <= 20) (hq : ((s[0].toNat : Int) == 45) = false) (w : World) :
  Calls Tryz.prog 65 #[.string s] w fun e w' => e = numEnd s.data.toList /\ w' = w := by
 have h2 : decide ((s.size : Int) < 1) = false := by simp; omega
 have h3 : decide (20 < (s.size : Int)) = false := by simp; omega
 have AT : ∀ (k : Nat) (h : k < s.size), s.data.toList[k]? = some s[k] := fun k h => by
  rw [List.getElem?_eq_getElem (by rw [<- Lib.size_eq]; exact h)]; rfl
 have hhd : s.data.toList.head? = some s[0] := by rw [List.head?_eq_getElem?]; exact AT 0 (by omega)
 have hA : 0 = if s.data.toList.head? = some 45 then 1 else 0 := by
  rw [hhd]
  rw [if_neg (fun e => by have e2 := congrArg UInt8.toNat (Option.some.inj e); rw [e2] at hq; simp at hq)]
 have PT : Hid (∀ i, I64 i -> Lib.itoa i = s.data.toList -> ∃ u : Nat, u <= 9223372036854775808 /\ s.data.toList.drop 0 = Lib.decDigits u /\ i = (if 0 = 1 then -(u : Int) else u)) := fun i hi e => itoa_parts hi e 0 hA
 have HAT := Lib.hid AT
 have hlen : s.data.toList.length = s.size := (Lib.size_eq s).symm
 clear AT hA hhd
 go_enter Tryz.func65, Tryz.ntmps65
 go_wp2_with fail
 go_loop [5, 6] (fun o i => ∃ (j : Nat) (z : Int), 0 <= j /\ j <= s.size /\ i = .int .i64 j /\ o = .int .i64 z /\ I64 z /\ ((∃ i, I64 i /\ Lib.itoa i = s.data.toList) -> z = numOn 0 ((s.data.toList.drop 0).take (j - 0)))) (fun _ i => s.size - (intOf i).toNat)
 case atStart => exact ⟨0, 0, Nat.le_refl _, by omega, rfl, rfl, ⟨by decide, by decide⟩, fun _ => rfl⟩
 case round =>
 obtain ⟨j, z, hj1, hj, rfl, rfl, hz, hnum⟩ := hrel
 obtain ⟨z0, z1⟩ := _root_.id hz
 by_cases hlt : j < s.size
 ·have hb := s[j].toNat_lt
  have hx := HAT.out j hlt
  by_cases hr : ¬ (48 <= s[j].toNat /\ s[j].toNat <= 57)
  ·have NO := Lib.hid (numEnd_no (l := s.data.toList) (fun i hi e => by
    obtain ⟨u, _, hd, _⟩ := PT.out i hi e
    have hm : s[j] ∈ s.data.toList.drop 0 := List.mem_of_getElem? (i := j - 0) (by rw [List.getElem?_drop, show 0 + (j - 0) = j by omega]; exact hx)
    rw [hd] at hm
    exact hr (dec_digits u _ hm)))
   clear hnum hx hz
   by_cases hc : s[j].toNat < 48
   ·have q1 : decide ((s[j].toNat : Int) < 48) = true := by simp; omega
    go_wp2_with fail
    go_ret2
    exact ⟨by rw [NO.out]; rfl, rfl⟩
   have q1 : decide ((s[j].toNat : Int) < 48) = false := by simp; omega
   have q2 : decide (57 < (s[j].toNat : Int)) = true := by simp; omega
   go_wp2_with fail
   go_ret2
   exact ⟨by rw [NO.out]; rfl, rfl⟩
  replace hr := Classical.not_not.1 hr
  have q1 : decide ((s[j].toNat : Int) < 48) = false := by simp; omega
  have q2 : decide (57 < (s[j].toNat : Int)) = false := by simp; omega
  have ST : Hid ((∃ i, I64 i /\ Lib.itoa i = s.data.toList) -> wrap64 (wrap64 (10 * z) - ((s[j].toNat : Int) - 48)) = numOn 0 ((s.data.toList.drop 0).take (j + 1 - 0))) := fun hex => by
   obtain ⟨i, hi, e⟩ := _root_.id hex
   obtain ⟨u, hu, hd, _⟩ := PT.out i hi e
   rw [hnum hex, show j + 1 - 0 = (j - 0) + 1 by omega]
   exact num_step hu hd (by rw [List.getElem?_drop, show 0 + (j - 0) = j by omega]; exact hx)
  clear hnum hx
  go_wp2_with fail
  go_round
  case rel => exact ⟨j + 1, _, by omega, hlt, by go_num, rfl, wrapI _, ST.out⟩
  case measure => simp [intOf]; omega
 obtain rfl : j = s.size := by omega
 obtain ⟨z2, hz2⟩ : ∃ z2, z2 = wrap64 (-z) := ⟨_, rfl⟩
 have hI : I64 z2 := by rw [hz2]; exact wrapI _
 have UN : ∀ i, I64 i -> Lib.itoa i = s.data.toList -> z2 = i := fun i hi e => by
  obtain ⟨u, hu, hd, hiu⟩ := PT.out i hi e
  have hn := hnum ⟨i, hi, e⟩
  rw [List.take_of_length_le (by rw [List.length_drop, hlen]; exact Nat.le_refl _), hd, numOn_dec] at hn
  obtain ⟨i0, i1⟩ := hi
  simp at hiu
  rw [hz2, IntWalk.wrap64_in _ (by omega)]; omega
 have FG := Lib.hid (figures_any z2 hI w)
 by_cases he : Lib.itoa z2 = s.data.toList
 ·have YES := Lib.hid (numEnd_yes hI he)
  have hB : B (Lib.itoa z2) = s := by rw [he]; rfl
  rw [hB] at FG
  clear hnum UN he hB
  have HZ := Lib.hid hz2
  clear hz2
  go_wp2_with fail
  rw [<- HZ.out]
  refine FG.out.mono ?_
  rintro e w' ⟨rfl, rfl⟩
  go_wp2_with fail
  go_ret2
  exact ⟨by rw [YES.out]; rfl, rfl⟩
 have NO := Lib.hid (numEnd_no (l := s.data.toList) (fun i hi e => he (by rw [UN i hi e]; exact e)))
 have hne : ¬ (B (Lib.itoa z2)).toList = s.toList := fun e => he (by rw [Lib.toList_data, Lib.toList_data, B_data] at e; exact e)
 have hnb : ((B (Lib.itoa z2)).toList == s.toList) = false := by simpa using hne
 clear hnum UN he
 have HZ := Lib.hid hz2
 clear hz2
 generalize B (Lib.itoa z2) = V at *
 go_wp2_with fail
 rw [<- HZ.out]
 refine FG.out.mono ?_
 rintro e w' ⟨rfl, rfl⟩
 go_wp2_with fail
 go_ret2
 exact ⟨by rw [NO.out]; rfl, rfl⟩
theorem number_any (l : List UInt8) (hl : l.length <= 1000000) (w : World) :
  Calls Tryz.prog 65 #[.string (B l)] w fun e w' => e = numEnd l /\ w' = w := by
 have bs := B_size l
 by_cases h1 : 1 <= (B l).size /\ (B l).size <= 20
 ·cases hq : (((B l)[0]'(by omega)).toNat : Int) == 45 with
  | true => exact number_neg (B l) h1.1 h1.2 hq w
  | false => exact number_pos (B l) h1.1 h1.2 hq w
 have NO := Lib.hid (numEnd_no (l := l) (fun i hi e => by
  apply h1
  rw [bs, <- e]
  exact itoa_len hi))
 generalize B l = s at *
 by_cases h0 : s.size < 1
 ·have q1 : decide ((s.size : Int) < 1) = true := by simp; omega
  go_enter Tryz.func65, Tryz.ntmps65
  go_wp2_with fail
  go_ret2
  exact ⟨by rw [NO.out]; rfl, rfl⟩
 have q1 : decide ((s.size : Int) < 1) = false := by simp; omega
 have q2 : decide (20 < (s.size : Int)) = true := by simp; omega
 go_enter Tryz.func65, Tryz.ntmps65
 go_wp2_with fail
 go_ret2
 exact ⟨by rw [NO.out]; rfl, rfl⟩
theorem begins10_any (l p : List UInt8) (hl : l.length <= 1000000) (hp : p.length <= 1000) (w : World) :
  Calls Tryz.prog 79 #[.string (B l), .string (B p)] w fun e w' => e = .returned (.bool (Lib.hasPrefix l p)) /\ w' = w := by
 have bl := B_size l
 have bp := B_size p
 have hx : (B l).extract 0 (B p).size = B (l.take p.length) := by
  apply ByteArray.ext
  apply Array.toList_inj.1
  rw [Lib.extract_data, List.drop_zero, Nat.sub_zero, B_data, B_data, bp]
 by_cases hle : p.length <= l.length
 ·have q0 : decide (((B p).size : Int) <= ((B l).size : Int)) = true := by simp; omega
  have hb : ((B (l.take p.length)).toList == (B p).toList) = Lib.hasPrefix l p := by
   rw [Bool.eq_iff_iff]
   unfold Lib.hasPrefix
   rw [List.isPrefixOf_iff_prefix, List.prefix_iff_eq_take, beq_iff_eq, Lib.toList_data, Lib.toList_data, B_data, B_data]
   exact eq_comm
  generalize Lib.hasPrefix l p = q at *
  generalize B (l.take p.length) = V at *
  generalize B l = X at *
  generalize B p = Y at *
  go_enter Tryz.func79, Tryz.ntmps79
  go_wp2_with fail
  go_ret
  exact ⟨by rw [<- hb, <- hx, bp]; rfl, rfl⟩
 have q0 : decide (((B p).size : Int) <= ((B l).size : Int)) = false := by simp; omega
 have hb : Lib.hasPrefix l p = false := by
  cases q : Lib.hasPrefix l p with
  | false => rfl
  | true =>
  unfold Lib.hasPrefix at q
  have := (List.isPrefixOf_iff_prefix.1 q).length_le
  omega
 rw [hb]
 generalize B l = X at *
 generalize B p = Y at *
 go_enter Tryz.func79, Tryz.ntmps79
 go_wp2_with fail
 go_ret
 exact ⟨rfl, rfl⟩
end Go.Proofs.YtbkeoiefolkjfaaGreatDoor
namespace Go.Proofs.YtbkeoiefolkjfaaGreatDoor
def addF (eds : List Ed) (f : Fld) : List Ed := match eds.getLast? with | none => eds | some e => eds.dropLast ++ [⟨e.kind, e.id, e.fields ++ [f]⟩]
theorem addF_snoc (p : List Ed) (e : Ed) (f : Fld) : addF (p ++ [e]) f = p ++ [⟨e.kind, e.id, e.fields ++ [f]⟩] := by unfold addF; simp
abbrev StD := List Ed × List (List UInt8)
def flushD (s : StD) : Option StD := if s.2 = [] then some s else if unfoldN s.2 = 0 then some (addF s.1 (unfoldK s.2, unfoldV s.2), []) else none
def preK (k : Int) : List UInt8 := 32 :: (wordL k ++ [32])
def tryK (s : List UInt8) (k : Int) (x : Ed) : Ed := if Lib.hasPrefix s (preK k) then (match numL (s.drop (preK k).length) with | some n => ⟨k, n, []⟩ | none => x) else x
def headD (s : List UInt8) : Ed := tryK s 3 (tryK s 2 (tryK s 1 ⟨0, 0, []⟩))
def lineD (s : StD) (x : List UInt8) : Option StD :=
 if Lib.hasPrefix x [32, 32] then (if s.1 = [] then none else some (s.1, s.2 ++ [x.drop 2]))
 else if (headD x).kind = 0 \/ 40 <= s.1.length then none else some (s.1 ++ [headD x], s.2)
def stepD (s : StD) (x : List UInt8) : Option StD := (if Lib.hasPrefix x [32, 32, 32] then some s else flushD s).bind fun s => lineD s x
def runD : List (List UInt8) -> StD -> Option StD
 | [], s => some s
 | x :: r, s => (stepD s x).bind (runD r)
theorem runD_append (a b : List (List UInt8)) (s : StD) : runD (a ++ b) s = (runD a s).bind (runD b) := by
 induction a generalizing s with
 | nil => rfl
 | cons x a ih =>
 show (stepD s x).bind (runD (a ++ b)) = ((stepD s x).bind (runD a)).bind (runD b)
 cases stepD s x with
 | none => rfl
 | some t => exact ih t
theorem headD_line {k i : Int} (hk : k = 1 \/ k = 2 \/ k = 3) (hi : I64 i) : headD (lineA k i) = ⟨k, i, []⟩ := by
 have hn : numL (Lib.itoa i) = some i := numL_some.2 ⟨hi, rfl⟩
 have own : ∀ x, tryK (lineA k i) k x = ⟨k, i, []⟩ := fun x => by
  unfold tryK
  have e : lineA k i = preK k ++ Lib.itoa i := by unfold lineA preK; rw [if_pos hk]; simp
  have hp : Lib.hasPrefix (lineA k i) (preK k) = true := by unfold Lib.hasPrefix; rw [e]; simp
  rw [if_pos hp, e, List.drop_left, hn]
 have oth : ∀ k' x, (k' = 1 \/ k' = 2 \/ k' = 3) -> k' ≠ k -> tryK (lineA k i) k' x = x := fun k' x hk' hne => by
  unfold tryK
  rw [if_neg]
  unfold Lib.hasPrefix lineA preK
  rw [if_pos hk]
  rcases hk with rfl | rfl | rfl <;> rcases hk' with rfl | rfl | rfl <;> first | exact absurd rfl hne | simp [wordL, List.isPrefixOf]
 unfold headD
 rcases hk with rfl | rfl | rfl
 ·rw [oth 3 _ (by decide) (by decide), oth 2 _ (by decide) (by decide), own]
 ·rw [oth 3 _ (by decide) (by decide), own]
 rw [own]
def Pend (p : List Ed) (s : StD) : Prop := flushD s = some (p, [])
theorem step_head {p : List Ed} {s : StD} (h : Pend p s) {k i : Int} (hk : k = 1 \/ k = 2 \/ k = 3) (hi : I64 i) (hl : p.length < 40) : stepD s (lineA k i) = some (p ++ [⟨k, i, []⟩], []) := by
 unfold stepD
 have h2 := lineA_two (id := i) hk
 have h3 : Lib.hasPrefix (lineA k i) [32, 32, 32] = false := by
  unfold lineA Lib.hasPrefix
  rw [if_pos hk]
  rcases hk with rfl | rfl | rfl <;> simp [wordL, List.isPrefixOf]
 rw [h3]
 show (flushD s).bind _ = _
 rw [h]
 show lineD _ _ = _
 unfold lineD
 rw [h2, headD_line hk hi, if_neg (by simp), if_neg]
 simp only
 omega
theorem step_first {p : List Ed} {s : StD} (h : Pend p s) {x : List UInt8} (hx : x.head? ≠ some 32) (hp : p ≠ []) : stepD s (ind2 x) = some (p, [x]) := by
 unfold stepD
 have h3 : Lib.hasPrefix (ind2 x) [32, 32, 32] = false := by
  unfold ind2 Lib.hasPrefix
  cases x with
  | nil => rfl
  | cons c r =>
  have : c ≠ 32 := fun e => hx (by rw [e]; rfl)
  simp [List.isPrefixOf, Ne.symm this]
 have h2 : Lib.hasPrefix (ind2 x) [32, 32] = true := by unfold ind2 Lib.hasPrefix; simp [List.isPrefixOf]
 rw [h3]
 show (flushD s).bind _ = _
 rw [h]
 show lineD _ _ = _
 unfold lineD
 rw [h2, if_pos rfl, if_neg hp]
 rfl
theorem step_more {s : StD} {x : List UInt8} (hx : x.head? = some 32) (hp : s.1 ≠ []) : stepD s (ind2 x) = some (s.1, s.2 ++ [x]) := by
 unfold stepD
 obtain ⟨r, rfl⟩ : ∃ r, x = 32 :: r := by
  cases x with
  | nil => cases hx
  | cons c r => cases hx; exact ⟨r, rfl⟩
 have h3 : Lib.hasPrefix (ind2 (32 :: r)) [32, 32, 32] = true := by unfold ind2 Lib.hasPrefix; simp [List.isPrefixOf]
 have h2 : Lib.hasPrefix (ind2 (32 :: r)) [32, 32] = true := by unfold ind2 Lib.hasPrefix; simp [List.isPrefixOf]
 rw [h3]
 show lineD _ _ = _
 unfold lineD
 rw [h2, if_pos rfl, if_neg hp]
 rfl
theorem run_more10 : ∀ (r : List (List UInt8)) (s : StD), (∀ x ∈ r, x.head? = some 32) -> s.1 ≠ [] -> runD (r.map ind2) s = some (s.1, s.2 ++ r)
 | [], s, _, _ => by simp [runD]
 | x :: r, s, h, hp => by
  rw [List.map_cons, runD, step_more (h x List.mem_cons_self) hp]
  show runD _ _ = _
  rw [run_more10 r (s.1, s.2 ++ [x]) (fun y hy => h y (List.mem_cons_of_mem _ hy)) hp]
  simp
theorem further_head (l : List UInt8) : (furtherL l).head? = some 32 := by
 unfold furtherL
 split <;> rfl
theorem first_head {k l : List UInt8} (hk : goodKey k = true) : (firstL k l).head? ≠ some 32 := by
 unfold goodKey at hk
 cases k with
 | nil => simp at hk
 | cons c r =>
 simp only [Bool.and_eq_true] at hk
 obtain ⟨⟨⟨⟨⟨_, _⟩, hb⟩, _⟩, _⟩, _⟩ := hk
 have hc : c ≠ 32 := fun e => by subst e; simp [beginsB, blankB] at hb
 unfold firstL
 split <;> simp [hc]
theorem run_field10 {p : List Ed} {e : Ed} {s : StD} (h : Pend (p ++ [e]) s) {f : Fld} (hk : goodKey f.1 = true) (hv : f.2.length <= 1000) :
  ∃ s', runD ((linesL f.1 f.2).map ind2) s = some s' /\ Pend (p ++ [⟨e.kind, e.id, e.fields ++ [f]⟩]) s' := by
 have hp : p ++ [e] ≠ [] := by simp
 have e0 : linesL f.1 f.2 = firstL f.1 ((partsL f.2).headD []) :: (partsL f.2).tail.map furtherL := rfl
 refine ⟨(p ++ [e], linesL f.1 f.2), ?_, ?_⟩
 ·rw [e0, List.map_cons, runD, step_first h (first_head hk) hp]
  show runD _ _ = _
  rw [run_more10 _ (p ++ [e], [firstL f.1 ((partsL f.2).headD [])]) (fun x hx => by obtain ⟨y, _, rfl⟩ := List.mem_map.1 hx; exact further_head y) hp]
  rfl
 obtain ⟨u1, u2, u3⟩ := lines_unfold hk hv
 unfold Pend flushD
 rw [if_neg (by rw [e0]; simp), if_pos u1, u2, u3, addF_snoc]
theorem run_fields10 : ∀ (fs : List Fld) {p : List Ed} {e : Ed} {s : StD}, Pend (p ++ [e]) s -> (∀ f ∈ fs, goodKey f.1 = true /\ f.2.length <= 1000) ->
  ∃ s', runD ((linesFs fs).map ind2) s = some s' /\ Pend (p ++ [⟨e.kind, e.id, e.fields ++ fs⟩]) s'
 | [], p, e, s, h, _ => ⟨s, rfl, by rw [List.append_nil]; exact h⟩
 | f :: fs, p, e, s, h, hg => by
  obtain ⟨hk, hv⟩ := hg f List.mem_cons_self
  obtain ⟨s1, r1, p1⟩ := run_field10 h hk hv
  obtain ⟨s2, r2, p2⟩ := run_fields10 fs p1 (fun x hx => hg x (List.mem_cons_of_mem _ hx))
  refine ⟨s2, ?_, ?_⟩
  ·have el : linesFs (f :: fs) = linesL f.1 f.2 ++ linesFs fs := by unfold linesFs; rw [List.flatMap_cons]
   rw [el, List.map_append, runD_append, r1]
   exact r2
  simpa using p2
theorem run_batch : ∀ (eds p : List Ed) (s : StD), Pend p s -> (∀ ed ∈ eds, goodE ed = 0 /\ I64 ed.id) -> p.length + eds.length <= 40 -> ∃ s', runD (batchLs eds) s = some s' /\ Pend (p ++ eds) s'
 | [], p, s, h, _, _ => ⟨s, rfl, by rw [List.append_nil]; exact h⟩
 | ed :: r, p, s, h, hg, hl => by
  obtain ⟨g, i⟩ := hg ed List.mem_cons_self
  rw [List.length_cons] at hl
  have h1 := step_head h (goodE_kind g) i (by omega)
  have gf := goodE_F g
  obtain ⟨s2, r2, p2⟩ := run_fields10 ed.fields (p := p) (e := ⟨ed.kind, ed.id, []⟩) (s := (p ++ [⟨ed.kind, ed.id, []⟩], [])) (by unfold Pend flushD; rw [if_pos rfl]) gf.each
  obtain ⟨s3, r3, p3⟩ := run_batch r (p ++ [ed]) s2 (by simpa using p2) (fun x hx => hg x (List.mem_cons_of_mem _ hx)) (by rw [List.length_append]; simp; omega)
  refine ⟨s3, ?_, by simpa using p3⟩
  have el : batchLs (ed :: r) = lineA ed.kind ed.id :: ((linesFs ed.fields).map ind2 ++ batchLs r) := by unfold batchLs; rw [List.flatMap_cons]; rfl
  rw [el, runD, h1]
  show runD _ _ = _
  rw [runD_append, r2]
  exact r3
def endD (ls : List (List UInt8)) : Option (List Ed) := ((runD ls ([], [])).bind flushD).map Prod.fst
theorem endD_batch {eds : List Ed} (hg : ∀ ed ∈ eds, goodE ed = 0 /\ I64 ed.id) (hl : eds.length <= 40) : endD (batchLs eds) = some eds := by
 obtain ⟨s, r, p⟩ := run_batch eds [] ([], []) (by unfold Pend flushD; rw [if_pos rfl]) hg (by simpa using hl)
 unfold endD
 rw [r]
 show (flushD s).map _ = _
 rw [p]
 rfl
end Go.Proofs.YtbkeoiefolkjfaaGreatDoor
namespace Go.Proofs.YtbkeoiefolkjfaaGreatDoor
def wL (ls : List (List UInt8)) : Nat := (ls.map fun x => x.length + 3).sum
def totL (xs : List (List UInt8)) : Nat := (xs.map fun x => x.length + 1).sum
theorem wL_snoc (ls : List (List UInt8)) (x : List UInt8) : wL (ls ++ [x]) = wL ls + (x.length + 3) := by simp [wL]
structure OkD (t : Nat) (s : StD) : Prop where
 cnt : ∀ ed ∈ s.1, 5 * ed.fields.length + wL s.2 <= t
 fin : ∀ ed ∈ s.1, ∀ f ∈ ed.fields, f.1.length <= 32 /\ f.2.length <= 1000
 ids : ∀ ed ∈ s.1, I64 ed.id
 len : s.1.length <= 40
 wt : wL s.2 <= t
theorem OkD.mono {t t' : Nat} {s : StD} (h : OkD t s) (ht : t <= t') : OkD t' s :=
 ⟨fun ed hm => Nat.le_trans (h.cnt ed hm) ht, h.fin, h.ids, h.len, Nat.le_trans h.wt ht⟩
theorem unfold_wt {ls : List (List UInt8)} (h : unfoldN ls = 0) : 5 <= wL ls := by
 unfold unfoldN at h
 split at h
 ·rename_i hs
  obtain ⟨a, r, rfl, hk, _⟩ := sayF_parts hs
  have : 2 <= a.length := by
   unfold kindL at hk
   split at hk
   ·omega
   split at hk
   ·omega
   split at hk
   ·omega
   split at hk
   ·omega
   split at hk
   ·rename_i q
    obtain ⟨q1, q2⟩ := q
    unfold goodKey at q2
    simp only [Bool.and_eq_true, decide_eq_true_eq] at q2
    have hb : (before a).length < a.length := by
     have h1 : (before a).length <= a.length := (List.takeWhile_sublist _).length_le
     rcases Nat.lt_or_ge (before a).length a.length with z | z
     ·exact z
     exfalso
     have e : before a = a := List.Sublist.eq_of_length_le (List.takeWhile_sublist _) z
     have hm : (58 : UInt8) ∈ a := by unfold hasB at q1; simpa using q1
     rw [<- e] at hm
     have h2 : ∀ (l : List UInt8), ∀ c ∈ l.takeWhile (· != 58), c ≠ 58 := fun l => by
      induction l with
      | nil => intro c hc; cases hc
      | cons y r ih =>
      intro c hc
      rw [List.takeWhile_cons] at hc
      split at hc
      ·rename_i hy
       rcases List.mem_cons.1 hc with z1 | z1
       ·rw [z1]; simpa using hy
       exact ih c z1
      cases hc
     exact h2 a 58 hm rfl
    omega
   omega
  unfold wL; rw [List.map_cons, List.sum_cons]; omega
 cases h
theorem flush_ok {t : Nat} {s s' : StD} (h : OkD t s) (hf : flushD s = some s') : OkD t s' /\ s'.2 = [] := by
 unfold flushD at hf
 split at hf
 ·rename_i q
  injection hf with hf
  subst hf
  exact ⟨h, q⟩
 split at hf
 ·rename_i q
  injection hf with hf
  subst hf
  refine ⟨?_, rfl⟩
  have hw := unfold_wt q
  obtain ⟨_, k1, k2⟩ := unfold_zero q
  rcases List.eq_nil_or_concat s.1 with h0 | ⟨p, e, h0⟩
  ·rw [h0]
   exact ⟨fun ed hm => by simp [addF] at hm, fun ed hm => by simp [addF] at hm, fun ed hm => by simp [addF] at hm, by simp [addF], Nat.zero_le _⟩
  rw [List.concat_eq_append] at h0
  have hc := h.cnt
  have hfi := h.fin
  have hi := h.ids
  have hl := h.len
  rw [h0] at hc hfi hi hl ⊢
  rw [addF_snoc]
  refine ⟨fun ed hm => ?_, fun ed hm => ?_, fun ed hm => ?_, by simpa using hl, Nat.zero_le _⟩
  ·rcases List.mem_append.1 hm with q1 | q1
   ·have := hc ed (List.mem_append_left _ q1)
    show 5 * ed.fields.length + 0 <= t
    omega
   rw [List.mem_singleton.1 q1]
   have := hc e (List.mem_append_right _ List.mem_cons_self)
   show 5 * (e.fields ++ [_]).length + 0 <= t
   rw [List.length_append, List.length_singleton]
   omega
  ·rcases List.mem_append.1 hm with q1 | q1
   ·exact hfi ed (List.mem_append_left _ q1)
   rw [List.mem_singleton.1 q1]
   intro f hfm
   rcases List.mem_append.1 hfm with q2 | q2
   ·exact hfi e (List.mem_append_right _ List.mem_cons_self) f q2
   rw [List.mem_singleton.1 q2]; exact ⟨k1, k2⟩
  rcases List.mem_append.1 hm with q1 | q1
  ·exact hi ed (List.mem_append_left _ q1)
  rw [List.mem_singleton.1 q1]; exact hi e (List.mem_append_right _ List.mem_cons_self)
 cases hf
theorem tryK_ok {s : List UInt8} {k : Int} {x : Ed} (h : I64 x.id /\ x.fields = []) : I64 (tryK s k x).id /\ (tryK s k x).fields = [] := by
 unfold tryK
 split
 ·split
  ·rename_i n hn
   exact ⟨(numL_some.1 hn).1, rfl⟩
  exact h
 exact h
theorem headD_ok (s : List UInt8) : I64 (headD s).id /\ (headD s).fields = [] := tryK_ok (tryK_ok (tryK_ok ⟨⟨by decide, by decide⟩, rfl⟩))
theorem line_ok {t : Nat} {s s' : StD} {x : List UInt8} (h : OkD t s) (hs : Lib.hasPrefix x [32, 32] = false -> s.2 = []) (hf : lineD s x = some s') : OkD (t + (x.length + 1)) s' := by
 unfold lineD at hf
 split at hf
 ·rename_i q
  split at hf
  ·cases hf
  injection hf with hf
  subst hf
  have hx : 2 <= x.length := by
   unfold Lib.hasPrefix at q
   exact (List.isPrefixOf_iff_prefix.1 q).length_le
  have hd : (x.drop 2).length + 3 = x.length + 1 := by rw [List.length_drop]; omega
  refine ⟨fun ed hm => ?_, h.fin, h.ids, h.len, ?_⟩
  ·have := h.cnt ed hm
   show 5 * ed.fields.length + wL (s.2 ++ [x.drop 2]) <= _
   rw [wL_snoc]; omega
  have := h.wt
  show wL (s.2 ++ [x.drop 2]) <= _
  rw [wL_snoc]; omega
 rename_i q
 split at hf
 ·cases hf
 rename_i q2
 injection hf with hf
 subst hf
 have h0 := hs (by simpa using q)
 obtain ⟨hi, hfl⟩ := headD_ok x
 refine ⟨fun ed hm => ?_, fun ed hm => ?_, fun ed hm => ?_, ?_, ?_⟩
 ·rcases List.mem_append.1 hm with q1 | q1
  ·have := h.cnt ed q1
   show 5 * ed.fields.length + wL s.2 <= _
   omega
  rw [List.mem_singleton.1 q1, hfl]
  show 0 + wL s.2 <= _
  rw [h0]; simp [wL]
 ·rcases List.mem_append.1 hm with q1 | q1
  ·exact h.fin ed q1
  rw [List.mem_singleton.1 q1, hfl]; intro f hfm; cases hfm
 ·rcases List.mem_append.1 hm with q1 | q1
  ·exact h.ids ed q1
  rw [List.mem_singleton.1 q1]; exact hi
 ·show (s.1 ++ [headD x]).length <= 40
  rw [List.length_append, List.length_singleton]; omega
 have := h.wt
 show wL s.2 <= _
 omega
theorem step_ok {t : Nat} {s s' : StD} {x : List UInt8} (h : OkD t s) (hf : stepD s x = some s') : OkD (t + (x.length + 1)) s' := by
 unfold stepD at hf
 split at hf
 ·rename_i q
  refine line_ok h (fun q2 => ?_) hf
  unfold Lib.hasPrefix at q q2
  have h1 := List.isPrefixOf_iff_prefix.1 q
  have h2 : ([32, 32] : List UInt8) <+: x := List.IsPrefix.trans ⟨[32], rfl⟩ h1
  rw [List.isPrefixOf_iff_prefix.2 h2] at q2
  cases q2
 cases hs : flushD s with
 | none => rw [hs] at hf; cases hf
 | some s1 =>
 rw [hs] at hf
 obtain ⟨o1, o2⟩ := flush_ok h hs
 exact line_ok o1 (fun _ => o2) hf
theorem run_ok : ∀ (xs : List (List UInt8)) {t : Nat} {s s' : StD}, OkD t s -> runD xs s = some s' -> OkD (t + totL xs) s'
 | [], t, s, s', h, hr => by
  injection hr with hr
  subst hr
  exact h
 | x :: r, t, s, s', h, hr => by
  rw [runD] at hr
  cases hs : stepD s x with
  | none => rw [hs] at hr; cases hr
  | some s1 =>
  rw [hs] at hr
  have := run_ok r (step_ok h hs) hr
  have e : totL (x :: r) = x.length + 1 + totL r := by unfold totL; rw [List.map_cons, List.sum_cons]
  rw [e, <- Nat.add_assoc]
  exact this
theorem okD_start : OkD 0 ([], []) := ⟨(fun ed hm => by cases hm), (fun ed hm => by cases hm), (fun ed hm => by cases hm), Nat.zero_le _, Nat.le_refl _⟩
end Go.Proofs.YtbkeoiefolkjfaaGreatDoor
namespace Go.Proofs.YtbkeoiefolkjfaaGreatDoor
open Go.RowKit Go.Shelf
theorem mkText (a b : List UInt8) (j : ByteArray) : (⟨a.toArray⟩ : ByteArray) ++ j ++ ⟨b.toArray⟩ = ⟨(a ++ j.data.toList ++ b).toArray⟩ := by
 rw [<- mkAppend, <- mkAppend, Lib.mk_data j]
theorem go_idx (pre : List Ln) (x : Ln) : Value.int .i64 ((pre.length : Int) + 1) = Value.int .i64 ((pre ++ [x]).length : Nat) := by rw [List.length_append]; rfl
theorem bytes_le (l : List UInt8) : ∀ x ∈ linesOf l, x.bytes.length <= l.length := by
 intro x hx
 have e := linesOf_join l
 obtain ⟨a, b, hab⟩ := List.append_of_mem hx
 rw [hab, List.flatMap_append, List.flatMap_cons] at e
 have := congrArg List.length e
 simp only [List.length_append] at this
 omega
theorem rowCells {W : World} {base g cap : Nat} {xs pre post : List Ln} {x : Ln} (h : W.ownsRow base 74 4 (.slice (some ⟨g, 0, none⟩) xs.length cap) xs.length (cellsOf xs)) (hx : xs = pre ++ x :: post) :
  W.cell? ⟨g, pre.length * 4, none⟩ = some (.int .i64 x.no) /\ W.cell? ⟨g, pre.length * 4 + 1, none⟩ = some (.int .i64 x.at_) /\ W.cell? ⟨g, pre.length * 4 + 1 + 1, none⟩ = some (.string ⟨x.text.toArray⟩) /\ W.cell? ⟨g, pre.length * 4 + 1 + 1 + 1, none⟩ = some (.bool x.ended) := by
 have hrow : ∀ j u, j < 4 -> (lineV x).toList[j]? = some u -> W.cell? ⟨g, pre.length * 4 + j, none⟩ = some u := fun j u hj hu => by
  have := h.cells (g := g) rfl (pre.length * 4 + j) u (by rw [hx, cellsOf_at _ _ _ _ hj]; exact hu)
  have hadd : (⟨g, 0, none⟩ : Addr).add (pre.length * 4 + j) = ⟨g, pre.length * 4 + j, none⟩ := by unfold Addr.add; split <;> simp_all
  rwa [hadd] at this
 exact ⟨hrow 0 _ (by omega) rfl, hrow 1 _ (by omega) rfl, hrow 2 _ (by omega) rfl, hrow 3 _ (by omega) rfl⟩
theorem refIndent_any (s j : ByteArray) (hs : s.size <= 1000000) (hj : j.size <= 1000000) (w : World) :
  Calls Tryz.prog 94 #[.string s, .string j] w fun e w' => e = .returned (.string ⟨(indL j.data.toList (linesOf s.data.toList)).toArray⟩) /\ Below w.heap.size w w' := by
 obtain ⟨xs, hxs⟩ : ∃ xs, linesOf s.data.toList = xs := ⟨_, rfl⟩
 have hll := linesOf_length s.data.toList
 rw [<- Lib.size_eq] at hll
 have hpos := bytes_le s.data.toList
 rw [<- Lib.size_eq] at hpos
 rw [hxs] at hll hpos ⊢
 have HPOS := Lib.hid hpos
 have HXS := Lib.hid hxs
 clear hxs hpos
 go_enter Tryz.func94, Tryz.ntmps94
 go_wp2_with fail
 refine (refSplit_any s hs w).mono ?_
 rintro e w2 ⟨v, rfl, hown, a2⟩
 rw [HXS.out] at hown
 obtain ⟨ao, cap, rfl⟩ := rowForm hown
 go_wp2_with fail
 go_loopw [5, 11] (fun o i wr => ∃ (pre post : List Ln), xs = pre ++ post /\ o = .string ⟨(indL j.data.toList pre).toArray⟩ /\ i = .int .i64 (pre.length : Nat) /\ wr.ownsRow w.heap.size 74 4 (.slice ao xs.length cap) xs.length (cellsOf xs) /\ Below w.heap.size w wr)
  (fun _ i _ => xs.length - (intOf i).toNat)
 case atStart => exact ⟨[], xs, rfl, rfl, rfl, hown, a2⟩
 case round =>
 obtain ⟨pre, post, hx, rfl, rfl, hw, hb⟩ := hrel
 cases post with
 | nil =>
  have e : pre.length = xs.length := by rw [hx]; simp
  have HX := Lib.hid hx
  clear hx
  go_wp2
  go_ret
  refine ⟨?_, hb⟩
  rw [HX.out, List.append_nil]
  rfl
 | cons x post =>
 have hlt : pre.length < xs.length := by rw [hx]; simp
 obtain ⟨g, rfl⟩ : ∃ g, ao = some ⟨g, 0, none⟩ := by
  rcases hw.2 with ⟨_, h0⟩ | ⟨g, cap, cur, hv, _⟩
  ·omega
  exact ⟨g, by cases hv; rfl⟩
 obtain ⟨r0, r1, r2, r3⟩ := rowCells hw hx
 have hlen : (indL j.data.toList (pre ++ [x])).length <= 1000000 * (2 * 1000000) := by
  refine indL_len _ 1000000 1000000 _ (fun y hy => Nat.le_trans (HPOS.out y ?_) hs) ?_ (by rw [<- Lib.size_eq]; exact hj)
  ·rw [hx]
   rcases List.mem_append.1 hy with h | h
   ·exact List.mem_append_left _ h
   rw [List.mem_singleton.1 h]; simp
  simp; omega
 rw [indL_snoc] at hlen
 simp only [List.length_append, <- Lib.size_eq] at hlen
 have hen : (endS x.ended).size <= 1 := by unfold endS; cases x.ended <;> decide
 have hjn : (indL j.data.toList pre).length + j.size + x.text.length + 1 <= 2000000000001 := by omega
 clear hlen hen
 have HX := Lib.hid hx
 clear hx
 have HS := Lib.hid (indL_snoc j.data.toList pre x)
 have hmt := mkText (indL j.data.toList pre) x.text j
 have HMT := Lib.hid hmt
 clear hmt
 cases he : x.ended
 ·rw [he] at r3
  have hn : indL j.data.toList (pre ++ [x]) = indL j.data.toList pre ++ j.data.toList ++ x.text := by rw [HS.out, he]; simp [endS]
  have HN := Lib.hid hn
  clear hn
  go_wp2
  go_roundw
  case rel =>
   refine ⟨pre ++ [x], post, HX.out.trans (by simp), ?_, go_idx pre x, hw.alloc _, hb.alloc hb.size _⟩
   rw [HMT.out, HN.out]
  case measure => simp [intOf] <;> omega
 rw [he] at r3
 have hn : indL j.data.toList (pre ++ [x]) = (indL j.data.toList pre ++ j.data.toList ++ x.text) ++ [10] := by rw [HS.out, he]; simp [endS]
 have HN := Lib.hid hn
 clear hn
 go_wp2
 go_roundw
 case rel =>
  refine ⟨pre ++ [x], post, HX.out.trans (by simp), ?_, go_idx pre x, hw.alloc _, hb.alloc hb.size _⟩
  rw [HMT.out, HN.out]
  exact congrArg Value.string (mkAppend _ [10])
 case measure => simp [intOf] <;> omega
end Go.Proofs.YtbkeoiefolkjfaaGreatDoor
namespace Go.Proofs.YtbkeoiefolkjfaaGreatDoor
def linesT (l : List UInt8) : List (List UInt8) := (linesOf l).map Ln.text
theorem tot_wf : ∀ (xs : List Ln), wf xs -> totL (xs.map Ln.text) <= (xs.flatMap Ln.bytes).length + 1
 | [], _ => by simp [totL]
 | x :: xs, h => by
  obtain ⟨_, h2, h3⟩ := h
  have ih := tot_wf xs h3
  have e : totL ((x :: xs).map Ln.text) = x.text.length + 1 + totL (xs.map Ln.text) := by unfold totL; rw [List.map_cons, List.map_cons, List.sum_cons]
  rw [e, List.flatMap_cons, List.length_append]
  rcases h2 with q | ⟨rfl, _⟩
  ·have : x.bytes.length = x.text.length + 1 := by unfold Ln.bytes; rw [q]; simp
   omega
  have : x.text.length <= x.bytes.length := by unfold Ln.bytes; simp
  have : totL (([] : List Ln).map Ln.text) = 0 := rfl
  omega
theorem linesT_tot (l : List UInt8) : totL (linesT l) <= l.length + 1 := by
 have := tot_wf _ (wf_linesOf l)
 rw [linesOf_join] at this
 exact this
theorem num_text : ∀ (ls : List (List UInt8)) (no c : Nat), (num no c ls).map Ln.text = ls
 | [], _, _ => rfl
 | l :: r, no, c => by
  show l :: (num (no + 1) (c + l.length + 1) r).map Ln.text = l :: r
  rw [num_text r]
theorem linesT_text {ls : List (List UInt8)} (h : ∀ l ∈ ls, (10 : UInt8) ∉ l) : linesT (textL ls) = ls := by
 unfold linesT
 show (linesOn 0 0 (textL ls)).map _ = _
 rw [linesOn_num ls 0 0 h, num_text]
theorem tot_take (xs : List (List UInt8)) (k : Nat) : totL (xs.take k) <= totL xs := by
 have e : totL xs = totL (xs.take k) + totL (xs.drop k) := by
  conv => lhs; rw [<- List.take_append_drop k xs]
  unfold totL; rw [List.map_append, List.sum_append]
 omega
theorem runD_snoc {xs : List (List UInt8)} {k : Nat} {x : List UInt8} {s : StD} (hx : xs[k]? = some x) (h : runD (xs.take k) ([], []) = some s) : runD (xs.take (k + 1)) ([], []) = stepD s x := by
 rw [List.take_add_one, hx]
 show runD (xs.take k ++ [x]) _ = _
 rw [runD_append, h]
 show (stepD s x).bind (runD []) = _
 cases stepD s x <;> rfl
theorem runD_no {xs : List (List UInt8)} {k : Nat} {x : List UInt8} {s : StD} (hx : xs[k]? = some x) (h : runD (xs.take k) ([], []) = some s) (hs : stepD s x = none) : endD xs = none := by
 have e : runD xs ([], []) = none := by
  conv => lhs; rw [<- List.take_append_drop (k + 1) xs]
  rw [runD_append, runD_snoc hx h, hs]
  rfl
 unfold endD
 rw [e]; rfl
theorem at_ok {l : List UInt8} {k : Nat} {s : StD} (h : runD ((linesT l).take k) ([], []) = some s) : OkD (l.length + 1) s := by
 have h1 := run_ok _ okD_start h
 have h2 := tot_take (linesT l) k
 have h3 := linesT_tot l
 exact h1.mono (by omega)
theorem endD_ok {l : List UInt8} {eds : List Ed} (h : endD (linesT l) = some eds) : OkD (l.length + 1) (eds, []) := by
 unfold endD at h
 cases hr : runD (linesT l) ([], []) with
 | none => rw [hr] at h; cases h
 | some s =>
 rw [hr] at h
 have h1 : OkD (l.length + 1) s := at_ok (k := (linesT l).length) (by rw [List.take_length]; exact hr)
 cases hf : flushD s with
 | none =>
  have h' : (flushD s).map Prod.fst = some eds := h
  rw [hf] at h'; cases h'
 | some t =>
 have h' : (flushD s).map Prod.fst = some eds := h
 rw [hf] at h'
 obtain ⟨o1, o2⟩ := flush_ok h1 hf
 obtain ⟨t1, t2⟩ := t
 cases h'
 simp only at o2
 subst o2
 exact o1
theorem endD_of {l : List UInt8} {eds : List Ed} (h : decL l = some eds) : endD (linesT l) = some eds := by
 obtain ⟨_, hb, hi, rfl⟩ := decL_iff.1 h
 obtain ⟨⟨_, n40⟩, hg⟩ := chkB_good hb
 have e : linesT (batchT eds) = batchLs eds := linesT_text (batchLs_clean hg)
 rw [e]
 exact endD_batch (fun ed hm => ⟨hg ed hm, hi ed hm⟩) n40
theorem decL_no {l : List UInt8} (h : endD (linesT l) = none) : decL l = none := by
 cases hd : decL l with
 | none => rfl
 | some eds => rw [endD_of hd] at h; cases h
theorem decL_end {l : List UInt8} {eds : List Ed} (hl : l.length <= 50000) (h : endD (linesT l) = some eds) : decL l = if (chkB eds).2 = 0 /\ batchT eds = l then some eds else none := by
 by_cases hq : (chkB eds).2 = 0 /\ batchT eds = l
 ·rw [if_pos hq]
  exact decL_iff.2 ⟨hl, hq.1, (endD_ok h).ids, hq.2⟩
 rw [if_neg hq]
 cases hd : decL l with
 | none => rfl
 | some x =>
 have e := endD_of hd
 rw [h] at e
 cases e
 obtain ⟨_, h1, _, h2⟩ := decL_iff.1 hd
 exact absurd ⟨h1, h2⟩ hq
theorem okD_fines8 {l : List UInt8} (hl : l.length <= 1000000) {s : StD} (h : OkD (l.length + 1) s) : Fines8 s.1 := fun ed hm =>
 ⟨by have := h.cnt ed hm; omega, fun f hf => by have := h.fin ed hm f hf; omega⟩
end Go.Proofs.YtbkeoiefolkjfaaGreatDoor
